import PyProof.Rows.All
import Wide.All
import OpenK.AllK
import Wide.FinOn
import KE.KStateDown
import KE.KMathGC
import KE.DataMinMax
import KE.SortData
import PyProof.ReprRoads
import HandS.ForMost
import HandS.Wide
import HandS.WideBits
import HandS.Gcd
import HandS.Style
import HandS.Sort
import HandS.SortRule
import HandS.SortInts
import HandS.DictComp
import HandS.Zip
import HandS.TupAny
import HandS.TupMul
import HandS.IsInst
import HandS.Flow
import HandS.Conv
import HandS.Defaults
import HandS.Head0
import HandS.Head1
import HandS.Head2
import HandS.Head3
import HandS.HeadEnd
import HandS.HeadHook1
import HandS.HeadHook2
import HandS.HeadHook3
import HandS.HeadHook4
import HandS.Walk
import KE.GoesZip
import KE.GoesMore
import PyProof.FitsInt
import PyProof.TupleOfSeq
import KE.KRevSl
import PySem.Challenge.RW_toldamounts_k06_whole_spreads_of_counts
import Flt.RightSqrt
set_option Elab.async false
set_option linter.all false
set_option maxRecDepth 100000
set_option maxHeartbeats 4000000
/-! whole numbers: primes, how often a prime divides, lists of prime powers -/
namespace Am
/-- a prime -/
def Pr (p : Nat) : Prop := 2 ≤ p ∧ ∀ d, d ∣ p → d = 1 ∨ d = p
theorem Pr.two {p : Nat} (h : Pr p) : 2 ≤ p := h.1
theorem Pr.pos {p : Nat} (h : Pr p) : 0 < p := Nat.lt_of_lt_of_le Nat.zero_lt_two h.1
theorem Pr.euclid {p a b : Nat} (hp : Pr p) (h : p ∣ a * b) : p ∣ a ∨ p ∣ b := by
  rcases hp.2 (Nat.gcd p a) (Nat.gcd_dvd_left p a) with e | e
  · exact .inr (Nat.Coprime.dvd_of_dvd_mul_left (show Nat.Coprime p a from e) h)
  · exact .inl (e ▸ Nat.gcd_dvd_right p a)
/-- how often p divides n -/
def vp (p n : Nat) : Nat := if h : 2 ≤ p ∧ 0 < n ∧ n % p = 0 then vp p (n / p) + 1 else 0
termination_by n
decreasing_by exact Nat.div_lt_self h.2.1 h.1
theorem vp_yes {p n : Nat} (hp : 2 ≤ p) (hn : 0 < n) (h : n % p = 0) : vp p n = vp p (n / p) + 1 := by
  rw [vp]; exact dif_pos ⟨hp, hn, h⟩
theorem vp_no {p n : Nat} (h : n % p ≠ 0) : vp p n = 0 := by
  rw [vp]; exact dif_neg (fun z => h z.2.2)
theorem vp_zero {p : Nat} : vp p 0 = 0 := by
  rw [vp]; exact dif_neg (fun z => Nat.lt_irrefl 0 z.2.1)
theorem vp_mul_self {p n : Nat} (hp : 2 ≤ p) (hn : 0 < n) : vp p (p * n) = vp p n + 1 := by
  have h1 : 0 < p * n := Nat.mul_pos (by omega) hn
  rw [vp_yes hp h1 (Nat.mul_mod_right p n), Nat.mul_div_cancel_left n (by omega)]
theorem vp_mul {p : Nat} (hp : Pr p) : ∀ (a b : Nat), 0 < a → 0 < b → vp p (a * b) = vp p a + vp p b := by
  intro a
  induction a using Nat.strongRecOn with
  | _ a ih =>
    intro b ha hb
    by_cases h : a % p = 0
    · obtain ⟨c, rfl⟩ := Nat.dvd_of_mod_eq_zero h
      have hc : 0 < c := Nat.pos_of_mul_pos_left ha
      rw [Nat.mul_assoc, vp_mul_self hp.1 (Nat.mul_pos hc hb), vp_mul_self hp.1 hc, ih c (by have := hp.1; calc c < 2 * c := by omega
                                                                                                 _ ≤ p * c := Nat.mul_le_mul_right c this) b hc hb]
      omega
    · rw [vp_no h, Nat.zero_add]
      clear ih
      induction b using Nat.strongRecOn with
      | _ b ih2 =>
        by_cases h2 : b % p = 0
        · obtain ⟨c, rfl⟩ := Nat.dvd_of_mod_eq_zero h2
          have hc : 0 < c := Nat.pos_of_mul_pos_left hb
          rw [Nat.mul_left_comm, vp_mul_self hp.1 (Nat.mul_pos ha hc), vp_mul_self hp.1 hc, ih2 c (by have := hp.1; calc c < 2 * c := by omega
                                                                                                 _ ≤ p * c := Nat.mul_le_mul_right c this) hc]
        · rw [vp_no h2]
          apply vp_no
          intro z
          rcases hp.euclid (Nat.dvd_of_mod_eq_zero z) with q | q
          · exact h (Nat.mod_eq_zero_of_dvd q)
          · exact h2 (Nat.mod_eq_zero_of_dvd q)
theorem vp_one {p : Nat} (hp : 2 ≤ p) : vp p 1 = 0 := by
  apply vp_no
  rw [Nat.mod_eq_of_lt (by omega)]; omega
theorem vp_pow {p a : Nat} (hp : Pr p) (ha : 0 < a) : ∀ k, vp p (a ^ k) = k * vp p a
  | 0 => by rw [Nat.pow_zero, vp_one hp.1, Nat.zero_mul]
  | k + 1 => by
    rw [Nat.pow_succ, vp_mul hp _ _ (Nat.pow_pos ha) ha, vp_pow hp ha k, Nat.succ_mul]
theorem vp_self {p : Nat} (hp : Pr p) : vp p p = 1 := by
  have := vp_mul_self hp.1 Nat.one_pos
  rw [Nat.mul_one, vp_one hp.1] at this
  exact this
theorem vp_other {p q : Nat} (hp : Pr p) (hq : Pr q) (h : p ≠ q) : vp p q = 0 := by
  apply vp_no
  intro z
  rcases hq.2 p (Nat.dvd_of_mod_eq_zero z) with e | e
  · have := hp.1; omega
  · exact h e
theorem vp_dvd {p : Nat} (hp : 2 ≤ p) : ∀ n, 0 < n → p ^ vp p n ∣ n := by
  intro n
  induction n using Nat.strongRecOn with
  | _ n ih =>
    intro hn
    by_cases h : n % p = 0
    · obtain ⟨c, rfl⟩ := Nat.dvd_of_mod_eq_zero h
      have hc : 0 < c := Nat.pos_of_mul_pos_left hn
      rw [vp_mul_self hp hc, Nat.pow_succ, Nat.mul_comm]
      exact Nat.mul_dvd_mul_left p (ih c (by calc c < 2 * c := by omega
                                               _ ≤ p * c := Nat.mul_le_mul_right c hp) hc)
    · rw [vp_no h, Nat.pow_zero]; exact Nat.one_dvd n
theorem vp_le {p n k : Nat} (hp : 2 ≤ p) (hn : 0 < n) (h : n < 2 ^ (k + 1)) : vp p n ≤ k := by
  have h1 : p ^ vp p n ≤ n := Nat.le_of_dvd hn (vp_dvd hp n hn)
  have h2 : 2 ^ vp p n ≤ p ^ vp p n := Nat.pow_le_pow_left hp _
  have h3 : 2 ^ vp p n < 2 ^ (k + 1) := by omega
  have h4 := (Nat.pow_lt_pow_iff_right (a := 2) (by omega)).mp h3
  omega
/-- a prime that divides is not above -/
theorem vp_pos_le {p n : Nat} (hn : 0 < n) (h : vp p n ≠ 0) : p ≤ n := by
  by_cases z : n % p = 0
  · exact Nat.le_of_dvd hn (Nat.dvd_of_mod_eq_zero z)
  · exact absurd (vp_no z) h
/-! prime powers in a list -/
/-- the product -/
def pprod : List (Nat × Nat) → Nat
  | [] => 1
  | q :: r => q.1 ^ q.2 * pprod r
theorem pprod_append : ∀ a b : List (Nat × Nat), pprod (a ++ b) = pprod a * pprod b
  | [], b => by simp [pprod]
  | q :: r, b => by simp only [List.cons_append, pprod]; rw [pprod_append r b, Nat.mul_assoc]
/-- ascending primes with powers above 0, of this product -/
structure PF (n : Nat) (L : List (Nat × Nat)) : Prop where
  asc : L.Pairwise (fun a b => a.1 < b.1)
  pr : ∀ q ∈ L, Pr q.1 ∧ 0 < q.2
  prod : pprod L = n
def look (L : List (Nat × Nat)) (p : Nat) : Nat := (L.lookup p).getD 0
theorem pprod_pos {L : List (Nat × Nat)} (h : ∀ q ∈ L, Pr q.1 ∧ 0 < q.2) : 0 < pprod L := by
  induction L with
  | nil => exact Nat.one_pos
  | cons q r ih =>
    exact Nat.mul_pos (Nat.pow_pos (h q List.mem_cons_self).1.pos) (ih fun z hz => h z (List.mem_cons_of_mem _ hz))
theorem look_above {L : List (Nat × Nat)} {p : Nat} (h : ∀ q ∈ L, q.1 ≠ p) : look L p = 0 := by
  induction L with
  | nil => rfl
  | cons q r ih =>
    unfold look
    rw [List.lookup_cons]
    have h1 : (p == q.1) = false := by simpa using fun z : p = q.1 => h q List.mem_cons_self z.symm
    rw [h1]
    exact ih fun z hz => h z (List.mem_cons_of_mem _ hz)
theorem vp_pprod {p : Nat} (hp : Pr p) : ∀ {L : List (Nat × Nat)}, L.Pairwise (fun a b => a.1 < b.1) → (∀ q ∈ L, Pr q.1 ∧ 0 < q.2) → vp p (pprod L) = look L p
  | [], _, _ => vp_one hp.1
  | q :: r, h, hr => by
    obtain ⟨h1, h2⟩ := List.pairwise_cons.mp h
    have hq := hr q List.mem_cons_self
    have hr' : ∀ z ∈ r, Pr z.1 ∧ 0 < z.2 := fun z hz => hr z (List.mem_cons_of_mem _ hz)
    show vp p (q.1 ^ q.2 * pprod r) = _
    rw [vp_mul hp _ _ (Nat.pow_pos hq.1.pos) (pprod_pos hr'), vp_pow hp hq.1.pos, vp_pprod hp h2 hr']
    by_cases e : p = q.1
    · subst e
      rw [vp_self hq.1, Nat.mul_one, look_above (fun z hz => Nat.ne_of_gt (h1 z hz))]
      unfold look
      rw [List.lookup_cons]
      simp
    · rw [vp_other hp hq.1 e, Nat.mul_zero, Nat.zero_add]
      unfold look
      rw [List.lookup_cons]
      have h3 : (p == q.1) = false := by simpa using e
      rw [h3]
theorem PF.look {n : Nat} {L : List (Nat × Nat)} (h : PF n L) {p : Nat} (hp : Pr p) : look L p = vp p n := by
  rw [← h.prod, vp_pprod hp h.asc h.pr]
end Am
namespace Am
/-- no divisor up to the root -/
theorem pr_root {n r : Nat} (hn : 2 ≤ n) (h1 : r * r ≤ n) (h2 : n < (r + 1) * (r + 1)) : (∀ d, 2 ≤ d → d < r + 1 → n % d ≠ 0) ↔ Pr n := by
  constructor
  · intro h
    refine ⟨hn, fun d hd => ?_⟩
    obtain ⟨e, he⟩ := hd
    by_cases d1 : d = 1
    · exact .inl d1
    by_cases dn : d = n
    · exact .inr dn
    exfalso
    have d0 : d ≠ 0 := by rintro rfl; omega
    have e0 : e ≠ 0 := by rintro rfl; omega
    have e1 : e ≠ 1 := by rintro rfl; omega
    by_cases c : d < r + 1
    · exact h d (by omega) c (by rw [he]; exact Nat.mul_mod_right d e)
    · by_cases c2 : e < r + 1
      · exact h e (by omega) c2 (by rw [he, Nat.mul_comm]; exact Nat.mul_mod_right e d)
      · have : (r + 1) * (r + 1) ≤ d * e := Nat.mul_le_mul (by omega) (by omega)
        omega
  · intro h d hd hr z
    rcases h.2 d (Nat.dvd_of_mod_eq_zero z) with e | e
    · omega
    · subst e
      have : 2 * d ≤ d * d := Nat.mul_le_mul_right d hd
      have : d * d ≤ r * r := Nat.mul_le_mul (by omega) (by omega)
      omega
end Am

namespace Am
/-! amounts in their one form -/
/-- the greatest common divisor, from the left -/
def gl (b : Int) (cs : List Int) : Int := cs.foldl (fun g c => ((Nat.gcd g.natAbs c.natAbs : Nat) : Int)) b
theorem gl_cons (b c : Int) (cs : List Int) : gl b (c :: cs) = gl ((Nat.gcd b.natAbs c.natAbs : Nat) : Int) cs := rfl
theorem gl_dvd : ∀ (cs : List Int) (b : Int), gl b cs ∣ b ∧ ∀ c ∈ cs, gl b cs ∣ c
  | [], b => ⟨Int.dvd_refl b, by simp⟩
  | c :: cs, b => by
    rw [gl_cons]
    obtain ⟨h1, h2⟩ := gl_dvd cs ((Nat.gcd b.natAbs c.natAbs : Nat) : Int)
    have db : ((Nat.gcd b.natAbs c.natAbs : Nat) : Int) ∣ b := Int.natAbs_dvd_natAbs.mp (by rw [Int.natAbs_natCast]; exact Nat.gcd_dvd_left _ _)
    have dc : ((Nat.gcd b.natAbs c.natAbs : Nat) : Int) ∣ c := Int.natAbs_dvd_natAbs.mp (by rw [Int.natAbs_natCast]; exact Nat.gcd_dvd_right _ _)
    refine ⟨Int.dvd_trans h1 db, fun x hx => ?_⟩
    rcases List.mem_cons.mp hx with e | hx
    · rw [e]; exact Int.dvd_trans h1 dc
    · exact h2 x hx
theorem gl_greatest : ∀ (cs : List Int) (b g : Int), g ∣ b → (∀ c ∈ cs, g ∣ c) → g ∣ gl b cs
  | [], b, g, h, _ => h
  | c :: cs, b, g, h, hc => by
    rw [gl_cons]
    refine gl_greatest cs _ g ?_ fun x hx => hc x (List.mem_cons_of_mem _ hx)
    have h1 : g.natAbs ∣ b.natAbs := Int.natAbs_dvd_natAbs.mpr h
    have h2 : g.natAbs ∣ c.natAbs := Int.natAbs_dvd_natAbs.mpr (hc c List.mem_cons_self)
    exact Int.natAbs_dvd_natAbs.mp (by rw [Int.natAbs_natCast]; exact Nat.dvd_gcd h1 h2)
theorem gl_pos : ∀ (cs : List Int) (b : Int), 0 < b → 0 < gl b cs
  | [], b, h => h
  | c :: cs, b, h => by
    rw [gl_cons]
    refine gl_pos cs _ ?_
    have : 0 < Nat.gcd b.natAbs c.natAbs := Nat.gcd_pos_of_pos_left _ (by omega)
    omega
theorem gl_le (cs : List Int) {b : Int} (h : 0 < b) : gl b cs ≤ b := Int.le_of_dvd h (gl_dvd cs b).1
theorem gl_mul : ∀ (cs : List Int) (b k : Int), 0 < b → 0 < k → gl (b * k) (cs.map (· * k)) = gl b cs * k
  | [], b, k, _, _ => rfl
  | c :: cs, b, k, hb, hk => by
    rw [List.map_cons, gl_cons, gl_cons]
    have e : ((Nat.gcd (b * k).natAbs (c * k).natAbs : Nat) : Int) = ((Nat.gcd b.natAbs c.natAbs : Nat) : Int) * k := by
      rw [Int.natAbs_mul, Int.natAbs_mul, Nat.gcd_mul_right, Int.natCast_mul]
      congr 1
      omega
    rw [e]
    refine gl_mul cs _ k ?_ hk
    have : 0 < Nat.gcd b.natAbs c.natAbs := Nat.gcd_pos_of_pos_left _ (by omega)
    omega
/-- d.get(k, 0) -/
def ig (L : List (Int × Int)) (k : Int) : Int := (L.lookup k).getD 0
theorem ig_cons (q : Int × Int) (r : List (Int × Int)) (k : Int) : ig (q :: r) k = if k = q.1 then q.2 else ig r k := by
  unfold ig
  rw [List.lookup_cons]
  by_cases h : k = q.1
  · subst h; simp
  · have : (k == q.1) = false := by simpa using h
    rw [this, if_neg h]
theorem ig_none {L : List (Int × Int)} {k : Int} (h : ∀ q ∈ L, q.1 ≠ k) : ig L k = 0 := by
  induction L with
  | nil => rfl
  | cons q r ih =>
    rw [ig_cons, if_neg (fun z => h q List.mem_cons_self z.symm)]
    exact ih fun z hz => h z (List.mem_cons_of_mem _ hz)
theorem ig_mem {L : List (Int × Int)} (hn : (L.map (·.1)).Nodup) {q : Int × Int} (h : q ∈ L) : ig L q.1 = q.2 := by
  induction L with
  | nil => cases h
  | cons x r ih =>
    rw [List.map_cons, List.nodup_cons] at hn
    rw [ig_cons]
    rcases List.mem_cons.mp h with e | h
    · rw [e, if_pos rfl]
    · rw [if_neg, ih hn.2 h]
      intro z
      exact hn.1 (List.mem_map.mpr ⟨q, h, z⟩)
theorem ig_cases (L : List (Int × Int)) (k : Int) : ig L k = 0 ∨ (k, ig L k) ∈ L := by
  induction L with
  | nil => exact .inl rfl
  | cons q r ih =>
    rw [ig_cons]
    by_cases h : k = q.1
    · rw [if_pos h, h]; exact .inr List.mem_cons_self
    · rw [if_neg h]
      rcases ih with e | e
      · exact .inl e
      · exact .inr (List.mem_cons_of_mem _ e)
theorem asc_nodup {L : List (Int × Int)} (h : L.Pairwise (fun a b => a.1 < b.1)) : (L.map (·.1)).Nodup := by
  rw [List.Nodup, List.pairwise_map]
  exact h.imp fun {a b} z => by omega
/-- an amount in its one form -/
structure Cn (d : Int) (L : List (Int × Int)) : Prop where
  d1 : 0 < d
  asc : L.Pairwise (fun a b => a.1 < b.1)
  pr : ∀ q ∈ L, ∃ p : Nat, q.1 = p ∧ Pr p ∧ p < 1000000
  nz : ∀ q ∈ L, q.2 ≠ 0
  gcd : gl d (L.map (·.2)) = 1
theorem asc_ext : ∀ {L M : List (Int × Int)}, L.Pairwise (fun a b => a.1 < b.1) → M.Pairwise (fun a b => a.1 < b.1) → (∀ q ∈ L, q.2 ≠ 0) → (∀ q ∈ M, q.2 ≠ 0) → (∀ p, ig L p = ig M p) → L = M
  | [], [], _, _, _, _, _ => rfl
  | [], b :: M, _, _, _, hm, h => by
    have := h b.1
    rw [ig_cons, if_pos rfl] at this
    exact absurd this.symm (hm b List.mem_cons_self)
  | a :: L, [], _, _, hl, _, h => by
    have := h a.1
    rw [ig_cons, if_pos rfl] at this
    exact absurd this (hl a List.mem_cons_self)
  | a :: L, b :: M, hL, hM, hl, hm, h => by
    obtain ⟨a1, a2⟩ := List.pairwise_cons.mp hL
    obtain ⟨b1, b2⟩ := List.pairwise_cons.mp hM
    have na := hl a List.mem_cons_self
    have nb := hm b List.mem_cons_self
    have la : ∀ p, p ≤ a.1 → ig L p = 0 := fun p hp => ig_none fun q hq z => by have := a1 q hq; omega
    have lb : ∀ p, p ≤ b.1 → ig M p = 0 := fun p hp => ig_none fun q hq z => by have := b1 q hq; omega
    have e1 : a.1 = b.1 := by
      rcases Int.lt_trichotomy a.1 b.1 with z | z | z
      · exfalso
        have := h a.1
        rw [ig_cons, if_pos rfl, ig_cons, if_neg (by omega), lb _ (by omega)] at this
        exact na this
      · exact z
      · exfalso
        have := h b.1
        rw [ig_cons, if_neg (by omega), la _ (by omega), ig_cons, if_pos rfl] at this
        exact nb this.symm
    have e2 : a.2 = b.2 := by
      have := h a.1
      rw [ig_cons, if_pos rfl, ig_cons, if_pos e1] at this
      exact this
    have e3 : L = M := by
      refine asc_ext a2 b2 (fun q hq => hl q (List.mem_cons_of_mem _ hq)) (fun q hq => hm q (List.mem_cons_of_mem _ hq)) fun p => ?_
      by_cases hp : p = a.1
      · rw [la p (by omega), lb p (by omega)]
      · have := h p
        rw [ig_cons, if_neg hp, ig_cons, if_neg (by omega)] at this
        exact this
    rw [e3, Prod.ext e1 e2]
/-- the divisor of a form divides what it was divided from -/
theorem Cn.dvd_of {d k : Int} {L : List (Int × Int)} (c : Cn d L) (hk : 0 < k) (h : ∀ q ∈ L, d ∣ q.2 * k) : d ∣ k := by
  have h1 : d ∣ gl (d * k) ((L.map (·.2)).map (· * k)) := by
    refine gl_greatest _ _ _ (Int.dvd_mul_right d k) fun x hx => ?_
    obtain ⟨y, hy, rfl⟩ := List.mem_map.mp hx
    obtain ⟨q, hq, rfl⟩ := List.mem_map.mp hy
    exact h q hq
  rw [gl_mul _ _ _ c.d1 hk, c.gcd, Int.one_mul] at h1
  exact h1
/-- one number, one form -/
theorem Cn.unique {d e : Int} {L M : List (Int × Int)} (c : Cn d L) (c' : Cn e M) (h : ∀ p, ig L p * e = ig M p * d) : d = e ∧ L = M := by
  have nL := asc_nodup c.asc
  have nM := asc_nodup c'.asc
  have h1 : d ∣ e := c.dvd_of c'.d1 fun q hq => by
    rw [← ig_mem nL hq, h]; exact Int.dvd_mul_left _ d
  have h2 : e ∣ d := c'.dvd_of c.d1 fun q hq => by
    rw [← ig_mem nM hq, ← h]; exact Int.dvd_mul_left _ e
  have a1 := Int.le_of_dvd c'.d1 h1
  have a2 := Int.le_of_dvd c.d1 h2
  have de : d = e := by omega
  refine ⟨de, asc_ext c.asc c'.asc c.nz c'.nz fun p => ?_⟩
  have := h p
  rw [de] at this
  exact Int.eq_of_mul_eq_mul_right (by have := c'.d1; omega) this
/-- what stands for f / B -/
def St4 (d : Int) (L : List (Int × Int)) (B : Int) (f : Int → Int) : Prop := Cn d L ∧ ∀ p, ig L p * B = f p * d
theorem St4.unique {d e B C : Int} {L M : List (Int × Int)} {f g : Int → Int} (a : St4 d L B f) (b : St4 e M C g) (hB : 0 < B) (hC : 0 < C) (h : ∀ p, f p * C = g p * B) : d = e ∧ L = M := by
  refine a.1.unique b.1 fun p => ?_
  have h1 := a.2 p
  have h2 := b.2 p
  have h3 := h p
  have d0 := a.1.d1
  have e0 := b.1.d1
  -- (x e) (B C) = (y d) (B C)
  have : (ig L p * e) * (B * C) = (ig M p * d) * (B * C) := by
    calc (ig L p * e) * (B * C) = (ig L p * B) * (e * C) := by ac_rfl
      _ = (f p * d) * (e * C) := by rw [h1]
      _ = (f p * C) * (d * e) := by ac_rfl
      _ = (g p * B) * (d * e) := by rw [h3]
      _ = (g p * e) * (B * d) := by ac_rfl
      _ = (ig M p * C) * (B * d) := by rw [h2]
      _ = (ig M p * d) * (B * C) := by ac_rfl
  exact Int.eq_of_mul_eq_mul_right (by have := Int.mul_pos hB hC; omega) this
theorem St4.dvd {d B : Int} {L : List (Int × Int)} {f : Int → Int} (a : St4 d L B f) (hB : 0 < B) : d ∣ B :=
  a.1.dvd_of hB fun q hq => by rw [← ig_mem (asc_nodup a.1.asc) hq, a.2]; exact Int.dvd_mul_left _ d
theorem St4.le {d B : Int} {L : List (Int × Int)} {f : Int → Int} (a : St4 d L B f) (hB : 0 < B) : d ≤ B := Int.le_of_dvd hB (a.dvd hB)
/-- the parts are no greater than what they come from -/
theorem St4.abs {d B : Int} {L : List (Int × Int)} {f : Int → Int} (a : St4 d L B f) (hB : 0 < B) (p : Int) : (ig L p).natAbs ≤ (f p).natAbs := by
  have h1 := congrArg Int.natAbs (a.2 p)
  rw [Int.natAbs_mul, Int.natAbs_mul] at h1
  have h2 := a.le hB
  have h3 := a.1.d1
  have h4 : (f p).natAbs * d.natAbs ≤ (f p).natAbs * B.natAbs := Nat.mul_le_mul_left _ (by omega)
  rw [← h1] at h4
  exact Nat.le_of_mul_le_mul_right h4 (by omega)
theorem St4.zero {d B : Int} {L : List (Int × Int)} {f : Int → Int} (a : St4 d L B f) (hB : 0 < B) {q : Int × Int} (hq : q ∈ L) : f q.1 ≠ 0 := by
  intro z
  have h1 := a.2 q.1
  rw [z, Int.zero_mul, ig_mem (asc_nodup a.1.asc) hq] at h1
  rcases Int.mul_eq_zero.mp h1 with e | e
  · exact a.1.nz q hq e
  · omega
/-- how a form is made of a dict: the parts other than 0, divided -/
theorem cn_made {b : Int} {L ys : List (Int × Int)} (hb : 0 < b) (hn : (L.map (·.1)).Nodup) (hp : ∀ q ∈ L, ∃ p : Nat, q.1 = p ∧ Pr p ∧ p < 1000000)
    (perm : ys.Perm ((L.filter fun q => decide (q.2 ≠ 0)).map fun q => (q.1, q.2 / gl b (L.map (·.2))))) (srt : ys.Pairwise (fun a b => a.1 < b.1)) :
    St4 (b / gl b (L.map (·.2))) ys b (ig L) := by
  have g0 := gl_pos (L.map (·.2)) b hb
  obtain ⟨gb, gc⟩ := gl_dvd (L.map (·.2)) b
  generalize eg : gl b (L.map (·.2)) = g at *
  have mem : ∀ q ∈ ys, ∃ x ∈ L, x.2 ≠ 0 ∧ q = (x.1, x.2 / g) := fun q hq => by
    obtain ⟨x, hx, e⟩ := List.mem_map.mp (perm.mem_iff.mp hq)
    obtain ⟨h1, h2⟩ := List.mem_filter.mp hx
    exact ⟨x, h1, by simpa using h2, e.symm⟩
  have gx : ∀ x ∈ L, g ∣ x.2 := fun x hx => gc x.2 (List.mem_map.mpr ⟨x, hx, rfl⟩)
  obtain ⟨b', hb'⟩ := gb
  have bd : b / g = b' := by rw [hb']; exact Int.mul_ediv_cancel_left b' (by omega)
  have b'0 : 0 < b' := by
    rw [hb'] at hb
    exact Int.pos_of_mul_pos_right (b := b') (by exact hb) g0 |> fun h => h
  have igs : ∀ p, ig ys p * g = ig L p := fun p => by
    rcases ig_cases L p with e | e
    · rw [e]
      have : ig ys p = 0 := by
        apply ig_none
        intro q hq z
        obtain ⟨x, hx, nz, rfl⟩ := mem q hq
        have e2 := ig_mem hn hx
        have z' : x.1 = p := z
        rw [z', e] at e2
        exact nz e2.symm
      rw [this, Int.zero_mul]
    · by_cases z : ig L p = 0
      · rw [z]
        have : ig ys p = 0 := by
          apply ig_none
          intro q hq y
          obtain ⟨x, hx, nz, rfl⟩ := mem q hq
          have e2 := ig_mem hn hx
          have y' : x.1 = p := y
          rw [y', z] at e2
          exact nz e2.symm
        rw [this, Int.zero_mul]
      · have m1 : (p, ig L p / g) ∈ ys := by
          refine perm.mem_iff.mpr (List.mem_map.mpr ⟨(p, ig L p), List.mem_filter.mpr ⟨e, by simpa using z⟩, rfl⟩)
        have e2 := ig_mem (asc_nodup srt) m1
        have e2' : ig ys p = ig L p / g := e2
        rw [e2']
        exact Int.ediv_mul_cancel (gx _ e)
  refine ⟨⟨?_, srt, ?_, ?_, ?_⟩, fun p => ?_⟩
  · rw [bd]; exact b'0
  · intro q hq
    obtain ⟨x, hx, _, rfl⟩ := mem q hq
    exact hp x hx
  · intro q hq
    obtain ⟨x, hx, nz, rfl⟩ := mem q hq
    intro z
    have z' : x.2 / g = 0 := z
    have := Int.ediv_mul_cancel (gx x hx)
    rw [z', Int.zero_mul] at this
    exact nz this.symm
  · -- a common divisor h of the divided ones, times g, divides all; so it is 1
    have h0 := gl_pos (ys.map (·.2)) (b / g) (by rw [bd]; exact b'0)
    obtain ⟨hd1, hd2⟩ := gl_dvd (ys.map (·.2)) (b / g)
    generalize gl (b / g) (ys.map (·.2)) = h at *
    have hb2 : h * g ∣ b := by
      rw [bd] at hd1
      obtain ⟨c, hc⟩ := hd1
      exact ⟨c, by rw [hb', hc]; ac_rfl⟩
    have hg : h * g ∣ g := by
      conv => rhs; rw [← eg]
      refine gl_greatest _ _ _ hb2 fun c hc => ?_
      obtain ⟨x, hx, rfl⟩ := List.mem_map.mp hc
      have e1 := ig_mem hn hx
      rw [← e1, ← igs]
      rcases ig_cases ys x.1 with z | z
      · rw [z, Int.zero_mul]; exact Int.dvd_zero _
      · obtain ⟨c, hc⟩ := hd2 (ig ys x.1) (List.mem_map.mpr ⟨_, z, rfl⟩)
        exact ⟨c, by rw [hc]; ac_rfl⟩
    have := Int.le_of_dvd g0 hg
    have h1 : ¬ 2 ≤ h := fun z => by
      have : 2 * g ≤ h * g := Int.mul_le_mul_of_nonneg_right z (by omega)
      omega
    omega
  · rw [bd, hb', ← igs p]; ac_rfl
end Am

namespace Am
open Classical
/-! sums of logarithms, by primes -/
/-- how often p divides n, as an int -/
def vi (p n : Int) : Int := ((vp p.toNat n.toNat : Nat) : Int)
/-- the factor of log p in the sum of f log n over the pairs (f, n) -/
noncomputable def lg (M : List (Int × Int)) (p : Int) : Int := if 0 ≤ p ∧ Pr p.toNat then (M.map fun q => q.1 * vi p q.2).sum else 0
theorem lg_nil (p : Int) : lg [] p = 0 := by unfold lg; split <;> rfl
theorem lg_append (M N : List (Int × Int)) (p : Int) : lg (M ++ N) p = lg M p + lg N p := by
  unfold lg
  split
  · rw [List.map_append, List.sum_append]
  · rfl
theorem lg_pr (M : List (Int × Int)) {p : Nat} (h : Pr p) : lg M p = (M.map fun q => q.1 * vi p q.2).sum := by
  unfold lg
  rw [if_pos ⟨by omega, by rw [Int.toNat_natCast]; exact h⟩]
theorem lg_no (M : List (Int × Int)) {p : Int} (h : ¬ ∃ n : Nat, p = n ∧ Pr n) : lg M p = 0 := by
  unfold lg
  rw [if_neg]
  intro z
  exact h ⟨p.toNat, by omega, z.2⟩
theorem lg_one (f n p : Int) : lg [(f, n)] p = if 0 ≤ p ∧ Pr p.toNat then f * vi p n else 0 := by
  unfold lg
  split
  · simp
  · rfl
/-- ints without repeats within 0 .. m are no more than m + 1 -/
theorem nodup_le : ∀ (m : Nat) (l : List Int), l.Nodup → (∀ x ∈ l, 0 ≤ x ∧ x < m) → l.length ≤ m
  | 0, l, _, h => by
    cases l with
    | nil => exact Nat.le_refl _
    | cons x r => have := h x List.mem_cons_self; omega
  | m + 1, l, nd, h => by
    have h1 := nodup_le m (l.filter fun x => decide (x ≠ (m : Int))) (nd.sublist List.filter_sublist) (fun x hx => by
      obtain ⟨a, b⟩ := List.mem_filter.mp hx
      have := h x a
      have : x ≠ (m : Int) := by simpa using b
      omega)
    have h2 : l.length ≤ (l.filter fun x => decide (x ≠ (m : Int))).length + 1 := by
      clear h1
      induction l with
      | nil => simp
      | cons x r ih =>
        obtain ⟨n1, n2⟩ := List.nodup_cons.mp nd
        by_cases e : x = (m : Int)
        · have e2 : (r.filter fun x => decide (x ≠ (m : Int))) = r := by
            rw [List.filter_eq_self]
            intro y hy
            have : y ≠ (m : Int) := fun z => n1 (by rw [e, ← z]; exact hy)
            simpa using this
          rw [List.filter_cons_of_neg (by simp [e]), e2, List.length_cons]
          omega
        · rw [List.filter_cons_of_pos (by simpa using e), List.length_cons, List.length_cons]
          have := ih n2 (fun y hy => h y (List.mem_cons_of_mem _ hy))
          omega
    omega
end Am

namespace Am
/-! the law's own greatest common divisor -/
def SS (a b : Int) : Prop := (0 ≤ a ∧ 0 ≤ b) ∨ (a ≤ 0 ∧ b ≤ 0)
theorem fm_neg (a b : Int) : a.fmod b = -((-a).fmod (-b)) := by rw [Int.neg_fmod_neg, Int.neg_neg]
theorem fm_gcd (a b : Int) : Nat.gcd b.natAbs (a.fmod b).natAbs = Nat.gcd a.natAbs b.natAbs := by
  have key : ∀ d : Nat, d ∣ b.natAbs → (d ∣ (a.fmod b).natAbs ↔ d ∣ a.natAbs) := by
    intro d h
    rw [← Int.ofNat_dvd_left, ← Int.ofNat_dvd_left, Int.fmod_def]
    have hb : (d : Int) ∣ b := Int.ofNat_dvd_left.mpr h
    have h2 : (d : Int) ∣ b * a.fdiv b := Int.dvd_trans hb ⟨_, rfl⟩
    constructor
    · intro z
      have := Int.dvd_add z h2
      rwa [Int.sub_add_cancel] at this
    · intro z; exact Int.dvd_sub z h2
  apply Nat.dvd_antisymm
  · refine Nat.dvd_gcd ?_ (Nat.gcd_dvd_left _ _)
    exact (key _ (Nat.gcd_dvd_left _ _)).mp (Nat.gcd_dvd_right _ _)
  · refine Nat.dvd_gcd (Nat.gcd_dvd_right _ _) ?_
    exact (key _ (Nat.gcd_dvd_right _ _)).mpr (Nat.gcd_dvd_left _ _)
theorem fm_small {a b : Int} (hb : b ≠ 0) : (a.fmod b).natAbs < b.natAbs ∧ SS b (a.fmod b) := by
  by_cases h : 0 < b
  · have h1 := Int.fmod_lt_of_pos a h
    have h2 := Int.fmod_nonneg_of_pos a h
    exact ⟨by omega, .inl ⟨by omega, h2⟩⟩
  · have hn : 0 < -b := by omega
    have h1 := Int.fmod_lt_of_pos (-a) hn
    have h2 := Int.fmod_nonneg_of_pos (-a) hn
    have e := fm_neg a b
    exact ⟨by omega, .inr ⟨by omega, by omega⟩⟩
theorem nat_half {x y : Nat} (hy : 0 < y) (h : y ≤ x) : 2 * (x % y) < x := by
  have h1 := Nat.mod_lt x hy
  have h2 := Nat.div_add_mod x y
  have h3 : 1 ≤ x / y := (Nat.one_le_div_iff hy).mpr h
  have h4 : y * 1 ≤ y * (x / y) := Nat.mul_le_mul_left _ h3
  omega
theorem fm_half {a b : Int} (hb : b ≠ 0) (s : SS a b) (h : b.natAbs ≤ a.natAbs) : 2 * (a.fmod b).natAbs < a.natAbs := by
  have pos : ∀ x y : Int, 0 ≤ x → 0 < y → y.natAbs ≤ x.natAbs → 2 * (x.fmod y).natAbs < x.natAbs := by
    intro x y hx hy hl
    obtain ⟨n, rfl⟩ := Int.eq_ofNat_of_zero_le hx
    obtain ⟨m, rfl⟩ := Int.eq_ofNat_of_zero_le (Int.le_of_lt hy)
    rw [Int.fmod_eq_emod_of_nonneg _ (by omega)]
    have := nat_half (x := n) (y := m) (by omega) (by omega)
    have e : ((n : Int) % (m : Int)).natAbs = n % m := by
      rw [← Int.natCast_emod, Int.natAbs_natCast]
    rw [e, Int.natAbs_natCast]; exact this
  rcases s with ⟨h1, h2⟩ | ⟨h1, h2⟩
  · exact pos a b h1 (by omega) h
  · have := pos (-a) (-b) (by omega) (by omega) (by omega)
    rw [fm_neg a b]; omega
structure GI (g i : Nat) (a b : Int) : Prop where
  g : Nat.gcd a.natAbs b.natAbs = g
  m : (i = 0 ∧ b.natAbs < 2 ^ 64) ∨ (SS a b ∧ b.natAbs < a.natAbs ∧ a.natAbs * b.natAbs * 2 ^ (i - 1) < 2 ^ 128)
theorem GI.step {g i : Nat} {a b : Int} (h : GI g i a b) (hb : b ≠ 0) : GI g (i + 1) b (a.fmod b) := by
  obtain ⟨f1, f2⟩ := fm_small (a := a) hb
  refine ⟨by rw [fm_gcd]; exact h.g, .inr ⟨f2, f1, ?_⟩⟩
  rcases h.m with ⟨rfl, h2⟩ | ⟨s, h1, h2⟩
  · show b.natAbs * (a.fmod b).natAbs * 2 ^ 0 < 2 ^ 128
    rw [Nat.pow_zero, Nat.mul_one]
    have : b.natAbs * (a.fmod b).natAbs < 2 ^ 64 * 2 ^ 64 := Nat.mul_lt_mul_of_lt_of_le h2 (by omega) (by omega)
    omega
  · have h3 := fm_half hb s (by omega)
    show b.natAbs * (a.fmod b).natAbs * 2 ^ i < 2 ^ 128
    cases i with
    | zero =>
      rw [Nat.pow_zero, Nat.mul_one]
      rw [show (0 - 1 : Nat) = 0 from rfl, Nat.pow_zero, Nat.mul_one] at h2
      have : b.natAbs * (a.fmod b).natAbs ≤ a.natAbs * b.natAbs := by
        rw [Nat.mul_comm]; exact Nat.mul_le_mul_right _ (by omega)
      omega
    | succ j =>
      rw [show j + 1 - 1 = j by omega] at h2
      rw [Nat.pow_succ]
      have : b.natAbs * (a.fmod b).natAbs * (2 ^ j * 2) ≤ a.natAbs * b.natAbs * 2 ^ j := by
        have e : b.natAbs * (a.fmod b).natAbs * (2 ^ j * 2) = (2 * (a.fmod b).natAbs) * b.natAbs * 2 ^ j := by
          simp only [Nat.mul_comm, Nat.mul_left_comm, Nat.mul_assoc]
        rw [e]
        exact Nat.mul_le_mul_right _ (Nat.mul_le_mul_right _ (by omega))
      omega
theorem GI.out {g i : Nat} {a b : Int} (h : GI g i a b) (hi : 129 ≤ i) : b = 0 := by
  rcases h.m with ⟨rfl, _⟩ | ⟨_, h1, h2⟩
  · omega
  · by_cases hb : b = 0
    · exact hb
    · exfalso
      have p1 : 1 ≤ a.natAbs * b.natAbs := Nat.mul_pos (by omega) (by omega)
      have p2 : 2 ^ 128 ≤ 2 ^ (i - 1) := Nat.pow_le_pow_right (by omega) (by omega)
      have p3 : 1 * 2 ^ (i - 1) ≤ a.natAbs * b.natAbs * 2 ^ (i - 1) := Nat.mul_le_mul_right _ p1
      omega
theorem GI.end {g i : Nat} {a : Int} (h : GI g i a 0) : a.natAbs = g := by
  have := h.g
  rwa [Int.natAbs_zero, Nat.gcd_zero_right] at this
/-- no divisor up to the root -/
theorem pr_sq {n : Nat} (hn : 2 ≤ n) : (∀ d, 2 ≤ d → d * d ≤ n → n % d ≠ 0) ↔ Pr n := by
  obtain ⟨r, h1, h2⟩ : ∃ r, r * r ≤ n ∧ n < (r + 1) * (r + 1) := by
    have : ∀ m, ∃ r, r * r ≤ m ∧ m < (r + 1) * (r + 1) := by
      intro m
      induction m with
      | zero => exact ⟨0, by omega, by omega⟩
      | succ m ih =>
        obtain ⟨r, a, b⟩ := ih
        by_cases c : (r + 1) * (r + 1) ≤ m + 1
        · refine ⟨r + 1, c, ?_⟩
          have : (r + 1 + 1) * (r + 1 + 1) = (r + 1) * (r + 1) + 2 * (r + 1) + 1 := by
            rw [Nat.add_mul, Nat.mul_add]; omega
          omega
        · exact ⟨r, by omega, by omega⟩
    exact this n
  rw [← pr_root hn h1 h2]
  constructor
  · intro h d d2 dr
    have : d * d ≤ r * r := Nat.mul_self_le_mul_self (by omega)
    exact h d d2 (by omega)
  · intro h d d2 dd
    refine h d d2 ?_
    apply Nat.lt_of_not_le
    intro z
    have := Nat.mul_self_le_mul_self z
    omega
end Am

namespace Am
/-! what is told by all primes -/
theorem prime_in : ∀ n : Nat, 2 ≤ n → ∃ p, Pr p ∧ p ∣ n := by
  intro n
  induction n using Nat.strongRecOn with
  | _ n ih =>
    intro h
    by_cases pr : Pr n
    · exact ⟨n, pr, Nat.dvd_refl _⟩
    · have : ∃ d, d ∣ n ∧ d ≠ 1 ∧ d ≠ n := by
        apply Classical.byContradiction
        intro z
        apply pr
        refine ⟨h, fun d hd => ?_⟩
        apply Classical.byContradiction
        intro y
        exact z ⟨d, hd, fun e => y (.inl e), fun e => y (.inr e)⟩
      obtain ⟨d, hd, d1, dn⟩ := this
      have dl := Nat.le_of_dvd (by omega) hd
      have d0 : d ≠ 0 := by
        rintro rfl
        have := Nat.eq_zero_of_zero_dvd hd
        omega
      obtain ⟨p, pp, pd⟩ := ih d (by omega) (by omega)
      exact ⟨p, pp, Nat.dvd_trans pd hd⟩
theorem vp_pos_of {p n : Nat} (hp : Pr p) (hn : 0 < n) (h : p ∣ n) : vp p n ≠ 0 := by
  rw [vp_yes hp.two hn (Nat.mod_eq_zero_of_dvd h)]; omega
theorem dvd_of_vp {p n : Nat} (h : vp p n ≠ 0) : p ∣ n := by
  apply Classical.byContradiction
  intro z
  exact h (vp_no fun y => z (Nat.dvd_of_mod_eq_zero y))
theorem eq_of_vp : ∀ a b : Nat, 0 < a → 0 < b → (∀ p, Pr p → vp p a = vp p b) → a = b := by
  intro a
  induction a using Nat.strongRecOn with
  | _ a ih =>
    intro b ha hb h
    by_cases a1 : a = 1
    · subst a1
      apply Classical.byContradiction
      intro z
      obtain ⟨p, pp, pd⟩ := prime_in b (by omega)
      have := h p pp
      rw [vp_one pp.two] at this
      exact vp_pos_of pp hb pd this.symm
    · obtain ⟨p, pp, pd⟩ := prime_in a (by omega)
      have hb2 : p ∣ b := dvd_of_vp (by rw [← h p pp]; exact vp_pos_of pp ha pd)
      obtain ⟨a', rfl⟩ := pd
      obtain ⟨b', rfl⟩ := hb2
      have p2 := pp.two
      have ha' : 0 < a' := Nat.pos_of_mul_pos_left ha
      have hb' : 0 < b' := Nat.pos_of_mul_pos_left hb
      have lt : a' < p * a' := by
        have : 2 * a' ≤ p * a' := Nat.mul_le_mul_right _ p2
        omega
      rw [ih a' lt b' ha' hb' fun q hq => ?_]
      have := h q hq
      rw [vp_mul hq _ _ (by omega) ha', vp_mul hq _ _ (by omega) hb'] at this
      omega
/-- two pairs of products compare alike if their primes are alike, by B and d -/
theorem cmp_alike {a b c e B d : Nat} (ha : 0 < a) (hb : 0 < b) (hc : 0 < c) (he : 0 < e) (hB : 0 < B) (hd : 0 < d)
    (h : ∀ p, Pr p → vp p a * B + vp p e * d = vp p c * d + vp p b * B) : (a < b ↔ c < e) ∧ (b < a ↔ e < c) := by
  have key : a ^ B * e ^ d = c ^ d * b ^ B := by
    refine eq_of_vp _ _ (Nat.mul_pos (Nat.pow_pos ha) (Nat.pow_pos he)) (Nat.mul_pos (Nat.pow_pos hc) (Nat.pow_pos hb)) fun p hp => ?_
    rw [vp_mul hp _ _ (Nat.pow_pos ha) (Nat.pow_pos he), vp_mul hp _ _ (Nat.pow_pos hc) (Nat.pow_pos hb), vp_pow hp ha, vp_pow hp he, vp_pow hp hc, vp_pow hp hb]
    have := h p hp
    rw [Nat.mul_comm B, Nat.mul_comm d, Nat.mul_comm d, Nat.mul_comm B]; exact this
  have lt_pow : ∀ {x y n : Nat}, 0 < n → (x < y ↔ x ^ n < y ^ n) := by
    intro x y n hn
    exact (Nat.pow_lt_pow_iff_left (by omega)).symm
  have pb : 0 < b ^ B := Nat.pow_pos hb
  have pe : 0 < e ^ d := Nat.pow_pos he
  refine ⟨?_, ?_⟩
  · rw [lt_pow hB, lt_pow (x := c) hd]
    constructor
    · intro z
      have h1 : a ^ B * e ^ d < b ^ B * e ^ d := Nat.mul_lt_mul_of_pos_right z pe
      rw [key, Nat.mul_comm (b ^ B)] at h1
      exact Nat.lt_of_mul_lt_mul_right h1
    · intro z
      have h1 : c ^ d * b ^ B < e ^ d * b ^ B := Nat.mul_lt_mul_of_pos_right z pb
      rw [← key, Nat.mul_comm (e ^ d)] at h1
      exact Nat.lt_of_mul_lt_mul_right h1
  · rw [lt_pow hB, lt_pow (x := e) hd]
    constructor
    · intro z
      have h1 : b ^ B * e ^ d < a ^ B * e ^ d := Nat.mul_lt_mul_of_pos_right z pe
      rw [key, Nat.mul_comm (b ^ B)] at h1
      exact Nat.lt_of_mul_lt_mul_right h1
    · intro z
      have h1 : e ^ d * b ^ B < c ^ d * b ^ B := Nat.mul_lt_mul_of_pos_right z pb
      rw [← key, Nat.mul_comm (e ^ d)] at h1
      exact Nat.lt_of_mul_lt_mul_right h1
/-! the means -/
theorem bern : ∀ (k : Nat) (z t : Int), 0 ≤ z → 0 ≤ z + t → z ^ (k + 1) + (k + 1 : Nat) * (z ^ k * t) ≤ (z + t) ^ (k + 1)
  | 0, z, t, _, _ => by simp [Int.pow_succ]
  | k + 1, z, t, h0, h1 => by
    have ih := bern k z t h0 h1
    have h2 := Int.mul_le_mul_of_nonneg_right ih h1
    have e1 : (z + t) ^ (k + 1 + 1) = (z + t) ^ (k + 1) * (z + t) := Int.pow_succ ..
    have pz : 0 ≤ z ^ k := Int.pow_nonneg h0
    have t2 : 0 ≤ z ^ k * (t * t) := Int.mul_nonneg pz (by
      rcases Int.le_total 0 t with h | h
      · exact Int.mul_nonneg h h
      · exact Int.mul_nonneg_of_nonpos_of_nonpos h h)
    have t3 : 0 ≤ ((k + 1 : Nat) : Int) * (z ^ k * (t * t)) := Int.mul_nonneg (by omega) t2
    have e2 : (z ^ (k + 1) + ((k + 1 : Nat) : Int) * (z ^ k * t)) * (z + t) = z ^ (k + 1 + 1) + ((k + 1 + 1 : Nat) : Int) * (z ^ (k + 1) * t) + ((k + 1 : Nat) : Int) * (z ^ k * (t * t)) := by
      rw [Int.pow_succ z (k + 1), Int.pow_succ z k, Int.natCast_add (k + 1) 1]
      generalize z ^ k = w
      generalize ((k + 1 : Nat) : Int) = c
      have : ((1 : Nat) : Int) = 1 := rfl
      rw [this]
      simp only [Int.add_mul, Int.mul_add, Int.one_mul, Int.mul_one, Int.mul_assoc, Int.mul_comm, Int.mul_left_comm, Int.add_assoc, Int.add_left_comm, Int.add_comm]
    rw [e1]
    omega
theorem bern_eq {k : Nat} {z t : Int} (h0 : 0 < z) (h1 : 0 ≤ z + t) (hk : 1 ≤ k) (h : z ^ (k + 1) + (k + 1 : Nat) * (z ^ k * t) = (z + t) ^ (k + 1)) : t = 0 := by
  obtain ⟨j, rfl⟩ : ∃ j, k = j + 1 := ⟨k - 1, by omega⟩
  have ih := bern j z t (by omega) h1
  have h2 := Int.mul_le_mul_of_nonneg_right ih h1
  have e1 : (z + t) ^ (j + 1 + 1) = (z + t) ^ (j + 1) * (z + t) := Int.pow_succ ..
  have e2 : (z ^ (j + 1) + ((j + 1 : Nat) : Int) * (z ^ j * t)) * (z + t) = z ^ (j + 1 + 1) + ((j + 1 + 1 : Nat) : Int) * (z ^ (j + 1) * t) + ((j + 1 : Nat) : Int) * (z ^ j * (t * t)) := by
    rw [Int.pow_succ z (j + 1), Int.pow_succ z j, Int.natCast_add (j + 1) 1]
    generalize z ^ j = w
    generalize ((j + 1 : Nat) : Int) = c
    have : ((1 : Nat) : Int) = 1 := rfl
    rw [this]
    simp only [Int.add_mul, Int.mul_add, Int.one_mul, Int.mul_one, Int.mul_assoc, Int.mul_comm, Int.mul_left_comm, Int.add_assoc, Int.add_left_comm, Int.add_comm]
  rw [e1] at h
  apply Classical.byContradiction
  intro nt
  have tt : 0 < t * t := by
    rcases Int.lt_or_gt_of_ne nt with y | y
    · exact Int.mul_pos_of_neg_of_neg y y
    · exact Int.mul_pos y y
  have t3 : 0 < ((j + 1 : Nat) : Int) * (z ^ j * (t * t)) := Int.mul_pos (by omega) (Int.mul_pos (Int.pow_pos h0) tt)
  omega
def prodI : List Int → Int
  | [] => 1
  | x :: r => x * prodI r
theorem prodI_pos : ∀ {xs : List Int}, (∀ x ∈ xs, 0 < x) → 0 < prodI xs
  | [], _ => by show (0 : Int) < 1; omega
  | x :: r, h => Int.mul_pos (h x List.mem_cons_self) (prodI_pos fun y hy => h y (List.mem_cons_of_mem _ hy))
theorem prodI_append : ∀ (a b : List Int), prodI (a ++ b) = prodI a * prodI b
  | [], b => by show prodI b = 1 * prodI b; rw [Int.one_mul]
  | x :: r, b => by show x * prodI (r ++ b) = x * prodI r * prodI b; rw [prodI_append, Int.mul_assoc]
theorem sumI_pos : ∀ {xs : List Int}, xs ≠ [] → (∀ x ∈ xs, 0 < x) → 0 < xs.sum
  | [], h, _ => absurd rfl h
  | [x], _, h => by have := h x List.mem_cons_self; simp; exact this
  | x :: y :: r, _, h => by
    have h1 := h x List.mem_cons_self
    have h2 := sumI_pos (xs := y :: r) (by simp) fun z hz => h z (List.mem_cons_of_mem _ hz)
    rw [List.sum_cons]; omega
/-- the two means of positive ints -/
theorem means : ∀ (xs : List Int), (∀ x ∈ xs, 0 < x) → ((xs.length : Nat) : Int) ^ xs.length * prodI xs ≤ xs.sum ^ xs.length ∧
    (((xs.length : Nat) : Int) ^ xs.length * prodI xs = xs.sum ^ xs.length → ∀ x ∈ xs, ∀ y ∈ xs, x = y)
  | [], _ => ⟨by simp [prodI], fun _ x hx => by cases hx⟩
  | [x], _ => ⟨by simp [prodI, Int.pow_succ], fun _ a ha b hb => by rw [List.mem_singleton.mp ha, List.mem_singleton.mp hb]⟩
  | x :: y :: r, h => by
    have hr : ∀ z ∈ y :: r, 0 < z := fun z hz => h z (List.mem_cons_of_mem _ hz)
    obtain ⟨ih1, ih2⟩ := means (y :: r) hr
    have S0 := sumI_pos (xs := y :: r) (by simp) hr
    have x0 := h x List.mem_cons_self
    have P0 := prodI_pos hr
    have e1 : (x :: y :: r).sum = x + (y :: r).sum := List.sum_cons
    have e2 : prodI (x :: y :: r) = x * prodI (y :: r) := rfl
    have e3 : (x :: y :: r).length = (y :: r).length + 1 := rfl
    have m1 : 1 ≤ (y :: r).length := by rw [List.length_cons]; omega
    have mem : ∀ z ∈ y :: r, z = y ∨ True := fun _ _ => .inr trivial
    have hy0 : y ∈ y :: r := List.mem_cons_self
    rw [e1, e2, e3]
    have all : ∀ c : Int, (∀ z ∈ y :: r, z = c) → (y :: r).sum = ((y :: r).length : Int) * c := by
      intro c
      generalize y :: r = l
      intro hl
      clear ih1 ih2 S0 P0 e1 e2 e3 m1 mem hy0 hr h
      induction l with
      | nil => simp
      | cons a t ih =>
        rw [List.sum_cons, ih fun z hz => hl z (List.mem_cons_of_mem _ hz), hl a List.mem_cons_self, List.length_cons, Int.natCast_add, Int.add_mul]; simp; omega
    generalize (y :: r).sum = S at *
    generalize prodI (y :: r) = P at *
    generalize (y :: r).length = m at *
    -- step
    have b := bern m (((m + 1 : Nat) : Int) * S) (m * x - S) (by have := Int.mul_pos (a := ((m + 1 : Nat) : Int)) (b := S) (by omega) S0; omega) (by
      have e : ((m + 1 : Nat) : Int) * S + (m * x - S) = m * S + m * x := by rw [Int.natCast_add, Int.add_mul]; simp; omega
      rw [e]
      have := Int.mul_pos (a := (m : Int)) (b := S) (by omega) S0
      have := Int.mul_pos (a := (m : Int)) (b := x) (by omega) x0
      omega)
    have e4 : ((m + 1 : Nat) : Int) * S + (m * x - S) = m * (x + S) := by rw [Int.natCast_add, Int.add_mul, Int.mul_add]; simp; omega
    have e5 : (((m + 1 : Nat) : Int) * S) ^ (m + 1) + ((m + 1 : Nat) : Int) * ((((m + 1 : Nat) : Int) * S) ^ m * (m * x - S)) = m * (((m + 1 : Nat) : Int) ^ (m + 1) * S ^ m * x) := by
      rw [Int.pow_succ (((m + 1 : Nat) : Int) * S) m, Int.mul_left_comm ((m + 1 : Nat) : Int), ← Int.mul_add]
      rw [show ((m + 1 : Nat) : Int) * S + ((m + 1 : Nat) : Int) * (m * x - S) = ((m + 1 : Nat) : Int) * (m * x) by rw [← Int.mul_add]; congr 1; omega]
      rw [Int.mul_pow, Int.pow_succ ((m + 1 : Nat) : Int) m]
      simp only [Int.mul_assoc, Int.mul_comm, Int.mul_left_comm]
    rw [e4, e5] at b
    have e6 : ((m : Int) * (x + S)) ^ (m + 1) = m * (m ^ m * (x + S) ^ (m + 1)) := by
      rw [Int.mul_pow, Int.pow_succ (m : Int)]
      simp only [Int.mul_assoc, Int.mul_comm, Int.mul_left_comm]
    rw [e6] at b
    have m0 : (0 : Int) < m := by omega
    have b2 : ((m + 1 : Nat) : Int) ^ (m + 1) * S ^ m * x ≤ m ^ m * (x + S) ^ (m + 1) := Int.le_of_mul_le_mul_left b m0
    have w0 : (0 : Int) < ((m + 1 : Nat) : Int) ^ (m + 1) := Int.pow_pos (by omega)
    have mm0 : (0 : Int) < (m : Int) ^ m := Int.pow_pos m0
    have c1 : ((m + 1 : Nat) : Int) ^ (m + 1) * ((m : Int) ^ m * P) * x ≤ ((m + 1 : Nat) : Int) ^ (m + 1) * S ^ m * x := Int.mul_le_mul_of_nonneg_right (Int.mul_le_mul_of_nonneg_left ih1 (by omega)) (by omega)
    have e7 : ((m + 1 : Nat) : Int) ^ (m + 1) * ((m : Int) ^ m * P) * x = (m : Int) ^ m * (((m + 1 : Nat) : Int) ^ (m + 1) * (x * P)) := by
      simp only [Int.mul_assoc, Int.mul_comm, Int.mul_left_comm]
    refine ⟨?_, fun eq => ?_⟩
    · refine Int.le_of_mul_le_mul_left (a := (m : Int) ^ m) ?_ mm0
      rw [← e7]; exact Int.le_trans c1 b2
    · have f1 : (m : Int) ^ m * (((m + 1 : Nat) : Int) ^ (m + 1) * (x * P)) = m ^ m * (x + S) ^ (m + 1) := by rw [eq]
      rw [← e7] at f1
      have f2 : ((m + 1 : Nat) : Int) ^ (m + 1) * ((m : Int) ^ m * P) * x = ((m + 1 : Nat) : Int) ^ (m + 1) * S ^ m * x := by omega
      have f3 : ((m + 1 : Nat) : Int) ^ (m + 1) * S ^ m * x = m ^ m * (x + S) ^ (m + 1) := by omega
      have f4 : (m : Int) ^ m * P = S ^ m := Int.eq_of_mul_eq_mul_left (by omega) (Int.eq_of_mul_eq_mul_right (by omega) f2)
      have allq := ih2 f4
      have sy := all y fun z hz => allq z hz y hy0
      have t0 : m * x - S = 0 := by
        refine bern_eq (k := m) (z := ((m + 1 : Nat) : Int) * S) (Int.mul_pos (by omega) S0) ?_ m1 ?_
        · rw [e4]; exact Int.mul_nonneg (by omega) (by omega)
        · rw [e4, e5, e6, f3]
      have xy : x = y := by
        rw [sy] at t0
        exact Int.eq_of_mul_eq_mul_left (a := (m : Int)) (by omega) (by omega)
      intro a ha b hb
      have va : a = y := by
        rcases List.mem_cons.mp ha with e | e
        · rw [e, xy]
        · exact allq a e y hy0
      have vb : b = y := by
        rcases List.mem_cons.mp hb with e | e
        · rw [e, xy]
        · exact allq b e y hy0
      rw [va, vb]
end Am

namespace Am
/-! counts -/
theorem ipp {x : Int} (n : Nat) (h : 0 < x) : 0 < x ^ n := Int.pow_pos h
theorem ipl {x y : Int} (h0 : 0 ≤ x) (h : x ≤ y) : ∀ n : Nat, x ^ n ≤ y ^ n
  | 0 => by rw [Int.pow_zero, Int.pow_zero]; exact Int.le_refl _
  | n + 1 => by
    rw [Int.pow_succ, Int.pow_succ]
    exact Int.mul_le_mul (ipl h0 h n) h h0 (Int.pow_nonneg (by omega))
/-- the product of n ^ n -/
def ee (ns : List Int) : Int := prodI (ns.map fun n => n ^ n.toNat)
theorem ee_pos {ns : List Int} (h : ∀ n ∈ ns, 0 < n) : 0 < ee ns := by
  refine prodI_pos fun x hx => ?_
  obtain ⟨n, hn, rfl⟩ := List.mem_map.mp hx
  exact Int.pow_pos (h n hn)
theorem ee_append (a b : List Int) : ee (a ++ b) = ee a * ee b := by
  unfold ee; rw [List.map_append, prodI_append]
theorem ee_cons (n : Int) (r : List Int) : ee (n :: r) = n ^ n.toNat * ee r := rfl
theorem sum0 {ns : List Int} (h : ∀ n ∈ ns, 0 < n) : 0 ≤ ns.sum := by
  cases ns with
  | nil => simp
  | cons x r => exact Int.le_of_lt (sumI_pos (by simp) h)
theorem sum_toNat {x : Int} {r : List Int} (h : ∀ n ∈ x :: r, 0 < n) : (x :: r).sum.toNat = x.toNat + r.sum.toNat := by
  have h1 := h x List.mem_cons_self
  have h2 := sum0 (ns := r) fun y hy => h y (List.mem_cons_of_mem _ hy)
  rw [List.sum_cons]; omega
theorem prodI_rep (n : Nat) (x : Int) : prodI (List.replicate n x) = x ^ n := by
  induction n with
  | zero => show (1 : Int) = x ^ 0; rw [Int.pow_zero]
  | succ k ih => rw [List.replicate_succ]; show x * _ = _; rw [ih, Int.pow_succ, Int.mul_comm]
theorem sumI_rep (n : Nat) (x : Int) : (List.replicate n x).sum = n * x := by
  induction n with
  | zero => simp
  | succ k ih => rw [List.replicate_succ, List.sum_cons, ih, Int.natCast_add, Int.add_mul]; simp; omega
theorem dvd_prodI {n : Int} : ∀ {ns : List Int}, n ∈ ns → n ∣ prodI ns
  | x :: r, h => by
    rcases List.mem_cons.mp h with e | h
    · rw [e]; exact ⟨prodI r, rfl⟩
    · obtain ⟨c, e⟩ := dvd_prodI h
      exact ⟨x * c, by show x * prodI r = _; rw [e]; exact Int.mul_left_comm ..⟩
/-- n copies of D / n for each n -/
def cop (D : Int) (ns : List Int) : List Int := ns.flatMap fun n => List.replicate n.toNat (D / n)
theorem cop_cons (D n : Int) (r : List Int) : cop D (n :: r) = List.replicate n.toNat (D / n) ++ cop D r := rfl
theorem cop_facts {D : Int} (hD : 0 < D) : ∀ {l : List Int}, (∀ n ∈ l, 0 < n ∧ n ∣ D) →
    (cop D l).length = l.sum.toNat ∧ (cop D l).sum = l.length * D ∧ prodI (cop D l) * ee l = D ^ l.sum.toNat ∧ ∀ x ∈ cop D l, 0 < x
  | [], _ => ⟨rfl, by show (0 : Int) = ((0 : Nat) : Int) * D; simp, by show (1 : Int) * 1 = D ^ 0; simp, by intro x hx; cases hx⟩
  | n :: r, h => by
    obtain ⟨n0, nd⟩ := h n List.mem_cons_self
    obtain ⟨h1, h2, h3, h4⟩ := cop_facts hD (l := r) fun y hy => h y (List.mem_cons_of_mem _ hy)
    have hs := sum_toNat (x := n) (r := r) fun y hy => (h y hy).1
    obtain ⟨c, hc⟩ := nd
    have ec : D / n = c := by rw [hc]; exact Int.mul_ediv_cancel_left _ (by omega)
    have en : ((n.toNat : Nat) : Int) = n := by omega
    rw [cop_cons, ec, hs]
    refine ⟨?_, ?_, ?_, ?_⟩
    · rw [List.length_append, List.length_replicate, h1]
    · rw [List.sum_append, sumI_rep, en, h2, ← hc, List.length_cons, Int.natCast_add, Int.add_mul]; simp; omega
    · rw [prodI_append, prodI_rep, ee_cons, Int.pow_add, ← h3]
      have : c ^ n.toNat * n ^ n.toNat = D ^ n.toNat := by rw [← Int.mul_pow, Int.mul_comm c, ← hc]
      rw [← this]
      simp only [Int.mul_assoc, Int.mul_comm, Int.mul_left_comm]
    · intro x hx
      rcases List.mem_append.mp hx with hx | hx
      · rw [(List.mem_replicate.mp hx).2]
        apply Int.pos_of_mul_pos_right (a := n) <;> omega
      · exact h4 x hx
/-- a spread is at most the logarithm of how many counts there are -/
theorem ent_le {ns : List Int} (h : ∀ n ∈ ns, 0 < n) : ns.sum ^ ns.sum.toNat ≤ (ns.length : Int) ^ ns.sum.toNat * ee ns ∧
    (ns.sum ^ ns.sum.toNat = (ns.length : Int) ^ ns.sum.toNat * ee ns → ∀ x ∈ ns, ∀ y ∈ ns, x = y) := by
  have D0 := prodI_pos h
  obtain ⟨h1, h2, h3, h4⟩ := cop_facts D0 (l := ns) fun n hn => ⟨h n hn, dvd_prodI hn⟩
  obtain ⟨m1, m2⟩ := means (cop (prodI ns) ns) h4
  have s0 := sum0 h
  have E0 := ee_pos h
  have P0 := prodI_pos h4
  have DN := ipp (ns.sum.toNat) D0
  have eN : ((ns.sum.toNat : Nat) : Int) = ns.sum := by omega
  rw [h1, h2, eN, Int.mul_pow] at m1 m2
  generalize hD : prodI ns = D at *
  have l1 : ns.sum ^ ns.sum.toNat * prodI (cop D ns) * ee ns = ns.sum ^ ns.sum.toNat * D ^ ns.sum.toNat := by rw [Int.mul_assoc, h3]
  have l2 : (ns.length : Int) ^ ns.sum.toNat * D ^ ns.sum.toNat * ee ns = (ns.length : Int) ^ ns.sum.toNat * ee ns * D ^ ns.sum.toNat := Int.mul_right_comm ..
  refine ⟨?_, fun eq => ?_⟩
  · refine Int.le_of_mul_le_mul_right (a := D ^ ns.sum.toNat) ?_ DN
    rw [← l1, ← l2]
    exact Int.mul_le_mul_of_nonneg_right m1 (by omega)
  · have e2 : ns.sum ^ ns.sum.toNat * prodI (cop D ns) = (ns.length : Int) ^ ns.sum.toNat * D ^ ns.sum.toNat := by
      refine Int.eq_of_mul_eq_mul_right (a := ee ns) (by omega) ?_
      rw [l1, l2, eq]
    have all := m2 e2
    intro x hx y hy
    have mem : ∀ z ∈ ns, D / z ∈ cop D ns := fun z hz => by
      have := h z hz
      exact List.mem_flatMap.mpr ⟨z, hz, List.mem_replicate.mpr ⟨by omega, rfl⟩⟩
    have q := all _ (mem x hx) _ (mem y hy)
    have dx : x * (D / x) = D := Int.mul_ediv_cancel' (by rw [← hD]; exact dvd_prodI hx)
    have dy : y * (D / y) = D := Int.mul_ediv_cancel' (by rw [← hD]; exact dvd_prodI hy)
    have p0 := h4 _ (mem y hy)
    rw [q] at dx
    exact Int.eq_of_mul_eq_mul_right (a := D / y) (by omega) (by omega)
theorem ent_eq {ns : List Int} (h : ∀ n ∈ ns, 0 < n) (c : Int) (hc : ∀ n ∈ ns, n = c) (hne : ns ≠ []) : ns.sum ^ ns.sum.toNat = (ns.length : Int) ^ ns.sum.toNat * ee ns := by
  have c0 : 0 < c := by
    cases ns with
    | nil => exact absurd rfl hne
    | cons x r => rw [← hc x List.mem_cons_self]; exact h x List.mem_cons_self
  have es : ns.sum = ns.length * c ∧ ee ns = c ^ (ns.length * c.toNat) := by
    clear hne
    induction ns with
    | nil => exact ⟨by simp, by show (1 : Int) = c ^ (0 * c.toNat); simp⟩
    | cons x r ih =>
      obtain ⟨i1, i2⟩ := ih (fun y hy => h y (List.mem_cons_of_mem _ hy)) (fun y hy => hc y (List.mem_cons_of_mem _ hy))
      have hx := hc x List.mem_cons_self
      refine ⟨?_, ?_⟩
      · rw [List.sum_cons, i1, hx, List.length_cons, Int.natCast_add, Int.add_mul]; simp; omega
      · rw [ee_cons, i2, hx, ← Int.pow_add, List.length_cons, Nat.add_mul, Nat.one_mul, Nat.add_comm]
  have et : ns.sum.toNat = ns.length * c.toNat := by
    rw [es.1]
    have : c = (c.toNat : Int) := by omega
    rw [this, ← Int.natCast_mul, Int.toNat_natCast, Int.toNat_natCast]
  rw [es.2, et, ← Int.mul_pow, ← es.1]
/-- products of n ^ n lie below -/
theorem ee_le {c : Int} (hc : 0 < c) : ∀ {l : List Int}, (∀ n ∈ l, 0 < n ∧ n ≤ c) → ee l ≤ c ^ l.sum.toNat
  | [], _ => by show (1 : Int) ≤ c ^ 0; simp
  | x :: r, h => by
    obtain ⟨x0, xc⟩ := h x List.mem_cons_self
    have ih := ee_le hc (l := r) fun y hy => h y (List.mem_cons_of_mem _ hy)
    rw [ee_cons, sum_toNat fun y hy => (h y hy).1, Int.pow_add]
    have p1 : x ^ x.toNat ≤ c ^ x.toNat := ipl (by omega) xc _
    have p2 := ee_pos (ns := r) fun y hy => (h y (List.mem_cons_of_mem _ hy)).1
    have p3 := ipp (x.toNat) hc
    exact Int.mul_le_mul p1 ih (by omega) (by omega)
theorem ee_self {l : List Int} (h : ∀ n ∈ l, 0 < n) (hne : l ≠ []) : ee l ≤ l.sum ^ l.sum.toNat := by
  refine ee_le (sumI_pos hne h) fun n hn => ⟨h n hn, ?_⟩
  have : ∀ l' : List Int, (∀ n ∈ l', 0 < n) → n ∈ l' → n ≤ l'.sum := by
    intro l' h' hn'
    induction l' with
    | nil => cases hn'
    | cons y r ih =>
      have hr : ∀ n ∈ r, 0 < n := fun z hz => h' z (List.mem_cons_of_mem _ hz)
      have := sum0 hr
      have := h' y List.mem_cons_self
      rw [List.sum_cons]
      rcases List.mem_cons.mp hn' with e | e
      · omega
      · have := ih hr e; omega
  exact this l h hn
theorem ee_strict {x y : Int} {r : List Int} (h : ∀ n ∈ x :: y :: r, 0 < n) : ee (x :: y :: r) < (x :: y :: r).sum ^ (x :: y :: r).sum.toNat := by
  have x0 := h x List.mem_cons_self
  have hr : ∀ n ∈ y :: r, 0 < n := fun z hz => h z (List.mem_cons_of_mem _ hz)
  have s0 := sumI_pos (xs := y :: r) (by simp) hr
  have S0 : 0 < (x :: y :: r).sum := sumI_pos (by simp) h
  have e1 : (x :: y :: r).sum = x + (y :: r).sum := List.sum_cons
  have l1 := ee_self hr (by simp)
  rw [ee_cons, sum_toNat h, Int.pow_add]
  have p1 : x ^ x.toNat < (x :: y :: r).sum ^ x.toNat := by
    have g : ∀ j : Nat, x ^ (j + 1) < (x :: y :: r).sum ^ (j + 1) := by
      intro j
      induction j with
      | zero => simp only [Nat.zero_add, Int.pow_succ, Int.pow_zero, Int.one_mul]; omega
      | succ i ih =>
        rw [Int.pow_succ, Int.pow_succ _ (i + 1)]
        have q1 := ipp (i + 1) x0
        have q2 := ipp (i + 1) S0
        exact Int.lt_of_lt_of_le (Int.mul_lt_mul_of_pos_right ih x0) (Int.mul_le_mul_of_nonneg_left (by omega) (by omega))
    have := g (x.toNat - 1)
    rwa [show x.toNat - 1 + 1 = x.toNat by omega] at this
  have p2 : ee (y :: r) ≤ (x :: y :: r).sum ^ (y :: r).sum.toNat := Int.le_trans l1 (ipl (by omega) (by omega) _)
  have p3 := ee_pos hr
  have p4 := ipp ((y :: r).sum.toNat) S0
  have p5 := ipp (x.toNat) x0
  exact Int.lt_of_lt_of_le (Int.mul_lt_mul_of_pos_right p1 p3) (Int.mul_le_mul_of_nonneg_left p2 (by have := ipp (x.toNat) S0; omega))
/-- what is put together -/
theorem ee_parts : ∀ {ps : List (List Int)}, (∀ p ∈ ps, p ≠ [] ∧ ∀ n ∈ p, 0 < n) → ee ps.flatten ≤ ee (ps.map fun p => p.sum)
  | [], _ => Int.le_refl _
  | p :: r, h => by
    obtain ⟨hn, hp⟩ := h p List.mem_cons_self
    have ih := ee_parts (ps := r) fun y hy => h y (List.mem_cons_of_mem _ hy)
    rw [List.flatten_cons, ee_append, List.map_cons, ee_cons]
    have p1 := ee_self hp hn
    have p2 : 0 < ee r.flatten := ee_pos fun n hn' => by
      obtain ⟨l, hl, hnl⟩ := List.mem_flatten.mp hn'
      exact (h l (List.mem_cons_of_mem _ hl)).2 n hnl
    have p3 := sumI_pos hn hp
    have p4 := ipp (p.sum.toNat) p3
    exact Int.mul_le_mul p1 ih (by omega) (by omega)
theorem ee_perm {a b : List Int} (h : a.Perm b) : ee a = ee b := by
  induction h with
  | nil => rfl
  | cons x _ ih => rw [ee_cons, ee_cons, ih]
  | swap x y l => rw [ee_cons, ee_cons, ee_cons, ee_cons]; exact Int.mul_left_comm ..
  | trans _ _ i1 i2 => rw [i1, i2]
end Am

/-! rules of our own over the hand layer -/
namespace Ly
open PySem PySem.Spec PyProof.Rows L2

section guarded
variable {P : Program} {w : World} {K : PySem.W.Frag} {mg : Str → Option Value} {base : Heap}
/-- what a def promises where no text of a container is being made around it -/
structure FnG (P : Program) (w : World) (K : PySem.W.Frag) (mg : Str → Option Value) (base : Heap)
    (CX : CXT) (k : Nat) (f : Addr) (fd : FuncData) (ps : List Str) (sp : Sp) : Prop where
  arity : ∀ vs H Q E, sp vs H Q E → vs.length = ps.length
  go : ∀ (A : Around) (out : List Env) (s : Shared) (H : Hp) (ar : Args) (us : List Value)
    (vs : List V) (Q : VK) (E : XK), A.guards = some [] → Room k A → Env0 P w K mg base A out s H →
    BindsTo s fd ar (ps.zip us) → Vals vs us → sp vs H Q E →
    codeAny (model P w) A (.call (.ref f) ar) (CR CX out P w H s Q E) s

theorem FnG.of {CX : CXT} {k : Nat} {f : Addr} {fd : FuncData} {ps : List Str} {sp : Sp}
    (F : FnOk P w K mg base CX k f fd ps sp) : FnG P w K mg base CX k f fd ps sp :=
  ⟨F.len, fun A o s H ar us vs Q E _ => F.run A o s H ar us vs Q E⟩

theorem fnG_of {CX : CXT} {k : Nat} {x qual : Str} {pr : Arguments} {body : List Stmt} {sc : Scope}
    {dvs : List V} {kws : List (Str × V)} {f : Addr} {fd : FuncData} {N ps : List Str} {sp : Sp}
    (F : FunD K x qual pr body sc dvs kws f fd) (S : FnScope N ps sc)
    (ar : ∀ vs H Q E, sp vs H Q E → vs.length = ps.length)
    (hb : ∀ (cdv : Value) (A : Around) (out : List Env) (s : Shared) (H : Hp) (vs : List V) (Q : VK) (E : XK),
      A.guards = some [] → Room k (A.deeper (envOfC qual sc s.heap.objs.size f cdv)) → sp vs H Q E →
      ∃ t, PSs (cxOf CX P w K mg base N qual sc f cdv A out s H E) body t ∧
        t { nx := fun _ H' => Q .non H', rt := Q } (start N vs) H) :
    FnG P w K mg base CX (k + 1) f fd ps sp := by
  obtain ⟨oc, od, dV, kV, doc, pm, an, cdv, ct, osl, rfl, lk, hcd, _, _⟩ := F.ex
  refine ⟨ar, ?_⟩
  intro A out s H args us vs Q E hgd hr e0 hbd rv hsp
  have KX : K.In s.heap := e0.mod.kin.keeps (fun b o e => (e0.bs b o e).1)
  have lim : s.heap.NoLimit := e0.mod.nolimit.keeps (fun b o e => (e0.bs b o e).1)
  have vis : ∀ y ∈ ps.zip us, sc.names.lookup y.1 = some .local ∨
      (sc.names.lookup y.1 = some .cell ∧
        ((cellsFrom (s.heap.objs.size + 1) sc.names []).lookup y.1).isSome = true) := by
    rintro ⟨n, v⟩ hy
    cases S.par n (List.of_mem_zip hy).1 with
    | inl q => exact Or.inl q
    | inr q => exact Or.inr ⟨q, PySem.W.cellsFrom_some _ _ _ (Or.inl q)⟩
  apply codeAny_call_function hr.depth (KX _ _ lk) rfl S.co S.gen rfl (PySem.W.codeRec_of KX hcd)
  apply hbd
  apply wpAny_newFunctionEnv_cells S.kind vis
  rintro env rfl s1 x
  refine ⟨lim.keeps x.toInCall.keep, codeAny_func ?_⟩
  obtain ⟨t, ht, hq⟩ := hb cdv A out s H vs Q E hgd (hr.deeper _) hsp
  have I := inv_start (CX := CX) (E := E) (qual := qual) (f := f) (cd := cdv) (N := N) S hr.hd e0 (ar _ _ _ _ hsp) rv x
  apply wpAny_mono (ht.run [] s1 (start N vs) H _ I hq)
  · intro fl s' hs
    cases fl with
    | ret u => obtain ⟨v, σ', H', J, rv', q⟩ := hs; exact ⟨v, H', J.os, J.bare, J.base, J.hok, rv', q⟩
    | next => obtain ⟨σ', H', J, q⟩ := hs; exact ⟨.non, H', J.os, J.bare, J.base, J.hok, rfl, q⟩
    | brk => obtain ⟨_, _, _, q⟩ := hs; exact q.elim
    | cont => obtain ⟨_, _, _, q⟩ := hs; exact q.elim
  · intro e s' hs; exact hs
end guarded

section calls
variable {X : Cx} {CX : CXT} {k : Nat} {f : Addr} {fd : FuncData} {ps ks : List Str} {sp : Sp}
  {dvs : List V} {ds : List Value} {E : XK} {x : Str} {p pos : Pos} {e : Expr} {es : List Expr} {t tk : TA} {kws : List Keyword}
/-- a guarded callee runs -/
theorem run_G {pins : List (Addr × Obj)} {σ : L2.St} {H : Hp} {s : Shared} {Q : VK} {us : List Value} {vs : List V}
    (F : FnG X.prog X.w X.K X.mg X.base CX k f fd ps sp) (hgd : X.A.guards = some []) (hr : Room k X.A)
    (hb : Binds X.K fd ps ds) (hd : Vals dvs ds) (hx : Passes CX X E)
    (I : Inv X pins σ H s) (r : Vals vs us) (h : sp (vs ++ dvs) H Q E) :
    wpAny (model X.prog X.w) X.A (call (.ref f) us) (EP X pins σ Q) X.xe s := by
  have r2 : Vals (vs ++ dvs) (us ++ ds) := r.append hd
  have hl : (us ++ ds).length = ps.length := r2.length ▸ F.arity _ _ _ _ h
  have run := F.go X.A X.stack s H ⟨us, []⟩ (us ++ ds) (vs ++ dvs) Q E hgd hr I.env0 (hb s us I.kIn hl) r2 h
  apply wpAny_call
  apply codeAny_mono run
  intro r s' hq
  match r, hq with
  | .error e, hq => exact hx pins σ H s e s' I hq
  | .ok (.ret u), hq => exact I.after hq
theorem pe_callG (F : FnG X.prog X.w X.K X.mg X.base CX k f fd ps sp) (hgd : X.A.guards = some []) (hr : Room k X.A)
    (hg : Gl X x) (hm : X.mg x = some (.ref f)) (hk : PySem.W.keepIn X.K (.ref f) = true)
    (hb : Binds X.K fd ps ds) (hd : Vals dvs ds) (hx : Passes CX X E) (ha : PA X (e :: es) t)
    (hdb : (x == ("__debug__" : Str)) = false := by decide)
    (he : starEach (e :: es) X.env = (false, eval e X.env) :: starEach es X.env := by rfl)
    (hpl : (backTo pos (starEach es X.env)).any (·.1) = false := by rfl) :
    PE X (.Call (.Name x p) (e :: es) [] pos) (tCall sp dvs E t) := by
  constructor
  intro pins s σ H Q I h
  apply wpAny_Call_Name_kw
  refine ld_glob I hg hm ?_ hdb
  refine PySem.W.callWith_K (h₀ := X.base) I.ok.mod.kin hk ?_ he hpl
  exact thn (ha.run pos pins s σ H _ I h) fun us s1 ⟨vs, H1, I1, r, q⟩ => ⟨I1.kIn, run_G F hgd hr hb hd hx I1 r q⟩
/-- f(k = v, ..), nothing by position: the values in the order of the call -/
theorem pe_callK0 {g : List Value → List Value → List Value} {gV : List V → List V → List V}
    (F : FnOk X.prog X.w X.K X.mg X.base CX k f fd ps sp) (hr : Room k X.A)
    (hg : Gl X x) (hm : X.mg x = some (.ref f)) (hk : PySem.W.keepIn X.K (.ref f) = true)
    (hb : KBinds X.K fd ps ks g gV) (hx : Passes CX X E) (hkw : PK X kws tk)
    (hall : (backToKw pos (keywordEach kws X.env)).all (·.1.isSome) = true := by rfl)
    (hks : (backToKw pos (keywordEach kws X.env)).filterMap (·.1) = ks := by rfl)
    (hdb : (x == ("__debug__" : Str)) = false := by decide)
    (hpl : ((backTo pos (starEach [] X.env)).any (·.1) || (backToKw pos (keywordEach kws X.env)).any (·.1.isNone)) = false := by rfl) :
    PE X (.Call (.Name x p) [] kws pos) (fun σ H Q => tk σ H fun zs H2 => sp (gV [] zs) H2 Q E) := by
  constructor
  intro pins s σ H Q I h
  apply wpAny_Call_Name_kw
  refine ld_glob I hg hm ?_ hdb
  refine PySem.W.callWith_KW0 (h₀ := X.base) I.ok.mod.kin hk hall ?_ hpl
  refine thn (hkw.run pos pins s σ H _ I h) fun ws s2 ⟨zs, H2, I2, rz, q2⟩ => ⟨I2.kIn, ?_⟩
  rw [hks]
  exact run_fnk (us := []) (vs := []) F hr hb hx I2 .nil rz q2
end calls

/-! ### repr of data -/
section
variable {X : Cx}
def rRepr (K : PySem.W.Frag) : List V → Hp → VK → Prop := fun vs H Q => ∃ a d, vs = [.ref a] ∧ Dp K H (.ref a) d ∧
  d.showable = true ∧ d.hasDict = false ∧ d.depth ≤ 60 ∧ d.shown.length ≤ sizeLine ∧ Q (.str d.shown) H
theorem cr_repr (hgd : X.A.guards = some []) (hu : X.A.units + 64 < cLine) : CallR X (.builtin "repr") (rRepr X.K) := by
  intro pins s σ H vs us Q I r h
  obtain ⟨a, d, rfl, hd, h1, h2, h3, h4, q⟩ := h
  cases r with
  | cons r1 r2 =>
    cases r2
    obtain rfl := (show _ = Value.ref a from r1)
    obtain ⟨as, rd⟩ := Dp.reads I d _ _ hd rfl
    refine repr_of_reads' (h₀ := s.heap) rd h1 (fun q => absurd q (by rw [h2]; decide)) hgd (by omega) (fun b o e => e) (fun h' u tk kp => ?_) h4
    exact ⟨.str d.shown, H, I.kept kp, ⟨_, rfl⟩, q⟩
end
end Ly
namespace Ly
open PySem PySem.Spec PyProof.Rows L2
section
variable {X : Cx}
/-! ### sum, min, max of a tuple of ints; isqrt, lcm -/
def rSumT (K : PySem.W.Frag) : List V → Hp → VK → Prop := fun vs H Q => ∃ (a : Addr) (ns : List Int), vs = [V.ref a] ∧ SqT K H a (ns.map V.int) ∧ Q (.int ns.sum) H
theorem sum_tup {prog : Program} {w : World} {A : Around} {E : Value → Shared → Prop} {s : Shared} {l : Addr} {its : List Value} {ns : List Int} {Q : Value → Shared → Prop}
    (hh : A.handled = none) (hl : s.heap.IsTuple l its.toArray) (hi : IntsAre its ns)
    (h : ∀ h' tk t', (∀ b o, s.heap.get? b = some o → h'.get? b = some o) → Q (.int ns.sum t') { s with heap := h', toks := tk }) :
    wpAny (model prog w) A (call (.builtin "sum") [.ref l]) Q E s := by
  obtain ⟨xs, e⟩ := hi.allInts.items
  have hn : numsOf (intItems xs).toList = ns := by rw [← e]; exact hi.numsOf
  rw [nums_intItems] at hn
  rw [e] at hl
  have hlt : l < s.heap.objs.size := by obtain ⟨_, e1, _⟩ := hl; exact Heap.lt_size e1
  refine call_sum_walkG (wpAny_pyIter_tuple hl ?_)
  refine ⟨_, _, _, _, _, _, numAt xs, rfl, Walks.tuple (A := A.in1) hh _ l (Nat.ne_of_lt hlt) (intItems xs),
    ⟨⟨_, Heap.get?_push_size _ rfl, rfl, rfl⟩, hl.push _⟩, ?_, (fun _ _ => intItems_at), ?_⟩
  · intro b hb
    show b < (s.heap.push _).objs.size
    rw [Heap.size_push]
    simp only [List.mem_cons, List.not_mem_nil, or_false] at hb
    rcases hb with rfl | rfl
    · exact Nat.lt_succ_self _
    · exact Nat.lt_succ_of_lt hlt
  · intro h' tk t' hk
    have z := h h' tk t' fun b o eb => hk b o (by
      simp only [List.mem_cons, List.not_mem_nil, or_false]
      exact Nat.ne_of_lt (Heap.lt_size eb)) (Heap.get?_push_of_some _ eb)
    have sz : (intItems xs).size = xs.size := by simp [intItems]
    rw [sz, preSum_eq, List.take_of_length_le (by simp), hn]
    exact z
theorem cr_sumT (hc : X.calm = true) : CallR X (.builtin "sum") (rSumT X.K) := by
  intro pins s σ H vs us Q I r h
  obtain ⟨a, ns, rfl, hs, q⟩ := h
  obtain ⟨its, rv, hl, _⟩ := I.tuple hs
  rw [Vals.ref1 r]
  exact sum_tup (I.ok.hd hc) hl rv.ints fun h' tk t' hk => ⟨.int _, H, I.kept hk, ⟨_, rfl⟩, q⟩

def rMinT (K : PySem.W.Frag) : List V → Hp → VK → Prop := fun vs H Q => ∃ (a : Addr) (n : Int) (ns : List Int), vs = [V.ref a] ∧ SqT K H a ((n :: ns).map V.int) ∧ Q (.int (ns.foldl min n)) H
def rMaxT (K : PySem.W.Frag) : List V → Hp → VK → Prop := fun vs H Q => ∃ (a : Addr) (n : Int) (ns : List Int), vs = [V.ref a] ∧ SqT K H a ((n :: ns).map V.int) ∧ Q (.int (ns.foldl max n)) H
theorem readsAll_ints : ∀ {h : Heap} {its : List Value} {ns : List Int}, IntsAre its ns → ∃ as, ReadsAll h its (ns.map PyData.int) as
  | _, _, _, .nil => ⟨_, .nil⟩
  | h, _, _, .cons n t r => by
    obtain ⟨as, q⟩ := readsAll_ints (h := h) r
    exact ⟨_, .cons (.int n t) q⟩
theorem alike_ints (ns : List Int) : PySem.W.AlikeAll (ns.map PyData.int) := by
  constructor
  · intro x hx y hy
    obtain ⟨i, _, rfl⟩ := List.mem_map.mp hx
    obtain ⟨j, _, rfl⟩ := List.mem_map.mp hy
    simp only [PySem.W.alike]
  · intro x hx
    obtain ⟨i, _, rfl⟩ := List.mem_map.mp hx
    intro e; cases e
theorem depth_ints : ∀ ns : List Int, PyData.depthAll (ns.map PyData.int) ≤ 1
  | [] => by simp [PyData.depthAll]
  | n :: r => by
    have := depth_ints r
    simp only [List.map_cons, PyData.depthAll, PyData.depth]
    omega
theorem cr_minT (hc : X.calm = true) (hu : X.A.units + 64 < cLine) : CallR X (.builtin "min") (rMinT X.K) := by
  intro pins s σ H vs us Q I r h
  obtain ⟨a, n, ns, rfl, hs, q⟩ := h
  obtain ⟨its, rv, hl, _⟩ := I.tuple hs
  rw [Vals.ref1 r]
  obtain ⟨as, rd⟩ := readsAll_ints (h := s.heap) rv.ints
  refine PySem.W.min_tuple_data (x := .int n) (xs := ns.map .int) (I.ok.hd hc) hl (by simpa using rd) (alike_ints (n :: ns)) (by have := depth_ints (n :: ns); simp only [List.map_cons] at this; omega) ?_
  intro i v h' tk bs hv rd' hk
  rw [PySem.W.minD_ints] at rd'
  cases rd' with
  | int _ t => exact ⟨.int _, H, I.kept hk, ⟨_, rfl⟩, q⟩
theorem cr_maxT (hc : X.calm = true) (hu : X.A.units + 64 < cLine) : CallR X (.builtin "max") (rMaxT X.K) := by
  intro pins s σ H vs us Q I r h
  obtain ⟨a, n, ns, rfl, hs, q⟩ := h
  obtain ⟨its, rv, hl, _⟩ := I.tuple hs
  rw [Vals.ref1 r]
  obtain ⟨as, rd⟩ := readsAll_ints (h := s.heap) rv.ints
  refine PySem.W.max_tuple_data (x := .int n) (xs := ns.map .int) (I.ok.hd hc) hl (by simpa using rd) (alike_ints (n :: ns)) (by have := depth_ints (n :: ns); simp only [List.map_cons] at this; omega) ?_
  intro i v h' tk bs hv rd' hk
  rw [PySem.W.maxD_ints] at rd'
  cases rd' with
  | int _ t => exact ⟨.int _, H, I.kept hk, ⟨_, rfl⟩, q⟩
theorem cr_isqrt : CallR X (.builtin "math.isqrt") (fun vs H Q => ∃ a : Int, vs = [.int a] ∧ 0 ≤ a ∧ a < 2 ^ 64 ∧ Q (.int ((PySem.Float64.isqrt a.toNat : Nat) : Int)) H) := by
  intro pins s σ H vs us Q I r h
  obtain ⟨a, rfl, h0, h1, q⟩ := h
  cases r with
  | cons r1 r2 =>
    cases r2
    obtain ⟨t, rfl⟩ := r1
    exact PySem.W.mg_isqrt h0 h1 ⟨.int _, H, I.tok _, ⟨_, rfl⟩, q⟩
theorem cr_lcm : CallR X (.builtin "math.lcm") (fun vs H Q => ∃ a b : Int, vs = [.int a, .int b] ∧ a.natAbs < 2 ^ 64 ∧ b.natAbs < 2 ^ 64 ∧ Q (.int ((a.natAbs.lcm b.natAbs : Nat) : Int)) H) := by
  intro pins s σ H vs us Q I r h
  obtain ⟨a, b, rfl, h0, h1, q⟩ := h
  obtain ⟨t, u, rfl⟩ := Vals.int2 r
  exact PySem.W.mc_lcm h0 h1 fun _ => ⟨.int _, H, I.tok _, ⟨_, rfl⟩, q⟩
end
end Ly

namespace Ly
open PySem PySem.Spec PyProof.Rows L2
/-! the end of a law whose own def is a guarded one -/
section
variable {P : Program} {w : World} {K : PySem.W.Frag} {mg mb : Str → Option Value} {k : Nat} {fa a : Addr} {fd : FuncData} {x : Str} {sp : Sp} {s₁ : Shared} {vs : List Value} {ns : List Int}
/-- what is wanted of the law's call -/
def LawR (s₁ : Shared) (r : Result) (s' : Shared) : Prop :=
  r = .ok (.ret (.bool true)) ∧ OldK s₁.heap s'.heap ∧ s'.os = s₁.os ∧ AllBare s'.gens
theorem lawG_from (H : Hp) (KX : K.In s₁.heap) (hns : s₁.heap.Ns mainGlobals mg) (hb : s₁.heap.Ns builtinsNs mb)
    (hbb : ∀ x : Str, x ≠ "__name__" → mb x = bootBuiltins x) (hlim : s₁.heap.NoLimit) (hg : s₁.gens = #[])
    (ha : s₁.heap.get? a = some { cls := .type "list", data := .seq vs.toArray }) (hr : Room k callerA)
    (F : ∀ base : Heap, K.In base → base.Ns mainGlobals mg → FnG P w K mg base CX0 k fa fd [x] sp)
    (hbind : ∀ (s : Shared) (u : Value), BindsTo s fd ⟨[u], []⟩ [(x, u)])
    (hO : Only H) (hok : HOk P w H s₁.heap) (hA : ∀ b, H b ≠ none → b = a) (hK : H a ≠ none → K.lookup a = none)
    (hsp : sp [.ref a] H (fun v _ => v = .bl true) fun _ _ _ => False) :
    codeAny (model P w) callerA (.call (.ref fa) ⟨[.ref a], []⟩) (LawR s₁) s₁ := by
  -- what stands at an address that is not tracked stands in the ground
  have only : ∀ b o, s₁.heap.get? b = some o → (∀ xs n, b = a → o.data ≠ Data.seq xs n) → H b = none := by
    intro b o e d
    cases q : H b with
    | none => rfl
    | some u =>
      exfalso
      have e' := hA b (by rw [q]; exact Option.some_ne_none u)
      have ha' := ha
      rw [← e', e] at ha'
      exact d _ _ e' (by rw [Option.some.inj ha'])
  have nsG : ∀ {b : Addr} {m : Str → Option Value}, s₁.heap.Ns b m → (hidT s₁.heap H).Ns b m := by
    rintro b m ⟨o, es, ep, e, d, r⟩
    refine ⟨o, es, ep, hidT_get e (only b o e fun xs n _ z => ?_), d, r⟩
    rw [d] at z
    cases z
  have kG : K.In (hidT s₁.heap H) := by
    intro b o e
    refine hidT_get (KX b o e) ?_
    cases q : H b with
    | none => rfl
    | some u =>
      exfalso
      have e' := hA b (by rw [q]; exact Option.some_ne_none u)
      subst e'
      have z := hK (by rw [q]; exact Option.some_ne_none u)
      rw [z] at e
      cases e
  obtain ⟨mc, l1, l2⟩ := hlim
  have M : Mod K mg (hidT s₁.heap H) := ⟨kG, nsG hns, ⟨mb, nsG hb, hbb⟩, ⟨mc, nsG l1, l2⟩⟩
  have E0' : Env0 P w K mg (hidT s₁.heap H) callerA [] s₁ H :=
    ⟨rfl, M, fun b o e => of_hidT e, Nat.le_of_eq (hidT_size _ _), trivial, (fun b hb => by cases hb), hok, .of_eq hg⟩
  have run := (F _ kG (nsG hns)).go callerA [] s₁ H ⟨[.ref a], []⟩ [.ref a] [.ref a] _ _ rfl hr E0' (hbind s₁ (.ref a)) (.cons rfl .nil) hsp
  apply codeAny_mono run
  intro r s' h
  match r, h with
  | .error e, h => exact False.elim h
  | .ok (.ret u), ⟨v, H', os, bare, un, hok', r', q⟩ =>
    have q' : v = V.bl true := q
    subst q'
    have r2 : u = Value.bool true := r'
    subst r2
    refine ⟨rfl, OldK.of_keep ?_, os, bare⟩
    intro b o e
    cases q : H b with
    | none => exact un.keep b o e q (fun z => by cases z) (fun z => by cases z)
    | some u =>
      obtain z | ⟨ob, xs, z⟩ := hO b
      · rw [z] at q; cases q
      · obtain ⟨e1, _⟩ := hok b _ z
        obtain ⟨e2, _⟩ := hok' b _ (un.frzs b ob _ z)
        rw [e1] at e
        rw [e2, e]
theorem law_callG (KX : K.In s₁.heap) (hns : s₁.heap.Ns mainGlobals mg) (hb : s₁.heap.Ns builtinsNs mb)
    (hbb : ∀ x : Str, x ≠ "__name__" → mb x = bootBuiltins x) (hlim : s₁.heap.NoLimit) (hg : s₁.gens = #[])
    (ha : s₁.heap.get? a = some { cls := .type "list", data := .seq vs.toArray }) (hi : IntsAre vs ns) (hl : ns.length ≤ sizeLine) (hr : Room k callerA)
    (F : ∀ base : Heap, K.In base → base.Ns mainGlobals mg → FnG P w K mg base CX0 k fa fd [x] sp)
    (hbind : ∀ (s : Shared) (u : Value), BindsTo s fd ⟨[u], []⟩ [(x, u)])
    (hsp : ∀ H : Hp, Only H → SqL K H a (ns.map V.int) → sp [.ref a] H (fun v _ => v = .bl true) fun _ _ _ => False) :
    codeAny (model P w) callerA (.call (.ref fa) ⟨[.ref a], []⟩) (LawR s₁) s₁ := by
  have rv := vals_ints hi
  have len : vs.toArray.size ≤ sizeLine := by rw [List.size_toArray, hi.length]; exact hl
  by_cases hk : K.lookup a = none
  · have eq_a : ∀ b : Addr, ¬ b = a → (fun b : Addr => if b = a then some (HO.frz { cls := .type "list", data := .seq vs.toArray } (.lst (ns.map V.int))) else none) b = none := fun b hb => if_neg hb
    have at_a : (fun b : Addr => if b = a then some (HO.frz { cls := .type "list", data := .seq vs.toArray } (.lst (ns.map V.int))) else none) a = some (HO.frz { cls := .type "list", data := .seq vs.toArray } (.lst (ns.map V.int))) := if_pos rfl
    have O : Only (fun b : Addr => if b = a then some (HO.frz { cls := .type "list", data := .seq vs.toArray } (.lst (ns.map V.int))) else none) := by
      intro b
      by_cases hb : b = a
      · exact .inr ⟨_, _, if_pos hb⟩
      · exact .inl (if_neg hb)
    refine lawG_from _ KX hns hb hbb hlim hg ha hr F hbind O ?_ ?_ (fun _ => hk) (hsp _ O (.inl (.inr ⟨_, at_a⟩)))
    · intro b u z
      by_cases hb : b = a
      · subst hb
        rw [at_a] at z
        cases z
        exact ⟨ha, by rw [List.length_map]; exact hl, vs, _, rv, ha⟩
      · rw [eq_a b hb] at z
        cases z
    · intro b z
      by_cases hb : b = a
      · exact hb
      · exact absurd (eq_a b hb) z
  · obtain ⟨o, ho⟩ := Option.ne_none_iff_exists'.mp hk
    have e := KX a o ho
    rw [ha] at e
    cases e
    have O : Only (fun _ => none) := fun _ => .inl rfl
    refine lawG_from (fun _ => none) KX hns hb hbb hlim hg ha hr F hbind O ?_ (fun b z => absurd rfl z) (fun z => absurd rfl z) (hsp _ O (.inr ⟨_, vs.toArray, _, ho, rfl, rfl, rfl, len, by simpa using rv⟩))
    intro b u z
    cases z
end
/-- the end of a law over a head by facts -/
theorem walk_ofG {l : PySem.W.OpenLaw} {n k : Nat} {q : Program} {loose : List Str} {XP : (Str → Option Value) → Heap → Prop} {YP : World → Heap → Prop} {d : DefRec} {x : Str}
    (hn : l.most = some n) (hn2 : n ≤ sizeLine) (hdf : d.params.defaults = []) (hr : Room k callerA)
    (F : ∀ (w : World) (mg : Str → Option Value) (fa : Addr) (h : Heap), YP w h → h.Ns mainGlobals mg → mg d.name = some (.ref fa) →
      ∃ (K : PySem.W.Frag) (fd : FuncData) (sp : Sp), K.In h ∧ (∀ (s : Shared) (u : Value), BindsTo s fd ⟨[u], []⟩ [(x, u)]) ∧
        (∀ (H : Hp) (a : Addr) (ns : List Int), ns.length ≤ n → Only H → SqL K H a (ns.map V.int) → sp [.ref a] H (fun v _ => v = .bl true) fun _ _ _ => False) ∧
        ∀ base : Heap, K.In base → base.Ns mainGlobals mg → FnG l.prog w K mg base CX0 k fa fd [x] sp) :
    PySem.W.WalkO q loose XP YP l.row.toRowW d [] (fun f vs => PySem.call f vs) := by
  apply Att.attach_call hn hdf
  intro w s₀ s₁ mg mb fa o pm cd doc a vs ns G Y ho hd hcd hmg hobj hints hlen hg
  obtain ⟨K, fd, sp, KX, hb, hsp, hF⟩ := F w mg fa _ Y G.T.g hmg
  exact law_callG KX G.T.g G.T.b G.T.builtins G.T.nolimit hg hobj hints (Nat.le_trans hlen hn2) hr hF hb fun H hO hS => hsp H a ns hlen hO hS
end Ly

namespace Ly
open PySem PySem.Spec PyProof.Rows L2
def dOf (x : Str) (st : Stmt) : He.DefD := ⟨(x, none), x, x, defArgs st, defBody st, defScope st, [], []⟩
abbrev FnP (K : PySem.W.Frag) (x : Str) (st : Stmt) (f : Addr) (fd : FuncData) : Prop :=
  FunD K x x (defArgs st) (defBody st) (defScope st) [] [] f fd
theorem saysD_of {fa : List He.Fa} {fn : List He.DefD} {ex : PySem.W.Frag → Bool} {w : World} {h : Heap} {K : PySem.W.Frag}
    (c : He.SaysX fa fn [] [] ex w h K) : He.SaysD fa fn K := c.t.d
/-- a def of the module -/
def Def_ (K : PySem.W.Frag) (mg : Str → Option Value) (x : Str) (st : Stmt) (ps : List Str) : Prop :=
  ∃ f fd, FnP K x st f fd ∧ Binds K fd ps [] ∧ (∀ (s : Shared) (us : List Value), us.length = ps.length → BindsTo s fd ⟨us, []⟩ (ps.zip us)) ∧ mg x = some (.ref f)
/-- .. that keeps a promise -/
structure Ca (P : Program) (w : World) (K : PySem.W.Frag) (mg : Str → Option Value) (base : Heap) (k : Nat) (x : Str) (st : Stmt) (ps : List Str) (sp : Sp) : Prop where
  ex : ∃ f fd, FnOk P w K mg base CX0 k f fd ps sp ∧ FnP K x st f fd ∧ Binds K fd ps [] ∧ mg x = some (.ref f)
structure CaG (P : Program) (w : World) (K : PySem.W.Frag) (mg : Str → Option Value) (base : Heap) (k : Nat) (x : Str) (st : Stmt) (ps : List Str) (sp : Sp) : Prop where
  ex : ∃ f fd, FnG P w K mg base CX0 k f fd ps sp ∧ FnP K x st f fd ∧ Binds K fd ps [] ∧ (∀ (s : Shared) (us : List Value), us.length = ps.length → BindsTo s fd ⟨us, []⟩ (ps.zip us)) ∧ mg x = some (.ref f)
section
variable {P : Program} {w : World} {K : PySem.W.Frag} {mg : Str → Option Value} {base : Heap}
theorem Ca.of {x : Str} {st : Stmt} {N ps : List Str} {k : Nat} {sp : Sp} (D : Def_ K mg x st ps) (S : FnScope N ps (defScope st))
    (len : ∀ vs H Q E, sp vs H Q E → vs.length = ps.length)
    (hb : ∀ (f : Addr) (cdv : Value) (A : Around) (out : List Env) (s : Shared) (H : Hp) (vs : List V) (Q : VK) (E : XK),
      Room k (A.deeper (envOfC x (defScope st) s.heap.objs.size f cdv)) → sp vs H Q E →
      ∃ t, PSs (cxOf CX0 P w K mg base N x (defScope st) f cdv A out s H E).nox (defBody st) t ∧
        t { nx := fun _ H' => Q .non H', rt := Q } (start N vs) H) :
    Ca P w K mg base (k + 1) x st ps sp := by
  obtain ⟨f, fd, F, B, _, g⟩ := D
  refine ⟨f, fd, F.ok S len ?_, F, B, g⟩
  intro cdv A out s H vs Q E hr h
  obtain ⟨t, h1, h2⟩ := hb f cdv A out s H vs Q E hr h
  exact ⟨t, h1.nox, h2⟩
theorem CaG.of {x : Str} {st : Stmt} {N ps : List Str} {k : Nat} {sp : Sp} (D : Def_ K mg x st ps) (S : FnScope N ps (defScope st))
    (len : ∀ vs H Q E, sp vs H Q E → vs.length = ps.length)
    (hb : ∀ (f : Addr) (cdv : Value) (A : Around) (out : List Env) (s : Shared) (H : Hp) (vs : List V) (Q : VK) (E : XK),
      A.guards = some [] → Room k (A.deeper (envOfC x (defScope st) s.heap.objs.size f cdv)) → sp vs H Q E →
      ∃ t, PSs (cxOf CX0 P w K mg base N x (defScope st) f cdv A out s H E).nox (defBody st) t ∧
        t { nx := fun _ H' => Q .non H', rt := Q } (start N vs) H) :
    CaG P w K mg base (k + 1) x st ps sp := by
  obtain ⟨f, fd, F, B, B2, g⟩ := D
  refine ⟨f, fd, fnG_of F S len ?_, F, B, B2, g⟩
  intro cdv A out s H vs Q E hgd hr h
  obtain ⟨t, h1, h2⟩ := hb f cdv A out s H vs Q E hgd hr h
  exact ⟨t, h1.nox, h2⟩
end
section
variable {X : Cx} {k j : Nat} {st : Stmt} {ps : List Str} {sp : Sp} {x : Str} {p pos : Pos} {e : Expr} {es : List Expr} {t tk : TA} {kws : List Keyword}
theorem pe_ca (c : Ca X.prog X.w X.K X.mg X.base k x st ps sp) (hr : Room j X.A) (ha : PA X (e :: es) t) (hg : Gl X x := by rfl) (hj : k ≤ j := by decide)
    (hdb : (x == ("__debug__" : Str)) = false := by decide)
    (he : starEach (e :: es) X.env = (false, eval e X.env) :: starEach es X.env := by rfl)
    (hpl : (backTo pos (starEach es X.env)).any (·.1) = false := by rfl) :
    PE X (.Call (.Name x p) (e :: es) [] pos) (tCall sp [] E0 t) := by
  obtain ⟨f, fd, F, D, B, g⟩ := c.ex
  exact pe_call F (hr.mono hj) hg g D.kp B .nil pass0 ha hdb he hpl
theorem pe_caG (c : CaG X.prog X.w X.K X.mg X.base k x st ps sp) (hgd : X.A.guards = some []) (hr : Room j X.A) (ha : PA X (e :: es) t) (hg : Gl X x := by rfl) (hj : k ≤ j := by decide)
    (hdb : (x == ("__debug__" : Str)) = false := by decide)
    (he : starEach (e :: es) X.env = (false, eval e X.env) :: starEach es X.env := by rfl)
    (hpl : (backTo pos (starEach es X.env)).any (·.1) = false := by rfl) :
    PE X (.Call (.Name x p) (e :: es) [] pos) (tCall sp [] E0 t) := by
  obtain ⟨f, fd, F, D, B, _, g⟩ := c.ex
  exact pe_callG F hgd (hr.mono hj) hg g D.kp B .nil pass0 ha hdb he hpl
end
/-! heaps -/
/-- all but the lists and dicts is kept -/
def Kp (H H' : Hp) : Prop := ∀ b o, H b = some o → (∀ xs, o ≠ .lst xs) → (∀ kvs, o ≠ .dK kvs) → H' b = some o
theorem Same.kp {H H' : Hp} (s : Same H H') : Kp H H' := fun b o e _ _ => s b o e
theorem Kp.refl (H : Hp) : Kp H H := fun _ _ e _ _ => e
theorem Kp.trans {H H1 H2 : Hp} (a : Kp H H1) (b : Kp H1 H2) : Kp H H2 := fun c o e h1 h2 => b c o (a c o e h1 h2) h1 h2
theorem SqT.same {K : PySem.W.Frag} {H H' : Hp} {a : Addr} {xs : List V} (s : Same H H') (h : SqT K H a xs) : SqT K H' a xs := by
  rcases h with (h | ⟨o, h⟩) | h
  · exact .inl (.inl (s _ _ h))
  · exact .inl (.inr ⟨o, s _ _ h⟩)
  · exact .inr h
theorem SqT.kp {K : PySem.W.Frag} {H H' : Hp} {a : Addr} {xs : List V} (s : Kp H H') (h : SqT K H a xs) : SqT K H' a xs := by
  rcases h with (h | ⟨o, h⟩) | h
  · exact .inl (.inl (s _ _ h (fun _ q => nomatch q) (fun _ q => nomatch q)))
  · exact .inl (.inr ⟨o, s _ _ h (fun _ q => nomatch q) (fun _ q => nomatch q)⟩)
  · exact .inr h
theorem same_new {H : Hp} {p : Addr} {o : HO} (h : H p = none) : Same H (upd H p o) := fun b x e => by
  rw [upd_ne (ne_of_none e h)]
  exact e
theorem sqT_new {K : PySem.W.Frag} {H : Hp} {p : Addr} {xs : List V} : SqT K (upd H p (.tup xs)) p xs := .inl (.inl upd_same)
theorem sqL_new {K : PySem.W.Frag} {H : Hp} {p : Addr} {xs : List V} : SqL K (upd H p (.lst xs)) p xs := .inl (.inl upd_same)
/-- nothing that was tracked ahead of a new place is lost when that place is written -/
theorem same_write {H0 H : Hp} {p : Addr} {o : HO} (h0 : H0 p = none) (s : Same H0 H) : Same H0 (upd H p o) := fun b x e => by
  rw [upd_ne (ne_of_none e h0)]
  exact s b x e
end Ly
namespace Ly
open PySem PySem.Spec PyProof.Rows L2
section
variable {X : Cx} {x : Str} {pos : Pos}
theorem pe_globI {i : Int} (h : ∃ t, X.mg x = some (.int i t)) (hg : Gl X x := by rfl) (hd : (x == ("__debug__" : Str)) = false := by decide) : PE X (.Name x pos) (tC (.int i)) := by
  obtain ⟨t, h⟩ := h
  exact pe_glob hg h ⟨t, rfl⟩ hd
theorem tyx_int {K : PySem.W.Frag} {H : Hp} {i : Int} : TyX K H (.int i) (.type "int") := .base (.int _)
theorem tyx_tup {K : PySem.W.Frag} {H : Hp} {a : Addr} {xs : List V} (h : SqT K H a xs) : TyX K H (.ref a) (.type "tuple") := by
  rcases h with (h | ⟨o, h⟩) | ⟨o, its, n, h, c, _⟩
  · exact .base (.tup h)
  · exact .fTuple h
  · exact .kTuple h c
end
end Ly

namespace Ly
open PySem PySem.Spec PyProof.Rows L2 Am
/-! dicts of ints by ints -/
/-- the dict's entries -/
def kd (L : List (Int × Int)) : List (Key × V) := L.map fun q => (Sum.inl q.1, V.int q.2)
/-- d[k] = v -/
def ip (L : List (Int × Int)) (k v : Int) : List (Int × Int) :=
  if (L.any fun q => decide (q.1 = k)) = true then L.map (fun q => if q.1 = k then (q.1, v) else q) else L ++ [(k, v)]
theorem kd_val (k : Int) : ∀ L : List (Int × Int), valV (kd L) (Sum.inl k) = (L.lookup k).map V.int
  | [] => rfl
  | q :: r => by
    rw [List.lookup_cons]
    by_cases h : q.1 = k
    · have h1 : (k == q.1) = true := by simp [h]
      rw [h1]
      exact valV_pos (p := ((Sum.inl q.1 : Key), V.int q.2)) (by rw [h])
    · have h1 : (k == q.1) = false := by simpa using fun z : k = q.1 => h z.symm
      rw [h1]
      exact (valV_neg (p := ((Sum.inl q.1 : Key), V.int q.2)) (fun z => h (Sum.inl.inj z))).trans (kd_val k r)
theorem kd_put (L : List (Int × Int)) (k v : Int) : putK (kd L) (Sum.inl k) (V.int v) = kd (ip L k v) := by
  have e : ((kd L).any fun kv => decide (kv.1 = Sum.inl k)) = L.any fun q => decide (q.1 = k) := by
    unfold kd
    rw [List.any_map]
    congr 1
    funext q
    show decide ((Sum.inl q.1 : Key) = Sum.inl k) = decide (q.1 = k)
    by_cases h : q.1 = k
    · rw [h]; simp
    · rw [decide_eq_false h, decide_eq_false (fun z => h (Sum.inl.inj z))]
  unfold putK ip
  rw [e]
  split
  · unfold kd
    rw [List.map_map, List.map_map]
    congr 1
    funext q
    show (if (Sum.inl q.1 : Key) = Sum.inl k then ((Sum.inl q.1 : Key), V.int v) else (Sum.inl q.1, V.int q.2)) = _
    show _ = ((Sum.inl (if q.1 = k then (q.1, v) else q).1 : Key), V.int (if q.1 = k then (q.1, v) else q).2)
    by_cases h : q.1 = k
    · rw [if_pos h, if_pos (by rw [h])]
    · rw [if_neg h, if_neg (fun z => h (Sum.inl.inj z))]
  · unfold kd
    rw [List.map_append]
    rfl
theorem lookup_append (k : Int) : ∀ (L M : List (Int × Int)), (L ++ M).lookup k = (L.lookup k).or (M.lookup k)
  | [], M => by simp
  | q :: r, M => by
    rw [List.cons_append, List.lookup_cons, List.lookup_cons]
    cases h : (k == q.1) with
    | true => rfl
    | false => exact lookup_append k r M
theorem lookup_none_iff (k : Int) : ∀ (L : List (Int × Int)), L.lookup k = none ↔ ∀ q ∈ L, q.1 ≠ k
  | [] => by simp
  | q :: r => by
    rw [List.lookup_cons]
    cases h : (k == q.1) with
    | true =>
      have : k = q.1 := by simpa using h
      simp [this]
    | false =>
      have h2 : q.1 ≠ k := by
        have : ¬ k = q.1 := by simpa using h
        exact fun z => this z.symm
      simp only [List.mem_cons, forall_eq_or_imp]
      exact ⟨fun z => ⟨h2, (lookup_none_iff k r).mp z⟩, fun z => (lookup_none_iff k r).mpr z.2⟩
theorem lookup_mapset (k v j : Int) : ∀ (L : List (Int × Int)), (L.map fun q => if q.1 = k then (q.1, v) else q).lookup j = if j = k then (L.lookup k).map (fun _ => v) else L.lookup j
  | [] => by simp
  | q :: r => by
    rw [List.map_cons, List.lookup_cons, List.lookup_cons, List.lookup_cons]
    by_cases h : q.1 = k
    · rw [if_pos h]
      by_cases hj : j = k
      · have e1 : (j == q.1) = true := by simp [h, hj]
        have e2 : (k == q.1) = true := by simp [h]
        simp only [hj, e2]
        simp
      · have e1 : (j == q.1) = false := by simpa using fun z : j = q.1 => hj (z.trans h)
        simp only [e1]
        rw [lookup_mapset k v j r, if_neg hj, if_neg hj]
    · rw [if_neg h]
      by_cases hj : j = k
      · subst hj
        have e2 : (j == q.1) = false := by simpa using fun z : j = q.1 => h z.symm
        simp only [e2]
        rw [lookup_mapset j v j r]; simp
      · rw [if_neg hj]
        cases e : (j == q.1) with
        | true => rfl
        | false => exact (lookup_mapset k v j r).trans (if_neg hj)
theorem ip_look (L : List (Int × Int)) (k v j : Int) : (ip L k v).lookup j = if j = k then some v else L.lookup j := by
  unfold ip
  split
  · rename_i h
    rw [lookup_mapset]
    by_cases hj : j = k
    · rw [if_pos hj, if_pos hj]
      cases e : L.lookup k with
      | some u => rfl
      | none =>
        obtain ⟨q, hq, z⟩ := List.any_eq_true.mp h
        exact absurd (of_decide_eq_true z) ((lookup_none_iff k L).mp e q hq)
    · rw [if_neg hj, if_neg hj]
  · rename_i h
    have hn : L.lookup k = none := (lookup_none_iff k L).mpr fun q hq z => h (List.any_eq_true.mpr ⟨q, hq, decide_eq_true z⟩)
    rw [lookup_append]
    by_cases hj : j = k
    · subst hj
      rw [hn, if_pos rfl]
      simp [List.lookup_cons]
    · rw [if_neg hj]
      have e1 : (j == k) = false := by simpa using hj
      simp [List.lookup_cons, e1]
theorem ip_nodup {L : List (Int × Int)} (k v : Int) (h : (L.map (·.1)).Nodup) : ((ip L k v).map (·.1)).Nodup := by
  unfold ip
  split
  · rw [List.map_map]
    have e : ((fun q : Int × Int => q.1) ∘ fun q => if q.1 = k then (q.1, v) else q) = fun q => q.1 := by
      funext q
      show (if q.1 = k then (q.1, v) else q).1 = q.1
      split <;> rfl
    rw [e]; exact h
  · rename_i hk
    rw [List.map_append, List.nodup_append]
    refine ⟨h, by simp, ?_⟩
    intro a ha b hb
    obtain ⟨q, hq, rfl⟩ := List.mem_map.mp ha
    have : b = k := by simpa using hb
    subst this
    exact fun z => hk (List.any_eq_true.mpr ⟨q, hq, decide_eq_true z⟩)
theorem ip_len (L : List (Int × Int)) (k v : Int) : (ip L k v).length ≤ L.length + 1 := by
  unfold ip; split
  · rw [List.length_map]; omega
  · rw [List.length_append]; simp
theorem ip_new {L : List (Int × Int)} {k v : Int} (h : L.lookup k = none) : ip L k v = L ++ [(k, v)] := by
  unfold ip
  rw [if_neg]
  intro z
  obtain ⟨q, hq, z⟩ := List.any_eq_true.mp z
  exact (lookup_none_iff k L).mp h q hq (of_decide_eq_true z)
theorem ip_keys {L : List (Int × Int)} {k v j : Int} (h : j ∈ (ip L k v).map (·.1)) : j = k ∨ j ∈ L.map (·.1) := by
  unfold ip at h
  split at h
  · rw [List.map_map] at h
    obtain ⟨q, hq, e⟩ := List.mem_map.mp h
    right
    refine List.mem_map.mpr ⟨q, hq, ?_⟩
    rw [← e]
    show q.1 = (if q.1 = k then (q.1, v) else q).1
    split <;> rfl
  · rw [List.map_append] at h
    rcases List.mem_append.mp h with h | h
    · exact .inr h
    · exact .inl (by simpa using h)
theorem ig_ip (L : List (Int × Int)) (k v j : Int) : ig (ip L k v) j = if j = k then v else ig L j := by
  unfold ig
  rw [ip_look]
  split <;> rfl
theorem kd_getD (L : List (Int × Int)) (k : Int) : (valV (kd L) (Sum.inl k)).getD (V.int 0) = V.int (ig L k) := by
  rw [kd_val]; unfold ig
  cases L.lookup k <;> rfl
/-! walks over a dict that is locked -/
section
variable {d : Addr} {o : Obj} {kvs : List (Key × V)}
theorem for_vals {g : TG} {tb : TS} {D : Ends} {σ : L2.St} {H : Hp} (Pv : Nat → L2.St → Hp → Prop) (h0 : Pv 0 σ H)
    (hl : ∀ i σ H, Pv i σ H → H d = some (.frz o (.dK kvs)))
    (hs : ∀ i k x σ H, kvs[i]? = some (k, x) → Pv i σ H → g x σ H fun σ2 H2 => tb { D with nx := Pv (i + 1), ct := Pv (i + 1), bk := D.nx } σ2 H2)
    (hd : ∀ σ H, Pv kvs.length σ H → D.nx σ H) :
    ∃ W : Nat → Nat → L2.St → Hp → Prop, (∃ m, W 0 m σ H) ∧ ∀ i m σ H, W i m σ H →
      ((Itd d o kvs).stop i H ∧ D.nx σ H) ∨ ((Itd d o kvs).go i H ∧ ∃ N : L2.St → Hp → Prop, (∀ σ' H', N σ' H' → ∃ m', m' < m ∧ W (i + 1) m' σ' H') ∧
        ∀ x H', (Itd d o kvs).yld i H x H' → g x σ H' fun σ2 H2 => tb { D with nx := N, ct := N, bk := D.nx } σ2 H2) := by
  refine ⟨fun i m σ H => m = kvs.length - i ∧ i ≤ kvs.length ∧ Pv i σ H, ⟨_, rfl, Nat.zero_le _, h0⟩, ?_⟩
  rintro i m σ H ⟨rfl, hi, p⟩
  by_cases lt : i < kvs.length
  · refine Or.inr ⟨⟨hl i σ H p, lt⟩, Pv (i + 1), fun σ' H' p' => ⟨kvs.length - (i + 1), by omega, rfl, lt, p'⟩, ?_⟩
    rintro x H' ⟨rfl, k, e⟩
    exact hs i k x σ _ e p
  · have e : i = kvs.length := by omega
    subst e
    exact Or.inl ⟨⟨hl _ σ H p, Nat.le_refl _⟩, hd σ H p⟩
theorem for_items {g : TG} {tb : TS} {D : Ends} {σ : L2.St} {H : Hp} (Pv : Nat → L2.St → Hp → Prop) (h0 : Pv 0 σ H)
    (hl : ∀ i σ H, Pv i σ H → H d = some (.frz o (.dK kvs)))
    (hs : ∀ i k x T σ H, kvs[i]? = some (k, x) → Pv i σ H → H T = none → g (.ref T) σ (upd H T (.tup [kV k, x])) fun σ2 H2 => tb { D with nx := Pv (i + 1), ct := Pv (i + 1), bk := D.nx } σ2 H2)
    (hd : ∀ σ H, Pv kvs.length σ H → D.nx σ H) :
    ∃ W : Nat → Nat → L2.St → Hp → Prop, (∃ m, W 0 m σ H) ∧ ∀ i m σ H, W i m σ H →
      ((Iti d o kvs).stop i H ∧ D.nx σ H) ∨ ((Iti d o kvs).go i H ∧ ∃ N : L2.St → Hp → Prop, (∀ σ' H', N σ' H' → ∃ m', m' < m ∧ W (i + 1) m' σ' H') ∧
        ∀ x H', (Iti d o kvs).yld i H x H' → g x σ H' fun σ2 H2 => tb { D with nx := N, ct := N, bk := D.nx } σ2 H2) := by
  refine ⟨fun i m σ H => m = kvs.length - i ∧ i ≤ kvs.length ∧ Pv i σ H, ⟨_, rfl, Nat.zero_le _, h0⟩, ?_⟩
  rintro i m σ H ⟨rfl, hi, p⟩
  by_cases lt : i < kvs.length
  · refine Or.inr ⟨⟨hl i σ H p, lt⟩, Pv (i + 1), fun σ' H' p' => ⟨kvs.length - (i + 1), by omega, rfl, lt, p'⟩, ?_⟩
    rintro x H' ⟨T, k, v, e, rfl, nT, rfl⟩
    exact hs i k v T σ H e p nT
  · have e : i = kvs.length := by omega
    subst e
    exact Or.inl ⟨⟨hl _ σ H p, Nat.le_refl _⟩, hd σ H p⟩
theorem lc_items {g : TG} {tt : TT} {te : TE} {vs : List Nat} {σ : L2.St} {H1 : Hp} {D : Addr} {Qd : Hp → Prop} (Pv : Nat → Hp → Prop) (h0 : Pv 0 (upd H1 D (.lst [])))
    (hl : ∀ i H, Pv i H → H d = some (.frz o (.dK kvs)))
    (hs : ∀ i k x T H, kvs[i]? = some (k, x) → Pv i H → H T = none → g (.ref T) (wipe σ vs) (upd H T (.tup [kV k, x])) fun σ2 H2 => wipe σ2 vs = wipe σ vs ∧ tt σ2 H2 fun b H3 =>
      if b = true then te σ2 H3 fun y H4 => ∃ acc, H4 D = some (.lst acc) ∧ acc.length < sizeLine ∧ Pv (i + 1) (upd H4 D (.lst (acc ++ [y]))) else Pv (i + 1) H3) (hd : ∀ H, Pv kvs.length H → Qd H) :
    ∃ W : Nat → Nat → Hp → Prop, (∃ m, W 0 m (upd H1 D (.lst []))) ∧ ∀ i m H, W i m H →
      ((Iti d o kvs).stop i H ∧ Qd H) ∨ ((Iti d o kvs).go i H ∧ ∃ Nx : Hp → Prop, (∀ H', Nx H' → ∃ m', m' < m ∧ W (i + 1) m' H') ∧ ∀ x H', (Iti d o kvs).yld i H x H' → g x (wipe σ vs) H' fun σ2 H2 => wipe σ2 vs = wipe σ vs ∧ tt σ2 H2 fun b H3 =>
        if b = true then te σ2 H3 fun y H4 => ∃ acc, H4 D = some (.lst acc) ∧ acc.length < sizeLine ∧ Nx (upd H4 D (.lst (acc ++ [y]))) else Nx H3) := by
  refine ⟨fun i m H => m = kvs.length - i ∧ i ≤ kvs.length ∧ Pv i H, ⟨_, rfl, Nat.zero_le _, h0⟩, ?_⟩
  rintro i m H ⟨rfl, hi, p⟩
  by_cases lt : i < kvs.length
  · refine Or.inr ⟨⟨hl i H p, lt⟩, Pv (i + 1), fun H' p' => ⟨kvs.length - (i + 1), by omega, rfl, lt, p'⟩, ?_⟩
    rintro x H' ⟨T, k, v, e, rfl, nT, rfl⟩
    exact hs i k v T H e p nT
  · have e : i = kvs.length := by omega
    subst e
    exact Or.inl ⟨⟨hl _ H p, Nat.le_refl _⟩, hd H p⟩
theorem lc_keys {g : TG} {tt : TT} {te : TE} {vs : List Nat} {σ : L2.St} {H1 : Hp} {D : Addr} {Qd : Hp → Prop} (Pv : Nat → Hp → Prop) (h0 : Pv 0 (upd H1 D (.lst [])))
    (hl : ∀ i H, Pv i H → H d = some (.frz o (.dK kvs)))
    (hs : ∀ i k x H, kvs[i]? = some (k, x) → Pv i H → g (kV k) (wipe σ vs) H fun σ2 H2 => wipe σ2 vs = wipe σ vs ∧ tt σ2 H2 fun b H3 =>
      if b = true then te σ2 H3 fun y H4 => ∃ acc, H4 D = some (.lst acc) ∧ acc.length < sizeLine ∧ Pv (i + 1) (upd H4 D (.lst (acc ++ [y]))) else Pv (i + 1) H3) (hd : ∀ H, Pv kvs.length H → Qd H) :
    ∃ W : Nat → Nat → Hp → Prop, (∃ m, W 0 m (upd H1 D (.lst []))) ∧ ∀ i m H, W i m H →
      ((Itk d o kvs).stop i H ∧ Qd H) ∨ ((Itk d o kvs).go i H ∧ ∃ Nx : Hp → Prop, (∀ H', Nx H' → ∃ m', m' < m ∧ W (i + 1) m' H') ∧ ∀ x H', (Itk d o kvs).yld i H x H' → g x (wipe σ vs) H' fun σ2 H2 => wipe σ2 vs = wipe σ vs ∧ tt σ2 H2 fun b H3 =>
        if b = true then te σ2 H3 fun y H4 => ∃ acc, H4 D = some (.lst acc) ∧ acc.length < sizeLine ∧ Nx (upd H4 D (.lst (acc ++ [y]))) else Nx H3) := by
  refine ⟨fun i m H => m = kvs.length - i ∧ i ≤ kvs.length ∧ Pv i H, ⟨_, rfl, Nat.zero_le _, h0⟩, ?_⟩
  rintro i m H ⟨rfl, hi, p⟩
  by_cases lt : i < kvs.length
  · refine Or.inr ⟨⟨hl i H p, lt⟩, Pv (i + 1), fun H' p' => ⟨kvs.length - (i + 1), by omega, rfl, lt, p'⟩, ?_⟩
    rintro x H' ⟨rfl, k, v, e, rfl⟩
    exact hs i k v _ e p
  · have e : i = kvs.length := by omega
    subst e
    exact Or.inl ⟨⟨hl _ H p, Nat.le_refl _⟩, hd H p⟩
end
/-! amounts as they stand -/
/-- the pairs of the parts -/
def PairsAt (K : PySem.W.Frag) (H : Hp) (rs : List Addr) (L : List (Int × Int)) : Prop := Paired (fun r q => SqT K H r [V.int q.1, V.int q.2]) rs L
def AmtAt (K : PySem.W.Frag) (H : Hp) (v : V) (d : Int) (L : List (Int × Int)) : Prop :=
  ∃ a b rs, v = V.ref a ∧ SqT K H a [.int d, .ref b] ∧ SqT K H b (rs.map V.ref) ∧ PairsAt K H rs L
theorem PairsAt.kp {K : PySem.W.Frag} {H H' : Hp} {rs : List Addr} {L : List (Int × Int)} (s : Kp H H') (h : PairsAt K H rs L) : PairsAt K H' rs L := Paired.mapP h fun _ _ q => SqT.kp s q
theorem AmtAt.kp {K : PySem.W.Frag} {H H' : Hp} {v : V} {d : Int} {L : List (Int × Int)} (s : Kp H H') (h : AmtAt K H v d L) : AmtAt K H' v d L := by
  obtain ⟨a, b, rs, e, h1, h2, h3⟩ := h
  exact ⟨a, b, rs, e, SqT.kp s h1, SqT.kp s h2, h3.kp s⟩
theorem AmtAt.same {K : PySem.W.Frag} {H H' : Hp} {v : V} {d : Int} {L : List (Int × Int)} (s : Same H H') (h : AmtAt K H v d L) : AmtAt K H' v d L := h.kp (Ly.Same.kp s)
theorem Paired.at' {α β : Type} {F : α → β → Prop} : ∀ {l₁ : List α} {l₂ : List β} {i : Nat} {x : α}, Paired F l₁ l₂ → l₁[i]? = some x → ∃ y, l₂[i]? = some y ∧ F x y
  | _, _, _, _, .nil, e => by simp at e
  | _, _, 0, _, .cons r _, e => by simp at e; subst e; exact ⟨_, rfl, r⟩
  | _, _, i + 1, x, .cons _ t, e => by
    obtain ⟨u, h1, h2⟩ := Paired.at' (i := i) (x := x) t (by simpa using e)
    exact ⟨u, by simpa using h1, h2⟩
/-- the data of an amount -/
def amtD (d : Int) (L : List (Int × Int)) : PyData := .tuple [.int d, .tuple (L.map fun q => .tuple [.int q.1, .int q.2])]
theorem pairs_dp {K : PySem.W.Frag} {H : Hp} : ∀ {rs : List Addr} {L : List (Int × Int)}, PairsAt K H rs L → DpAll K H (rs.map V.ref) (L.map fun q => .tuple [.int q.1, .int q.2])
  | _, _, .nil => .nil
  | _, _, .cons h t => .cons (.tup h (.cons (.int _) (.cons (.int _) .nil))) (pairs_dp t)
theorem AmtAt.dp {K : PySem.W.Frag} {H : Hp} {v : V} {d : Int} {L : List (Int × Int)} (h : AmtAt K H v d L) : Dp K H v (amtD d L) := by
  obtain ⟨a, b, rs, rfl, h1, h2, h3⟩ := h
  exact .tup h1 (.cons (.int _) (.cons (.tup h2 (pairs_dp h3)) .nil))
end Ly

namespace Ly
open PySem PySem.Spec PyProof.Rows L2
/-! rules whose reading names the written part, said with a name for it (within a comprehension's block) -/
section
variable {X : Cx} {K : PySem.W.Frag}
theorem ix_tupK (h : X.K = K := by rfl) : IxR X (rIxT K) := h ▸ ix_tup
theorem ix_listK (h : X.K = K := by rfl) : IxR X (rIxL K) := h ▸ ix_list
theorem call_len_seqK (h : X.K = K := by rfl) : CallR X (.builtin "len") (fun xs H Q => ∃ p ys, xs = [.ref p] ∧ (SqL K H p ys ∨ SqT K H p ys) ∧ Q (.int ys.length) H) := h ▸ call_len_seq
theorem call_list_ofK (h : X.K = K := by rfl) : CallR X (.type "list") (fun xs H Q => ∃ p ys, xs = [.ref p] ∧ (SqL K H p ys ∨ SqT K H p ys) ∧ ∀ l, H l = none → Q (.ref l) (upd H l (.lst ys))) := h ▸ call_list_of
theorem call_tuple_ofK (h : X.K = K := by rfl) : CallR X (.type "tuple") (fun xs H Q => ∃ p ys, xs = [.ref p] ∧ ((SqL K H p ys ∧ ∀ l, H l = none → Q (.ref l) (upd H l (.tup ys))) ∨ (SqT K H p ys ∧ Q (.ref p) H))) := h ▸ call_tuple_of
theorem call_isiK (h : X.K = K := by rfl) : CallR X (.builtin "isinstance") (rIsi K) := h ▸ call_isi
theorem cr_sumTK (hc : X.calm = true) (h : X.K = K := by rfl) : CallR X (.builtin "sum") (rSumT K) := h ▸ cr_sumT hc
theorem cr_sumK (hc : X.calm = true) (h : X.K = K := by rfl) : CallR X (.builtin "sum") (rSum K) := h ▸ cr_sum hc
theorem cr_allK (hc : X.calm = true) (h : X.K = K := by rfl) : CallR X (.builtin "all") (rAll K) := h ▸ cr_all hc
theorem op_eqDK (hu : X.A.units + 64 < cLine) (h : X.K = K := by rfl) : OpR X (compareOp .Eq) (rEqD K) := h ▸ op_eqD hu
theorem op_neDK (hu : X.A.units + 64 < cLine) (h : X.K = K := by rfl) : OpR X (compareOp .NotEq) (rNeD K) := h ▸ op_neD hu
theorem op_catAK (h : X.K = K := by rfl) : OpR X (binaryOp .Add) (rCatA K) := h ▸ op_catA
theorem op_in_seqK (h : X.K = K := by rfl) : OpR X (compareOp .In) (rIn K false) := h ▸ op_in_seq
theorem op_notIn_seqK (h : X.K = K := by rfl) : OpR X (compareOp .NotIn) (rIn K true) := h ▸ op_notIn_seq
theorem sl_listK (h : X.K = K := by rfl) : SlR X (rSlL K) := h ▸ sl_list
theorem sl_tupAK (h : X.K = K := by rfl) : SlR X (rSlA K) := h ▸ sl_tupA
theorem pi_listK {tg l : Expr} {tl : TE} (hl : PE X l tl) (h : X.K = K := by rfl) : PI X tg l (iList K tl) := h ▸ pi_list hl
theorem pi_tupK {tg l : Expr} {tl : TE} (hl : PE X l tl) (h : X.K = K := by rfl) : PI X tg l (iTup K tl) := h ▸ pi_tup hl
theorem pg_tupK {es : List Expr} {k : Nat} {pos : Pos} {t : TGs} (n : Nat) (hc : X.calm = true) (hp : PGs X es t) (h : X.K = K := by rfl)
    (hn : (assignEach es X.env).length = n := by rfl) (hst : (assignEach es X.env).findIdx? (·.1) = none := by rfl) : PG X (.Tuple es k pos) (gTup K n t) := by
  subst h
  exact pg_tup hc hp hn hst
end

/-! pairs of ints, each in a tuple of its own -/
def TrP (H : Hp) (rs : List Addr) (L : List (Int × Int)) : Prop := Paired (fun r q => H r = some (.tup [V.int q.1, V.int q.2])) rs L
theorem TrP.pairs {K : PySem.W.Frag} {H : Hp} {rs : List Addr} {L : List (Int × Int)} (h : TrP H rs L) : PairsAt K H rs L := Paired.mapP h fun _ _ q => .inl (.inl q)
theorem TrP.same {H H' : Hp} {rs : List Addr} {L : List (Int × Int)} (s : Same H H') (h : TrP H rs L) : TrP H' rs L := Paired.mapP h fun _ _ q => s _ _ q
theorem TrP.kp {H H' : Hp} {rs : List Addr} {L : List (Int × Int)} (s : Kp H H') (h : TrP H rs L) : TrP H' rs L := Paired.mapP h fun _ _ q => s _ _ q (fun _ z => nomatch z) (fun _ z => nomatch z)
theorem paired_snoc {α β : Type} {F : α → β → Prop} {x : α} {y : β} (h : F x y) : ∀ {l : List α} {m : List β}, Paired F l m → Paired F (l ++ [x]) (m ++ [y])
  | _, _, .nil => .cons h .nil
  | _, _, .cons r t => .cons r (paired_snoc h t)
/-- the pair at a place -/
def kOf (H : Hp) : V → Int × Int
  | .ref t => match H t with
    | some (.tup [.int a, .int b]) => (a, b)
    | _ => (0, 0)
  | _ => (0, 0)
def adr : V → Addr
  | .ref t => t
  | _ => 0
theorem kOf_at {H : Hp} {t : Addr} {a b : Int} (h : H t = some (.tup [.int a, .int b])) : kOf H (.ref t) = (a, b) := by
  show (match H t with | some (.tup [.int a, .int b]) => (a, b) | _ => (0, 0)) = _
  rw [h]
theorem TrP.keys {H : Hp} : ∀ {rs : List Addr} {L : List (Int × Int)}, TrP H rs L → (rs.map V.ref).map (kOf H) = L
  | _, _, .nil => rfl
  | _, _, .cons h t => by
    rw [List.map_cons, List.map_cons, TrP.keys t, kOf_at h]
theorem TrP.mem {H : Hp} : ∀ {rs : List Addr} {L : List (Int × Int)}, TrP H rs L → ∀ x ∈ rs.map V.ref, ∃ t, x = V.ref t ∧ H t = some (.tup [.int (kOf H x).1, .int (kOf H x).2])
  | _, _, .nil, x, hx => by cases hx
  | _, _, .cons (a := r) h t, x, hx => by
    rcases List.mem_cons.mp hx with e | hx
    · subst e
      refine ⟨_, rfl, ?_⟩
      rw [kOf_at h]; exact h
    · exact TrP.mem t x hx
theorem trp_of {H : Hp} : ∀ ys : List V, (∀ x ∈ ys, ∃ t, x = V.ref t ∧ H t = some (.tup [.int (kOf H x).1, .int (kOf H x).2])) → ys = (ys.map adr).map V.ref ∧ TrP H (ys.map adr) (ys.map (kOf H))
  | [], _ => ⟨rfl, .nil⟩
  | y :: r, h => by
    obtain ⟨t, e, h1⟩ := h y List.mem_cons_self
    obtain ⟨h2, h3⟩ := trp_of r fun x hx => h x (List.mem_cons_of_mem _ hx)
    subst e
    refine ⟨?_, .cons h1 h3⟩
    show V.ref t :: r = V.ref t :: (r.map adr).map V.ref
    rw [← h2]
theorem sorted_pairs {H : Hp} {rs : List Addr} {L : List (Int × Int)} {ys : List V} (h : TrP H rs L) (nd : (L.map (·.1)).Nodup) (s1 : SrtO.Srtd (ltP (kOf H)) ys) (s2 : SrtO.Stb (ltP (kOf H)) ys (rs.map V.ref)) :
    ∃ rs' L', ys = rs'.map V.ref ∧ TrP H rs' L' ∧ L'.Perm L ∧ L'.Pairwise (fun a b => a.1 < b.1) := by
  have hm := h.mem
  obtain ⟨e1, e2⟩ := trp_of ys fun x hx => hm x (s2.perm.mem_iff.mp hx)
  have pm : (ys.map (kOf H)).Perm L := by
    have := s2.perm.map (kOf H)
    rw [h.keys] at this
    exact this
  refine ⟨_, _, e1, e2, pm, ?_⟩
  have nd2 : ((ys.map (kOf H)).map (·.1)).Nodup := (pm.map (·.1)).nodup_iff.mpr nd
  rw [List.Nodup, List.pairwise_map] at nd2
  have s3 : (ys.map (kOf H)).Pairwise (fun x y => SrtO.lexB y x = false) := List.pairwise_map.mpr s1
  refine (nd2.and s3).imp ?_
  rintro a b ⟨h1, h2⟩
  have := SrtO.lexB_no.mp h2
  omega
end Ly

namespace Ly
open PySem PySem.Spec PyProof.Rows L2
section
variable {X : Cx}
theorem sw_trueD {kx vx : Expr} {gs : List Comprehension} {scope : Scope} {pos py : Pos} {y : Str} {l : Nat} {env : Env}
    (k1 : env.scope.kind = .function) (k2 : env.scope.names.lookup y = some .local)
    (k3 : (py.line == pos.line) = true)
    (k4 : (scope.names.any fun (n, k) => n == y && (k == .local || k == .cell)) = false) :
    swapsWith (.DictComp kx vx gs scope pos) (some (.Name y py)) l env = pure true := by
  have a1 : env.kindOf y = some .local := k2
  have a2 : env.blockKind = .function := by
    unfold Env.blockKind
    rw [k1]
    rfl
  unfold swapsWith
  simp only [a1, a2, k4, Expr.pos, k3]
  rfl
/-- y = {..} in one row, y a local -/
theorem ps_setDc {i : Nat} {y : Str} {py : Pos} {kx vx tg iter : Expr} {ifs : List Expr} {scope : Scope}
    {own : List (Str × Nat)} {pos spos : Pos} {wi : TI} {g : TG} {tt : TT} {tk tv : TE}
    (hc : X.calm = true) (hN : X.N.Nodup) (hy : X.N[i]? = some y)
    (hyl : X.env.scope.names.lookup y = some .local)
    (hsw : swapsWith (.DictComp kx vx [⟨tg, iter, ifs, 0⟩] scope pos) (some (.Name y py)) spos.line X.env = pure true)
    (hi : PI X tg iter wi) (ok : BlkOk X.N X.env.scope scope own)
    (hg : ∀ (s : Shared) (H : Hp) (C : Addr) (cl : List (Str × Addr)) (fp : List Addr),
      PG (X.blk s H scope (compEnvC scope cl C X.env) fp) tg g)
    (ht : ∀ (s : Shared) (H : Hp) (C : Addr) (cl : List (Str × Addr)) (fp : List Addr),
      PTs (X.blk s H scope (compEnvC scope cl C X.env) fp) ifs tt)
    (hk : ∀ (s : Shared) (H : Hp) (C : Addr) (cl : List (Str × Addr)) (fp : List Addr),
      PE (X.blk s H scope (compEnvC scope cl C X.env) fp) kx tk)
    (he : ∀ (s : Shared) (H : Hp) (C : Addr) (cl : List (Str × Addr)) (fp : List Addr),
      PE (X.blk s H scope (compEnvC scope cl C X.env) fp) vx tv)
    (hs : ∀ x, foldedSetIterable iter X.env x = pure x := by intro _; rfl) :
    PS X (.Assign [.Name y py] (.DictComp kx vx [⟨tg, iter, ifs, 0⟩] scope pos) spos)
      (tAsg (tDc wi g tt tk tv (own.map (·.2))) (gName i)) := by
  constructor
  intro pins s σ H D I h
  rw [exec_Assign_Name_used _ _ _ _ hsw]
  refine wpAny_bind (wpAny_standAt (wpAny_bind ?_))
  show wpAny _ X.A (do
    let _ ← comprehension (.DictComp kx vx [⟨tg, iter, ifs, 0⟩] scope pos) scope X.env
      (firstIterPos [⟨tg, iter, ifs, 0⟩] pos) newDict false (eval iter X.env)
      (some (assign (.Name y py) X.env))) _ _ s
  have h : tDc wi g tt tk tv (own.map (·.2)) σ H (fun x H1 => gName i x σ H1 D.nx) := h
  have core := dc_core (Qf := fun _ s' => SP X pins D .next s') (use := some (assign (.Name y py) X.env))
    (pos := pos) (pos' := firstIterPos [⟨tg, iter, ifs, 0⟩] pos) hc hN I hi ok hg ht hk he hs h
  refine wpAny_bind (thn (core fun L C s' m H' I' q hn f => ?_) fun _ s' hq => wpAny_pure (wpAny_pure hq))
  show wpAny _ _ (assign (.Name y py) X.env (.ref L)) _ _ _
  obtain ⟨f0, f1, f2, f3, f4, f5⟩ := f
  refine wpAny_assign_Name (store_ok2 (v := V.ref L) I' hN hy (.inl hyl) rfl ?_ (.inr hyl))
  intro s2 I2 ⟨a, sb, ha⟩
  have neq : C ≠ a := by
    cases ha with
    | inl z => rw [z]; exact f1
    | inr z => exact fun e => f4 y a z e.symm
  refine ⟨m, hn.sameBut sb neq, fun h3 sb3 => ?_⟩
  refine ⟨_, H', I2.turned (t' := s2.toks) ?_ f0 f1 f3 f4 f5, q⟩
  intro b o hb e
  exact (sb3.2 b hb).trans e
end
/-! f(k = v) over a promise by name -/
section
variable {X : Cx} {k j : Nat} {st : Stmt} {ps ks : List Str} {sp : Sp} {x : Str} {p pos : Pos} {tk : TA} {kws : List Keyword}
end
/-! zip of a list and a tuple -/
def ItzM (K : PySem.W.Frag) (a b : Addr) : It where
  go := fun i H => ∃ (xs ys : List V) (x y : V),
    SqL K H a xs ∧ SqT K H b ys ∧ xs[i]? = some x ∧ ys[i]? = some y
  yld := fun i H v H' => ∃ T x y, v = .ref T ∧ H T = none ∧ H' = upd H T (.tup [x, y]) ∧
    (∀ xs, SqL K H a xs → xs[i]? = some x) ∧ ∀ ys, SqT K H b ys → ys[i]? = some y
  stop := fun i H => ∃ xs ys : List V, SqL K H a xs ∧ SqT K H b ys ∧ i ≤ xs.length ∧ i ≤ ys.length ∧ (i = xs.length ∨ i = ys.length)
theorem walk_zipM {K : PySem.W.Frag} {a b : Addr} {xs ys : List V} {n : Nat} (hn : n = min xs.length ys.length) :
    Walk (ItzM K a b) n (fun H => SqL K H a xs ∧ SqT K H b ys) (YPair (fun i => xs[i]?) (fun i => ys[i]?)) := by
  constructor
  · rintro i H hi ⟨h1, h2⟩
    have a1 : i < xs.length := by omega
    have a2 : i < ys.length := by omega
    exact ⟨xs, ys, xs[i], ys[i], h1, h2, by simp [a1], by simp [a2]⟩
  · rintro H ⟨h1, h2⟩
    exact ⟨xs, ys, h1, h2, by omega, by omega, by omega⟩
  · rintro i H v H' _ ⟨h1, h2⟩ ⟨T, x, z, e1, e2, e3, e4, e5⟩
    exact ⟨T, x, z, e1, e2, e3, e4 xs h1, e5 ys h2⟩
end Ly

namespace Ly
open PySem PySem.Spec PyProof.Rows L2
/-! tuple * 0, tuple * 1 -/
theorem tup_mul1 (l : Addr) (items : Array Value) (n : Nat) (dd : Option Addr) (sl : Array (Option Value)) (u : Tok) :
    Meets (Builtin.«tuple.__mul__» ⟨[.ref l, .int 1 u], []⟩) (fun _ R s =>
      s.heap.get? l = some { cls := .type "tuple", dict := dd, data := .seq items n, slots := sl } ∧ R (.ok (.ret (Value.ref l))) s) :=
  .of_wp fun prog w A R s h => by
    obtain ⟨hp, g, d, tk, os⟩ := s
    obtain ⟨hl, h⟩ := h
    have f1 := AutoSeq1.idx_int
    wp_walk using wpAny_loadPart' hl
    exact ⟨_, rfl, h⟩
theorem tup_mul0 (l : Addr) (items : Array Value) (n : Nat) (dd : Option Addr) (sl : Array (Option Value)) (u : Tok)
    (c1 : (items.isEmpty || (0 : Int) == 1) = false) :
    Meets (Builtin.«tuple.__mul__» ⟨[.ref l, .int 0 u], []⟩) (fun _ R s =>
      s.heap.get? l = some { cls := .type "tuple", dict := dd, data := .seq items n, slots := sl } ∧
      R (.ok (.ret (Value.ref s.heap.objs.size))) { s with heap := s.heap.push { cls := Value.type "tuple", data := Data.seq #[] }, toks := s.toks }) :=
  .of_wp fun prog w A R s h => by
    obtain ⟨hp, g, d, tk, os⟩ := s
    obtain ⟨hl, h⟩ := h
    have f1 := AutoSeq1.idx_int
    wp_walk using wpAny_loadPart' hl
    refine wpAny_ite_false (decide_eq_false (by rw [c1]; exact Bool.false_ne_true)) ?_
    wp_walk using wpAny_loadPart' hl
    exact ⟨_, rfl, h⟩
/-- a tuple times 0, 1, 2, .. -/
def rRepA (K : PySem.W.Frag) : R2 := fun x y H Q => ∃ l k xs, x = .ref l ∧ y = .int k ∧ SqT K H l xs ∧ xs ≠ [] ∧ 0 ≤ k ∧ k ≤ 1000 ∧ xs.length ≤ 1000 ∧
  (k = 1 → Q (.ref l) H) ∧ (k ≠ 1 → ∀ p, H p = none → Q (.ref p) (upd H p (.tup (List.replicate k.toNat xs).flatten)))
section
variable {X : Cx}
theorem op_repA : OpR X (binaryOp .Mult) (rRepA X.K) := by
  intro pins s σ H x y v u Q I rx ry h
  obtain ⟨l, k, xs, rfl, rfl, hT, hne, h1, h2, hz, q1, q2⟩ := h
  by_cases k2 : 2 ≤ k
  · exact op_repT pins s σ H _ _ v u Q I rx ry ⟨l, k, xs, rfl, rfl, hT, hne, k2, h2, hz, q2 (by omega)⟩
  cases rx
  obtain ⟨t, rfl⟩ := ry
  obtain ⟨its, r, ⟨⟨cls, dd, data, sl⟩, ho, hc, n, hd⟩, hs⟩ := I.tuple hT
  simp only at hc hd
  subst hc hd
  have ni : its.toArray.isEmpty = false := by
    cases its with
    | nil => exact absurd (List.eq_nil_of_length_eq_zero r.length) hne
    | cons a b => rfl
  by_cases k1 : k = 1
  · subst k1
    refine wpAny_binaryOp_repeat_ref (T := "tuple") (U := "int") (by decide) ⟨_, ho, rfl⟩ (fun s' => typeIs_int s' 1 t) noFill_tuple_mul F.fills_int_mul F.slot_int_rmul repeat_tuple F.slot_int_index.lookup
      (call_meets F.slot_int_rmul (typeIs_int s 1 t) F.entry_int_rmul (F.args_int_rmul_2 _ _) (int_rmul_tuple 1 t l its.toArray n dd sl)
        ⟨ho, rfl, ⟨_, ho, rfl⟩, ?_⟩)
    refine call_meets F.slot_tuple_mul ⟨_, ho, rfl⟩ F.entry_tuple_mul (F.args_tuple_mul_2 _ _) (tup_mul1 l its.toArray n dd sl t) ⟨ho, ?_⟩
    exact ⟨.ref l, H, I, rfl, q1 rfl⟩
  · have k0 : k = 0 := by omega
    subst k0
    have c1 : (its.toArray.isEmpty || (0 : Int) == 1) = false := by rw [ni]; rfl
    refine wpAny_binaryOp_repeat_ref (T := "tuple") (U := "int") (by decide) ⟨_, ho, rfl⟩ (fun s' => typeIs_int s' 0 t) noFill_tuple_mul F.fills_int_mul F.slot_int_rmul repeat_tuple F.slot_int_index.lookup
      (call_meets F.slot_int_rmul (typeIs_int s 0 t) F.entry_int_rmul (F.args_int_rmul_2 _ _) (int_rmul_tuple 0 t l its.toArray n dd sl)
        ⟨ho, rfl, ⟨_, ho, rfl⟩, ?_⟩)
    refine call_meets F.slot_tuple_mul ⟨_, ho, rfl⟩ F.entry_tuple_mul (F.args_tuple_mul_2 _ _) (tup_mul0 l its.toArray n dd sl t c1) ⟨ho, ?_⟩
    have z := q2 (by decide) s.heap.objs.size (I.hok.fresh (Nat.le_refl _))
    refine ⟨.ref s.heap.objs.size, _, I.laid (t' := s.toks) (o := .tup []) (fun b o e => Heap.get?_push_of_some _ e) (Nat.le_refl _) ?_, rfl, z⟩
    exact ⟨by show 0 ≤ sizeLine; omega, [], .nil, IsTup.new s.heap #[]⟩
end
end Ly

namespace Ly
open PySem PySem.Spec PyProof.Rows L2
/-! zip of a list and a tuple: by the library's iterators of any kind -/
theorem sepM {z TI TO i1 i2 a b : Addr} (D : ZipApart z TI TO i1 i2 a b) : ZipSep2 z TI TO i1 i2 [i1, a] [i2, b] where
  TIz := D.TIz
  TOz := D.TOz
  TITO := D.TITO
  TIi1 := D.TIi1
  mem1 := List.mem_cons_self
  zf1 := by simp; exact ⟨D.i1z.symm, D.l1z.symm⟩
  Tf1 := by simp; exact ⟨D.TOi1, D.l1TO.symm⟩
  TIi2 := D.TIi2
  mem2 := List.mem_cons_self
  zf2 := by simp; exact ⟨D.i2z.symm, D.l2z.symm⟩
  Tf2 := by simp; exact ⟨D.TOi2, D.l2TO.symm⟩
  sep1_2 := by simp; exact ⟨D.i12, D.l2i1.symm⟩
  sep2_1 := by simp; exact ⟨D.i12.symm, D.l1i2.symm⟩
/-- how the five cells stand at turn i -/
def StM (z TI TO i1 i2 a b : Addr) (i : Nat) (h : Heap) : Prop :=
  IsZip h z TI TO .none ∧ IsPair h TI (.ref i1) (.ref i2) ∧ (∃ x y, IsPair h TO x y) ∧
    h.IsListIter i1 a i ∧ h.IsTupleIter i2 b i
theorem five {z TI TO i1 i2 c : Addr} (h : c ∈ [z, TI, TO, i1, i2]) : c = z ∨ c = TI ∨ c = TO ∨ c = i1 ∨ c = i2 := by
  simpa using h
theorem turn_zipM {P : Program} {w : World} {K : PySem.W.Frag} {elts : List Expr} {kk : Nat} {tpos : Pos}
    {a b z TI TO i1 i2 : Addr} (D : ZipApart z TI TO i1 i2 a b) :
    Turn P w K (.Tuple elts kk tpos) (ItzM K a b) [z, TI, TO, i1, i2] z (StM z TI TO i1 i2 a b) where
  mem := List.mem_cons_self
  obj := by
    intro i h st c hc
    obtain ⟨hz, hTI, ⟨x, y, hTO⟩, ⟨o1, e1, _, d1⟩, o2, e2, _, d2⟩ := st
    rcases five hc with rfl | rfl | rfl | rfl | rfl
    · exact ⟨_, hz, fun v q => nomatch q⟩
    · exact ⟨_, hTI, fun v q => nomatch q⟩
    · exact ⟨_, hTO, fun v q => nomatch q⟩
    · refine ⟨o1, e1, fun v q => ?_⟩
      rw [d1] at q; cases q
    · refine ⟨o2, e2, fun v q => ?_⟩
      rw [d2] at q; cases q
  keep := by
    intro i h h' st k
    obtain ⟨hz, hTI, ⟨x, y, hTO⟩, h1, h2⟩ := st
    refine ⟨k z (by simp) _ hz, k TI (by simp) _ hTI, ⟨x, y, k TO (by simp) _ hTO⟩, ?_, ?_⟩
    · exact h1.at fun o q => k i1 (by simp) o q
    · exact h2.at fun o q => k i2 (by simp) o q
  item := by
    intro X hP hw hK hc i pins s σ H E I hf st hg
    subst hP hw hK
    obtain ⟨hz, hTI, ⟨x0, y0, hTO⟩, h1, h2⟩ := st
    obtain ⟨xs, ys, x, y, hqx, hqy, hx, hy⟩ := hg
    obtain ⟨us, rv, p, _⟩ := I.list hqx
    obtain ⟨vs, rv2, p2, _⟩ := I.tuple hqy
    obtain ⟨u, hu, ru⟩ := rv.get hx
    obtain ⟨v, hv, rw2⟩ := rv2.get hy
    have zl : z < s.heap.objs.size := Heap.lt_size hz
    have hh := I.ok.hd hc
    have n1 := (List.getElem?_eq_some_iff.mp hu).1
    have n2 := (List.getElem?_eq_some_iff.mp hv).1
    refine wpAny_pyNext_zipD2_item (sepM D) (Draws.list (A := X.A.in1) hh i1 a D.l1i1 us.toArray) (Draws.tuple (A := X.A.in1) hh i2 b D.l2i2 vs.toArray)
      hz hTI hTO ⟨h1, p.isList⟩ ⟨h2, p2⟩ (by simpa using n1) (by simpa using n2) ?_
    intro x1 x2 h' tk y1 y2 z' TO' st1 st2 hT hsz hk
    have e1 : x1 = u := by
      have q : us[i]? = some x1 := by simpa using y1
      rw [hu] at q; exact (Option.some.inj q).symm
    have e2 : x2 = v := by
      have q : vs[i]? = some x2 := by simpa using y2
      rw [hv] at q; exact (Option.some.inj q).symm
    subst e1 e2
    refine ⟨_, rfl, ?_⟩
    refine wpAny_letOwnedTupleGo_zip (s := { s with heap := h', toks := tk }) z' fun h'' z'' sb => ?_
    have hT2 : h''.get? s.heap.objs.size = some { cls := .type "tuple", data := .seq #[x1, x2] } := by
      rw [sb.2 _ (Nat.ne_of_gt zl)]; exact hT
    have new : ObjOk X.prog X.w (upd H s.heap.objs.size (.tup [x, y])) h'' s.heap.objs.size (.tup [x, y]) := by
      refine ⟨by show 2 ≤ sizeLine; decide, [x1, x2], .cons ru (.cons rw2 .nil), ?_⟩
      exact ⟨_, hT2, rfl, _, rfl⟩
    have far : ∀ c o, c ∉ [z, TI, TO, i1, i2] → s.heap.get? c = some o → h''.get? c = some o := by
      intro c o hb q
      rw [sb.2 c (fun q' => hb (by simp [q']))]
      refine hk c o ?_ ?_ ?_ ?_ q
      · exact fun q' => hb (by simp [q'])
      · exact fun q' => hb (by simp [q'])
      · exact fun q' => hb (by simp [q'])
      · exact fun q' => hb (by simp [q'])
    have I1 : Inv X pins σ (upd H s.heap.objs.size (.tup [x, y])) { s with heap := h'', toks := tk } :=
      I.turnedNew (t' := tk) (ch := [z, TI, TO, i1, i2]) far hf (Nat.le_refl _) new
    refine ⟨.ref s.heap.objs.size, _, I1, rfl, ⟨_, x, y, rfl, I.hok.fresh (Nat.le_refl _), rfl, ?_, ?_⟩, ⟨z'', ?_, ⟨x1, x2, ?_⟩, ?_, ?_⟩, ?_⟩
    · intro l hl; rw [I.list_inj hl hqx]; exact hx
    · intro l hl; rw [I.tuple_inj hl hqy]; exact hy
    · rw [IsPair, sb.2 _ D.TIz]; exact hk _ _ D.TIz D.TITO D.TIi1 D.TIi2 hTI
    · exact (sb.2 _ D.TOz).trans TO'
    · exact st1.1.at fun o q => by rw [sb.2 _ D.i1z]; exact q
    · exact st2.1.at fun o q => by rw [sb.2 _ D.i2z]; exact q
    · intro c hcm
      have lt : c < s.heap.objs.size := by
        rcases five hcm with rfl | rfl | rfl | rfl | rfl
        · exact zl
        · exact Heap.lt_size hTI
        · exact Heap.lt_size hTO
        · obtain ⟨_, e, _⟩ := h1; exact Heap.lt_size e
        · obtain ⟨_, e, _⟩ := h2; exact Heap.lt_size e
      rw [upd_ne (Nat.ne_of_lt lt)]
      exact (hf c hcm).1
  done := by
    intro X hP hw hK hc i pins s σ H E I hf st hg
    subst hP hw hK
    obtain ⟨hz, hTI, ⟨x0, y0, hTO⟩, h1, h2⟩ := st
    obtain ⟨xs, ys, hqx, hqy, e1, e2, hend⟩ := hg
    obtain ⟨us, rv, p, _⟩ := I.list hqx
    obtain ⟨vs, rv2, p2, _⟩ := I.tuple hqy
    have hh := I.ok.hd hc
    have l1 := rv.length
    have l2 := rv2.length
    refine wpAny_pyNext_zipD2_end (sepM D) (Draws.list (A := X.A.in1) hh i1 a D.l1i1 us.toArray) (Draws.tuple (A := X.A.in1) hh i2 b D.l2i2 vs.toArray)
      hz hTI hTO ⟨h1, p.isList⟩ ⟨h2, p2⟩ (by simp; omega) (by simp; omega) (by simp; omega) ?_
    intro h' tk hk
    refine ⟨rfl, I.turnedL (t' := tk) (ch := [z, TI, TO, i1, i2]) ?_ hf⟩
    intro c o hb q
    refine hk c o ?_ ?_ ?_ ?_ q
    · exact fun q' => hb (by simp [q'])
    · exact fun q' => hb (by simp [q'])
    · exact fun q' => hb (by simp [q'])
    · exact fun q' => hb (by simp [q'])
  self := fun A i s Q E st h => wpAny_pyIter_zip st.1 h
/-- zip(list, tuple) -/
def iZipM (K : PySem.W.Frag) (ta : TA) : TI := fun σ H R => ta σ H fun vs H1 => ∃ a b xs ys,
  vs = [.ref a, .ref b] ∧ SqL K H1 a xs ∧ SqT K H1 b ys ∧ R (ItzM K a b) H1
theorem pi_zipM {X : Cx} {K : PySem.W.Frag} {e e2 : Expr} {ta : TA} {p pos tpos : Pos} {elts : List Expr} {kk : Nat}
    (hg : Gl X "zip") (hm : X.mg "zip" = none) (ha : PA X [e, e2] ta) (hK : X.K = K := by rfl)
    (hs : starEach [e, e2] X.env = (false, eval e X.env) :: starEach [e2] X.env := by rfl)
    (hpl : (backTo pos (starEach [e2] X.env)).any (·.1) = false := by rfl) :
    PI X (.Tuple elts kk tpos) (.Call (.Name "zip" p) [e, e2] [] pos) (iZipM K ta) := by
  subst hK
  constructor
  intro pins s σ H R I h
  refine Call_ (ld_blt I hg hm PyProof.Rows.boot_zip ?_)
  refine PyProof.Rows.callWith_type1 (thn (ha.run pos pins s σ H _ I h) ?_) hs hpl
  rintro us s1 ⟨vs, H1, I1, r1, a, b, xs, ys, rfl, hqx, hqy, q⟩
  obtain ⟨u, v, rfl, ra, rb⟩ : ∃ u v, us = [u, v] ∧ RelV (V.ref a) u ∧ RelV (V.ref b) v := by
    cases r1 with
    | cons r t =>
      cases t with
      | cons r' t' => cases t'; exact ⟨_, _, rfl, r, r'⟩
  cases ra
  cases rb
  obtain ⟨its, rv, p1, _⟩ := I1.list hqx
  obtain ⟨jts, rv2, p2, _⟩ := I1.tuple hqy
  obtain ⟨o2, ho2, _⟩ := id p2
  have la : a < s1.heap.objs.size := p1.lt
  have lb : b < s1.heap.objs.size := Heap.lt_size ho2
  refine zip_begins2 (begins_list a its.toArray) (begins_tuple b jts.toArray) p1.isList p2 ?_
  intro h' hz hTI hTO g1 g2 hsz hk
  refine wpAny_pyIter_zip hz ?_
  have I2 : Inv X pins σ H1 { s1 with heap := h' } := I1.kept (t' := s1.toks) hk
  refine ⟨s1.heap.objs.size + 4, [s1.heap.objs.size + 4, s1.heap.objs.size + 2, s1.heap.objs.size + 3, s1.heap.objs.size, s1.heap.objs.size + 1],
    _, _, H1, rfl, I2, turn_zipM (PySem.W.ktu_apart s1.heap.objs.size a b la lb), ⟨hz, hTI, ⟨_, _, hTO⟩, ⟨_, g1, rfl, rfl⟩, ⟨_, g2, rfl, rfl⟩⟩, ?_, q⟩
  intro c hcm
  have le : s1.heap.objs.size ≤ c := by
    rcases five hcm with z | z | z | z | z
    · rw [z]; exact Nat.le_add_right _ _
    · rw [z]; exact Nat.le_add_right _ _
    · rw [z]; exact Nat.le_add_right _ _
    · rw [z]; exact Nat.le_refl _
    · rw [z]; exact Nat.le_add_right _ _
  exact I1.fpOk le (I1.hok.fresh le)
end Ly

namespace Ly
open PySem PySem.Spec PyProof.Rows L2 Am
/-! how long the text of an amount is -/
theorem int_shown {i : Int} (h : i.natAbs < 2 ^ 64) : (PyData.int i).shown.length ≤ 66 ∧ (PyData.int i).showable = true := by
  have hl : i.natAbs.log2 < 65 := by
    by_cases z : i.natAbs = 0
    · rw [z]; decide
    · have := (Nat.log2_lt z).mpr h; omega
  refine ⟨?_, by rw [PyData.showable]; exact decide_eq_true (by omega)⟩
  rw [PyData.shown]
  have := int_text_length_le (a := i) (k := 65) (by decide) hl
  rw [PySem.ofString_length]; omega
theorem join_len (c : Nat) : ∀ ts : List Str, (∀ t ∈ ts, t.length ≤ c) → (Str.join ", " ts).length ≤ ts.length * (c + 2) := by
  intro ts h
  by_cases e : ts = []
  · subst e; show (0 : Nat) ≤ _; omega
  · have h1 := join_length_add ts e
    have h2 : piled ts ≤ ts.length * (c + 2) := by
      clear e h1
      induction ts with
      | nil => show (0 : Nat) ≤ _; omega
      | cons t r ih =>
        have h3 := ih fun x hx => h x (List.mem_cons_of_mem _ hx)
        have h4 := h t List.mem_cons_self
        rw [List.length_cons, Nat.add_mul, piled_cons]
        omega
    omega
theorem shownAll_map : ∀ ds : List PyData, PyData.shownAll ds = ds.map PyData.shown
  | [] => by rw [PyData.shownAll]; rfl
  | d :: r => by rw [PyData.shownAll, shownAll_map r]; rfl
theorem tup_len (c : Nat) {ds : List PyData} (h : ∀ d ∈ ds, d.shown.length ≤ c) : (PyData.tuple ds).shown.length ≤ ds.length * (c + 2) + 4 := by
  rw [PyData.shown, shownAll_map]
  have h1 := join_len c (ds.map PyData.shown) (by
    intro t ht
    obtain ⟨d, hd, rfl⟩ := List.mem_map.mp ht
    exact h d hd)
  rw [List.length_map] at h1
  unfold tupleText
  have ap : ∀ a b : Str, (a ++ b).length = a.length + b.length := fun a b => by
    show (a.cps ++ b.cps).size = a.cps.size + b.cps.size
    exact Array.size_append
  rw [ap, ap]
  have e1 : ("(" : Str).length = 1 := by rfl
  have e2 : ((if ((ds.map PyData.shown).length == 1) = true then ",)" else ")" : String) : Str).length ≤ 2 := by
    split
    · exact Nat.le_refl 2
    · show (1 : Nat) ≤ 2; omega
  rw [e1]
  omega
/-- one that can be told -/
structure Told (c : Nat) (d : PyData) : Prop where
  show_ : d.showable = true
  dict : d.hasDict = false
  len : d.shown.length ≤ c
theorem told_int {i : Int} (h : i.natAbs < 2 ^ 64) : Told 66 (.int i) := ⟨(int_shown h).2, by rw [PyData.hasDict], (int_shown h).1⟩
theorem all_show {c : Nat} : ∀ {ds : List PyData}, (∀ d ∈ ds, Told c d) → PyData.showableAll ds = true ∧ PyData.hasDictAll ds = false
  | [], _ => ⟨by rw [PyData.showableAll], by rw [PyData.hasDictAll]⟩
  | d :: r, h => by
    obtain ⟨h1, h2⟩ := all_show (ds := r) fun x hx => h x (List.mem_cons_of_mem _ hx)
    have h3 := h d List.mem_cons_self
    exact ⟨by rw [PyData.showableAll, h3.show_, h1]; rfl, by rw [PyData.hasDictAll, h3.dict, h2]; rfl⟩
theorem told_tup {c : Nat} {ds : List PyData} (h : ∀ d ∈ ds, Told c d) : Told (ds.length * (c + 2) + 4) (.tuple ds) := by
  obtain ⟨h1, h2⟩ := all_show h
  exact ⟨by rw [PyData.showable]; exact h1, by rw [PyData.hasDict]; exact h2, tup_len c fun d hd => (h d hd).len⟩
theorem Told.mono {c e : Nat} {d : PyData} (h : Told c d) (hc : c ≤ e) : Told e d := ⟨h.show_, h.dict, Nat.le_trans h.len hc⟩
theorem dep_pair (q : Int × Int) : (PyData.tuple [.int q.1, .int q.2]).depth ≤ 2 := by simp [PyData.depth, PyData.depthAll]
theorem dep_pairs : ∀ L : List (Int × Int), PyData.depthAll (L.map fun q => .tuple [.int q.1, .int q.2]) ≤ 2
  | [] => by simp [PyData.depthAll]
  | q :: r => by
    have h1 := dep_pairs r
    have h2 := dep_pair q
    rw [List.map_cons, PyData.depthAll]; omega
theorem amt_depth (d : Int) (L : List (Int × Int)) : (amtD d L).depth ≤ 4 := by
  have := dep_pairs L
  unfold amtD
  simp only [PyData.depth, PyData.depthAll]
  omega
theorem amt_told {d : Int} {L : List (Int × Int)} (hd : d.natAbs < 2 ^ 64) (hl : L.length ≤ 1001) (h : ∀ q ∈ L, q.1.natAbs < 2 ^ 64 ∧ q.2.natAbs < 2 ^ 64) : Told 300000 (amtD d L) := by
  have hp : ∀ x ∈ L.map (fun q => PyData.tuple [.int q.1, .int q.2]), Told 140 x := by
    intro x hx
    obtain ⟨q, hq, rfl⟩ := List.mem_map.mp hx
    have h1 := h q hq
    have h2 : ∀ y ∈ [PyData.int q.1, PyData.int q.2], Told 66 y := by
      intro y hy
      rcases List.mem_cons.mp hy with e | hy
      · rw [e]; exact told_int h1.1
      · rw [List.mem_singleton.mp hy]; exact told_int h1.2
    exact (told_tup h2).mono (by show 2 * 68 + 4 ≤ 140; omega)
  have hP := told_tup hp
  rw [List.length_map] at hP
  have hA : ∀ y ∈ [PyData.int d, .tuple (L.map fun q => .tuple [.int q.1, .int q.2])], Told 143000 y := by
    intro y hy
    rcases List.mem_cons.mp hy with e | hy
    · rw [e]; exact (told_int hd).mono (by omega)
    · rw [List.mem_singleton.mp hy]; exact hP.mono (by omega)
  exact (told_tup hA).mono (by show 2 * (143000 + 2) + 4 ≤ 300000; omega)
/-- repr of an amount as it stands -/
theorem AmtAt.repr {K : PySem.W.Frag} {H : Hp} {v : V} {d : Int} {L : List (Int × Int)} {Q : VK} (h : AmtAt K H v d L) (hd : d.natAbs < 2 ^ 64) (hl : L.length ≤ 1001)
    (hq : ∀ q ∈ L, q.1.natAbs < 2 ^ 64 ∧ q.2.natAbs < 2 ^ 64) (q : Q (.str (amtD d L).shown) H) : rRepr K [v] H Q := by
  have t := amt_told hd hl hq
  obtain ⟨a, b, rs, e, _⟩ := id h
  refine ⟨a, amtD d L, by rw [e], by rw [← e]; exact h.dp, t.show_, t.dict, by have := amt_depth d L; omega, by have := t.len; rw [sizeLine_eq]; omega, q⟩
end Ly

namespace Ly
open PySem PySem.Spec PyProof.Rows L2
section
variable {prog : Program} {w : World} {A : Around} {E : Value → Shared → Prop} {s : Shared}
/-! sorted of a tuple -/
theorem sorted_tupO {t : Addr} {vs : List Value} {ltv : Value → Value → Bool} {Q : Value → Shared → Prop}
    (O : SrtO.Swo ltv) (hl : IsTup s.heap t vs.toArray) (hz : vs.length ≤ sizeLine)
    (hS : 2 ≤ vs.length → ∀ (h₁ : Heap) (a : Addr), h₁.get? a = some (seqObj "list" vs.toArray 0) →
      SrtO.SortableO prog w A.in1.in1 { s with heap := h₁ } a vs ltv)
    (h : ∀ (h0 : Heap) (out : List Value), (∀ b o, s.heap.get? b = some o → h0.get? b = some o) →
      SrtO.Srtd ltv out → SrtO.Stb ltv out vs →
      Q (.ref h0.objs.size) { s with heap := sortedHeap (h0.push (seqObj "list" vs.toArray 0)) h0.objs.size vs out.toArray }) :
    wpAny (model prog w) A (call (.builtin "sorted") [.ref t]) Q E s := by
  obtain ⟨o, ho, hc, n, hd⟩ := id hl
  refine Calls.call_function_entry kind_sorted plain_sorted entry_sorted (args_sorted1 _) ?_
  unfold Builtin.«sorted»
  refine wpAny_bind (m := checkCount "sorted" 1 1 _) (wpAny_pure ?_)
  refine wpAny_bind (wpAny_collect_seq t (T := "tuple") (.inr rfl) ho hc hd ?_ (by rw [List.size_toArray]; exact hz))
  intro h0 keep
  have e0 : vs.toArray.toList = vs := by simp
  rw [e0]
  refine wpAny_bind (wpAny_newList ?_ hz)
  have hoL : (h0.push (seqObj "list" vs.toArray 0)).get? h0.objs.size = some (seqObj "list" vs.toArray 0) := Heap.get?_push_size _ rfl
  show wpAny _ _ _ _ _ { s with heap := h0.push (seqObj "list" vs.toArray 0) }
  refine wpAny_bind (wpAny_holding (wpAny_call_entry slot_list_sort ⟨_, hoL, rfl⟩ entry_list_sort ?_ (args_list_sort _)))
  refine SrtO.list_sort_ord O hoL hz (fun h2 => hS h2 _ _ hoL) fun out hs hb => ⟨_, rfl, ?_⟩
  exact wpAny_pure ⟨_, rfl, h h0 out keep hs hb⟩
end
def rSortedTI (K : PySem.W.Frag) : List V → Hp → VK → Prop := fun vs H Q => ∃ (a : Addr) (ns : List Int),
  vs = [V.ref a] ∧ SqT K H a (ns.map V.int) ∧
  ∀ (ns' : List Int) (p : Addr), ns'.Perm ns → ns'.Pairwise (· ≤ ·) → H p = none → Q (.ref p) (upd H p (.lst (ns'.map V.int)))
section
variable {X : Cx}
theorem cr_sortedTI : CallR X (.builtin "sorted") (rSortedTI X.K) := by
  intro pins s σ H vs us Q I r h
  obtain ⟨a, ns, rfl, hs, q⟩ := h
  obtain ⟨its, rv, hl, hz⟩ := I.tuple hs
  rw [Vals.ref1 r]
  have hi := rv.ints
  refine sorted_tupO SrtO.swo_int hl (by rw [← rv.length]; exact hz) (fun h2 h₁ a' _ => SrtO.ints_sortable hi h2) ?_
  intro h0 out keep h1 h2
  obtain ⟨k1, k2, k3⟩ := SrtO.ints_out hi h1 h2
  have hoL : (h0.push (seqObj "list" its.toArray 0)).get? h0.objs.size = some (seqObj "list" its.toArray 0) := Heap.get?_push_size _ rfl
  obtain ⟨ep, he'⟩ := PyProof.Rows.sortedHeap_at (vs := its) (out := out.toArray) hoL
  have hlen : ((out.map SrtO.iv).map V.int).length ≤ sizeLine := by
    rw [List.length_map, k2.length_eq]
    rw [List.length_map] at hz
    exact hz
  have I0 : Inv X pins σ H { s with heap := h0 } := I.kept (t' := s.toks) keep
  have old : ∀ b o, h0.get? b = some o → (sortedHeap (h0.push (seqObj "list" its.toArray 0)) h0.objs.size its out.toArray).get? b = some o := by
    intro b o hb
    have lt : b < h0.objs.size := Heap.lt_size hb
    rw [PyProof.Rows.sortedHeap_old (Nat.ne_of_lt lt) (by rw [size_push']; exact Nat.lt_succ_of_lt lt)]
    exact Heap.get?_push_of_some _ hb
  refine ⟨.ref _, upd H h0.objs.size (.lst ((out.map SrtO.iv).map V.int)), I0.laid (t' := s.toks) old (Nat.le_refl _) ?_, rfl, q _ _ k2 k3 (I0.hok.fresh (Nat.le_refl _))⟩
  exact ⟨hlen, out, ep, vals_of_ints k1, he'⟩
end
/-! a tuple turned about -/
theorem fm_congr {α β : Type} (f g : α → Option β) : ∀ (l : List α), (∀ x ∈ l, f x = g x) → l.filterMap f = l.filterMap g
  | [], _ => rfl
  | x :: r, h => by
    rw [List.filterMap_cons, List.filterMap_cons, h x List.mem_cons_self, fm_congr f g r fun y hy => h y (List.mem_cons_of_mem _ hy)]
section
variable {prog : Program} {w : World} {A : Around} {E : Value → Shared → Prop} {s : Shared}
theorem rev_get {t sl : Addr} {items : Array Value} {u : Tok} {Q : Value → Shared → Prop} (ht : IsTup s.heap t items)
    (hs : s.heap.IsSliceOf sl .none .none (.int (-1) u)) (hsz : items.size ≤ sizeLine)
    (h : Q (.ref s.heap.objs.size) { s with heap := s.heap.push { cls := .type "tuple", data := .seq items.toList.reverse.toArray } }) :
    wpAny (model prog w) A (getItem (.ref t) (.ref sl)) Q E s := by
  obtain ⟨os, hos, hcs, hds⟩ := id hs
  have hTs : s.TypeIs (.ref sl) "slice" := ⟨os, hos, hcs⟩
  unfold getItem
  try with_reducible refine wpAny_holding ?_
  first | refine wpAny_bind (wpAny_pure ?_) | skip
  refine wpAny_bind (wpAny_sequenceKey ht.typeIs (by decide) ?_)
  refine wpAny_bind (wpAny_callSpecial?_slot (name := Str.ofString "__getitem__") ht.typeIs PyProof.Rows.slot_tuple_getitem ?_)
  refine wpAny_call_entry PyProof.Rows.slot_tuple_getitem ht.typeIs entry_tuple_getitem ?_ (args_tuple_getitem _ _)
  show wpAny _ _ (Builtin.Tuple.tupleItemsOf (.ref t) >>= _) _ _ s
  refine wpAny_bind (tupleItemsOf_ ht ?_)
  refine wpAny_bind (wpAny_typeOf hTs ?_)
  rw [if_pos (by decide)]
  refine wpAny_bind ?_
  unfold Builtin.Slice.sliceApplied Builtin.Slice.sliceFields
  refine wpAny_bind (wpAny_bind (wpAny_field hos hds (x := .none) rfl (wpAny_bind (wpAny_field hos hds (x := .none) rfl (wpAny_bind (wpAny_field hos hds (x := .int (-1) u) rfl (wpAny_pure ?_)))))))
  refine wpAny_bind (PyProof.Rows.slicePart_int ?_)
  show wpAny _ _ (if ((-1 : Int) == 0) = true then _ else _) _ _ s
  rw [if_neg (by decide)]
  refine wpAny_bind (PyProof.Rows.slicePart_none (wpAny_bind (PyProof.Rows.slicePart_none (wpAny_bind (wpAny_pure ?_)))))
  have adj : Builtin.Slice.sliceAdjust none none (-1) (items.size : Int) = ((items.size : Int) - 1, -1) := by
    unfold Builtin.Slice.sliceAdjust
    rfl
  have plc : Builtin.Slice.slicePlaces ((items.size : Int) - 1) (-1) (-1) = items.size := by
    unfold Builtin.Slice.slicePlaces
    rw [if_neg (by decide)]
    by_cases z : (items.size : Int) - 1 > -1
    · rw [if_pos z, show ((items.size : Int) - 1 - -1 - 1) = (items.size : Int) - 1 by omega, show (-(-1) : Int) = 1 by rfl, Int.ediv_one]; omega
    · rw [if_neg z]; omega
  show wpAny _ _ (match Builtin.Slice.sliceAdjust none none (-1) (items.size : Int) with
    | (lo, hi) => pure (lo, (-1 : Int), Builtin.Slice.slicePlaces lo hi (-1))) _ _ s
  rw [adj]
  show wpAny _ _ (pure ((items.size : Int) - 1, (-1 : Int), Builtin.Slice.slicePlaces ((items.size : Int) - 1) (-1) (-1))) _ _ s
  rw [plc]
  refine wpAny_pure ?_
  have no : ¬ ((((items.size : Int) - 1 == 0) && ((-1 : Int) == 1) && (items.size == items.size)) = true) := by
    rw [show ((-1 : Int) == 1) = false by rfl, Bool.and_false, Bool.false_and]; exact Bool.false_ne_true
  have pick : ((List.range items.size).filterMap fun (k : Nat) => items[((items.size : Int) - 1 + (k : Int) * -1).toNat]?) = items.toList.reverse := by
    have e1 : ((List.range items.size).filterMap fun (k : Nat) => items[((items.size : Int) - 1 + (k : Int) * -1).toNat]?) =
        ((List.range items.size).map fun k => items.size - 1 - k).filterMap fun i => items[i]? := by
      rw [List.filterMap_map]
      refine fm_congr _ _ _ fun k hk => ?_
      have := List.mem_range.mp hk
      show items[((items.size : Int) - 1 + (k : Int) * -1).toNat]? = items[items.size - 1 - k]?
      congr 1
      omega
    have e2 : ((List.range items.size).map fun k => items.size - 1 - k) = (List.range items.size).reverse := by
      apply List.ext_getElem
      · simp
      · intro i h1 h2; simp
    have e3 : (List.range items.size).filterMap (fun i => items[i]?) = items.toList := by
      have g : ∀ l : List Value, (List.range l.length).filterMap (fun i => l[i]?) = l := by
        intro l
        induction l with
        | nil => rfl
        | cons x r ih =>
          rw [List.length_cons, List.range_succ_eq_map, List.filterMap_cons]
          simp only [List.getElem?_cons_zero]
          rw [List.filterMap_map]
          congr 1
      have := g items.toList
      simpa using this
    rw [e1, e2, List.filterMap_reverse, e3]
  show wpAny _ _ (if (((items.size : Int) - 1 == 0) && ((-1 : Int) == 1) && (items.size == items.size)) = true then _ else _) _ _ s
  rw [if_neg no, pick]
  refine wpAny_bind (m := Builtin.Tuple.tupleExact _) (wpAny_newObj_type (wpAny_pure ⟨_, rfl, wpAny_pure h⟩) ?_)
  show items.toList.reverse.toArray.size ≤ sizeLine
  rw [List.size_toArray, List.length_reverse, Array.length_toList]; exact hsz
end
def tRevT (K : PySem.W.Frag) (te : TE) : TE := fun σ H Q => te σ H fun x H1 => ∃ a xs,
  x = .ref a ∧ SqT K H1 a xs ∧ ∀ p, H1 p = none → Q (.ref p) (upd H1 p (.tup xs.reverse))
theorem pe_revT {X : Cx} {e : Expr} {te : TE} {k : Nat} {p1 p2 p3 pos : Pos} (he : PE X e te) :
    PE X (.Subscript e (.Slice none none (some (.UnaryOp .USub (.Constant (.int 1) k p1) p2)) p3) pos) (tRevT X.K te) := by
  constructor
  intro pins s σ H Q I h
  refine Subscript_ (thn (he.run pins s σ H _ I h) ?_)
  rintro v s1 ⟨x, H1, I1, r1, a, xs, rfl, hx, q⟩
  cases r1
  have hst : PO X (some (.UnaryOp .USub (.Constant (.int 1) k p1) p2)) (tPart (tUn (rU fun i => .int (-i)) (tC (.int 1)))) :=
    po_some (pe_un un_neg pe_int)
  refine wpAny_Slice (thn (po_none.run pins s1 σ H1 (fun o H2 => o = none ∧ H2 = H1) I1 ⟨rfl, rfl⟩) ?_)
  rintro vl s2 ⟨l, H2, I2, pl, rfl, rfl⟩
  refine thn (po_none.run pins s2 σ H2 (fun o H3 => o = none ∧ H3 = H2) I2 ⟨rfl, rfl⟩) ?_
  rintro vu s3 ⟨u, H3, I3, pu, rfl, rfl⟩
  refine thn (hst.run pins s3 σ H3 (fun o H4 => o = some (-1) ∧ H4 = H3) I3 ⟨1, rfl, -1, rfl, rfl, rfl⟩) ?_
  rintro vs s4 ⟨o, H4, I4, ps, rfl, rfl⟩
  have I5 : Inv X pins σ H4 { s4 with heap := s4.heap.push { cls := .type "slice", data := .fields #[vl, vu, vs] } } :=
    I4.kept (t' := s4.toks) fun b ob q => Heap.get?_push_of_some _ q
  obtain ⟨its, r, ht, hz⟩ := I5.tuple hx
  have hlen := r.length
  cases pl
  cases pu
  cases ps
  rename_i t4
  show wpAny (model X.prog X.w) X.A (subscriptTail e _ (.ref a) (.ref s4.heap.objs.size)) (EP X pins σ Q) X.xe _
  refine tail_any (ops := [.ref a, .ref s4.heap.objs.size]) ht.typeIs PyProof.Rows.slot_tuple_getitem.lookup ?_ (by with_unfolding_all rfl)
  refine rev_get ht (Heap.IsSliceOf.new _ _ _ _) (by rw [List.size_toArray]; omega) ?_
  have e9 : its.toArray.toList = its := by simp
  rw [e9]
  refine ⟨.ref _, _, I5.laid (t' := s4.toks) (o := .tup xs.reverse) (fun b ob q => Heap.get?_push_of_some _ q) (Nat.le_refl _) ?_, rfl, q _ (I5.hok.fresh (Nat.le_refl _))⟩
  exact ⟨by rw [List.length_reverse]; exact hz, its.reverse, r.reverse, IsTup.new _ _⟩
/-! f(k = v) -/
section
variable {X : Cx} {k j : Nat} {st : Stmt} {ps ks : List Str} {sp : Sp} {x : Str} {p pos : Pos} {tk : TA} {kws : List Keyword}
theorem pe_caK (ks : List Str) (c : Ca X.prog X.w X.K X.mg X.base k x st ps sp) (hr : Room j X.A) (hkw : PK X kws tk)
    (hb : ∀ (kV doc pm : Value) (an : Option Addr) (cdv ct : Value) (us ws : List Value), (us ++ ws).length = ps.length →
      bindArgs (PySem.W.fnOf x x (defArgs st) (defBody st) (defScope st) .none kV doc pm an cdv ct) ⟨us, ks.zip ws⟩ = pure (ps.zip (us ++ ws)))
    (hg : Gl X x := by rfl) (hj : k ≤ j := by decide)
    (hall : (backToKw pos (keywordEach kws X.env)).all (·.1.isSome) = true := by rfl)
    (hks : (backToKw pos (keywordEach kws X.env)).filterMap (·.1) = ks := by rfl)
    (hdb : (x == ("__debug__" : Str)) = false := by decide)
    (hpl : ((backTo pos (starEach [] X.env)).any (·.1) || (backToKw pos (keywordEach kws X.env)).any (·.1.isNone)) = false := by rfl) :
    PE X (.Call (.Name x p) [] kws pos) (fun σ H Q => tk σ H fun zs H2 => sp zs H2 Q E0) := by
  obtain ⟨f, fd, F, D, B, g⟩ := c.ex
  have kb : KBinds X.K fd ps ks (fun us ws => us ++ ws) (fun vs zs => vs ++ zs) := by
    obtain ⟨oc, od, dV, kV, doc, pm, an, cdv, ct, osl, rfl, lk, hcd, hD, hK⟩ := D.ex
    rcases hD with ⟨_, rfl⟩ | ⟨e, _⟩
    · exact ⟨fun s us ws _ hl => .of_eq (hb kV doc pm an cdv ct us ws hl), fun r1 r2 => r1.append r2⟩
    · exact absurd rfl e
  exact pe_callK0 (gV := fun vs zs => vs ++ zs) F (hr.mono hj) hg g D.kp kb pass0 hkw hall hks hdb hpl
end
end Ly

namespace K06
open PySem PySem.Spec PyProof.Rows L2 Ly
def top (i : Nat) : Stmt := PySem.Challenge.pw_toldamounts_k06_whole_spreads_of_counts.main.body.getD i (.Pass ⟨0, 0, 0, 0⟩)
abbrev s_is_integer : Stmt := top 7
abbrev s_is_integer_in : Stmt := top 8
abbrev s_is_tuple_of : Stmt := top 9
abbrev s_are_integers_in : Stmt := top 10
abbrev s_is_ascending : Stmt := top 11
abbrev s_is_prime : Stmt := top 13
abbrev s_prime_powers : Stmt := top 14
abbrev s_amount_from : Stmt := top 16
abbrev s_logs_added : Stmt := top 17
abbrev s_spread_of : Stmt := top 18
abbrev s_combined : Stmt := top 19
abbrev s_power : Stmt := top 20
abbrev s_products_of : Stmt := top 21
abbrev s_is_part : Stmt := top 27
abbrev s_is_amount : Stmt := top 28
abbrev s_require_amount : Stmt := top 29
abbrev s_require_number : Stmt := top 30
abbrev s_amount_of : Stmt := top 31
abbrev s_spread : Stmt := top 32
abbrev s_plus : Stmt := top 33
abbrev s_minus : Stmt := top 34
abbrev s_is_below : Stmt := top 35
abbrev s_times : Stmt := top 36
abbrev s_sign_of : Stmt := top 37
abbrev s_L_deck : Stmt := top 39
abbrev s_L_draw : Stmt := top 40
abbrev s_L_gcd : Stmt := top 41
abbrev s_L_is_integer : Stmt := top 42
abbrev s_L_is_prime : Stmt := top 43
abbrev s_L_is_own_amount : Stmt := top 44
abbrev s_L_drawn : Stmt := top 45
abbrev s_L_stands_for : Stmt := top 46
abbrev s_L_is_bounded : Stmt := top 47
abbrev s_L_is_put_together : Stmt := top 48
abbrev s_law : Stmt := top 49
def d_is_integer : He.DefD := Ly.dOf "is_integer" s_is_integer
def d_is_integer_in : He.DefD := Ly.dOf "is_integer_in" s_is_integer_in
def d_is_tuple_of : He.DefD := Ly.dOf "is_tuple_of" s_is_tuple_of
def d_are_integers_in : He.DefD := Ly.dOf "are_integers_in" s_are_integers_in
def d_is_ascending : He.DefD := Ly.dOf "is_ascending" s_is_ascending
def d_is_prime : He.DefD := Ly.dOf "is_prime" s_is_prime
def d_prime_powers : He.DefD := Ly.dOf "prime_powers" s_prime_powers
def d_amount_from : He.DefD := Ly.dOf "amount_from" s_amount_from
def d_logs_added : He.DefD := Ly.dOf "logs_added" s_logs_added
def d_spread_of : He.DefD := Ly.dOf "spread_of" s_spread_of
def d_combined : He.DefD := Ly.dOf "combined" s_combined
def d_power : He.DefD := Ly.dOf "power" s_power
def d_products_of : He.DefD := Ly.dOf "products_of" s_products_of
def d_is_part : He.DefD := Ly.dOf "is_part" s_is_part
def d_is_amount : He.DefD := Ly.dOf "is_amount" s_is_amount
def d_require_amount : He.DefD := Ly.dOf "require_amount" s_require_amount
def d_require_number : He.DefD := Ly.dOf "require_number" s_require_number
def d_amount_of : He.DefD := Ly.dOf "amount_of" s_amount_of
def d_spread : He.DefD := Ly.dOf "spread" s_spread
def d_plus : He.DefD := Ly.dOf "plus" s_plus
def d_minus : He.DefD := Ly.dOf "minus" s_minus
def d_is_below : He.DefD := Ly.dOf "is_below" s_is_below
def d_times : He.DefD := Ly.dOf "times" s_times
def d_sign_of : He.DefD := Ly.dOf "sign_of" s_sign_of
def d_L_deck : He.DefD := Ly.dOf "_law_deck" s_L_deck
def d_L_draw : He.DefD := Ly.dOf "_law_draw" s_L_draw
def d_L_gcd : He.DefD := Ly.dOf "_law_gcd" s_L_gcd
def d_L_is_integer : He.DefD := Ly.dOf "_law_is_integer" s_L_is_integer
def d_L_is_prime : He.DefD := Ly.dOf "_law_is_prime" s_L_is_prime
def d_L_is_own_amount : He.DefD := Ly.dOf "_law_is_own_amount" s_L_is_own_amount
def d_L_drawn : He.DefD := Ly.dOf "_law_drawn" s_L_drawn
def d_L_stands_for : He.DefD := Ly.dOf "_law_stands_for" s_L_stands_for
def d_L_is_bounded : He.DefD := Ly.dOf "_law_is_bounded" s_L_is_bounded
def d_L_is_put_together : He.DefD := Ly.dOf "_law_is_put_together" s_L_is_put_together
def d_law : He.DefD := Ly.dOf "law" s_law
def fn : List He.DefD := [d_is_integer, d_is_integer_in, d_is_tuple_of, d_are_integers_in, d_is_ascending, d_is_prime, d_prime_powers, d_amount_from, d_logs_added, d_spread_of, d_combined, d_power, d_products_of, d_is_part, d_is_amount, d_require_amount, d_require_number, d_amount_of, d_spread, d_plus, d_minus, d_is_below, d_times, d_sign_of, d_L_deck, d_L_draw, d_L_gcd, d_L_is_integer, d_L_is_prime, d_L_is_own_amount, d_L_drawn, d_L_stands_for, d_L_is_bounded, d_L_is_put_together, d_law]
def fa : List He.Fa := [.glo "is_integer", .glo "is_integer_in", .glo "is_tuple_of", .glo "are_integers_in", .glo "is_ascending", .glo "is_prime", .glo "prime_powers", .glo "amount_from", .glo "logs_added", .glo "spread_of", .glo "combined", .glo "power", .glo "products_of", .glo "is_part", .glo "is_amount", .glo "require_amount", .glo "require_number", .glo "amount_of", .glo "spread", .glo "plus", .glo "minus", .glo "is_below", .glo "times", .glo "sign_of", .glo "_law_deck", .glo "_law_draw", .glo "_law_gcd", .glo "_law_is_integer", .glo "_law_is_prime", .glo "_law_is_own_amount", .glo "_law_drawn", .glo "_law_stands_for", .glo "_law_is_bounded", .glo "_law_is_put_together", .glo "law", .free "isinstance", .free "int", .free "bool", .free "tuple", .free "len", .free "all", .free "zip", .free "range", .free "sorted", .free "sum", .free "list", .free "max", .free "abs", .free "min", .free "dict", .free "repr", .int "ABOVE_PRIMES" 1000000, .int "MOST_COUNTS" 40, .int "MOST_COUNT" 999, .int "MOST_TOP" 1000]
def ex (K : PySem.W.Frag) : Bool := He.eqO (PySem.W.nsIn K mainGlobals "gcd") (some (some (.builtin "math.gcd"))) && He.eqO (PySem.W.nsIn K mainGlobals "isqrt") (some (some (.builtin "math.isqrt"))) && He.eqO (PySem.W.nsIn K mainGlobals "lcm") (some (some (.builtin "math.lcm")))
abbrev n_is_integer : List Str := ["thing"]
theorem sc_is_integer : FnScope n_is_integer ["thing"] (defScope s_is_integer) := ⟨rfl, rfl, rfl, by decide +kernel, rfl, by decide +kernel, by decide +kernel⟩
abbrev n_is_integer_in : List Str := ["thing", "low", "high"]
theorem sc_is_integer_in : FnScope n_is_integer_in ["thing", "low", "high"] (defScope s_is_integer_in) := ⟨rfl, rfl, rfl, by decide +kernel, rfl, by decide +kernel, by decide +kernel⟩
abbrev n_is_tuple_of : List Str := ["thing", "size"]
theorem sc_is_tuple_of : FnScope n_is_tuple_of ["thing", "size"] (defScope s_is_tuple_of) := ⟨rfl, rfl, rfl, by decide +kernel, rfl, by decide +kernel, by decide +kernel⟩
abbrev n_are_integers_in : List Str := ["thing", "low", "high", "item"]
theorem sc_are_integers_in : FnScope n_are_integers_in ["thing", "low", "high"] (defScope s_are_integers_in) := ⟨rfl, rfl, rfl, by decide +kernel, rfl, by decide +kernel, by decide +kernel⟩
abbrev n_is_ascending : List Str := ["items", "one", "other"]
theorem sc_is_ascending : FnScope n_is_ascending ["items"] (defScope s_is_ascending) := ⟨rfl, rfl, rfl, by decide +kernel, rfl, by decide +kernel, by decide +kernel⟩
abbrev n_is_prime : List Str := ["number", "divisor"]
theorem sc_is_prime : FnScope n_is_prime ["number"] (defScope s_is_prime) := ⟨rfl, rfl, rfl, by decide +kernel, rfl, by decide +kernel, by decide +kernel⟩
abbrev n_prime_powers : List Str := ["number", "powers", "divisor"]
theorem sc_prime_powers : FnScope n_prime_powers ["number"] (defScope s_prime_powers) := ⟨rfl, rfl, rfl, by decide +kernel, rfl, by decide +kernel, by decide +kernel⟩
abbrev n_amount_from : List Str := ["bottom", "powers", "divisor", "factor", "parts", "prime"]
theorem sc_amount_from : FnScope n_amount_from ["bottom", "powers"] (defScope s_amount_from) := ⟨rfl, rfl, rfl, by decide +kernel, rfl, by decide +kernel, by decide +kernel⟩
abbrev n_logs_added : List Str := ["pairs", "powers", "factor", "number", "found", "prime", "many"]
theorem sc_logs_added : FnScope n_logs_added ["pairs"] (defScope s_logs_added) := ⟨rfl, rfl, rfl, by decide +kernel, rfl, by decide +kernel, by decide +kernel⟩
abbrev n_spread_of : List Str := ["counts", "total", "count"]
theorem sc_spread_of : FnScope n_spread_of ["counts"] (defScope s_spread_of) := ⟨rfl, rfl, rfl, by decide +kernel, rfl, by decide +kernel, by decide +kernel⟩
abbrev n_combined : List Str := ["pairs", "bottom", "_", "amount", "powers", "factor", "stretch", "prime", "many"]
theorem sc_combined : FnScope n_combined ["pairs"] (defScope s_combined) := ⟨rfl, rfl, rfl, by decide +kernel, rfl, by decide +kernel, by decide +kernel⟩
abbrev n_power : List Str := ["base", "exponent", "result"]
theorem sc_power : FnScope n_power ["base", "exponent"] (defScope s_power) := ⟨rfl, rfl, rfl, by decide +kernel, rfl, by decide +kernel, by decide +kernel⟩
abbrev n_products_of : List Str := ["parts", "k", "above", "below", "prime", "factor"]
theorem sc_products_of : FnScope n_products_of ["parts", "k"] (defScope s_products_of) := ⟨rfl, rfl, rfl, by decide +kernel, rfl, by decide +kernel, by decide +kernel⟩
abbrev n_is_part : List Str := ["thing"]
theorem sc_is_part : FnScope n_is_part ["thing"] (defScope s_is_part) := ⟨rfl, rfl, rfl, by decide +kernel, rfl, by decide +kernel, by decide +kernel⟩
abbrev n_is_amount : List Str := ["thing", "bottom", "parts", "part", "divisor"]
theorem sc_is_amount : FnScope n_is_amount ["thing"] (defScope s_is_amount) := ⟨rfl, rfl, rfl, by decide +kernel, rfl, by decide +kernel, by decide +kernel⟩
abbrev n_require_amount : List Str := ["thing"]
theorem sc_require_amount : FnScope n_require_amount ["thing"] (defScope s_require_amount) := ⟨rfl, rfl, rfl, by decide +kernel, rfl, by decide +kernel, by decide +kernel⟩
abbrev n_require_number : List Str := ["thing", "low", "high"]
theorem sc_require_number : FnScope n_require_number ["thing", "low", "high"] (defScope s_require_number) := ⟨rfl, rfl, rfl, by decide +kernel, rfl, by decide +kernel, by decide +kernel⟩
abbrev n_amount_of : List Str := ["number"]
theorem sc_amount_of : FnScope n_amount_of ["number"] (defScope s_amount_of) := ⟨rfl, rfl, rfl, by decide +kernel, rfl, by decide +kernel, by decide +kernel⟩
abbrev n_spread : List Str := ["counts"]
theorem sc_spread : FnScope n_spread ["counts"] (defScope s_spread) := ⟨rfl, rfl, rfl, by decide +kernel, rfl, by decide +kernel, by decide +kernel⟩
abbrev n_plus : List Str := ["one", "other"]
theorem sc_plus : FnScope n_plus ["one", "other"] (defScope s_plus) := ⟨rfl, rfl, rfl, by decide +kernel, rfl, by decide +kernel, by decide +kernel⟩
abbrev n_minus : List Str := ["one", "other"]
theorem sc_minus : FnScope n_minus ["one", "other"] (defScope s_minus) := ⟨rfl, rfl, rfl, by decide +kernel, rfl, by decide +kernel, by decide +kernel⟩
abbrev n_is_below : List Str := ["one", "other"]
theorem sc_is_below : FnScope n_is_below ["one", "other"] (defScope s_is_below) := ⟨rfl, rfl, rfl, by decide +kernel, rfl, by decide +kernel, by decide +kernel⟩
abbrev n_times : List Str := ["amount", "top", "bottom", "powers", "prime", "factor"]
theorem sc_times : FnScope n_times ["amount", "top", "bottom"] (defScope s_times) := ⟨rfl, rfl, rfl, by decide +kernel, rfl, by decide +kernel, by decide +kernel⟩
abbrev n_sign_of : List Str := ["amount", "above", "below"]
theorem sc_sign_of : FnScope n_sign_of ["amount"] (defScope s_sign_of) := ⟨rfl, rfl, rfl, by decide +kernel, rfl, by decide +kernel, by decide +kernel⟩
abbrev n_L_deck : List Str := ["_law_script", "_law_mixed", "_law_cell"]
theorem sc_L_deck : FnScope n_L_deck ["_law_script"] (defScope s_L_deck) := ⟨rfl, rfl, rfl, by decide +kernel, rfl, by decide +kernel, by decide +kernel⟩
abbrev n_L_draw : List Str := ["_law_deck_here", "_law_many", "_law_number", "_law_cell"]
theorem sc_L_draw : FnScope n_L_draw ["_law_deck_here", "_law_many"] (defScope s_L_draw) := ⟨rfl, rfl, rfl, by decide +kernel, rfl, by decide +kernel, by decide +kernel⟩
abbrev n_L_gcd : List Str := ["_law_a", "_law_b", "_law_turn"]
theorem sc_L_gcd : FnScope n_L_gcd ["_law_a", "_law_b"] (defScope s_L_gcd) := ⟨rfl, rfl, rfl, by decide +kernel, rfl, by decide +kernel, by decide +kernel⟩
abbrev n_L_is_integer : List Str := ["_law_thing"]
theorem sc_L_is_integer : FnScope n_L_is_integer ["_law_thing"] (defScope s_L_is_integer) := ⟨rfl, rfl, rfl, by decide +kernel, rfl, by decide +kernel, by decide +kernel⟩
abbrev n_L_is_prime : List Str := ["_law_p", "_law_q"]
theorem sc_L_is_prime : FnScope n_L_is_prime ["_law_p"] (defScope s_L_is_prime) := ⟨rfl, rfl, rfl, by decide +kernel, rfl, by decide +kernel, by decide +kernel⟩
abbrev n_L_is_own_amount : List Str := ["_law_thing", "_law_common", "_law_last", "_law_part"]
theorem sc_L_is_own_amount : FnScope n_L_is_own_amount ["_law_thing"] (defScope s_L_is_own_amount) := ⟨rfl, rfl, rfl, by decide +kernel, rfl, by decide +kernel, by decide +kernel⟩
abbrev n_L_drawn : List Str := ["_law_deck_here", "_law_most", "_law_few", "_law_way", "_law_many", "_law_each", "_law_turn"]
theorem sc_L_drawn : FnScope n_L_drawn ["_law_deck_here", "_law_most", "_law_few"] (defScope s_L_drawn) := ⟨rfl, rfl, rfl, by decide +kernel, rfl, by decide +kernel, by decide +kernel⟩
abbrev n_L_stands_for : List Str := ["_law_counts", "_law_told", "_law_total", "_law_parts", "_law_p", "_law_due", "_law_sign", "_law_numbers", "_law_number", "_law_left", "_law_turn", "_law_q"]
theorem sc_L_stands_for : FnScope n_L_stands_for ["_law_counts", "_law_told"] (defScope s_L_stands_for) := ⟨rfl, rfl, rfl, by decide +kernel, rfl, by decide +kernel, by decide +kernel⟩
abbrev n_L_is_bounded : List Str := ["_law_counts", "_law_told", "_law_most"]
theorem sc_L_is_bounded : FnScope n_L_is_bounded ["_law_counts", "_law_told"] (defScope s_L_is_bounded) := ⟨rfl, rfl, rfl, by decide +kernel, rfl, by decide +kernel, by decide +kernel⟩
abbrev n_L_is_put_together : List Str := ["_law_deck_here", "_law_counts", "_law_told", "_law_keys", "_law_parts", "_law_part", "_law_total", "_law_left", "_law_near", "_law_count", "_law_at", "_law_key"]
theorem sc_L_is_put_together : FnScope n_L_is_put_together ["_law_deck_here", "_law_counts", "_law_told"] (defScope s_L_is_put_together) := ⟨rfl, rfl, rfl, by decide +kernel, rfl, by decide +kernel, by decide +kernel⟩
abbrev n_law : List Str := ["_law_script", "_law_deck_here", "_law_counts", "_law_told", "_law_by", "_law_count", "_law_at", "_law_many", "_law_one", "_law_other", "_law_both", "_law_great", "_law_far"]
theorem sc_law : FnScope n_law ["_law_script"] (defScope s_law) := ⟨rfl, rfl, rfl, by decide +kernel, rfl, by decide +kernel, by decide +kernel⟩
/-- what the top has left -/
structure Tx (K : PySem.W.Frag) (mg : Str → Option Value) : Prop where
  says : He.SaysD fa fn K
  g_is_integer : mg "is_integer" = some (.ref (He.ga K "is_integer"))
  g_is_integer_in : mg "is_integer_in" = some (.ref (He.ga K "is_integer_in"))
  g_is_tuple_of : mg "is_tuple_of" = some (.ref (He.ga K "is_tuple_of"))
  g_are_integers_in : mg "are_integers_in" = some (.ref (He.ga K "are_integers_in"))
  g_is_ascending : mg "is_ascending" = some (.ref (He.ga K "is_ascending"))
  g_is_prime : mg "is_prime" = some (.ref (He.ga K "is_prime"))
  g_prime_powers : mg "prime_powers" = some (.ref (He.ga K "prime_powers"))
  g_amount_from : mg "amount_from" = some (.ref (He.ga K "amount_from"))
  g_logs_added : mg "logs_added" = some (.ref (He.ga K "logs_added"))
  g_spread_of : mg "spread_of" = some (.ref (He.ga K "spread_of"))
  g_combined : mg "combined" = some (.ref (He.ga K "combined"))
  g_power : mg "power" = some (.ref (He.ga K "power"))
  g_products_of : mg "products_of" = some (.ref (He.ga K "products_of"))
  g_is_part : mg "is_part" = some (.ref (He.ga K "is_part"))
  g_is_amount : mg "is_amount" = some (.ref (He.ga K "is_amount"))
  g_require_amount : mg "require_amount" = some (.ref (He.ga K "require_amount"))
  g_require_number : mg "require_number" = some (.ref (He.ga K "require_number"))
  g_amount_of : mg "amount_of" = some (.ref (He.ga K "amount_of"))
  g_spread : mg "spread" = some (.ref (He.ga K "spread"))
  g_plus : mg "plus" = some (.ref (He.ga K "plus"))
  g_minus : mg "minus" = some (.ref (He.ga K "minus"))
  g_is_below : mg "is_below" = some (.ref (He.ga K "is_below"))
  g_times : mg "times" = some (.ref (He.ga K "times"))
  g_sign_of : mg "sign_of" = some (.ref (He.ga K "sign_of"))
  g_L_deck : mg "_law_deck" = some (.ref (He.ga K "_law_deck"))
  g_L_draw : mg "_law_draw" = some (.ref (He.ga K "_law_draw"))
  g_L_gcd : mg "_law_gcd" = some (.ref (He.ga K "_law_gcd"))
  g_L_is_integer : mg "_law_is_integer" = some (.ref (He.ga K "_law_is_integer"))
  g_L_is_prime : mg "_law_is_prime" = some (.ref (He.ga K "_law_is_prime"))
  g_L_is_own_amount : mg "_law_is_own_amount" = some (.ref (He.ga K "_law_is_own_amount"))
  g_L_drawn : mg "_law_drawn" = some (.ref (He.ga K "_law_drawn"))
  g_L_stands_for : mg "_law_stands_for" = some (.ref (He.ga K "_law_stands_for"))
  g_L_is_bounded : mg "_law_is_bounded" = some (.ref (He.ga K "_law_is_bounded"))
  g_L_is_put_together : mg "_law_is_put_together" = some (.ref (He.ga K "_law_is_put_together"))
  g_law : mg "law" = some (.ref (He.ga K "law"))
  f_isinstance : mg "isinstance" = none
  f_int : mg "int" = none
  f_bool : mg "bool" = none
  f_tuple : mg "tuple" = none
  f_len : mg "len" = none
  f_all : mg "all" = none
  f_zip : mg "zip" = none
  f_range : mg "range" = none
  f_sorted : mg "sorted" = none
  f_sum : mg "sum" = none
  f_list : mg "list" = none
  f_max : mg "max" = none
  f_abs : mg "abs" = none
  f_min : mg "min" = none
  f_dict : mg "dict" = none
  f_repr : mg "repr" = none
  i_ABOVE_PRIMES : ∃ t, mg "ABOVE_PRIMES" = some (.int 1000000 t)
  i_MOST_COUNTS : ∃ t, mg "MOST_COUNTS" = some (.int 40 t)
  i_MOST_COUNT : ∃ t, mg "MOST_COUNT" = some (.int 999 t)
  i_MOST_TOP : ∃ t, mg "MOST_TOP" = some (.int 1000 t)
  b_gcd : mg "gcd" = some (.builtin "math.gcd")
  b_isqrt : mg "isqrt" = some (.builtin "math.isqrt")
  b_lcm : mg "lcm" = some (.builtin "math.lcm")
theorem Tx.mk_of {K : PySem.W.Frag} {h : Heap} {mg : Str → Option Value} {w : World} {hh : Heap} (X : K.In h) (G : h.Ns mainGlobals mg) (c : He.SaysX fa fn [] [] ex w hh K) : Tx K mg := by
  have s := Ly.saysD_of c
  have m := c.more
  unfold ex at m
  simp only [Bool.and_eq_true] at m
  exact ⟨s,
    He.glo_ok X G (s.fact 0 (f := .glo "is_integer") rfl),
    He.glo_ok X G (s.fact 1 (f := .glo "is_integer_in") rfl),
    He.glo_ok X G (s.fact 2 (f := .glo "is_tuple_of") rfl),
    He.glo_ok X G (s.fact 3 (f := .glo "are_integers_in") rfl),
    He.glo_ok X G (s.fact 4 (f := .glo "is_ascending") rfl),
    He.glo_ok X G (s.fact 5 (f := .glo "is_prime") rfl),
    He.glo_ok X G (s.fact 6 (f := .glo "prime_powers") rfl),
    He.glo_ok X G (s.fact 7 (f := .glo "amount_from") rfl),
    He.glo_ok X G (s.fact 8 (f := .glo "logs_added") rfl),
    He.glo_ok X G (s.fact 9 (f := .glo "spread_of") rfl),
    He.glo_ok X G (s.fact 10 (f := .glo "combined") rfl),
    He.glo_ok X G (s.fact 11 (f := .glo "power") rfl),
    He.glo_ok X G (s.fact 12 (f := .glo "products_of") rfl),
    He.glo_ok X G (s.fact 13 (f := .glo "is_part") rfl),
    He.glo_ok X G (s.fact 14 (f := .glo "is_amount") rfl),
    He.glo_ok X G (s.fact 15 (f := .glo "require_amount") rfl),
    He.glo_ok X G (s.fact 16 (f := .glo "require_number") rfl),
    He.glo_ok X G (s.fact 17 (f := .glo "amount_of") rfl),
    He.glo_ok X G (s.fact 18 (f := .glo "spread") rfl),
    He.glo_ok X G (s.fact 19 (f := .glo "plus") rfl),
    He.glo_ok X G (s.fact 20 (f := .glo "minus") rfl),
    He.glo_ok X G (s.fact 21 (f := .glo "is_below") rfl),
    He.glo_ok X G (s.fact 22 (f := .glo "times") rfl),
    He.glo_ok X G (s.fact 23 (f := .glo "sign_of") rfl),
    He.glo_ok X G (s.fact 24 (f := .glo "_law_deck") rfl),
    He.glo_ok X G (s.fact 25 (f := .glo "_law_draw") rfl),
    He.glo_ok X G (s.fact 26 (f := .glo "_law_gcd") rfl),
    He.glo_ok X G (s.fact 27 (f := .glo "_law_is_integer") rfl),
    He.glo_ok X G (s.fact 28 (f := .glo "_law_is_prime") rfl),
    He.glo_ok X G (s.fact 29 (f := .glo "_law_is_own_amount") rfl),
    He.glo_ok X G (s.fact 30 (f := .glo "_law_drawn") rfl),
    He.glo_ok X G (s.fact 31 (f := .glo "_law_stands_for") rfl),
    He.glo_ok X G (s.fact 32 (f := .glo "_law_is_bounded") rfl),
    He.glo_ok X G (s.fact 33 (f := .glo "_law_is_put_together") rfl),
    He.glo_ok X G (s.fact 34 (f := .glo "law") rfl),
    He.free_ok X G (s.fact 35 (f := .free "isinstance") rfl),
    He.free_ok X G (s.fact 36 (f := .free "int") rfl),
    He.free_ok X G (s.fact 37 (f := .free "bool") rfl),
    He.free_ok X G (s.fact 38 (f := .free "tuple") rfl),
    He.free_ok X G (s.fact 39 (f := .free "len") rfl),
    He.free_ok X G (s.fact 40 (f := .free "all") rfl),
    He.free_ok X G (s.fact 41 (f := .free "zip") rfl),
    He.free_ok X G (s.fact 42 (f := .free "range") rfl),
    He.free_ok X G (s.fact 43 (f := .free "sorted") rfl),
    He.free_ok X G (s.fact 44 (f := .free "sum") rfl),
    He.free_ok X G (s.fact 45 (f := .free "list") rfl),
    He.free_ok X G (s.fact 46 (f := .free "max") rfl),
    He.free_ok X G (s.fact 47 (f := .free "abs") rfl),
    He.free_ok X G (s.fact 48 (f := .free "min") rfl),
    He.free_ok X G (s.fact 49 (f := .free "dict") rfl),
    He.free_ok X G (s.fact 50 (f := .free "repr") rfl),
    He.int_ok X G (s.fact 51 (f := .int "ABOVE_PRIMES" 1000000) rfl),
    He.int_ok X G (s.fact 52 (f := .int "MOST_COUNTS" 40) rfl),
    He.int_ok X G (s.fact 53 (f := .int "MOST_COUNT" 999) rfl),
    He.int_ok X G (s.fact 54 (f := .int "MOST_TOP" 1000) rfl),
    PySem.W.mg_of X G (He.eqO_ok m.1.1),
    PySem.W.mg_of X G (He.eqO_ok m.1.2),
    PySem.W.mg_of X G (He.eqO_ok m.2)⟩
theorem fd_is_integer {K : PySem.W.Frag} {mg : Str → Option Value} (T : Tx K mg) : Ly.Def_ K mg "is_integer" s_is_integer ["thing"] := by
  obtain ⟨fd, F⟩ := T.says.def_ 0 (d := d_is_integer) rfl
  exact ⟨_, fd, F, FunD.bindsN F (ps := ["thing"]) (fun _ _ _ _ _ _ us hl => match us, hl with | [_], _ => rfl), FunD.bindsA F (ps := ["thing"]) (fun _ _ _ _ _ _ us hl => match us, hl with | [_], _ => rfl), T.g_is_integer⟩
theorem fd_is_integer_in {K : PySem.W.Frag} {mg : Str → Option Value} (T : Tx K mg) : Ly.Def_ K mg "is_integer_in" s_is_integer_in ["thing", "low", "high"] := by
  obtain ⟨fd, F⟩ := T.says.def_ 1 (d := d_is_integer_in) rfl
  exact ⟨_, fd, F, FunD.bindsN F (ps := ["thing", "low", "high"]) (fun _ _ _ _ _ _ us hl => match us, hl with | [_, _, _], _ => rfl), FunD.bindsA F (ps := ["thing", "low", "high"]) (fun _ _ _ _ _ _ us hl => match us, hl with | [_, _, _], _ => rfl), T.g_is_integer_in⟩
theorem fd_is_tuple_of {K : PySem.W.Frag} {mg : Str → Option Value} (T : Tx K mg) : Ly.Def_ K mg "is_tuple_of" s_is_tuple_of ["thing", "size"] := by
  obtain ⟨fd, F⟩ := T.says.def_ 2 (d := d_is_tuple_of) rfl
  exact ⟨_, fd, F, FunD.bindsN F (ps := ["thing", "size"]) (fun _ _ _ _ _ _ us hl => match us, hl with | [_, _], _ => rfl), FunD.bindsA F (ps := ["thing", "size"]) (fun _ _ _ _ _ _ us hl => match us, hl with | [_, _], _ => rfl), T.g_is_tuple_of⟩
theorem fd_are_integers_in {K : PySem.W.Frag} {mg : Str → Option Value} (T : Tx K mg) : Ly.Def_ K mg "are_integers_in" s_are_integers_in ["thing", "low", "high"] := by
  obtain ⟨fd, F⟩ := T.says.def_ 3 (d := d_are_integers_in) rfl
  exact ⟨_, fd, F, FunD.bindsN F (ps := ["thing", "low", "high"]) (fun _ _ _ _ _ _ us hl => match us, hl with | [_, _, _], _ => rfl), FunD.bindsA F (ps := ["thing", "low", "high"]) (fun _ _ _ _ _ _ us hl => match us, hl with | [_, _, _], _ => rfl), T.g_are_integers_in⟩
theorem fd_is_ascending {K : PySem.W.Frag} {mg : Str → Option Value} (T : Tx K mg) : Ly.Def_ K mg "is_ascending" s_is_ascending ["items"] := by
  obtain ⟨fd, F⟩ := T.says.def_ 4 (d := d_is_ascending) rfl
  exact ⟨_, fd, F, FunD.bindsN F (ps := ["items"]) (fun _ _ _ _ _ _ us hl => match us, hl with | [_], _ => rfl), FunD.bindsA F (ps := ["items"]) (fun _ _ _ _ _ _ us hl => match us, hl with | [_], _ => rfl), T.g_is_ascending⟩
theorem fd_is_prime {K : PySem.W.Frag} {mg : Str → Option Value} (T : Tx K mg) : Ly.Def_ K mg "is_prime" s_is_prime ["number"] := by
  obtain ⟨fd, F⟩ := T.says.def_ 5 (d := d_is_prime) rfl
  exact ⟨_, fd, F, FunD.bindsN F (ps := ["number"]) (fun _ _ _ _ _ _ us hl => match us, hl with | [_], _ => rfl), FunD.bindsA F (ps := ["number"]) (fun _ _ _ _ _ _ us hl => match us, hl with | [_], _ => rfl), T.g_is_prime⟩
theorem fd_prime_powers {K : PySem.W.Frag} {mg : Str → Option Value} (T : Tx K mg) : Ly.Def_ K mg "prime_powers" s_prime_powers ["number"] := by
  obtain ⟨fd, F⟩ := T.says.def_ 6 (d := d_prime_powers) rfl
  exact ⟨_, fd, F, FunD.bindsN F (ps := ["number"]) (fun _ _ _ _ _ _ us hl => match us, hl with | [_], _ => rfl), FunD.bindsA F (ps := ["number"]) (fun _ _ _ _ _ _ us hl => match us, hl with | [_], _ => rfl), T.g_prime_powers⟩
theorem fd_amount_from {K : PySem.W.Frag} {mg : Str → Option Value} (T : Tx K mg) : Ly.Def_ K mg "amount_from" s_amount_from ["bottom", "powers"] := by
  obtain ⟨fd, F⟩ := T.says.def_ 7 (d := d_amount_from) rfl
  exact ⟨_, fd, F, FunD.bindsN F (ps := ["bottom", "powers"]) (fun _ _ _ _ _ _ us hl => match us, hl with | [_, _], _ => rfl), FunD.bindsA F (ps := ["bottom", "powers"]) (fun _ _ _ _ _ _ us hl => match us, hl with | [_, _], _ => rfl), T.g_amount_from⟩
theorem fd_logs_added {K : PySem.W.Frag} {mg : Str → Option Value} (T : Tx K mg) : Ly.Def_ K mg "logs_added" s_logs_added ["pairs"] := by
  obtain ⟨fd, F⟩ := T.says.def_ 8 (d := d_logs_added) rfl
  exact ⟨_, fd, F, FunD.bindsN F (ps := ["pairs"]) (fun _ _ _ _ _ _ us hl => match us, hl with | [_], _ => rfl), FunD.bindsA F (ps := ["pairs"]) (fun _ _ _ _ _ _ us hl => match us, hl with | [_], _ => rfl), T.g_logs_added⟩
theorem fd_spread_of {K : PySem.W.Frag} {mg : Str → Option Value} (T : Tx K mg) : Ly.Def_ K mg "spread_of" s_spread_of ["counts"] := by
  obtain ⟨fd, F⟩ := T.says.def_ 9 (d := d_spread_of) rfl
  exact ⟨_, fd, F, FunD.bindsN F (ps := ["counts"]) (fun _ _ _ _ _ _ us hl => match us, hl with | [_], _ => rfl), FunD.bindsA F (ps := ["counts"]) (fun _ _ _ _ _ _ us hl => match us, hl with | [_], _ => rfl), T.g_spread_of⟩
theorem fd_combined {K : PySem.W.Frag} {mg : Str → Option Value} (T : Tx K mg) : Ly.Def_ K mg "combined" s_combined ["pairs"] := by
  obtain ⟨fd, F⟩ := T.says.def_ 10 (d := d_combined) rfl
  exact ⟨_, fd, F, FunD.bindsN F (ps := ["pairs"]) (fun _ _ _ _ _ _ us hl => match us, hl with | [_], _ => rfl), FunD.bindsA F (ps := ["pairs"]) (fun _ _ _ _ _ _ us hl => match us, hl with | [_], _ => rfl), T.g_combined⟩
theorem fd_power {K : PySem.W.Frag} {mg : Str → Option Value} (T : Tx K mg) : Ly.Def_ K mg "power" s_power ["base", "exponent"] := by
  obtain ⟨fd, F⟩ := T.says.def_ 11 (d := d_power) rfl
  exact ⟨_, fd, F, FunD.bindsN F (ps := ["base", "exponent"]) (fun _ _ _ _ _ _ us hl => match us, hl with | [_, _], _ => rfl), FunD.bindsA F (ps := ["base", "exponent"]) (fun _ _ _ _ _ _ us hl => match us, hl with | [_, _], _ => rfl), T.g_power⟩
theorem fd_products_of {K : PySem.W.Frag} {mg : Str → Option Value} (T : Tx K mg) : Ly.Def_ K mg "products_of" s_products_of ["parts", "k"] := by
  obtain ⟨fd, F⟩ := T.says.def_ 12 (d := d_products_of) rfl
  exact ⟨_, fd, F, FunD.bindsN F (ps := ["parts", "k"]) (fun _ _ _ _ _ _ us hl => match us, hl with | [_, _], _ => rfl), FunD.bindsA F (ps := ["parts", "k"]) (fun _ _ _ _ _ _ us hl => match us, hl with | [_, _], _ => rfl), T.g_products_of⟩
theorem fd_is_part {K : PySem.W.Frag} {mg : Str → Option Value} (T : Tx K mg) : Ly.Def_ K mg "is_part" s_is_part ["thing"] := by
  obtain ⟨fd, F⟩ := T.says.def_ 13 (d := d_is_part) rfl
  exact ⟨_, fd, F, FunD.bindsN F (ps := ["thing"]) (fun _ _ _ _ _ _ us hl => match us, hl with | [_], _ => rfl), FunD.bindsA F (ps := ["thing"]) (fun _ _ _ _ _ _ us hl => match us, hl with | [_], _ => rfl), T.g_is_part⟩
theorem fd_is_amount {K : PySem.W.Frag} {mg : Str → Option Value} (T : Tx K mg) : Ly.Def_ K mg "is_amount" s_is_amount ["thing"] := by
  obtain ⟨fd, F⟩ := T.says.def_ 14 (d := d_is_amount) rfl
  exact ⟨_, fd, F, FunD.bindsN F (ps := ["thing"]) (fun _ _ _ _ _ _ us hl => match us, hl with | [_], _ => rfl), FunD.bindsA F (ps := ["thing"]) (fun _ _ _ _ _ _ us hl => match us, hl with | [_], _ => rfl), T.g_is_amount⟩
theorem fd_require_amount {K : PySem.W.Frag} {mg : Str → Option Value} (T : Tx K mg) : Ly.Def_ K mg "require_amount" s_require_amount ["thing"] := by
  obtain ⟨fd, F⟩ := T.says.def_ 15 (d := d_require_amount) rfl
  exact ⟨_, fd, F, FunD.bindsN F (ps := ["thing"]) (fun _ _ _ _ _ _ us hl => match us, hl with | [_], _ => rfl), FunD.bindsA F (ps := ["thing"]) (fun _ _ _ _ _ _ us hl => match us, hl with | [_], _ => rfl), T.g_require_amount⟩
theorem fd_require_number {K : PySem.W.Frag} {mg : Str → Option Value} (T : Tx K mg) : Ly.Def_ K mg "require_number" s_require_number ["thing", "low", "high"] := by
  obtain ⟨fd, F⟩ := T.says.def_ 16 (d := d_require_number) rfl
  exact ⟨_, fd, F, FunD.bindsN F (ps := ["thing", "low", "high"]) (fun _ _ _ _ _ _ us hl => match us, hl with | [_, _, _], _ => rfl), FunD.bindsA F (ps := ["thing", "low", "high"]) (fun _ _ _ _ _ _ us hl => match us, hl with | [_, _, _], _ => rfl), T.g_require_number⟩
theorem fd_amount_of {K : PySem.W.Frag} {mg : Str → Option Value} (T : Tx K mg) : Ly.Def_ K mg "amount_of" s_amount_of ["number"] := by
  obtain ⟨fd, F⟩ := T.says.def_ 17 (d := d_amount_of) rfl
  exact ⟨_, fd, F, FunD.bindsN F (ps := ["number"]) (fun _ _ _ _ _ _ us hl => match us, hl with | [_], _ => rfl), FunD.bindsA F (ps := ["number"]) (fun _ _ _ _ _ _ us hl => match us, hl with | [_], _ => rfl), T.g_amount_of⟩
theorem fd_spread {K : PySem.W.Frag} {mg : Str → Option Value} (T : Tx K mg) : Ly.Def_ K mg "spread" s_spread ["counts"] := by
  obtain ⟨fd, F⟩ := T.says.def_ 18 (d := d_spread) rfl
  exact ⟨_, fd, F, FunD.bindsN F (ps := ["counts"]) (fun _ _ _ _ _ _ us hl => match us, hl with | [_], _ => rfl), FunD.bindsA F (ps := ["counts"]) (fun _ _ _ _ _ _ us hl => match us, hl with | [_], _ => rfl), T.g_spread⟩
theorem fd_plus {K : PySem.W.Frag} {mg : Str → Option Value} (T : Tx K mg) : Ly.Def_ K mg "plus" s_plus ["one", "other"] := by
  obtain ⟨fd, F⟩ := T.says.def_ 19 (d := d_plus) rfl
  exact ⟨_, fd, F, FunD.bindsN F (ps := ["one", "other"]) (fun _ _ _ _ _ _ us hl => match us, hl with | [_, _], _ => rfl), FunD.bindsA F (ps := ["one", "other"]) (fun _ _ _ _ _ _ us hl => match us, hl with | [_, _], _ => rfl), T.g_plus⟩
theorem fd_minus {K : PySem.W.Frag} {mg : Str → Option Value} (T : Tx K mg) : Ly.Def_ K mg "minus" s_minus ["one", "other"] := by
  obtain ⟨fd, F⟩ := T.says.def_ 20 (d := d_minus) rfl
  exact ⟨_, fd, F, FunD.bindsN F (ps := ["one", "other"]) (fun _ _ _ _ _ _ us hl => match us, hl with | [_, _], _ => rfl), FunD.bindsA F (ps := ["one", "other"]) (fun _ _ _ _ _ _ us hl => match us, hl with | [_, _], _ => rfl), T.g_minus⟩
theorem fd_is_below {K : PySem.W.Frag} {mg : Str → Option Value} (T : Tx K mg) : Ly.Def_ K mg "is_below" s_is_below ["one", "other"] := by
  obtain ⟨fd, F⟩ := T.says.def_ 21 (d := d_is_below) rfl
  exact ⟨_, fd, F, FunD.bindsN F (ps := ["one", "other"]) (fun _ _ _ _ _ _ us hl => match us, hl with | [_, _], _ => rfl), FunD.bindsA F (ps := ["one", "other"]) (fun _ _ _ _ _ _ us hl => match us, hl with | [_, _], _ => rfl), T.g_is_below⟩
theorem fd_times {K : PySem.W.Frag} {mg : Str → Option Value} (T : Tx K mg) : Ly.Def_ K mg "times" s_times ["amount", "top", "bottom"] := by
  obtain ⟨fd, F⟩ := T.says.def_ 22 (d := d_times) rfl
  exact ⟨_, fd, F, FunD.bindsN F (ps := ["amount", "top", "bottom"]) (fun _ _ _ _ _ _ us hl => match us, hl with | [_, _, _], _ => rfl), FunD.bindsA F (ps := ["amount", "top", "bottom"]) (fun _ _ _ _ _ _ us hl => match us, hl with | [_, _, _], _ => rfl), T.g_times⟩
theorem fd_sign_of {K : PySem.W.Frag} {mg : Str → Option Value} (T : Tx K mg) : Ly.Def_ K mg "sign_of" s_sign_of ["amount"] := by
  obtain ⟨fd, F⟩ := T.says.def_ 23 (d := d_sign_of) rfl
  exact ⟨_, fd, F, FunD.bindsN F (ps := ["amount"]) (fun _ _ _ _ _ _ us hl => match us, hl with | [_], _ => rfl), FunD.bindsA F (ps := ["amount"]) (fun _ _ _ _ _ _ us hl => match us, hl with | [_], _ => rfl), T.g_sign_of⟩
theorem fd_L_deck {K : PySem.W.Frag} {mg : Str → Option Value} (T : Tx K mg) : Ly.Def_ K mg "_law_deck" s_L_deck ["_law_script"] := by
  obtain ⟨fd, F⟩ := T.says.def_ 24 (d := d_L_deck) rfl
  exact ⟨_, fd, F, FunD.bindsN F (ps := ["_law_script"]) (fun _ _ _ _ _ _ us hl => match us, hl with | [_], _ => rfl), FunD.bindsA F (ps := ["_law_script"]) (fun _ _ _ _ _ _ us hl => match us, hl with | [_], _ => rfl), T.g_L_deck⟩
theorem fd_L_draw {K : PySem.W.Frag} {mg : Str → Option Value} (T : Tx K mg) : Ly.Def_ K mg "_law_draw" s_L_draw ["_law_deck_here", "_law_many"] := by
  obtain ⟨fd, F⟩ := T.says.def_ 25 (d := d_L_draw) rfl
  exact ⟨_, fd, F, FunD.bindsN F (ps := ["_law_deck_here", "_law_many"]) (fun _ _ _ _ _ _ us hl => match us, hl with | [_, _], _ => rfl), FunD.bindsA F (ps := ["_law_deck_here", "_law_many"]) (fun _ _ _ _ _ _ us hl => match us, hl with | [_, _], _ => rfl), T.g_L_draw⟩
theorem fd_L_gcd {K : PySem.W.Frag} {mg : Str → Option Value} (T : Tx K mg) : Ly.Def_ K mg "_law_gcd" s_L_gcd ["_law_a", "_law_b"] := by
  obtain ⟨fd, F⟩ := T.says.def_ 26 (d := d_L_gcd) rfl
  exact ⟨_, fd, F, FunD.bindsN F (ps := ["_law_a", "_law_b"]) (fun _ _ _ _ _ _ us hl => match us, hl with | [_, _], _ => rfl), FunD.bindsA F (ps := ["_law_a", "_law_b"]) (fun _ _ _ _ _ _ us hl => match us, hl with | [_, _], _ => rfl), T.g_L_gcd⟩
theorem fd_L_is_integer {K : PySem.W.Frag} {mg : Str → Option Value} (T : Tx K mg) : Ly.Def_ K mg "_law_is_integer" s_L_is_integer ["_law_thing"] := by
  obtain ⟨fd, F⟩ := T.says.def_ 27 (d := d_L_is_integer) rfl
  exact ⟨_, fd, F, FunD.bindsN F (ps := ["_law_thing"]) (fun _ _ _ _ _ _ us hl => match us, hl with | [_], _ => rfl), FunD.bindsA F (ps := ["_law_thing"]) (fun _ _ _ _ _ _ us hl => match us, hl with | [_], _ => rfl), T.g_L_is_integer⟩
theorem fd_L_is_prime {K : PySem.W.Frag} {mg : Str → Option Value} (T : Tx K mg) : Ly.Def_ K mg "_law_is_prime" s_L_is_prime ["_law_p"] := by
  obtain ⟨fd, F⟩ := T.says.def_ 28 (d := d_L_is_prime) rfl
  exact ⟨_, fd, F, FunD.bindsN F (ps := ["_law_p"]) (fun _ _ _ _ _ _ us hl => match us, hl with | [_], _ => rfl), FunD.bindsA F (ps := ["_law_p"]) (fun _ _ _ _ _ _ us hl => match us, hl with | [_], _ => rfl), T.g_L_is_prime⟩
theorem fd_L_is_own_amount {K : PySem.W.Frag} {mg : Str → Option Value} (T : Tx K mg) : Ly.Def_ K mg "_law_is_own_amount" s_L_is_own_amount ["_law_thing"] := by
  obtain ⟨fd, F⟩ := T.says.def_ 29 (d := d_L_is_own_amount) rfl
  exact ⟨_, fd, F, FunD.bindsN F (ps := ["_law_thing"]) (fun _ _ _ _ _ _ us hl => match us, hl with | [_], _ => rfl), FunD.bindsA F (ps := ["_law_thing"]) (fun _ _ _ _ _ _ us hl => match us, hl with | [_], _ => rfl), T.g_L_is_own_amount⟩
theorem fd_L_drawn {K : PySem.W.Frag} {mg : Str → Option Value} (T : Tx K mg) : Ly.Def_ K mg "_law_drawn" s_L_drawn ["_law_deck_here", "_law_most", "_law_few"] := by
  obtain ⟨fd, F⟩ := T.says.def_ 30 (d := d_L_drawn) rfl
  exact ⟨_, fd, F, FunD.bindsN F (ps := ["_law_deck_here", "_law_most", "_law_few"]) (fun _ _ _ _ _ _ us hl => match us, hl with | [_, _, _], _ => rfl), FunD.bindsA F (ps := ["_law_deck_here", "_law_most", "_law_few"]) (fun _ _ _ _ _ _ us hl => match us, hl with | [_, _, _], _ => rfl), T.g_L_drawn⟩
theorem fd_L_stands_for {K : PySem.W.Frag} {mg : Str → Option Value} (T : Tx K mg) : Ly.Def_ K mg "_law_stands_for" s_L_stands_for ["_law_counts", "_law_told"] := by
  obtain ⟨fd, F⟩ := T.says.def_ 31 (d := d_L_stands_for) rfl
  exact ⟨_, fd, F, FunD.bindsN F (ps := ["_law_counts", "_law_told"]) (fun _ _ _ _ _ _ us hl => match us, hl with | [_, _], _ => rfl), FunD.bindsA F (ps := ["_law_counts", "_law_told"]) (fun _ _ _ _ _ _ us hl => match us, hl with | [_, _], _ => rfl), T.g_L_stands_for⟩
theorem fd_L_is_bounded {K : PySem.W.Frag} {mg : Str → Option Value} (T : Tx K mg) : Ly.Def_ K mg "_law_is_bounded" s_L_is_bounded ["_law_counts", "_law_told"] := by
  obtain ⟨fd, F⟩ := T.says.def_ 32 (d := d_L_is_bounded) rfl
  exact ⟨_, fd, F, FunD.bindsN F (ps := ["_law_counts", "_law_told"]) (fun _ _ _ _ _ _ us hl => match us, hl with | [_, _], _ => rfl), FunD.bindsA F (ps := ["_law_counts", "_law_told"]) (fun _ _ _ _ _ _ us hl => match us, hl with | [_, _], _ => rfl), T.g_L_is_bounded⟩
theorem fd_L_is_put_together {K : PySem.W.Frag} {mg : Str → Option Value} (T : Tx K mg) : Ly.Def_ K mg "_law_is_put_together" s_L_is_put_together ["_law_deck_here", "_law_counts", "_law_told"] := by
  obtain ⟨fd, F⟩ := T.says.def_ 33 (d := d_L_is_put_together) rfl
  exact ⟨_, fd, F, FunD.bindsN F (ps := ["_law_deck_here", "_law_counts", "_law_told"]) (fun _ _ _ _ _ _ us hl => match us, hl with | [_, _, _], _ => rfl), FunD.bindsA F (ps := ["_law_deck_here", "_law_counts", "_law_told"]) (fun _ _ _ _ _ _ us hl => match us, hl with | [_, _, _], _ => rfl), T.g_L_is_put_together⟩
theorem fd_law {K : PySem.W.Frag} {mg : Str → Option Value} (T : Tx K mg) : Ly.Def_ K mg "law" s_law ["_law_script"] := by
  obtain ⟨fd, F⟩ := T.says.def_ 34 (d := d_law) rfl
  exact ⟨_, fd, F, FunD.bindsN F (ps := ["_law_script"]) (fun _ _ _ _ _ _ us hl => match us, hl with | [_], _ => rfl), FunD.bindsA F (ps := ["_law_script"]) (fun _ _ _ _ _ _ us hl => match us, hl with | [_], _ => rfl), T.g_law⟩
end K06

namespace K06
open PySem PySem.Spec PyProof.Rows L2 Ly
section
variable {P : Program} {w : World} {K : PySem.W.Frag} {mg : Str → Option Value} {base : Heap}
/-! power -/
theorem pow_bits {b : Int} {n : Nat} (h : b.natAbs < 2 ^ n) (j : Nat) : (b ^ j).natAbs < 2 ^ (n * j + 1) := by
  rw [Int.natAbs_pow, Nat.pow_succ, Nat.pow_mul]
  have h2 : b.natAbs ^ j ≤ (2 ^ n) ^ j := Nat.pow_le_pow_left (Nat.le_of_lt h) j
  have h3 : 0 < (2 ^ n) ^ j := Nat.pow_pos (Nat.two_pow_pos n)
  omega
def spPower : Sp := fun vs H Q _ => ∃ (b : Int) (e n : Nat), vs = [.int b, .int e] ∧ b.natAbs < 2 ^ n ∧ n * (2 * e) ≤ 400000 ∧ Q (.int (b ^ e)) H
theorem ca_power (T : Tx K mg) : Ca P w K mg base 1 "power" s_power ["base", "exponent"] spPower := by
  refine Ca.of (fd_power T) sc_power ?_ ?_
  · rintro vs H Q E ⟨b, e, n, rfl, _⟩; rfl
  · rintro f cdv A out s H vs Q E hr ⟨b, e, n, rfl, hb, hn, q⟩
    refine ⟨_, pss_cons (ps_set (i := 2) sc_power.nd rfl (.inl rfl) pe_int)
      (pss_cons (ps_while PassesOwn.never (pt_cmpR op_gt (pv 1) pe_int (nomark _))
        (pss_cons (ps_if (pt_cmpR op_eq (pe_op op_mod (pv 1) pe_int) pe_int (nomark _))
            (pss_one (ps_set (i := 2) sc_power.nd rfl (.inl rfl) (pe_op op_mulW (pv 2) (pv 0)))) pss_nil)
        (pss_cons (ps_set (i := 0) sc_power.nd rfl (.inl rfl) (pe_op op_mulW (pv 0) (pv 0)))
        (pss_one (ps_set (i := 1) sc_power.nd rfl (.inl rfl) (pe_op op_fdiv (pv 1) pe_int))))))
      (pss_one (ps_ret (pv 2)))), ?_⟩
    refine while_by (fun σ H' => ∃ (m x : Nat), σ = [some (.int (b ^ m)), some (.int x), some (.int (b ^ (e - m * x)))] ∧ m * x ≤ e ∧ (x ≠ 0 → 0 < m) ∧ H' = H)
      (fun σ _ => match σ with | [_, some (.int x), _] => x.toNat | _ => 0) ?_ ?_ ?_
    · refine ⟨1, e, ?_, by omega, fun _ => Nat.one_pos, rfl⟩
      show [some (V.int b), some (V.int e), some (V.int 1)] = _
      rw [Int.pow_succ, Int.pow_zero, Int.one_mul, Nat.one_mul, Nat.sub_self, Int.pow_zero]
    · rintro σ H' ⟨m, x, rfl, hm, hx, rfl⟩
      refine ⟨_, rfl, _, _, rfl, rfl, _, rfl, ite2 (fun c => ?_) (fun c => ?_)⟩
      · have hx1 : x ≠ 0 := by have := of_decide_eq_true c; omega
        have hm1 := hx hx1
        have hmx : m ≤ m * x := Nat.le_mul_of_pos_right m (Nat.pos_of_ne_zero hx1)
        have szm : n * m + 1 ≤ 400001 := by
          have : n * m ≤ n * (2 * e) := Nat.mul_le_mul_left n (by omega)
          omega
        have szr : n * (e - m * x) + 1 ≤ 400001 := by
          have : n * (e - m * x) ≤ n * (2 * e) := Nat.mul_le_mul_left n (by omega)
          omega
        have half : (x : Int) / 2 = ((x / 2 : Nat) : Int) := by omega
        have sq : b ^ m * b ^ m = b ^ (2 * m) := by rw [← Int.pow_add, Nat.two_mul]
        have next : ∀ r : Int, r = b ^ (e - 2 * m * (x / 2)) →
            ∃ (m' x' : Nat), [some (V.int (b ^ m * b ^ m)), some (V.int ((x : Int) / 2)), some (V.int r)] = [some (.int (b ^ m')), some (.int x'), some (.int (b ^ (e - m' * x')))] ∧ m' * x' ≤ e ∧ (x' ≠ 0 → 0 < m') ∧ H' = H' := by
          intro r hr
          refine ⟨2 * m, x / 2, by rw [sq, half, hr], ?_, fun _ => by omega, rfl⟩
          have : 2 * m * (x / 2) ≤ m * x := by
            have h2 : 2 * (x / 2) ≤ x := Nat.mul_div_le x 2
            calc 2 * m * (x / 2) = m * (2 * (x / 2)) := by rw [Nat.mul_comm 2 m, Nat.mul_assoc]
              _ ≤ m * x := Nat.mul_le_mul_left m h2
          omega
        have meas : ((x : Int) / 2).toNat < ((x : Int)).toNat := by omega
        refine ⟨_, rfl, _, _, rfl, rfl, (by show (0 : Int) < 2; decide), rfl, _, rfl, ite2 (fun c => ?_) (fun c => ?_)⟩
        · have odd : x % 2 = 1 := by
            have := V.int.inj (of_decide_eq_true c)
            omega
          refine ⟨_, rfl, _, rfl, _, _, rfl, rfl, wide_mul (pow_bits hb _) (pow_bits hb _) (by omega) (by omega) (by omega), ?_⟩
          refine ⟨_, rfl, _, rfl, _, _, rfl, rfl, wide_mul (pow_bits hb _) (pow_bits hb _) (by omega) (by omega) (by omega), ?_⟩
          refine ⟨_, rfl, _, _, rfl, rfl, ⟨by decide, by decide⟩, next _ ?_, meas⟩
          rw [← Int.pow_add]
          congr 1
          have : m * x = 2 * m * (x / 2) + m := by
            have h3 : x = 2 * (x / 2) + 1 := by omega
            calc m * x = m * (2 * (x / 2) + 1) := by rw [← h3]
              _ = 2 * m * (x / 2) + m := by rw [Nat.mul_add, Nat.mul_one, ← Nat.mul_assoc, Nat.mul_comm m 2]
          omega
        · have even : x % 2 = 0 := by
            have : ¬ (V.int ((x : Int) % 2) = V.int 1) := fun z => c (decide_eq_true z)
            have : ¬ ((x : Int) % 2 = 1) := fun z => this (by rw [z])
            omega
          refine ⟨_, rfl, _, rfl, _, _, rfl, rfl, wide_mul (pow_bits hb _) (pow_bits hb _) (by omega) (by omega) (by omega), ?_⟩
          refine ⟨_, rfl, _, _, rfl, rfl, ⟨by decide, by decide⟩, next _ ?_, meas⟩
          congr 1
          have : m * x = 2 * m * (x / 2) := by
            have h3 : x = 2 * (x / 2) := by omega
            calc m * x = m * (2 * (x / 2)) := by rw [← h3]
              _ = 2 * m * (x / 2) := by rw [← Nat.mul_assoc, Nat.mul_comm m 2]
          omega
      · have hx0 : x = 0 := by
          have : ¬ ((0 : Int) < x) := fun z => c (decide_eq_true z)
          omega
        subst hx0
        exact ⟨_, rfl, q⟩
    · rintro σ H1 Q1 Q2 h ⟨v, e1, i, j, e2, e3, z, e4, e5⟩
      exact ⟨v, e1, i, j, e2, e3, z, e4, h _ _ e5⟩
end
end K06

namespace K06
open PySem PySem.Spec PyProof.Rows L2 Ly
section
variable {P : Program} {w : World} {K : PySem.W.Frag} {mg : Str → Option Value} {base : Heap}
/-! kinds -/
def spIsInteger (K : PySem.W.Frag) : Sp := fun vs H Q _ => ∃ (v : V) (n : String) (b1 b2 : Bool), vs = [v] ∧ TyX K H v (.type n) ∧ kitB n "int" = some b1 ∧ kitB n "bool" = some b2 ∧ Q (.bl (b1 && !b2)) H
theorem ca_is_integer (T : Tx K mg) : Ca P w K mg base 1 "is_integer" s_is_integer ["thing"] (spIsInteger K) := by
  refine Ca.of (fd_is_integer T) sc_is_integer ?_ ?_
  · rintro vs H Q E ⟨v, n, b1, b2, rfl, _⟩; rfl
  · rintro f cdv A out s H vs Q E hr ⟨v, n, b1, b2, rfl, ty, k1, k2, q⟩
    refine ⟨_, (pss_one (ps_ret (pe_and (pe_callB call_isi (by rfl) T.f_isinstance (by decide +kernel) (pa_cons (pv 0) (pa_cons (pe_bltn (v := .ty "int") (by rfl) T.f_int (by decide +kernel) rfl) pa_nil))) (pe_one (pe_not (pe_callB call_isi (by rfl) T.f_isinstance (by decide +kernel) (pa_cons (pv 0) (pa_cons (pe_bltn (v := .ty "bool") (by rfl) T.f_bool (by decide +kernel) rfl) pa_nil)))))))), ?_⟩
    refine ⟨v, rfl, v, .ty "int", _, _, b1, rfl, .ty "int", ty, kit_ty k1, b1, rfl, ?_⟩
    cases b1 with
    | false => exact iteF (by simpa using q)
    | true => exact iteT ⟨v, rfl, v, .ty "bool", _, _, b2, rfl, .ty "bool", ty, kit_ty k2, b2, rfl, by simpa using q⟩
theorem ca_L_is_integer (T : Tx K mg) : Ca P w K mg base 1 "_law_is_integer" s_L_is_integer ["_law_thing"] (spIsInteger K) := by
  refine Ca.of (fd_L_is_integer T) sc_L_is_integer ?_ ?_
  · rintro vs H Q E ⟨v, n, b1, b2, rfl, _⟩; rfl
  · rintro f cdv A out s H vs Q E hr ⟨v, n, b1, b2, rfl, ty, k1, k2, q⟩
    refine ⟨_, (pss_one (ps_ret (pe_and (pe_callB call_isi (by rfl) T.f_isinstance (by decide +kernel) (pa_cons (pv 0) (pa_cons (pe_bltn (v := .ty "int") (by rfl) T.f_int (by decide +kernel) rfl) pa_nil))) (pe_one (pe_not (pe_callB call_isi (by rfl) T.f_isinstance (by decide +kernel) (pa_cons (pv 0) (pa_cons (pe_bltn (v := .ty "bool") (by rfl) T.f_bool (by decide +kernel) rfl) pa_nil)))))))), ?_⟩
    refine ⟨v, rfl, v, .ty "int", _, _, b1, rfl, .ty "int", ty, kit_ty k1, b1, rfl, ?_⟩
    cases b1 with
    | false => exact iteF (by simpa using q)
    | true => exact iteT ⟨v, rfl, v, .ty "bool", _, _, b2, rfl, .ty "bool", ty, kit_ty k2, b2, rfl, by simpa using q⟩
local macro_rules | `(tactic| walk_at "isint") => `(tactic| refine ⟨_, "int", true, false, rfl, tyx_int, by decide +kernel, by decide +kernel, ?_⟩)
/-- of an int alone -/
def spIntIn : Sp := fun vs H Q _ => ∃ (i lo hi : Int), vs = [.int i, .int lo, .int hi] ∧ Q (.bl (decide (lo ≤ i ∧ i ≤ hi))) H
theorem ca_is_integer_in (T : Tx K mg) : Ca P w K mg base 2 "is_integer_in" s_is_integer_in ["thing", "low", "high"] spIntIn := by
  have C_is_integer := ca_is_integer (P := P) (w := w) (base := base) T
  refine Ca.of (fd_is_integer_in T) sc_is_integer_in ?_ ?_
  · rintro vs H Q E ⟨i, lo, hi, rfl, _⟩; rfl
  · rintro f cdv A out s H vs Q E hr ⟨i, lo, hi, rfl, q⟩
    refine ⟨_, (pss_one (ps_ret (pe_and (pe_ca C_is_integer hr (pa_cons (pv 0) pa_nil)) (pe_one (pe_chain op_le op_le (pv 1) (pv 0) (pv 2)))))), ?_⟩
    refine ⟨_, rfl, ?_⟩
    walk_at "isint"
    refine ⟨true, rfl, iteT ⟨_, rfl, _, rfl, _, _, rfl, rfl, _, rfl, ite2 (fun c => ?_) (fun c => ?_)⟩⟩
    · refine ⟨_, rfl, _, _, rfl, rfl, ?_⟩
      have c' : lo ≤ i := of_decide_eq_true c
      have e : decide (i ≤ hi) = decide (lo ≤ i ∧ i ≤ hi) := by simp [c']
      rw [← e] at q; exact q
    · have c' : ¬ lo ≤ i := fun z => c (decide_eq_true z)
      have e : false = decide (lo ≤ i ∧ i ≤ hi) := by simp [c']
      rw [← e] at q; exact q
/-- of a tuple -/
def spTupleOf (K : PySem.W.Frag) : Sp := fun vs H Q _ => ∃ (a : Addr) (xs : List V) (n : Int), vs = [.ref a, .int n] ∧ SqT K H a xs ∧ Q (.bl (decide ((xs.length : Int) = n))) H
theorem ca_is_tuple_of (T : Tx K mg) : Ca P w K mg base 1 "is_tuple_of" s_is_tuple_of ["thing", "size"] (spTupleOf K) := by
  refine Ca.of (fd_is_tuple_of T) sc_is_tuple_of ?_ ?_
  · rintro vs H Q E ⟨a, xs, n, rfl, _⟩; rfl
  · rintro f cdv A out s H vs Q E hr ⟨a, xs, n, rfl, ht, q⟩
    refine ⟨_, (pss_one (ps_ret (pe_and (pe_callB call_isi (by rfl) T.f_isinstance (by decide +kernel) (pa_cons (pv 0) (pa_cons (pe_bltn (v := .ty "tuple") (by rfl) T.f_tuple (by decide +kernel) rfl) pa_nil))) (pe_one (pe_cmpR op_eq (pe_callB call_len_seq (by rfl) T.f_len (by decide +kernel) (pa_cons (pv 0) pa_nil)) (pv 1) (nomark _)))))), ?_⟩
    refine ⟨_, rfl, _, .ty "tuple", _, _, true, rfl, .ty "tuple", tyx_tup ht, kit_ty (by decide +kernel), true, rfl, iteT ?_⟩
    refine ⟨_, rfl, a, xs, rfl, .inr ht, _, rfl, rfl, ?_⟩
    have e : decide (V.int (xs.length : Int) = V.int n) = decide ((xs.length : Int) = n) := by
      by_cases h : (xs.length : Int) = n
      · rw [h]; simp
      · rw [decide_eq_false h, decide_eq_false (fun z => h (V.int.inj z))]
    rw [← e] at q; exact q
/-- all ints of a tuple within bounds -/
def spAreInts (K : PySem.W.Frag) : Sp := fun vs H Q _ => ∃ (a : Addr) (ns : List Int) (lo hi : Int), vs = [.ref a, .int lo, .int hi] ∧ SqT K H a (ns.map V.int) ∧ ns.length ≤ 1000 ∧
  ∀ H', Same H H' → Q (.bl (ns.all fun i => decide (lo ≤ i ∧ i ≤ hi))) H'
theorem ca_are_integers_in (T : Tx K mg) : Ca P w K mg base 3 "are_integers_in" s_are_integers_in ["thing", "low", "high"] (spAreInts K) := by
  have C_is_integer_in := ca_is_integer_in (P := P) (w := w) (base := base) T
  refine Ca.of (fd_are_integers_in T) sc_are_integers_in ?_ ?_
  · rintro vs H Q E ⟨a, ns, lo, hi, rfl, _⟩; rfl
  · rintro f cdv A out s H vs Q E hr ⟨a, ns, lo, hi, rfl, ht, hl, q⟩
    refine ⟨_, (pss_one (ps_ret (pe_and (pe_callB call_isi (by rfl) T.f_isinstance (by decide +kernel) (pa_cons (pv 0) (pa_cons (pe_bltn (v := .ty "tuple") (by rfl) T.f_tuple (by decide +kernel) rfl) pa_nil))) (pe_one (pe_callB (cr_all rfl) (by rfl) T.f_all (by decide +kernel) (pa_cons (pe_lc (own := [("item", 3)]) rfl sc_are_integers_in.nd (pi_tup (pv 0)) (blkOk_by (own := [("item", 3)]) (N := n_are_integers_in) (sc := defScope s_are_integers_in) (by decide +kernel)) (fun _ _ _ _ _ => (pg_name (i := 3) sc_are_integers_in.nd rfl (Or.inl rfl))) (fun _ _ _ _ _ => pts_nil) (fun _ _ _ _ _ => (pe_ca C_is_integer_in hr (pa_cons (pv 3) (pa_cons (pv 1) (pa_cons (pv 2) pa_nil)))))) pa_nil)))))), ?_⟩
    refine ⟨_, rfl, _, .ty "tuple", _, _, true, rfl, .ty "tuple", tyx_tup ht, kit_ty (by decide +kernel), true, rfl, iteT ?_⟩
    refine ⟨_, rfl, a, rfl, ⟨_, ht⟩, fun D nD => ?_⟩
    refine lc_tup (xs := ns.map V.int) (fun i H' => Same H H' ∧ H' D = some (.lst (((ns.map fun i => decide (lo ≤ i ∧ i ≤ hi)).take i).map V.bl))) ?_ ?_ ?_ ?_
    · exact ⟨same_new nD, upd_same⟩
    · rintro i H' _ ⟨sm, _⟩; exact SqT.same sm ht
    · rintro i x H' hx ⟨sm, hD⟩
      obtain ⟨n, hn, rfl⟩ : ∃ n, ns[i]? = some n ∧ x = V.int n := by
        rw [List.getElem?_map] at hx
        cases e : ns[i]? with
        | none => rw [e] at hx; cases hx
        | some n => rw [e] at hx; exact ⟨n, rfl, (Option.some.inj hx).symm⟩
      refine ⟨rfl, ?_⟩
      refine ⟨_, rfl, _, rfl, _, rfl, n, lo, hi, rfl, _, hD, ?_, same_write nD sm, ?_⟩
      · rw [List.length_map]
        refine small1000 (Nat.le_trans ?_ hl)
        rw [List.length_take, List.length_map]; omega
      · rw [upd_same, List.take_add_one, List.getElem?_map, hn, List.map_append]
        rfl
    · rintro H' ⟨sm, hD⟩
      refine ⟨D, _, rfl, .inl (.inl hD), ?_⟩
      have e : ((ns.map fun i => decide (lo ≤ i ∧ i ≤ hi)).take (ns.map V.int).length).all id = ns.all fun i => decide (lo ≤ i ∧ i ≤ hi) := by
        rw [List.take_of_length_le (by simp), List.all_map]; rfl
      have z := q H' sm
      rw [← e] at z; exact z
end
end K06

namespace K06
open PySem PySem.Spec PyProof.Rows L2 Ly Am
section
variable {P : Program} {w : World} {K : PySem.W.Frag} {mg : Str → Option Value} {base : Heap}
def spIsPrime : Sp := fun vs H Q _ => ∃ n : Nat, vs = [.int n] ∧ n < 2 ^ 40 ∧ ∀ b H', Same H H' → (b = true ↔ Pr n) → Q (.bl b) H'
theorem ca_is_prime (T : Tx K mg) : Ca P w K mg base 1 "is_prime" s_is_prime ["number"] spIsPrime := by
  refine Ca.of (fd_is_prime T) sc_is_prime ?_ ?_
  · rintro vs H Q E ⟨n, rfl, _⟩; rfl
  · rintro f cdv A out s H vs Q E hr ⟨n, rfl, hn, q⟩
    refine ⟨_, (pss_cons (ps_if (pt_cmpR op_lt (pv 0) pe_int (nomark _))
 (pss_one (ps_ret pe_bl))
 pss_nil)
 (pss_one (ps_ret (pe_callB (cr_all rfl) (by rfl) T.f_all (by decide +kernel) (pa_cons (pe_lc (own := [("divisor", 1)]) rfl sc_is_prime.nd (pi_range2 (by rfl) T.f_range (pa_cons pe_int (pa_cons (pe_op op_add (pe_callBfun cr_isqrt (by rfl) T.b_isqrt (pa_cons (pv 0) pa_nil)) pe_int) pa_nil))) (blkOk_by (own := [("divisor", 1)]) (N := n_is_prime) (sc := defScope s_is_prime) (by decide +kernel)) (fun _ _ _ _ _ => (pg_name (i := 1) sc_is_prime.nd rfl (Or.inl rfl))) (fun _ _ _ _ _ => pts_nil) (fun _ _ _ _ _ => (pe_cmpR op_ne (pe_op op_mod (pv 0) (pv 1)) pe_int (nomark _)))) pa_nil))))), ?_⟩
    refine ⟨_, rfl, _, _, rfl, rfl, _, rfl, ite2 (fun c => ?_) (fun c => ?_)⟩
    · have c' : (n : Int) < 2 := of_decide_eq_true c
      exact q false H (Same.refl H) ⟨(fun z => nomatch z), fun z => by have := z.1; omega⟩
    · have c' : 2 ≤ n := by
        have : ¬ ((n : Int) < 2) := fun z => c (decide_eq_true z)
        omega
      obtain ⟨r1, r2⟩ := PySem.Float64.isqrt_spec n
      have hr40 : PySem.Float64.isqrt n < 2 ^ 40 := by
        have : PySem.Float64.isqrt n ≤ PySem.Float64.isqrt n * PySem.Float64.isqrt n := Nat.le_mul_self _
        omega
      refine ⟨_, rfl, _, rfl, by omega, by omega, _, _, rfl, rfl, ?_⟩
      have hr20 : PySem.Float64.isqrt n < 2 ^ 20 := by
        apply Nat.lt_of_not_le
        intro z
        have := Nat.mul_le_mul z z
        omega
      have hr40' : PySem.Float64.isqrt ((n : Int).toNat) < 2 ^ 40 := hr40
      refine ⟨2, _, rfl, ⟨by decide, by decide, by omega, by omega⟩, fun D nD => ?_⟩
      refine lc_range (lo := 2) (n := ((((PySem.Float64.isqrt n : Nat) : Int) + 1) - 2).toNat) (fun i H' => Same H H' ∧ H' D = some (.lst (((List.range i).map fun j => !decide (n % (2 + j) = 0)).map V.bl))) ?_ ?_ ?_
      · exact ⟨same_new nD, upd_same⟩
      · rintro i H' hi ⟨sm, hD⟩
        refine ⟨rfl, ?_⟩
        have e2 : (2 + (i : Int)) = ((2 + i : Nat) : Int) := by omega
        refine ⟨_, rfl, _, rfl, _, _, rfl, rfl, (by show (0 : Int) < 2 + (i : Int); omega), rfl, _, hD, ?_, same_write nD sm, ?_⟩
        · rw [List.length_map, List.length_map, List.length_range]
          rw [sizeLine_eq]; omega
        · rw [upd_same, List.range_succ, List.map_append, List.map_append]
          have e3 : (!decide (V.int ((n : Int) % (2 + (i : Int))) = V.int 0)) = !decide (n % (2 + i) = 0) := by
            congr 1
            apply decide_eq_decide.mpr
            constructor
            · intro z
              have := V.int.inj z
              rw [e2] at this
              omega
            · intro z
              rw [e2]
              congr 1
              omega
          rw [e3]
          rfl
      · rintro H' ⟨sm, hD⟩
        refine ⟨D, _, rfl, .inl (.inl hD), ?_⟩
        refine q _ H' sm ?_
        rw [← pr_root c' r1 r2, List.all_eq_true]
        constructor
        · intro h d hd hr2
          have := h (!decide (n % (2 + (d - 2)) = 0)) (List.mem_map.mpr ⟨d - 2, List.mem_range.mpr (by omega), rfl⟩)
          rw [show 2 + (d - 2) = d by omega] at this
          simpa using this
        · intro h b hb
          obtain ⟨j, hj, rfl⟩ := List.mem_map.mp hb
          have := List.mem_range.mp hj
          simpa using h (2 + j) (by omega) (by omega)
end
end K06

namespace K06
open PySem PySem.Spec PyProof.Rows L2 Ly Am
/-- prime powers as a dict's entries -/
def zz (L : List (Nat × Nat)) : List (Int × Int) := L.map fun q => ((q.1 : Int), (q.2 : Int))
section
variable {P : Program} {w : World} {K : PySem.W.Frag} {mg : Str → Option Value} {base : Heap}
def spPrimePowers : Sp := fun vs H Q _ => ∃ n : Nat, vs = [.int n] ∧ 0 < n ∧ n < 2 ^ 40 ∧ ∀ D L H', H D = none → Same H H' → H' D = some (.dK (kd (zz L))) → PF n L → Q (.ref D) H'
/-- what holds of the rest m, ahead of the divisor d, the powers so far -/
structure PpI (n m d : Nat) (L : List (Nat × Nat)) : Prop where
  m0 : 0 < m
  d2 : 2 ≤ d
  asc : L.Pairwise (fun a b => a.1 < b.1)
  pr : ∀ q ∈ L, Pr q.1 ∧ 0 < q.2
  low : ∀ q ∈ L, q.1 < d
  rest : ∀ e, 2 ≤ e → e < d → m % e ≠ 0
  prod : pprod L * m = n
/-- within the inner loop: c powers of d have been taken -/
structure PpJ (n m d c : Nat) (L : List (Nat × Nat)) : Prop where
  m0 : 0 < m
  d2 : 2 ≤ d
  asc : L.Pairwise (fun a b => a.1 < b.1)
  pr : ∀ q ∈ L, Pr q.1 ∧ 0 < q.2
  low : ∀ q ∈ L, q.1 < d
  rest : ∀ e, 2 ≤ e → e < d → m % e ≠ 0
  prod : pprod L * d ^ c * m = n
  dp : c ≠ 0 → Pr d
def ppList (L : List (Nat × Nat)) (d c : Nat) : List (Nat × Nat) := if c = 0 then L else L ++ [(d, c)]
theorem pr_of_least {m d : Nat} (d2 : 2 ≤ d) (rest : ∀ e, 2 ≤ e → e < d → m % e ≠ 0) (h : m % d = 0) (m0 : 0 < m) : Pr d := by
  refine ⟨d2, fun e he => ?_⟩
  by_cases e1 : e = 1
  · exact .inl e1
  by_cases ed : e = d
  · exact .inr ed
  exfalso
  have hle := Nat.le_of_dvd (by omega) he
  have e0 : e ≠ 0 := by rintro rfl; have := Nat.zero_dvd.mp he; omega
  exact rest e (by omega) (by omega) (Nat.mod_eq_zero_of_dvd (Nat.dvd_trans he (Nat.dvd_of_mod_eq_zero h)))
theorem mod_of_div {m d e : Nat} (h : m % d = 0) (z : m / d % e = 0) : m % e = 0 := by
  obtain ⟨c, rfl⟩ := Nat.dvd_of_mod_eq_zero h
  by_cases d0 : d = 0
  · subst d0; simp
  · rw [Nat.mul_div_cancel_left c (by omega)] at z
    exact Nat.mod_eq_zero_of_dvd (Nat.dvd_trans (Nat.dvd_of_mod_eq_zero z) (Nat.dvd_mul_left c d))
theorem PpJ.step {n m d c : Nat} {L : List (Nat × Nat)} (h : PpJ n m d c L) (z : m % d = 0) : PpJ n (m / d) d (c + 1) L ∧ m / d < m := by
  obtain ⟨e, he⟩ := Nat.dvd_of_mod_eq_zero z
  have hd := h.d2
  have hm := h.m0
  have e1 : m / d = e := by rw [he]; exact Nat.mul_div_cancel_left e (by omega)
  have e0 : 0 < e := by
    apply Nat.pos_of_ne_zero
    rintro rfl
    omega
  have lt : m / d < m := Nat.div_lt_self hm (by omega)
  refine ⟨⟨by rw [e1]; exact e0, h.d2, h.asc, h.pr, h.low, fun x h1 h2 q => h.rest x h1 h2 (mod_of_div z q), ?_, fun _ => pr_of_least h.d2 h.rest z hm⟩, lt⟩
  rw [← h.prod, e1, he, Nat.pow_succ]
  simp only [Nat.mul_assoc]
theorem PpJ.done {n m d c : Nat} {L : List (Nat × Nat)} (h : PpJ n m d c L) (z : m % d ≠ 0) : PpI n m (d + 1) (ppList L d c) := by
  unfold ppList
  have rest : ∀ e, 2 ≤ e → e < d + 1 → m % e ≠ 0 := fun e h1 h2 => by
    by_cases q : e = d
    · rw [q]; exact z
    · exact h.rest e h1 (by omega)
  split
  · rename_i c0
    subst c0
    exact ⟨h.m0, by have := h.d2; omega, h.asc, h.pr, fun q hq => Nat.lt_succ_of_lt (h.low q hq), rest, by have := h.prod; rwa [Nat.pow_zero, Nat.mul_one] at this⟩
  · rename_i c0
    refine ⟨h.m0, by have := h.d2; omega, ?_, ?_, ?_, rest, ?_⟩
    · rw [List.pairwise_append]
      refine ⟨h.asc, by simp, ?_⟩
      intro a ha b hb
      have : b = (d, c) := by simpa using hb
      subst this
      exact h.low a ha
    · intro q hq
      rcases List.mem_append.mp hq with hq | hq
      · exact h.pr q hq
      · have : q = (d, c) := by simpa using hq
        subst this
        exact ⟨h.dp c0, Nat.pos_of_ne_zero c0⟩
    · intro q hq
      rcases List.mem_append.mp hq with hq | hq
      · exact Nat.lt_succ_of_lt (h.low q hq)
      · have : q = (d, c) := by simpa using hq
        subst this
        exact Nat.lt_succ_self d
    · rw [pprod_append]
      show pprod L * (d ^ c * 1) * m = n
      rw [Nat.mul_one]; exact h.prod
theorem PpI.inner {n m d : Nat} {L : List (Nat × Nat)} (h : PpI n m d L) : PpJ n m d 0 L :=
  ⟨h.m0, h.d2, h.asc, h.pr, h.low, h.rest, by rw [Nat.pow_zero, Nat.mul_one]; exact h.prod, fun z => absurd rfl z⟩
theorem PpI.end1 {n m d : Nat} {L : List (Nat × Nat)} (h : PpI n m d L) (z : ¬ m > 1) : PF n L := by
  have : m = 1 := by have := h.m0; omega
  subst this
  exact ⟨h.asc, h.pr, by have := h.prod; rwa [Nat.mul_one] at this⟩
theorem PpI.end2 {n m d : Nat} {L : List (Nat × Nat)} (h : PpI n m d L) (z : m > 1) (hd : m < d * d) : PF n (L ++ [(m, 1)]) ∧ ∀ q ∈ L, q.1 < m := by
  have dm : d ≤ m := by
    apply Nat.le_of_not_lt
    intro q
    exact h.rest m (by omega) q (Nat.mod_self m)
  have pm : Pr m := by
    refine ⟨by omega, fun e he => ?_⟩
    obtain ⟨x, hx⟩ := he
    by_cases e1 : e = 1
    · exact .inl e1
    by_cases em : e = m
    · exact .inr em
    exfalso
    have e0 : e ≠ 0 := by rintro rfl; omega
    have x0 : x ≠ 0 := by rintro rfl; omega
    have x1 : x ≠ 1 := by rintro rfl; omega
    by_cases c1 : e < d
    · exact h.rest e (by omega) c1 (by rw [hx]; exact Nat.mul_mod_right e x)
    · by_cases c2 : x < d
      · exact h.rest x (by omega) c2 (by rw [hx, Nat.mul_comm]; exact Nat.mul_mod_right x e)
      · have := Nat.mul_le_mul (Nat.le_of_not_lt c1) (Nat.le_of_not_lt c2)
        omega
  have low : ∀ q ∈ L, q.1 < m := fun q hq => Nat.lt_of_lt_of_le (h.low q hq) dm
  refine ⟨⟨?_, ?_, ?_⟩, low⟩
  · rw [List.pairwise_append]
    refine ⟨h.asc, by simp, ?_⟩
    intro a ha b hb
    have : b = (m, 1) := by simpa using hb
    subst this
    exact low a ha
  · intro q hq
    rcases List.mem_append.mp hq with hq | hq
    · exact h.pr q hq
    · have : q = (m, 1) := by simpa using hq
      subst this
      exact ⟨pm, Nat.one_pos⟩
  · rw [pprod_append]
    show pprod L * (m ^ 1 * 1) = n
    rw [Nat.pow_one, Nat.mul_one]; exact h.prod
theorem zz_none {L : List (Nat × Nat)} {d : Nat} (h : ∀ q ∈ L, q.1 ≠ d) : (zz L).lookup (d : Int) = none := by
  rw [lookup_none_iff]
  intro q hq
  obtain ⟨p, hp, rfl⟩ := List.mem_map.mp hq
  intro z
  exact h p hp (by have : (p.1 : Int) = (d : Int) := z; omega)
theorem zz_snoc (L : List (Nat × Nat)) (d c : Nat) : zz L ++ [((d : Int), (c : Int))] = zz (L ++ [(d, c)]) := by
  unfold zz; rw [List.map_append]; rfl
/-- d[k] = d.get(k, 0) + 1 of the powers -/
theorem pp_put {L : List (Nat × Nat)} {d c : Nat} (h : ∀ q ∈ L, q.1 < d) : ip (zz (ppList L d c)) d (ig (zz (ppList L d c)) d + 1) = zz (ppList L d (c + 1)) := by
  have hn : (zz L).lookup (d : Int) = none := zz_none fun q hq => Nat.ne_of_lt (h q hq)
  unfold ppList
  rw [if_neg (Nat.succ_ne_zero c)]
  split
  · rename_i c0
    subst c0
    rw [ip_new hn, ← zz_snoc]
    unfold ig
    rw [hn]; rfl
  · rw [← zz_snoc, ← zz_snoc]
    have e1 : ig (zz L ++ [((d : Int), (c : Int))]) d = c := by
      unfold ig
      rw [lookup_append, hn]
      simp [List.lookup_cons]
    rw [e1]
    unfold ip
    rw [if_pos (by rw [List.any_append]; simp), List.map_append]
    congr 1
    · conv => rhs; rw [← List.map_id (zz L)]
      apply List.map_congr_left
      intro q hq
      rw [if_neg ((lookup_none_iff _ _).mp hn q hq)]; rfl
    · simp
theorem pp_bits {L : List (Nat × Nat)} (h : ∀ q ∈ L, Pr q.1 ∧ 0 < q.2) : 2 ^ L.length ≤ pprod L := by
  induction L with
  | nil => exact Nat.le_refl _
  | cons q r ih =>
    have hq := h q List.mem_cons_self
    have h1 : 2 ≤ q.1 ^ q.2 := by
      calc 2 ≤ q.1 := hq.1.1
        _ = q.1 ^ 1 := (Nat.pow_one _).symm
        _ ≤ q.1 ^ q.2 := Nat.pow_le_pow_right hq.1.pos hq.2
    rw [List.length_cons, Nat.pow_succ, Nat.mul_comm]
    exact Nat.mul_le_mul h1 (ih fun z hz => h z (List.mem_cons_of_mem _ hz))
theorem pp_len {L : List (Nat × Nat)} {n m : Nat} (h : ∀ q ∈ L, Pr q.1 ∧ 0 < q.2) (e : pprod L * m = n) (m0 : 0 < m) (hn : n < 2 ^ 40) : L.length < 40 := by
  have h1 := pp_bits h
  have h2 : pprod L ≤ n := by rw [← e]; exact Nat.le_mul_of_pos_right _ m0
  have h3 : 2 ^ L.length < 2 ^ 40 := by omega
  exact (Nat.pow_lt_pow_iff_right (a := 2) (by omega)).mp h3
theorem ca_prime_powers (T : Tx K mg) : Ca P w K mg base 1 "prime_powers" s_prime_powers ["number"] spPrimePowers := by
  refine Ca.of (fd_prime_powers T) sc_prime_powers ?_ ?_
  · rintro vs H Q E ⟨n, rfl, _⟩; rfl
  · rintro f cdv A out s H vs Q E hr ⟨n, rfl, n0, hn, q⟩
    refine ⟨_, (pss_cons (ps_set (i := 1) sc_prime_powers.nd rfl (.inl rfl) pe_dnewK)
 (pss_cons (ps_set (i := 2) sc_prime_powers.nd rfl (.inl rfl) pe_int)
 (pss_cons (ps_while PassesOwn.never (pt_cmpR op_le (pe_op op_mulW (pv 2) (pv 2)) (pv 0) (nomark _))
 (pss_cons (ps_while PassesOwn.never (pt_cmpR op_eq (pe_op op_mod (pv 0) (pv 2)) pe_int (nomark _))
 (pss_cons (ps_dput (hu_of hr) (pv 1) (pv 2) (pe_op op_add (pe_dget2 (hu_of hr) (pv 1) (pv 2) pe_int ⟨rfl, rfl, rfl, rfl⟩) pe_int) rfl)
 (pss_one (ps_set (i := 0) sc_prime_powers.nd rfl (.inl rfl) (pe_op op_fdivW (pv 0) (pv 2))))))
 (pss_one (ps_aug (i := 2) sc_prime_powers.nd rfl (.inl rfl) pe_int ip_add))))
 (pss_cons (ps_if (pt_cmpR op_gt (pv 0) pe_int (nomark _))
 (pss_one (ps_dput (hu_of hr) (pv 1) (pv 0) (pe_op op_add (pe_dget2 (hu_of hr) (pv 1) (pv 0) pe_int ⟨rfl, rfl, rfl, rfl⟩) pe_int) rfl))
 pss_nil)
 (pss_one (ps_ret (pv 1))))))), ?_⟩
    intro D nD
    refine while_by (fun σ H' => ∃ (m d : Nat) (L : List (Nat × Nat)), σ = [some (.int m), some (.ref D), some (.int d)] ∧ m ≤ n ∧ d ≤ n + 2 ∧ PpI n m d L ∧ Same H H' ∧ H' D = some (.dK (kd (zz L))))
      (fun σ _ => match σ with | [_, _, some (.int d)] => (n + 3 - d).toNat | _ => 0) ?_ ?_ ?_
    · refine ⟨n, 2, [], rfl, Nat.le_refl _, by omega, ⟨n0, by omega, by simp, by simp, by simp, fun e h1 h2 => by omega, by simp [pprod]⟩, same_new nD, upd_same⟩
    · rintro σ H' ⟨m, d, L, rfl, hm, hd, I, sm, hD⟩
      refine ⟨_, rfl, _, rfl, _, _, rfl, rfl, wide_mul (a := 41) (b := 41) (by omega) (by omega) (by omega) (by omega) (by omega), _, rfl, _, _, rfl, rfl, _, rfl, ite2 (fun c => ?_) (fun c => ?_)⟩
      · have c' : d * d ≤ m := by
          have := of_decide_eq_true c
          have e : ((d : Int) * d) = ((d * d : Nat) : Int) := by simp
          omega
        have dn : d ≤ n := by have := Nat.le_mul_self d; omega
        refine while_by (fun σ H'' => ∃ (m' c : Nat), σ = [some (.int m'), some (.ref D), some (.int d)] ∧ m' ≤ n ∧ PpJ n m' d c L ∧ Same H H'' ∧ H'' D = some (.dK (kd (zz (ppList L d c)))))
          (fun σ _ => match σ with | [some (.int x), _, _] => x.toNat | _ => 0) ⟨m, 0, rfl, hm, I.inner, sm, hD⟩ ?_ ?_
        · rintro σ H2 ⟨m', c2, rfl, hm', J, sm2, hD2⟩
          have d0 := J.d2
          refine ⟨_, rfl, _, rfl, _, _, rfl, rfl, (by show (0 : Int) < d; omega), rfl, _, rfl, ite2 (fun z => ?_) (fun z => ?_)⟩
          · have z' : m' % d = 0 := by
              have := V.int.inj (of_decide_eq_true z)
              omega
            obtain ⟨J2, lt⟩ := J.step z'
            have len : (kd (zz (ppList L d c2))).length < sizeLine := by
              unfold kd zz
              rw [List.length_map, List.length_map, sizeLine_eq]
              have h1 : L.length < 40 := pp_len (m := d ^ c2 * m') J.pr (by rw [← Nat.mul_assoc]; exact J.prod) (Nat.mul_pos (Nat.pow_pos (by omega)) J.m0) hn
              unfold ppList
              split
              · omega
              · rw [List.length_append, List.length_singleton]; omega
            refine ⟨_, rfl, D, rfl, .inl ⟨_, .inl hD2⟩, _, rfl, _, DGet.k (k := Sum.inl (d : Int)) hD2, _, _, kd_getD _ _, rfl, _, rfl, _, rfl, D, _, rfl, DPut.k (k := Sum.inl (d : Int)) hD2 len, ?_⟩
            refine ⟨_, rfl, _, rfl, _, _, rfl, rfl, wide_div (by omega) (b := 41) (by omega) (by omega) (by omega), ?_, ?_⟩
            · refine ⟨m' / d, c2 + 1, by rfl, by omega, J2, same_write nD sm2, ?_⟩
              rw [upd_same, kd_put, pp_put J.low]
            · show ((m' : Int) / d).toNat < ((m' : Int)).toNat
              have e : ((m' : Int) / d) = ((m' / d : Nat) : Int) := by simp
              rw [e, Int.toNat_natCast, Int.toNat_natCast]
              exact lt
          · have z' : m' % d ≠ 0 := by
              intro y
              exact z (decide_eq_true (congrArg V.int (by omega)))
            refine ⟨_, rfl, _, _, rfl, rfl, ⟨m', d + 1, _, rfl, hm', by omega, J.done z', sm2, hD2⟩, ?_⟩
            show ((n : Int) + 3 - ((d : Int) + 1)).toNat < ((n : Int) + 3 - (d : Int)).toNat
            omega
        · rintro σ H1 Q1 Q2 h ⟨v, e1, u, e2, i, j, e3, e4, z, z2, b, e8, e9⟩
          exact ⟨v, e1, u, e2, i, j, e3, e4, z, z2, b, e8, h _ _ e9⟩
      · have c' : m < d * d := by
          have e : ((d : Int) * d) = ((d * d : Nat) : Int) := by simp
          have : ¬ ((d : Int) * d ≤ m) := fun z => c (decide_eq_true z)
          omega
        refine ⟨_, rfl, _, _, rfl, rfl, _, rfl, ite2 (fun z => ?_) (fun z => ?_)⟩
        · have z' : m > 1 := by have := of_decide_eq_true z; omega
          obtain ⟨e2, low⟩ := I.end2 z' c'
          have hn0 : (zz L).lookup (m : Int) = none := zz_none fun q hq => Nat.ne_of_lt (low q hq)
          have len : (kd (zz L)).length < sizeLine := by
            unfold kd zz
            rw [List.length_map, List.length_map, sizeLine_eq]
            have h1 : L.length < 40 := pp_len I.pr I.prod I.m0 hn
            omega
          refine ⟨_, rfl, D, rfl, .inl ⟨_, .inl hD⟩, _, rfl, _, DGet.k (k := Sum.inl (m : Int)) hD, _, _, kd_getD _ _, rfl, _, rfl, _, rfl, D, _, rfl, DPut.k (k := Sum.inl (m : Int)) hD len, ?_⟩
          refine ⟨_, rfl, q D _ _ nD (same_write nD sm) ?_ e2⟩
          rw [upd_same, kd_put, ip_new hn0, ← zz_snoc]
          unfold ig
          rw [hn0]; rfl
        · have z' : ¬ m > 1 := fun y => z (decide_eq_true (show (1 : Int) < (m : Int) by omega))
          exact ⟨_, rfl, q D _ _ nD sm hD (I.end1 z')⟩
    · rintro σ H1 Q1 Q2 h ⟨v, e1, u, e2, i, j, e3, e4, z, u2, e5, i2, j2, e6, e7, b, e8, e9⟩
      exact ⟨v, e1, u, e2, i, j, e3, e4, z, u2, e5, i2, j2, e6, e7, b, e8, h _ _ e9⟩
end
end K06

namespace K06
open PySem PySem.Spec PyProof.Rows L2 Ly Am
section
variable {P : Program} {w : World} {K : PySem.W.Frag} {mg : Str → Option Value} {base : Heap}
theorem kd_at {L : List (Int × Int)} {i : Nat} {k : Key} {x : V} (h : (kd L)[i]? = some (k, x)) : ∃ q, L[i]? = some q ∧ k = Sum.inl q.1 ∧ x = V.int q.2 := by
  unfold kd at h
  rw [List.getElem?_map] at h
  cases e : L[i]? with
  | none => rw [e] at h; cases h
  | some q =>
    rw [e] at h
    have := Option.some.inj h
    exact ⟨q, rfl, (congrArg Prod.fst this).symm, (congrArg Prod.snd this).symm⟩
theorem gl_snoc (b c : Int) (cs : List Int) : gl b (cs ++ [c]) = ((Nat.gcd (gl b cs).natAbs c.natAbs : Nat) : Int) := by
  unfold gl; rw [List.foldl_append]; rfl
theorem take_snoc {α β : Type} (f : α → β) {L : List α} {i : Nat} {q : α} (h : L[i]? = some q) : (L.take (i + 1)).map f = (L.take i).map f ++ [f q] := by
  rw [List.take_add_one, h, List.map_append]; rfl
/-- the parts that a dict makes, divided by g -/
def cut (g : Int) (L : List (Int × Int)) : List (Int × Int) := (L.filter fun q => decide (q.2 ≠ 0)).map fun q => (q.1, q.2 / g)
theorem cut_snoc {g : Int} {L : List (Int × Int)} {i : Nat} {q : Int × Int} (h : L[i]? = some q) : cut g (L.take (i + 1)) = if q.2 = 0 then cut g (L.take i) else cut g (L.take i) ++ [(q.1, q.2 / g)] := by
  unfold cut
  rw [List.take_add_one, h, List.filter_append, List.map_append]
  by_cases z : q.2 = 0
  · rw [if_pos z]; simp [z]
  · rw [if_neg z]; simp [z]
theorem cut_len (g : Int) (L : List (Int × Int)) : (cut g L).length ≤ L.length := by
  unfold cut; rw [List.length_map]; exact List.length_filter_le _ _
/-- primes alone are keys, none twice -/
structure KeyOk (L : List (Int × Int)) : Prop where
  nd : (L.map (·.1)).Nodup
  pr : ∀ q ∈ L, ∃ p : Nat, q.1 = p ∧ Pr p ∧ p < 1000000
def spAmountFrom (K : PySem.W.Frag) : Sp := fun vs H Q _ => ∃ (b : Int) (D : Addr) (L : List (Int × Int)), vs = [.int b, .ref D] ∧ 0 < b ∧ b < 2 ^ 64 ∧ H D = some (.dK (kd L)) ∧ KeyOk L ∧ L.length ≤ 2000 ∧
  ∀ v d L' H', Same H H' → AmtAt K H' v d L' → St4 d L' b (ig L) → Q v H'
theorem ca_amount_from (T : Tx K mg) : Ca P w K mg base 1 "amount_from" s_amount_from ["bottom", "powers"] (spAmountFrom K) := by
  refine Ca.of (fd_amount_from T) sc_amount_from ?_ ?_
  · rintro vs H Q E ⟨b, D, L, rfl, _⟩; rfl
  · rintro f cdv A out s H vs Q E hr ⟨b, D, L, rfl, hb, hb2, hD, ko, hl, q⟩
    refine ⟨_, (pss_cons (ps_set (i := 2) sc_amount_from.nd rfl (.inr rfl) (pv 0))
 (pss_cons (ps_lock (ps_for PassesOwn.never rfl (pi_values (pv 1)) (pg_name (i := 3) sc_amount_from.nd rfl (.inl rfl))
 (pss_one (ps_set (i := 2) sc_amount_from.nd rfl (.inr rfl) (pe_callBfun cr_gcd (by rfl) T.b_gcd (pa_cons (pv 2) (pa_cons (pv 3) pa_nil)))))))
 (pss_cons (ps_lock (ps_setLc (i := 4) (own := [("prime", 5), ("factor", 3)]) rfl sc_amount_from.nd rfl rfl (sw_true rfl rfl rfl (by decide +kernel)) (pi_items (pv 1)) (blkOk_by (own := [("prime", 5), ("factor", 3)]) (N := n_amount_from) (sc := defScope s_amount_from) (by decide +kernel)) (fun _ _ _ _ _ => (pg_tupK (K := K) 2 rfl (pgs_cons (pg_name (i := 5) sc_amount_from.nd rfl (Or.inl rfl) (Or.inr rfl)) (pgs_cons (pg_name (i := 3) sc_amount_from.nd rfl (Or.inl rfl) (Or.inr rfl)) pgs_nil)))) (fun _ _ _ _ _ => (pts_one (pt_cmpR op_ne (pv 3) pe_int (nomark _)))) (fun _ _ _ _ _ => (pe_tup (pa_cons (pv 5) (pa_cons (pe_op op_fdivW (pv 3) (pv 2)) pa_nil))))))
 (pss_one (ps_ret (pe_tup (pa_cons (pe_op op_fdivW (pv 0) (pv 2)) (pa_cons (pe_callTy call_tuple_of (by rfl) T.f_tuple (by decide +kernel) (pa_cons (pe_callB cr_sortedPO (by rfl) T.f_sorted (by decide +kernel) (pa_cons (pv 4) pa_nil)) pa_nil)) pa_nil)))))))), ?_⟩
    refine ⟨_, rfl, ?_⟩
    -- divisor = gcd of all
    refine ⟨D, _, hD, trivial, fun od => ?_⟩
    refine ⟨_, rfl, D, od, _, rfl, upd_same, ?_⟩
    have back : upd (upd H D (.frz od (.dK (kd L)))) D (.dK (kd L)) = H := by
      rw [upd_upd]
      funext x
      by_cases h : x = D
      · rw [h, upd_same, hD]
      · rw [upd_ne h]
    refine for_vals (fun i σ H' => ∃ y3, σ = [some (.int b), some (.ref D), some (.int (gl b ((L.take i).map (·.2)))), y3, none, none] ∧ H' = upd H D (.frz od (.dK (kd L)))) ⟨_, rfl, rfl⟩ ?_ ?_ ?_
    · rintro i σ H' ⟨y3, _, rfl⟩; exact upd_same
    · rintro i k x σ H' hk ⟨y3, rfl, rfl⟩
      obtain ⟨c, hc, rfl, rfl⟩ := kd_at hk
      refine ⟨_, rfl, _, rfl, _, _, rfl, ⟨some (.int c.2), ?_, rfl⟩⟩
      rw [take_snoc _ hc, gl_snoc]
      rfl
    · rintro σ H' ⟨y3, rfl, rfl⟩
      refine ⟨upd_same, ?_⟩
      rw [back]
      have hlen : (kd L).length = L.length := by unfold kd; rw [List.length_map]
      rw [hlen, List.take_of_length_le (Nat.le_refl _)]
      have g0 : 0 < gl b (L.map (·.2)) := gl_pos _ _ hb
      have gle : gl b (L.map (·.2)) ≤ b := gl_le _ hb
      generalize eg : gl b (L.map (·.2)) = g at *
      have gW : g.natAbs < 2 ^ 64 := by omega
      -- parts = ..
      refine ⟨D, _, hD, trivial, fun od2 => ?_⟩
      refine ⟨_, rfl, D, od2, _, rfl, upd_same, fun Dl nDl => ?_⟩
      have nD0 : Dl ≠ D := fun z => by rw [z, upd_same] at nDl; cases nDl
      refine lc_items (fun i H' => ∃ rs, H' Dl = some (.lst (rs.map V.ref)) ∧ TrP H' rs (cut g (L.take i)) ∧ Same (upd H D (.frz od2 (.dK (kd L)))) H') ?_ ?_ ?_ ?_
      · exact ⟨[], upd_same, .nil, same_new nDl⟩
      · rintro i H' ⟨rs, _, _, sm⟩
        exact sm _ _ upd_same
      · rintro i k x T2 H' hk ⟨rs, hDl, tr, sm⟩ nT
        obtain ⟨c, hc, rfl, rfl⟩ := kd_at hk
        have s1 : Same H' (upd H' T2 (.tup [V.int c.1, V.int c.2])) := same_new nT
        refine ⟨T2, _, rfl, sqT_new, rfl, _, _, rfl, _, [], rfl, rfl, rfl, ?_⟩
        refine ⟨_, rfl, rfl, ?_⟩
        have e1 : (!decide (V.int c.2 = V.int 0)) = !decide (c.2 = 0) := by
          congr 1
          exact decide_eq_decide.mpr ⟨fun z => V.int.inj z, fun z => congrArg V.int z⟩
        refine ⟨_, rfl, ?_⟩
        rw [e1]
        have rl : rs.length = (cut g (L.take i)).length := Paired.length tr
        have rlen : rs.length ≤ 2000 := by
          have h1 := cut_len g (L.take i)
          have h2 : (L.take i).length ≤ L.length := by rw [List.length_take]; omega
          omega
        by_cases z : c.2 = 0
        · rw [decide_eq_true z]
          refine iteF ⟨rs, s1 _ _ hDl, ?_, sm.trans s1⟩
          rw [cut_snoc hc, if_pos z]
          exact tr.same s1
        · rw [decide_eq_false z]
          refine iteT ?_
          refine ⟨_, rfl, _, rfl, _, rfl, _, _, rfl, rfl, wide_div g0 gW (by omega) (by omega), by show 2 ≤ sizeLine; rw [sizeLine_eq]; omega, fun p np => ?_⟩
          have s2 := same_new (o := .tup [V.int c.1, V.int (c.2 / g)]) np
          have s12 := s1.trans s2
          refine ⟨_, s12 _ _ hDl, by rw [List.length_map, sizeLine_eq]; omega, rs ++ [p], ?_, ?_, ?_⟩
          · rw [upd_same, List.map_append]; rfl
          · rw [cut_snoc hc, if_neg z]
            have pD : p ≠ Dl := fun e => ne_of_none (s1 _ _ hDl) np e.symm
            refine paired_snoc ?_ ?_
            · rw [upd_ne pD]; exact upd_same
            · exact (tr.same s12).kp (fun b o e n1 _ => by
                by_cases h : b = Dl
                · subst h; rw [s12 _ _ hDl] at e; exact absurd (Option.some.inj e).symm (n1 _)
                · rw [upd_ne h]; exact e)
          · exact same_write nDl (sm.trans s12)
      · rintro H2 ⟨rs, hDl, tr, sm⟩
        rw [hlen, List.take_of_length_le (Nat.le_refl _)] at tr
        refine ⟨sm _ _ upd_same, ?_⟩
        -- the lock is off
        have smH : Same H (upd H2 D (.dK (kd L))) := fun b' o e => by
          by_cases h : b' = D
          · subst h; rw [upd_same, ← hD]; exact e
          · rw [upd_ne h]; exact sm _ _ (by rw [upd_ne h]; exact e)
        have hDl2 : (upd H2 D (.dK (kd L))) Dl = some (.lst (rs.map V.ref)) := by rw [upd_ne nD0]; exact hDl
        have tr2 : TrP (upd H2 D (.dK (kd L))) rs (cut g L) := Paired.mapP tr fun r c h => by
          have : r ≠ D := fun z => by rw [z, sm _ _ upd_same] at h; cases h
          rw [upd_ne this]; exact h
        have nd : ((cut g L).map (·.1)).Nodup := by
          unfold cut
          rw [List.map_map]
          exact (ko.nd).sublist (List.Sublist.map _ List.filter_sublist)
        refine ⟨_, rfl, _, rfl, _, _, rfl, rfl, wide_div g0 gW (by omega) (by omega), ?_⟩
        refine ⟨_, rfl, _, _, kOf _, rfl, .inl (.inl hDl2), tr2.mem, fun ys p1 sr st np1 => ?_⟩
        obtain ⟨rs', L', e2, tr3, pm, asc⟩ := sorted_pairs tr2 nd sr st
        have s3 := same_new (o := .lst ys) np1
        refine ⟨_, _, rfl, .inl ⟨sqL_new, fun p2 np2 => ?_⟩⟩
        have s4 := same_new (o := .tup ys) np2
        refine ⟨by show 2 ≤ sizeLine; rw [sizeLine_eq]; omega, fun p3 np3 => ?_⟩
        have s5 := same_new (o := .tup [V.int (b / g), V.ref p2]) np3
        have cnd : St4 (b / gl b (L.map (·.2))) L' b (ig L) := cn_made hb ko.nd ko.pr (by rw [eg]; exact pm) asc
        rw [eg] at cnd
        refine q _ _ _ _ (((smH.trans s3).trans s4).trans s5) ⟨p3, p2, rs', rfl, sqT_new, ?_, ?_⟩ cnd
        · rw [← e2]; exact SqT.same s5 sqT_new
        · exact ((tr3.same s3).same (s4.trans s5)).pairs
end
end K06

namespace K06
open PySem PySem.Spec PyProof.Rows L2 Ly Am
section
variable {P : Program} {w : World} {K : PySem.W.Frag} {mg : Str → Option Value} {base : Heap}
theorem KeyOk.no {L : List (Int × Int)} (k : KeyOk L) {p : Int} (h : ¬ ∃ n : Nat, p = n ∧ Pr n) : ig L p = 0 :=
  ig_none fun q hq z => by
    obtain ⟨n, e, pr, _⟩ := k.pr q hq
    exact h ⟨n, by rw [← z, e], pr⟩
theorem KeyOk.put {L : List (Int × Int)} (k : KeyOk L) {p : Nat} (v : Int) (hp : Pr p) (hl : p < 1000000) : KeyOk (ip L p v) := by
  refine ⟨ip_nodup _ _ k.nd, fun q hq => ?_⟩
  rcases ip_keys (List.mem_map.mpr ⟨q, hq, rfl⟩) with e | e
  · exact ⟨p, e, hp, hl⟩
  · obtain ⟨x, hx, e⟩ := List.mem_map.mp e
    rw [← e]; exact k.pr x hx
theorem KeyOk.len {L : List (Int × Int)} (k : KeyOk L) {m : Nat} (h : ∀ q ∈ L, q.1 ≤ m) : L.length ≤ m + 1 := by
  have := nodup_le (m + 1) (L.map (·.1)) k.nd (fun x hx => by
    obtain ⟨q, hq, rfl⟩ := List.mem_map.mp hx
    obtain ⟨n, e, _⟩ := k.pr q hq
    have := h q hq
    omega)
  rw [List.length_map] at this
  exact this
theorem kd_len (L : List (Int × Int)) : (kd L).length = L.length := by unfold kd; rw [List.length_map]
theorem ig_zz {L : List (Nat × Nat)} (p : Nat) : ig (zz L) p = (look L p : Nat) := by
  induction L with
  | nil => rfl
  | cons q r ih =>
    show ig (((q.1 : Int), (q.2 : Int)) :: zz r) p = _
    rw [ig_cons, ih]
    unfold look
    rw [List.lookup_cons]
    by_cases h : p = q.1
    · subst h; simp
    · have h1 : (p == q.1) = false := by simpa using h
      rw [h1, if_neg (by show ¬ (p : Int) = (q.1 : Int); omega)]
/-- the pairs (factor, number) -/
structure PairsIn (M : List (Int × Int)) : Prop where
  num : ∀ q ∈ M, 0 < q.2 ∧ q.2 ≤ 1000
  fac : ∀ q ∈ M, q.1.natAbs < 2 ^ 20
  len : M.length ≤ 50
theorem pf_le {L : List (Nat × Nat)} (h : ∀ q ∈ L, Pr q.1 ∧ 0 < q.2) {q : Nat × Nat} (hq : q ∈ L) : q.1 ^ q.2 ≤ pprod L := by
  induction L with
  | nil => cases hq
  | cons x r ih =>
    have hr : ∀ z ∈ r, Pr z.1 ∧ 0 < z.2 := fun z hz => h z (List.mem_cons_of_mem _ hz)
    show _ ≤ x.1 ^ x.2 * pprod r
    rcases List.mem_cons.mp hq with e | hq
    · rw [e]; exact Nat.le_mul_of_pos_right _ (pprod_pos hr)
    · exact Nat.le_trans (ih hr hq) (Nat.le_mul_of_pos_left _ (Nat.pow_pos (h x List.mem_cons_self).1.pos))
theorem PF.bound {n : Nat} {L : List (Nat × Nat)} (f : PF n L) {q : Nat × Nat} (hq : q ∈ L) : q.1 ≤ n ∧ 2 ^ q.2 ≤ n := by
  have h1 := pf_le f.pr hq
  rw [f.prod] at h1
  obtain ⟨p1, p2⟩ := f.pr q hq
  have h2 : q.1 ^ 1 ≤ q.1 ^ q.2 := Nat.pow_le_pow_right p1.pos p2
  have h3 : 2 ^ q.2 ≤ q.1 ^ q.2 := Nat.pow_le_pow_left p1.1 _
  rw [Nat.pow_one] at h2
  omega
theorem PF.ig {n : Nat} {L : List (Nat × Nat)} (f : PF n L) (p : Int) : ig (zz L) p = lg [(1, n)] p := by
  rw [lg_one]
  by_cases h : 0 ≤ p ∧ Pr p.toNat
  · rw [if_pos h]
    have e : p = (p.toNat : Int) := by omega
    rw [e, ig_zz, f.look h.2]
    unfold vi
    rw [Int.toNat_natCast, Int.toNat_natCast, Int.one_mul]
  · rw [if_neg h]
    apply ig_none
    intro q hq z
    obtain ⟨x, hx, rfl⟩ := List.mem_map.mp hq
    have z' : (x.1 : Int) = p := z
    exact h ⟨by omega, by rw [← z', Int.toNat_natCast]; exact (f.pr x hx).1⟩
theorem lg_scale (f n p : Int) : lg [(f, n)] p = f * lg [(1, n)] p := by
  rw [lg_one, lg_one]
  split
  · rw [Int.one_mul]
  · rw [Int.mul_zero]
theorem ig_take {L : List (Int × Int)} {j : Nat} {q : Int × Int} (hn : (L.map (·.1)).Nodup) (h : L[j]? = some q) (p : Int) : ig (L.take (j + 1)) p = if p = q.1 then q.2 else ig (L.take j) p := by
  rw [List.take_add_one, h]
  have key : ∀ M : List (Int × Int), (∀ x ∈ M, x.1 ≠ q.1) → ig (M ++ [q]) p = if p = q.1 then q.2 else ig M p := by
    intro M
    induction M with
    | nil =>
      intro _
      show ig [q] p = _
      rw [ig_cons]
    | cons x r ih =>
      intro hx
      rw [List.cons_append, ig_cons, ig_cons, ih fun y hy => hx y (List.mem_cons_of_mem _ hy)]
      have := hx x List.mem_cons_self
      by_cases e : p = x.1
      · rw [if_pos e, if_pos e, if_neg (by rw [e]; exact this)]
      · rw [if_neg e, if_neg e]
  refine key _ fun x hx z => ?_
  have hj : j < L.length := (List.getElem?_eq_some_iff.mp h).1
  have e1 : L = L.take j ++ q :: L.drop (j + 1) := by
    conv => lhs; rw [← List.take_append_drop j L]
    congr 1
    rw [List.drop_eq_getElem_cons hj]
    congr 1
    exact (List.getElem?_eq_some_iff.mp h).2
  rw [e1, List.map_append, List.nodup_append] at hn
  exact hn.2.2 _ (List.mem_map.mpr ⟨x, hx, rfl⟩) _ (by rw [List.map_cons]; exact List.mem_cons_self) z
theorem zz_nodup {L : List (Nat × Nat)} (h : L.Pairwise (fun a b => a.1 < b.1)) : ((zz L).map (·.1)).Nodup := by
  unfold zz
  rw [List.map_map, List.Nodup, List.pairwise_map]
  refine h.imp ?_
  intro a b hab z
  have : (a.1 : Int) = (b.1 : Int) := z
  omega
def spLogsAdded (K : PySem.W.Frag) : Sp := fun vs H Q _ => ∃ (a : Addr) (rs : List Addr) (M : List (Int × Int)), vs = [.ref a] ∧ SqL K H a (rs.map V.ref) ∧ PairsAt K H rs M ∧ PairsIn M ∧
  ∀ D L H', H D = none → Same H H' → H' D = some (.dK (kd L)) → KeyOk L → (∀ q ∈ L, q.1 ≤ 1000) → (∀ p, ig L p = lg M p) → Q (.ref D) H'
theorem ca_logs_added (T : Tx K mg) : Ca P w K mg base 2 "logs_added" s_logs_added ["pairs"] (spLogsAdded K) := by
  have C_prime_powers := ca_prime_powers (P := P) (w := w) (base := base) T
  refine Ca.of (fd_logs_added T) sc_logs_added ?_ ?_
  · rintro vs H Q E ⟨a, rs, M, rfl, _⟩; rfl
  · rintro f cdv A out s H vs Q E hr ⟨a, rs, M, rfl, hS, hP, hM, q⟩
    refine ⟨_, (pss_cons (ps_set (i := 1) sc_logs_added.nd rfl (.inl rfl) pe_dnewK)
 (pss_cons (ps_for PassesOwn.never rfl (pi_list (pv 0)) (pg_tup rfl (pgs_cons (pg_name (i := 2) sc_logs_added.nd rfl (.inl rfl)) (pgs_cons (pg_name (i := 3) sc_logs_added.nd rfl (.inl rfl)) pgs_nil)))
 (pss_cons (ps_set (i := 4) sc_logs_added.nd rfl (.inl rfl) (pe_ca C_prime_powers hr (pa_cons (pv 3) pa_nil)))
 (pss_one (ps_lock (ps_for PassesOwn.never rfl (pi_items (pv 4)) (pg_tup rfl (pgs_cons (pg_name (i := 5) sc_logs_added.nd rfl (.inl rfl)) (pgs_cons (pg_name (i := 6) sc_logs_added.nd rfl (.inl rfl)) pgs_nil)))
 (pss_one (ps_dput (hu_of hr) (pv 1) (pv 5) (pe_op op_add (pe_dget2 (hu_of hr) (pv 1) (pv 5) pe_int ⟨rfl, rfl, rfl, rfl⟩) (pe_op op_mulW (pv 6) (pv 2))) rfl)))))))
 (pss_one (ps_ret (pv 1))))), ?_⟩
    intro D nD
    refine ⟨_, rfl, a, rfl, ⟨_, (same_new nD).seq hS⟩, ?_⟩
    refine for_list (xs := rs.map V.ref) (fun i σ H' => ∃ L y2 y3 y4 y5 y6, σ = [some (.ref a), some (.ref D), y2, y3, y4, y5, y6] ∧ H' D = some (.dK (kd L)) ∧ KeyOk L ∧ (∀ q ∈ L, q.1 ≤ 1000) ∧ (∀ p, ig L p = lg (M.take i) p) ∧ Same H H') ?_ ?_ ?_ ?_
    · refine ⟨[], none, none, none, none, none, rfl, upd_same, ⟨List.nodup_nil, by simp⟩, by simp, fun p => ?_, same_new nD⟩
      rw [List.take_zero, lg_nil]; rfl
    · rintro i σ H' _ ⟨L, _, _, _, _, _, _, _, _, _, _, sm⟩
      exact sm.seq hS
    · rintro i x σ H1 hx ⟨L, y2, y3, y4, y5, y6, rfl, hD, ko, kl, hv, sm⟩
      rw [List.getElem?_map] at hx
      obtain ⟨r, hr1, rfl⟩ : ∃ r, rs[i]? = some r ∧ V.ref r = x := by
        cases e : rs[i]? with
        | none => rw [e] at hx; cases hx
        | some r => rw [e] at hx; exact ⟨r, rfl, Option.some.inj hx⟩
      obtain ⟨c, hc, ht⟩ := Paired.at' hP hr1
      have cm := List.mem_of_getElem? hc
      obtain ⟨n1, n2⟩ := hM.num c cm
      obtain ⟨n, hn⟩ : ∃ n : Nat, c.2 = n := ⟨c.2.toNat, by omega⟩
      refine ⟨r, _, rfl, SqT.same sm ht, rfl, _, _, rfl, _, [], rfl, rfl, ?_⟩
      -- found = prime_powers(number)
      refine ⟨_, rfl, n, by rw [hn]; rfl, by omega, by omega, fun Df F H2 nDf sm2 hDf pf => ?_⟩
      have nDf0 : H Df = none := sm.free nDf
      have DDf : D ≠ Df := ne_of_none hD nDf
      refine ⟨Df, _, hDf, trivial, fun od => ?_⟩
      refine ⟨_, rfl, Df, od, _, rfl, upd_same, ?_⟩
      have sm3 : Same H (upd H2 Df (.frz od (.dK (kd (zz F))))) := same_write nDf0 (sm.trans sm2)
      refine for_items (fun j σ H3 => ∃ L' y5 y6, σ = [some (.ref a), some (.ref D), some (.int c.1), some (.int c.2), some (.ref Df), y5, y6] ∧ H3 D = some (.dK (kd L')) ∧ KeyOk L' ∧ (∀ q ∈ L', q.1 ≤ 1000) ∧
          (∀ p, ig L' p = ig L p + c.1 * ig ((zz F).take j) p) ∧ H3 Df = some (.frz od (.dK (kd (zz F)))) ∧ Same H H3) ?_ ?_ ?_ ?_
      · refine ⟨L, y5, y6, rfl, ?_, ko, kl, fun p => ?_, upd_same, sm3⟩
        · rw [upd_ne DDf]; exact sm2 _ _ hD
        · rw [List.take_zero, show ig [] p = 0 from rfl, Int.mul_zero, Int.add_zero]
      · rintro j σ H3 ⟨_, _, _, _, _, _, _, _, e, _⟩; exact e
      · rintro j k x T3 σ H3 hk ⟨L', y5, y6, rfl, hD3, ko3, kl3, hv3, hf3, s3⟩ nT3
        obtain ⟨u, hu, rfl, rfl⟩ := kd_at hk
        have hz : (zz F)[j]? = some u := hu
        obtain ⟨z, hz2, hz3⟩ : ∃ z ∈ F, u = ((z.1 : Int), (z.2 : Int)) := by
          have := List.mem_of_getElem? hu
          obtain ⟨z, a1, a2⟩ := List.mem_map.mp this
          exact ⟨z, a1, a2.symm⟩
        obtain ⟨b1, b2⟩ := PF.bound pf hz2
        obtain ⟨p1, p2⟩ := pf.pr z hz2
        have e10 : z.2 < 10 := by
          have : 2 ^ z.2 < 2 ^ 10 := by omega
          exact (Nat.pow_lt_pow_iff_right (a := 2) (by omega)).mp this
        have s4 := same_new (o := .tup [V.int u.1, V.int u.2]) nT3
        have hD4 := s4 _ _ hD3
        have lenL : L'.length ≤ 1000 + 1 := ko3.len (m := 1000) kl3
        refine ⟨T3, _, rfl, sqT_new, rfl, _, _, rfl, _, [], rfl, rfl, ?_⟩
        refine ⟨_, rfl, D, rfl, .inl ⟨_, .inl hD4⟩, _, rfl, _, DGet.k (k := Sum.inl u.1) hD4, _, rfl, _, rfl, _, _, rfl, rfl, wide_mul (a := 10) (b := 20) (by rw [hz3]; show (z.2 : Int).natAbs < _; omega) (hM.fac c cm) (by omega) (by omega) (by omega), ?_⟩
        refine ⟨_, _, kd_getD _ _, rfl, _, rfl, _, rfl, D, _, rfl, DPut.k (k := Sum.inl u.1) hD4 (by rw [kd_len, sizeLine_eq]; omega), ?_⟩
        refine ⟨ip L' u.1 (ig L' u.1 + u.2 * c.1), _, _, rfl, ?_, ?_, ?_, fun p => ?_, ?_, ?_⟩
        · rw [upd_same, kd_put]
        · rw [hz3]; exact ko3.put _ p1 (by omega)
        · intro y hy
          rcases ip_keys (List.mem_map.mpr ⟨y, hy, rfl⟩) with e | e
          · rw [e, hz3]; show (z.1 : Int) ≤ 1000; omega
          · obtain ⟨x, hx, e⟩ := List.mem_map.mp e
            rw [← e]; exact kl3 x hx
        · rw [ig_ip, ig_take (zz_nodup pf.asc) hz]
          by_cases e : p = u.1
          · rw [if_pos e, if_pos e, hv3, e]
            have : ig ((zz F).take j) u.1 = 0 := by
              have t := ig_take (zz_nodup pf.asc) hz u.1
              apply ig_none
              intro x hx y
              have nd := zz_nodup pf.asc
              have hj : j < (zz F).length := (List.getElem?_eq_some_iff.mp hz).1
              have e1 : zz F = (zz F).take j ++ u :: (zz F).drop (j + 1) := by
                conv => lhs; rw [← List.take_append_drop j (zz F)]
                congr 1
                rw [List.drop_eq_getElem_cons hj]
                congr 1
                exact (List.getElem?_eq_some_iff.mp hz).2
              rw [e1, List.map_append, List.nodup_append] at nd
              exact nd.2.2 _ (List.mem_map.mpr ⟨x, hx, rfl⟩) _ (by rw [List.map_cons]; exact List.mem_cons_self) y
            rw [this, Int.mul_zero, Int.add_zero, Int.mul_comm]
          · rw [if_neg e, if_neg e, hv3]
        · rw [upd_ne DDf.symm]; exact s4 _ _ hf3
        · exact same_write nD (s3.trans s4)
      · rintro σ H3 ⟨L', y5, y6, rfl, hD3, ko3, kl3, hv3, hf3, s3⟩
        refine ⟨hf3, L', _, _, _, _, _, rfl, ?_, ko3, kl3, fun p => ?_, same_write nDf0 s3⟩
        · rw [upd_ne DDf]; exact hD3
        · rw [hv3, hv, kd_len, List.take_of_length_le (Nat.le_refl _), PF.ig pf, ← hn, ← lg_scale]
          rw [show M.take (i + 1) = M.take i ++ [c] by rw [List.take_add_one, hc]; rfl, lg_append]
    · rintro σ H' ⟨L, _, _, _, _, _, rfl, hD, ko, kl, hv, sm⟩
      refine ⟨_, rfl, q D L H' nD sm hD ko kl fun p => ?_⟩
      rw [hv, List.take_of_length_le]
      have := Paired.length hP
      rw [List.length_map]; omega
end
end K06

namespace K06
open PySem PySem.Spec PyProof.Rows L2 Ly Am
section
variable {P : Program} {w : World} {K : PySem.W.Frag} {mg : Str → Option Value} {base : Heap}
/-- the pairs whose logarithms a spread adds up -/
def sprM (ns : List Int) : List (Int × Int) := (ns.sum, ns.sum) :: ns.map fun n => (-n, n)
structure Cts (ns : List Int) : Prop where
  pos : ∀ n ∈ ns, 0 < n
  ne : 0 < ns.length
  len : ns.length ≤ 40
  tot : ns.sum ≤ 1000
theorem sum_nonneg {ns : List Int} (h : ∀ n ∈ ns, 0 < n) : 0 ≤ ns.sum := by
  induction ns with
  | nil => simp
  | cons x r ih =>
    have := h x List.mem_cons_self
    have := ih fun y hy => h y (List.mem_cons_of_mem _ hy)
    rw [List.sum_cons]; omega
theorem mem_le_sum {ns : List Int} (h : ∀ n ∈ ns, 0 < n) {x : Int} (hx : x ∈ ns) : x ≤ ns.sum := by
  induction ns with
  | nil => cases hx
  | cons y r ih =>
    have hr : ∀ n ∈ r, 0 < n := fun z hz => h z (List.mem_cons_of_mem _ hz)
    have := sum_nonneg hr
    have := h y List.mem_cons_self
    rw [List.sum_cons]
    rcases List.mem_cons.mp hx with e | hx
    · omega
    · have := ih hr hx; omega
theorem Cts.sum_pos {ns : List Int} (c : Cts ns) : 0 < ns.sum := by
  cases ns with
  | nil => have := c.ne; simp at this
  | cons x r =>
    have h1 := c.pos x List.mem_cons_self
    have h2 := mem_le_sum c.pos (x := x) List.mem_cons_self
    omega
theorem Cts.pairs {ns : List Int} (c : Cts ns) : PairsIn (sprM ns) := by
  have s0 := c.sum_pos
  have t := c.tot
  refine ⟨?_, ?_, ?_⟩
  · intro q hq
    rcases List.mem_cons.mp hq with e | hq
    · rw [e]; exact ⟨s0, t⟩
    · obtain ⟨n, hn, rfl⟩ := List.mem_map.mp hq
      have := mem_le_sum c.pos hn
      have := c.pos n hn
      exact ⟨this, by show n ≤ 1000; omega⟩
  · intro q hq
    rcases List.mem_cons.mp hq with e | hq
    · rw [e]; show ns.sum.natAbs < _; omega
    · obtain ⟨n, hn, rfl⟩ := List.mem_map.mp hq
      have := mem_le_sum c.pos hn
      have := c.pos n hn
      show (-n).natAbs < _; omega
  · unfold sprM
    rw [List.length_cons, List.length_map]
    have := c.len; omega
theorem map_at {α β : Type} {f : α → β} {l : List α} {i : Nat} {x : β} (h : (l.map f)[i]? = some x) : ∃ n, l[i]? = some n ∧ f n = x := by
  rw [List.getElem?_map] at h
  cases e : l[i]? with
  | none => rw [e] at h; cases h
  | some n => rw [e] at h; exact ⟨n, rfl, Option.some.inj h⟩
def spSpreadOf (K : PySem.W.Frag) : Sp := fun vs H Q _ => ∃ (a : Addr) (ns : List Int), vs = [.ref a] ∧ SqT K H a (ns.map V.int) ∧ Cts ns ∧
  ∀ v d L H', Same H H' → AmtAt K H' v d L → St4 d L ns.sum (lg (sprM ns)) → Q v H'
theorem ca_spread_of (T : Tx K mg) : Ca P w K mg base 3 "spread_of" s_spread_of ["counts"] (spSpreadOf K) := by
  have C_amount_from := ca_amount_from (P := P) (w := w) (base := base) T
  have C_logs_added := ca_logs_added (P := P) (w := w) (base := base) T
  refine Ca.of (fd_spread_of T) sc_spread_of ?_ ?_
  · rintro vs H Q E ⟨a, ns, rfl, _⟩; rfl
  · rintro f cdv A out s H vs Q E hr ⟨a, ns, rfl, hT, hc, q⟩
    refine ⟨_, (pss_cons (ps_set (i := 1) sc_spread_of.nd rfl (.inl rfl) (pe_callB (cr_sumT rfl) (by rfl) T.f_sum (by decide +kernel) (pa_cons (pv 0) pa_nil)))
 (pss_one (ps_ret (pe_ca C_amount_from hr (pa_cons (pv 1) (pa_cons (pe_ca C_logs_added hr (pa_cons (pe_op op_cat (pe_lst (pa_cons (pe_tup (pa_cons (pv 1) (pa_cons (pv 1) pa_nil))) pa_nil)) (pe_lc (own := [("count", 2)]) rfl sc_spread_of.nd (pi_tup (pv 0)) (blkOk_by (own := [("count", 2)]) (N := n_spread_of) (sc := defScope s_spread_of) (by decide +kernel)) (fun _ _ _ _ _ => (pg_name (i := 2) sc_spread_of.nd rfl (Or.inl rfl) (Or.inr rfl))) (fun _ _ _ _ _ => pts_nil) (fun _ _ _ _ _ => (pe_tup (pa_cons (pe_un un_neg (pv 2)) (pa_cons (pv 2) pa_nil)))))) pa_nil)) pa_nil)))))), ?_⟩
    refine ⟨_, rfl, a, ns, rfl, hT, ?_⟩
    refine ⟨_, rfl, _, rfl, _, rfl, by show 2 ≤ sizeLine; rw [sizeLine_eq]; omega, fun p np => ⟨by show 1 ≤ sizeLine; rw [sizeLine_eq]; omega, fun l nl => ?_⟩⟩
    have s1 := same_new (o := .tup [V.int ns.sum, V.int ns.sum]) np
    have s2 := same_new (o := .lst [V.ref p]) nl
    have s12 := s1.trans s2
    have hl2 : (upd (upd H p (.tup [V.int ns.sum, V.int ns.sum])) l (.lst [V.ref p])) l = some (.lst [V.ref p]) := upd_same
    have hp2 : (upd (upd H p (.tup [V.int ns.sum, V.int ns.sum])) l (.lst [V.ref p])) p = some (.tup [V.int ns.sum, V.int ns.sum]) := s2 _ _ upd_same
    generalize (upd (upd H p (.tup [V.int ns.sum, V.int ns.sum])) l (.lst [V.ref p])) = H2 at *
    refine ⟨_, rfl, a, rfl, ⟨_, SqT.same s12 hT⟩, fun D nD => ?_⟩
    refine lc_tup (xs := ns.map V.int) (fun i H' => ∃ rs, H' D = some (.lst (rs.map V.ref)) ∧ TrP H' rs ((ns.take i).map fun n => (-n, n)) ∧ Same H2 H') ?_ ?_ ?_ ?_
    · exact ⟨[], upd_same, .nil, same_new nD⟩
    · rintro i H' _ ⟨rs, _, _, sm⟩; exact SqT.same (s12.trans sm) hT
    · rintro i x H' hx ⟨rs, hD, tr, sm⟩
      obtain ⟨n, hn, rfl⟩ := map_at hx
      refine ⟨rfl, ?_⟩
      refine ⟨_, rfl, _, rfl, _, rfl, by show 2 ≤ sizeLine; rw [sizeLine_eq]; omega, fun p2 np2 => ?_⟩
      have s3 := same_new (o := .tup [V.int (-n), V.int n]) np2
      have rl : rs.length = _ := Paired.length tr
      rw [List.length_map, List.length_take] at rl
      have := hc.len
      refine ⟨_, s3 _ _ hD, by rw [List.length_map]; exact small1000 (by omega), rs ++ [p2], ?_, ?_, same_write nD (sm.trans s3)⟩
      · rw [upd_same, List.map_append]; rfl
      · rw [take_snoc _ hn]
        have pD : p2 ≠ D := fun e => ne_of_none hD np2 e.symm
        refine paired_snoc ?_ ?_
        · rw [upd_ne pD]; exact upd_same
        · exact (tr.same s3).kp (fun b o e n1 _ => by
            by_cases h : b = D
            · subst h; rw [s3 _ _ hD] at e; exact absurd (Option.some.inj e).symm (n1 _)
            · rw [upd_ne h]; exact e)
    · rintro H3 ⟨rs, hD, tr, sm⟩
      rw [List.length_map, List.take_of_length_le (Nat.le_refl _)] at tr
      have rl : rs.length = _ := Paired.length tr
      rw [List.length_map] at rl
      have := hc.len
      refine ⟨l, D, _, _, rfl, rfl, sm _ _ hl2, hD, by rw [sizeLine_eq, List.length_map]; show 1 + _ ≤ _; omega, fun p3 np3 => ?_⟩
      have s4 := same_new (o := .lst ([V.ref p] ++ rs.map V.ref)) np3
      refine ⟨p3, p :: rs, sprM ns, rfl, sqL_new, .cons (.inl (.inl (s4 _ _ (sm _ _ hp2)))) (tr.same s4).pairs, hc.pairs, fun D2 L H4 nD2 sm4 hD2 ko kl hv => ?_⟩
      have lenL : L.length ≤ 1000 + 1 := ko.len (m := 1000) kl
      refine ⟨_, D2, L, rfl, hc.sum_pos, by have := hc.tot; omega, hD2, ko, ?_, fun v d L' H5 s5 am st => q v d L' H5 ((((s12.trans sm).trans s4).trans sm4).trans s5) am ⟨st.1, fun p => by rw [← hv]; exact st.2 p⟩⟩
      omega
end
end K06

namespace K06
open PySem PySem.Spec PyProof.Rows L2 Ly Am
abbrev Tm : Type := Int × Int × List (Int × Int)
def lcms (b : Int) (M : List Tm) : Int := M.foldl (fun g t => ((g.natAbs.lcm t.2.1.natAbs : Nat) : Int)) b
theorem lcms_snoc (b : Int) (M : List Tm) (t : Tm) : lcms b (M ++ [t]) = (((lcms b M).natAbs.lcm t.2.1.natAbs : Nat) : Int) := by
  unfold lcms; rw [List.foldl_append]; rfl
theorem lcms_pos : ∀ (M : List Tm) (b : Int), 0 < b → (∀ t ∈ M, 0 < t.2.1) → 0 < lcms b M
  | [], b, h, _ => h
  | t :: r, b, h, ht => by
    have h1 := ht t List.mem_cons_self
    refine lcms_pos r _ ?_ fun x hx => ht x (List.mem_cons_of_mem _ hx)
    have : 0 < b.natAbs.lcm t.2.1.natAbs := Nat.lcm_pos (by omega) (by omega)
    show 0 < ((b.natAbs.lcm t.2.1.natAbs : Nat) : Int)
    omega
theorem lcms_dvd : ∀ (M : List Tm) (b : Int), b ∣ lcms b M ∧ ∀ t ∈ M, t.2.1 ∣ lcms b M
  | [], b => ⟨Int.dvd_refl b, by simp⟩
  | t :: r, b => by
    obtain ⟨h1, h2⟩ := lcms_dvd r ((b.natAbs.lcm t.2.1.natAbs : Nat) : Int)
    have db : b ∣ ((b.natAbs.lcm t.2.1.natAbs : Nat) : Int) := Int.natAbs_dvd_natAbs.mp (by rw [Int.natAbs_natCast]; exact Nat.dvd_lcm_left _ _)
    have dt : t.2.1 ∣ ((b.natAbs.lcm t.2.1.natAbs : Nat) : Int) := Int.natAbs_dvd_natAbs.mp (by rw [Int.natAbs_natCast]; exact Nat.dvd_lcm_right _ _)
    refine ⟨Int.dvd_trans db h1, fun x hx => ?_⟩
    rcases List.mem_cons.mp hx with e | hx
    · rw [e]; exact Int.dvd_trans dt h1
    · exact h2 x hx
theorem lcms_take_le {M : List Tm} {i : Nat} (h : ∀ t ∈ M, 0 < t.2.1) : lcms 1 (M.take i) ≤ lcms 1 M := by
  have e : lcms 1 M = lcms (lcms 1 (M.take i)) (M.drop i) := by
    conv => lhs; rw [← List.take_append_drop i M]
    unfold lcms; rw [List.foldl_append]
  have h0 := lcms_pos M 1 (by omega) h
  refine Int.le_of_dvd h0 ?_
  rw [e]; exact (lcms_dvd _ _).1
/-- what the sum has at p -/
def cf (B : Int) (M : List Tm) (p : Int) : Int := (M.map fun t => t.1 * (B / t.2.1) * ig t.2.2 p).sum
theorem cf_snoc (B : Int) (M : List Tm) (t : Tm) (p : Int) : cf B (M ++ [t]) p = cf B M p + t.1 * (B / t.2.1) * ig t.2.2 p := by
  unfold cf; rw [List.map_append, List.sum_append]; simp
section
variable {P : Program} {w : World} {K : PySem.W.Frag} {mg : Str → Option Value} {base : Heap}
def TmAt (K : PySem.W.Frag) (H : Hp) (r : Addr) (t : Tm) : Prop := ∃ v, SqT K H r [.int t.1, v] ∧ AmtAt K H v t.2.1 t.2.2
theorem TmAt.same {H H' : Hp} {r : Addr} {t : Tm} (s : Same H H') (h : TmAt K H r t) : TmAt K H' r t := by
  obtain ⟨v, h1, h2⟩ := h
  exact ⟨v, SqT.same s h1, h2.same s⟩
structure TmOk (t : Tm) : Prop where
  cn : Cn t.2.1 t.2.2
  fac : t.1.natAbs < 2 ^ 20
  key : ∀ q ∈ t.2.2, q.1 ≤ 1000
  par : ∀ q ∈ t.2.2, q.2.natAbs < 2 ^ 64
def spCombined (K : PySem.W.Frag) : Sp := fun vs H Q _ => ∃ (a : Addr) (rs : List Addr) (M : List Tm), vs = [.ref a] ∧ SqL K H a (rs.map V.ref) ∧ Paired (TmAt K H) rs M ∧ (∀ t ∈ M, TmOk t) ∧ lcms 1 M < 2 ^ 64 ∧
  ∀ v d L H', Same H H' → AmtAt K H' v d L → St4 d L (lcms 1 M) (cf (lcms 1 M) M) → Q v H'
theorem asc_look {L : List (Int × Int)} (h : L.Pairwise (fun a b => a.1 < b.1)) {j : Nat} {u : Int × Int} (hu : L[j]? = some u) : ig (L.take j) u.1 = 0 := by
  apply ig_none
  intro x hx z
  have nd := asc_nodup h
  have hj : j < L.length := (List.getElem?_eq_some_iff.mp hu).1
  have e1 : L = L.take j ++ u :: L.drop (j + 1) := by
    conv => lhs; rw [← List.take_append_drop j L]
    congr 1
    rw [List.drop_eq_getElem_cons hj]
    congr 1
    exact (List.getElem?_eq_some_iff.mp hu).2
  rw [e1, List.map_append, List.nodup_append] at nd
  exact nd.2.2 _ (List.mem_map.mpr ⟨x, hx, rfl⟩) _ (by rw [List.map_cons]; exact List.mem_cons_self) z
theorem ca_combined (T : Tx K mg) : Ca P w K mg base 2 "combined" s_combined ["pairs"] (spCombined K) := by
  have C_amount_from := ca_amount_from (P := P) (w := w) (base := base) T
  refine Ca.of (fd_combined T) sc_combined ?_ ?_
  · rintro vs H Q E ⟨a, rs, M, rfl, _⟩; rfl
  · rintro f cdv A out s H vs Q E hr ⟨a, rs, M, rfl, hS, hP, hM, hB, q⟩
    have dpos : ∀ t ∈ M, 0 < t.2.1 := fun t ht => (hM t ht).cn.d1
    have B0 := lcms_pos M 1 (by omega) dpos
    refine ⟨_, (pss_cons (ps_set (i := 1) sc_combined.nd rfl (.inl rfl) pe_int)
 (pss_cons (ps_for PassesOwn.never rfl (pi_list (pv 0)) (pg_tup rfl (pgs_cons (pg_name (i := 2) sc_combined.nd rfl (.inl rfl)) (pgs_cons (pg_name (i := 3) sc_combined.nd rfl (.inl rfl)) pgs_nil)))
 (pss_one (ps_set (i := 1) sc_combined.nd rfl (.inl rfl) (pe_callBfun cr_lcm (by rfl) T.b_lcm (pa_cons (pv 1) (pa_cons (pe_ix ix_tup (pv 3) pe_int (fun _ _ => rfl)) pa_nil))))))
 (pss_cons (ps_set (i := 4) sc_combined.nd rfl (.inl rfl) pe_dnewK)
 (pss_cons (ps_for PassesOwn.never rfl (pi_list (pv 0)) (pg_tup rfl (pgs_cons (pg_name (i := 5) sc_combined.nd rfl (.inl rfl)) (pgs_cons (pg_name (i := 3) sc_combined.nd rfl (.inl rfl)) pgs_nil)))
 (pss_cons (ps_set (i := 6) sc_combined.nd rfl (.inl rfl) (pe_op op_mulW (pv 5) (pe_op op_fdivW (pv 1) (pe_ix ix_tup (pv 3) pe_int (fun _ _ => rfl)))))
 (pss_one (ps_for PassesOwn.never rfl (pi_tup (pe_ix ix_tup (pv 3) pe_int (fun _ _ => rfl))) (pg_tup rfl (pgs_cons (pg_name (i := 7) sc_combined.nd rfl (.inl rfl)) (pgs_cons (pg_name (i := 8) sc_combined.nd rfl (.inl rfl)) pgs_nil)))
 (pss_one (ps_dput (hu_of hr) (pv 4) (pv 7) (pe_op op_add (pe_dget2 (hu_of hr) (pv 4) (pv 7) pe_int ⟨rfl, rfl, rfl, rfl⟩) (pe_op op_mulW (pv 8) (pv 6))) rfl))))))
 (pss_one (ps_ret (pe_ca C_amount_from hr (pa_cons (pv 1) (pa_cons (pv 4) pa_nil))))))))), ?_⟩
    refine ⟨_, rfl, a, rfl, ⟨_, hS⟩, ?_⟩
    have rl : rs.length = M.length := Paired.length hP
    refine for_list (xs := rs.map V.ref) (fun i σ H' => ∃ y2 y3, σ = [some (.ref a), some (.int (lcms 1 (M.take i))), y2, y3, none, none, none, none, none] ∧ Same H H') ⟨_, _, rfl, Same.refl H⟩ ?_ ?_ ?_
    · rintro i σ H' _ ⟨_, _, _, sm⟩; exact sm.seq hS
    · rintro i x σ H1 hx ⟨y2, y3, rfl, sm⟩
      obtain ⟨r, hr1, rfl⟩ := map_at hx
      obtain ⟨t, ht, v, h1, h2⟩ := Paired.at' hP hr1
      have tm := List.mem_of_getElem? ht
      obtain ⟨a2, b2, rs2, e2, h3, h4, h5⟩ := h2.same sm
      refine ⟨r, _, rfl, SqT.same sm h1, rfl, _, _, rfl, _, [], rfl, rfl, ?_⟩
      have l1 := lcms_take_le (i := i) dpos
      have l2 := lcms_take_le (i := i + 1) dpos
      have d1 := (hM t tm).cn.d1
      have d2 : t.2.1 ≤ lcms 1 M := Int.le_of_dvd B0 ((lcms_dvd M 1).2 t tm)
      have l0 := lcms_pos (M.take i) 1 (by omega) fun x hx => dpos x (List.mem_of_mem_take hx)
      subst e2
      refine ⟨_, rfl, _, rfl, a2, _, 0, _, rfl, rfl, h3, atI_nat (j := 0) rfl, _, _, rfl, by omega, by omega, ?_⟩
      refine ⟨some (.int t.1), some (.ref a2), ?_, sm⟩
      rw [show M.take (i + 1) = M.take i ++ [t] by rw [List.take_add_one, ht]; rfl, lcms_snoc]
      rfl
    · rintro σ H1 ⟨y2, y3, rfl, sm⟩
      rw [List.length_map, rl, List.take_of_length_le (Nat.le_refl _)]
      generalize eB : lcms 1 M = B at *
      intro D nD1
      have nD : H D = none := sm.free nD1
      refine ⟨_, rfl, a, rfl, ⟨_, (sm.trans (same_new nD1)).seq hS⟩, ?_⟩
      refine for_list (xs := rs.map V.ref) (fun i σ H' => ∃ L y2 y3 y5 y6 y7 y8, σ = [some (.ref a), some (.int B), y2, y3, some (.ref D), y5, y6, y7, y8] ∧ H' D = some (.dK (kd L)) ∧ KeyOk L ∧ (∀ q ∈ L, q.1 ≤ 1000) ∧ (∀ p, ig L p = cf B (M.take i) p) ∧ Same H H') ?_ ?_ ?_ ?_
      · refine ⟨[], y2, y3, none, none, none, none, rfl, upd_same, ⟨List.nodup_nil, by simp⟩, by simp, fun p => ?_, sm.trans (same_new nD1)⟩
        rw [List.take_zero]; rfl
      · rintro i σ H' _ ⟨_, _, _, _, _, _, _, _, _, _, _, _, sm⟩; exact sm.seq hS
      · rintro i x σ H2 hx ⟨L, z2, z3, z5, z6, z7, z8, rfl, hD, ko, kl, hv, sm2⟩
        obtain ⟨r, hr1, rfl⟩ := map_at hx
        obtain ⟨t, ht, v, h1, h2⟩ := Paired.at' hP hr1
        have tm := List.mem_of_getElem? ht
        obtain ⟨a2, b2, rs2, e2, h3, h4, h5⟩ := h2.same sm2
        have ok := hM t tm
        have d1 := ok.cn.d1
        have d2 : t.2.1 ≤ B := by rw [← eB]; exact Int.le_of_dvd (by rw [eB]; exact B0) ((lcms_dvd M 1).2 t tm)
        subst e2
        refine ⟨r, _, rfl, SqT.same sm2 h1, rfl, _, _, rfl, _, [], rfl, rfl, ?_⟩
        have Bd : (B / t.2.1).natAbs < 2 ^ 64 := by
          have h6 : B / t.2.1 ≤ B := Int.ediv_le_self _ (by omega)
          have h7 : 0 ≤ B / t.2.1 := Int.ediv_nonneg (by omega) (by omega)
          omega
        refine ⟨_, rfl, _, rfl, _, rfl, a2, _, 0, _, rfl, rfl, h3, atI_nat (j := 0) rfl, _, _, rfl, rfl, wide_div d1 (b := 64) (by omega) (by omega) (by omega), _, _, rfl, rfl, wide_mul ok.fac Bd (by omega) (by omega) (by omega), ?_⟩
        refine ⟨_, rfl, a2, _, 1, _, rfl, rfl, h3, atI_nat (j := 1) rfl, _, rfl, ⟨_, h4⟩, ?_⟩
        refine for_tup (xs := rs2.map V.ref) (fun j σ H' => ∃ L' y7 y8, σ = [some (.ref a), some (.int B), z2, some (.ref a2), some (.ref D), some (.int t.1), some (.int (t.1 * (B / t.2.1))), y7, y8] ∧ H' D = some (.dK (kd L')) ∧ KeyOk L' ∧ (∀ q ∈ L', q.1 ≤ 1000) ∧
            (∀ p, ig L' p = ig L p + t.1 * (B / t.2.1) * ig (t.2.2.take j) p) ∧ Same H H' ∧ SqT K H' b2 (rs2.map V.ref) ∧ PairsAt K H' rs2 t.2.2) ?_ ?_ ?_ ?_
        · refine ⟨L, z7, z8, rfl, hD, ko, kl, fun p => ?_, sm2, h4, h5⟩
          rw [List.take_zero, show ig [] p = 0 from rfl, Int.mul_zero, Int.add_zero]
        · rintro j σ H' _ ⟨_, _, _, _, _, _, _, _, _, h, _⟩; exact h
        · rintro j x σ H3 hx ⟨L', y7, y8, rfl, hD3, ko3, kl3, hv3, s3, h43, h53⟩
          obtain ⟨r2, hr2, rfl⟩ := map_at hx
          obtain ⟨u, hu, hut⟩ := Paired.at' h53 hr2
          have um := List.mem_of_getElem? hu
          obtain ⟨pn, pe, pp, pl⟩ := ok.cn.pr u um
          have lenL : L'.length ≤ 1000 + 1 := ko3.len (m := 1000) kl3
          refine ⟨r2, _, rfl, hut, rfl, _, _, rfl, _, [], rfl, rfl, ?_⟩
          refine ⟨_, rfl, D, rfl, .inl ⟨_, .inl hD3⟩, _, rfl, _, DGet.k (k := Sum.inl u.1) hD3, _, rfl, _, rfl, _, _, rfl, rfl, wide_mul (a := 64) (b := 84) (ok.par u um) (wide_lt (a := 20) (b := 64) ok.fac Bd) (by omega) (by omega) (by omega), ?_⟩
          refine ⟨_, _, kd_getD _ _, rfl, _, rfl, _, rfl, D, _, rfl, DPut.k (k := Sum.inl u.1) hD3 (by rw [kd_len, sizeLine_eq]; omega), ?_⟩
          have kp3 : Kp H3 (upd H3 D (.dK (putK (kd L') (Sum.inl u.1) (V.int (ig L' u.1 + u.2 * (t.1 * (B / t.2.1))))))) := fun b o e _ n2 => by
            by_cases h : b = D
            · subst h; rw [hD3] at e; exact absurd (Option.some.inj e).symm (n2 _)
            · rw [upd_ne h]; exact e
          refine ⟨ip L' u.1 (ig L' u.1 + u.2 * (t.1 * (B / t.2.1))), _, _, rfl, ?_, ?_, ?_, fun p => ?_, same_write nD s3, SqT.kp kp3 h43, h53.kp kp3⟩
          · rw [upd_same, kd_put]
          · rw [pe]; exact ko3.put _ pp pl
          · intro y hy
            rcases ip_keys (List.mem_map.mpr ⟨y, hy, rfl⟩) with e | e
            · rw [e]; exact ok.key u um
            · obtain ⟨x, hx, e⟩ := List.mem_map.mp e
              rw [← e]; exact kl3 x hx
          · rw [ig_ip, ig_take (asc_nodup ok.cn.asc) hu]
            by_cases e : p = u.1
            · rw [if_pos e, if_pos e, hv3, e, asc_look ok.cn.asc hu, Int.mul_zero, Int.add_zero, Int.mul_comm u.2]
            · rw [if_neg e, if_neg e, hv3]
        · rintro σ H3 ⟨L', y7, y8, rfl, hD3, ko3, kl3, hv3, s3, _, h53⟩
          refine ⟨L', _, _, _, _, _, _, rfl, hD3, ko3, kl3, fun p => ?_, s3⟩
          have l2 : rs2.length = t.2.2.length := Paired.length h53
          rw [hv3, hv, List.length_map, l2, List.take_of_length_le (Nat.le_refl _), show M.take (i + 1) = M.take i ++ [t] by rw [List.take_add_one, ht]; rfl, cf_snoc]
      · rintro σ H2 ⟨L, _, _, _, _, _, _, rfl, hD, ko, kl, hv, sm2⟩
        rw [List.length_map, rl, List.take_of_length_le (Nat.le_refl _)] at hv
        have lenL : L.length ≤ 1000 + 1 := ko.len (m := 1000) kl
        refine ⟨_, rfl, _, rfl, B, D, L, rfl, B0, hB, hD, ko, by omega, fun v d L' H3 s3 am st => q v d L' H3 (sm2.trans s3) am ⟨st.1, fun p => by rw [← hv]; exact st.2 p⟩⟩
end
end K06

namespace K06
open PySem PySem.Spec PyProof.Rows L2 Ly Am
/-- the product of the powers above, below -/
def up (k : Nat) : List (Int × Int) → Int
  | [] => 1
  | q :: r => (if 0 < q.2 then q.1 ^ (k * q.2.natAbs) else 1) * up k r
def dn (k : Nat) : List (Int × Int) → Int
  | [] => 1
  | q :: r => (if 0 < q.2 then 1 else q.1 ^ (k * q.2.natAbs)) * dn k r
theorem up_snoc (k : Nat) (q : Int × Int) : ∀ L, up k (L ++ [q]) = up k L * (if 0 < q.2 then q.1 ^ (k * q.2.natAbs) else 1)
  | [] => by simp [up]
  | x :: r => by rw [List.cons_append]; show _ * up k (r ++ [q]) = _; rw [up_snoc k q r]; show _ = (_ * up k r) * _; rw [Int.mul_assoc]
theorem dn_snoc (k : Nat) (q : Int × Int) : ∀ L, dn k (L ++ [q]) = dn k L * (if 0 < q.2 then 1 else q.1 ^ (k * q.2.natAbs))
  | [] => by simp [dn]
  | x :: r => by rw [List.cons_append]; show _ * dn k (r ++ [q]) = _; rw [dn_snoc k q r]; show _ = (_ * dn k r) * _; rw [Int.mul_assoc]
/-- what the exponents add up to -/
def cost (L : List (Int × Int)) : Nat := (L.map fun q => q.2.natAbs).sum
theorem pw_bits {p : Int} {n k c : Nat} (h : p.natAbs < 2 ^ n) : (if True then p ^ (k * c) else 1).natAbs < 2 ^ (n * (k * c) + 1) := by
  rw [if_pos trivial]; exact pow_bits h _
theorem up_bits {n k : Nat} : ∀ {L : List (Int × Int)}, (∀ q ∈ L, q.1.natAbs < 2 ^ n) → (up k L).natAbs < 2 ^ (n * (k * cost L) + L.length + 1)
  | [], _ => by show (1 : Nat) < _; exact Nat.one_lt_two_pow (by omega)
  | q :: r, h => by
    have ih := up_bits (k := k) (L := r) fun z hz => h z (List.mem_cons_of_mem _ hz)
    have h1 : ((if 0 < q.2 then q.1 ^ (k * q.2.natAbs) else 1)).natAbs < 2 ^ (n * (k * q.2.natAbs) + 1) := by
      split
      · exact pow_bits (h q List.mem_cons_self) _
      · exact Nat.one_lt_two_pow (by omega)
    have h2 := wide_lt h1 ih
    have e : n * (k * q.2.natAbs) + 1 + (n * (k * cost r) + r.length + 1) = n * (k * cost (q :: r)) + (q :: r).length + 1 := by
      have : cost (q :: r) = q.2.natAbs + cost r := by unfold cost; rw [List.map_cons, List.sum_cons]
      rw [this, List.length_cons, Nat.mul_add, Nat.mul_add]; omega
    rw [e] at h2
    exact h2
theorem dn_bits {n k : Nat} : ∀ {L : List (Int × Int)}, (∀ q ∈ L, q.1.natAbs < 2 ^ n) → (dn k L).natAbs < 2 ^ (n * (k * cost L) + L.length + 1)
  | [], _ => by show (1 : Nat) < _; exact Nat.one_lt_two_pow (by omega)
  | q :: r, h => by
    have ih := dn_bits (k := k) (L := r) fun z hz => h z (List.mem_cons_of_mem _ hz)
    have h1 : ((if 0 < q.2 then 1 else q.1 ^ (k * q.2.natAbs))).natAbs < 2 ^ (n * (k * q.2.natAbs) + 1) := by
      split
      · exact Nat.one_lt_two_pow (by omega)
      · exact pow_bits (h q List.mem_cons_self) _
    have h2 := wide_lt h1 ih
    have e : n * (k * q.2.natAbs) + 1 + (n * (k * cost r) + r.length + 1) = n * (k * cost (q :: r)) + (q :: r).length + 1 := by
      have : cost (q :: r) = q.2.natAbs + cost r := by unfold cost; rw [List.map_cons, List.sum_cons]
      rw [this, List.length_cons, Nat.mul_add, Nat.mul_add]; omega
    rw [e] at h2
    exact h2
theorem cost_take (L : List (Int × Int)) (i : Nat) : cost (L.take i) ≤ cost L := by
  conv => rhs; rw [← List.take_append_drop i L]
  unfold cost
  rw [List.map_append, List.sum_append]; omega
theorem cost_mem {L : List (Int × Int)} {q : Int × Int} (h : q ∈ L) : q.2.natAbs ≤ cost L := by
  induction L with
  | nil => cases h
  | cons x r ih =>
    unfold cost; rw [List.map_cons, List.sum_cons]
    rcases List.mem_cons.mp h with e | h
    · rw [e]; omega
    · have := ih h; unfold cost at this; omega
/-- the products can be worked out -/
structure Fits (n k : Nat) (L : List (Int × Int)) : Prop where
  pos : ∀ q ∈ L, 0 < q.1 ∧ q.1 < 2 ^ n
  one : ∀ q ∈ L, n * (2 * (k * q.2.natAbs)) ≤ 400000
  all : n * (k * cost L) + L.length ≤ 450000
  k20 : k < 2 ^ 20
  ex : ∀ q ∈ L, q.2.natAbs < 2 ^ 64
section
variable {P : Program} {w : World} {K : PySem.W.Frag} {mg : Str → Option Value} {base : Heap}
def spProducts (K : PySem.W.Frag) : Sp := fun vs H Q _ => ∃ (b : Addr) (rs : List Addr) (L : List (Int × Int)) (k n : Nat), vs = [.ref b, .int k] ∧ SqT K H b (rs.map V.ref) ∧ PairsAt K H rs L ∧ Fits n k L ∧
  ∀ t H', Same H H' → SqT K H' t [.int (up k L), .int (dn k L)] → Q (.ref t) H'
theorem ca_products_of (T : Tx K mg) : Ca P w K mg base 2 "products_of" s_products_of ["parts", "k"] (spProducts K) := by
  have C_power := ca_power (P := P) (w := w) (base := base) T
  refine Ca.of (fd_products_of T) sc_products_of ?_ ?_
  · rintro vs H Q E ⟨b, rs, L, k, n, rfl, _⟩; rfl
  · rintro f cdv A out s H vs Q E hr ⟨b, rs, L, k, n, rfl, hT, hP, hF, q⟩
    refine ⟨_, (pss_cons (ps_set (i := 2) sc_products_of.nd rfl (.inl rfl) pe_int)
 (pss_cons (ps_set (i := 3) sc_products_of.nd rfl (.inl rfl) pe_int)
 (pss_cons (ps_for PassesOwn.never rfl (pi_tup (pv 0)) (pg_tup rfl (pgs_cons (pg_name (i := 4) sc_products_of.nd rfl (.inl rfl)) (pgs_cons (pg_name (i := 5) sc_products_of.nd rfl (.inl rfl)) pgs_nil)))
 (pss_one (ps_if (pt_cmpR op_gt (pv 5) pe_int (nomark _))
 (pss_one (ps_set (i := 2) sc_products_of.nd rfl (.inl rfl) (pe_op op_mulW (pv 2) (pe_ca C_power hr (pa_cons (pv 4) (pa_cons (pe_op op_mulW (pv 1) (pv 5)) pa_nil))))))
 (pss_one (ps_set (i := 3) sc_products_of.nd rfl (.inl rfl) (pe_op op_mulW (pv 3) (pe_ca C_power hr (pa_cons (pv 4) (pa_cons (pe_op op_mulW (pe_un un_neg (pv 1)) (pv 5)) pa_nil)))))))))
 (pss_one (ps_ret (pe_tup (pa_cons (pv 2) (pa_cons (pv 3) pa_nil)))))))), ?_⟩
    refine ⟨_, rfl, b, rfl, ⟨_, hT⟩, ?_⟩
    have rl : rs.length = L.length := Paired.length hP
    refine for_tup (xs := rs.map V.ref) (fun i σ H' => ∃ y4 y5, σ = [some (.ref b), some (.int k), some (.int (up k (L.take i))), some (.int (dn k (L.take i))), y4, y5] ∧ H' = H) ⟨none, none, rfl, rfl⟩ ?_ ?_ ?_
    · rintro i σ H' _ ⟨_, _, _, rfl⟩; exact hT
    · rintro i x σ H' hx ⟨y4, y5, rfl, rfl⟩
      obtain ⟨r, hr1, rfl⟩ := map_at hx
      obtain ⟨u, hu, hut⟩ := Paired.at' hP hr1
      have um := List.mem_of_getElem? hu
      obtain ⟨p0, pn⟩ := hF.pos u um
      have one := hF.one u um
      have ba : ∀ q ∈ L.take i, q.1.natAbs < 2 ^ n := fun q hq => by
        obtain ⟨a1, a2⟩ := hF.pos q (List.mem_of_mem_take hq)
        have e2 : ((2 : Int) ^ n) = ((2 ^ n : Nat) : Int) := by simp
        omega
      have pb : u.1.natAbs < 2 ^ n := by
        have e2 : ((2 : Int) ^ n) = ((2 ^ n : Nat) : Int) := by simp
        omega
      have ub := up_bits (k := k) ba
      have db := dn_bits (k := k) ba
      have pw := pow_bits pb (k * u.2.natAbs)
      have len : (L.take i).length ≤ L.length := by rw [List.length_take]; omega
      have cs : n * (k * cost (L.take i)) ≤ n * (k * cost L) := Nat.mul_le_mul_left _ (Nat.mul_le_mul_left _ (cost_take L i))
      have cm : n * (k * u.2.natAbs) ≤ n * (k * cost L) := Nat.mul_le_mul_left _ (Nat.mul_le_mul_left _ (cost_mem um))
      have all := hF.all
      have tk : L.take (i + 1) = L.take i ++ [u] := by rw [List.take_add_one, hu]; rfl
      have kx := hF.k20
      have ex := hF.ex u um
      refine ⟨r, _, rfl, hut, rfl, _, _, rfl, _, [], rfl, rfl, ?_⟩
      refine ⟨_, rfl, _, _, rfl, rfl, _, rfl, ite2 (fun c => ?_) (fun c => ?_)⟩
      · have c' : 0 < u.2 := of_decide_eq_true c
        have e1 : (k : Int) * u.2 = ((k * u.2.natAbs : Nat) : Int) := by
          rw [Int.natCast_mul]; congr 1; omega
        refine ⟨_, rfl, _, rfl, _, rfl, _, rfl, _, _, rfl, rfl, wide_mul (a := 20) (b := 64) (by omega) ex (by omega) (by omega) (by omega), u.1, k * u.2.natAbs, n, by show [V.int u.1, V.int ((k : Int) * u.2)] = _; rw [e1], pb, one, ?_⟩
        refine ⟨_, _, rfl, rfl, wide_mul ub pw (by omega) (by omega) (by omega), some (.int u.1), some (.int u.2), ?_, rfl⟩
        rw [tk, up_snoc, dn_snoc, if_pos c', if_pos c', Int.mul_one]
        rfl
      · have c' : ¬ 0 < u.2 := fun z => c (decide_eq_true z)
        have e1 : (-(k : Int)) * u.2 = ((k * u.2.natAbs : Nat) : Int) := by
          rw [Int.natCast_mul, Int.neg_mul, ← Int.mul_neg]; congr 1; omega
        refine ⟨_, rfl, _, rfl, _, rfl, _, rfl, _, rfl, _, _, rfl, rfl, wide_mul (a := 20) (b := 64) (by omega) ex (by omega) (by omega) (by omega), u.1, k * u.2.natAbs, n, by show [V.int u.1, V.int ((-(k : Int)) * u.2)] = _; rw [e1], pb, one, ?_⟩
        refine ⟨_, _, rfl, rfl, wide_mul db pw (by omega) (by omega) (by omega), some (.int u.1), some (.int u.2), ?_, rfl⟩
        rw [tk, up_snoc, dn_snoc, if_neg c', if_neg c', Int.mul_one]
        rfl
    · rintro σ H' ⟨y4, y5, rfl, rfl⟩
      rw [List.length_map, rl, List.take_of_length_le (Nat.le_refl _)]
      refine ⟨_, rfl, _, rfl, by show 2 ≤ sizeLine; rw [sizeLine_eq]; omega, fun t nt => q t _ (same_new nt) sqT_new⟩
end
end K06

namespace K06
open PySem PySem.Spec PyProof.Rows L2 Ly Am
section
variable {P : Program} {w : World} {K : PySem.W.Frag} {mg : Str → Option Value} {base : Heap}
local macro_rules | `(tactic| walk_at "isint") => `(tactic| refine ⟨_, "int", true, false, rfl, tyx_int, by decide +kernel, by decide +kernel, ?_⟩)
/-- what the amounts of this law are within -/
structure AmOk (d : Int) (L : List (Int × Int)) : Prop where
  cn : Cn d L
  dl : d < 2 ^ 64
  key : ∀ q ∈ L, q.1 ≤ 1000
  par : ∀ q ∈ L, q.2.natAbs < 2 ^ 64
theorem keys_few {L : List (Int × Int)} {m : Nat} (nd : (L.map (·.1)).Nodup) (h : ∀ q ∈ L, 0 ≤ q.1 ∧ q.1 ≤ m) : L.length ≤ m + 1 := by
  have := nodup_le (m + 1) (L.map (·.1)) nd (by
    intro x hx
    obtain ⟨q, hq, rfl⟩ := List.mem_map.mp hx
    have := h q hq
    omega)
  rwa [List.length_map] at this
theorem AmOk.len {d : Int} {L : List (Int × Int)} (c : AmOk d L) : L.length ≤ 1001 :=
  keys_few (m := 1000) (asc_nodup c.cn.asc) fun q hq => ⟨by obtain ⟨p, e, _⟩ := c.cn.pr q hq; omega, c.key q hq⟩
def spIsPart (K : PySem.W.Frag) : Sp := fun vs H Q _ => ∃ (a : Addr) (p : Nat) (e : Int), vs = [.ref a] ∧ SqT K H a [.int p, .int e] ∧ Pr p ∧ p < 1000000 ∧ e ≠ 0 ∧ ∀ H', Same H H' → Q (.bl true) H'
theorem ca_is_part (T : Tx K mg) : Ca P w K mg base 3 "is_part" s_is_part ["thing"] (spIsPart K) := by
  have C_is_tuple_of := ca_is_tuple_of (P := P) (w := w) (base := base) T
  have C_is_integer := ca_is_integer (P := P) (w := w) (base := base) T
  have C_is_integer_in := ca_is_integer_in (P := P) (w := w) (base := base) T
  have C_is_prime := ca_is_prime (P := P) (w := w) (base := base) T
  refine Ca.of (fd_is_part T) sc_is_part ?_ ?_
  · rintro vs H Q E ⟨b, p, e, rfl, _⟩; rfl
  · rintro f cdv A out s H vs Q E hr ⟨b, p, e, rfl, hT, hp, hl, he, q⟩
    refine ⟨_, (pss_cons (ps_if (PW.pt (pw_or (pt_not (pt_val (pe_ca C_is_tuple_of hr (pa_cons (pv 0) (pa_cons pe_int pa_nil))))) (pw_or (pt_not (pt_val (pe_ca C_is_integer hr (pa_cons (pe_ix ix_tup (pv 0) pe_int (fun _ _ => rfl)) pa_nil)))) (pw_or1 (pt_cmpR op_eq (pe_ix ix_tup (pv 0) pe_int (fun _ _ => rfl)) pe_int (nomark _))))))
 (pss_one (ps_ret pe_bl))
 pss_nil)
 (pss_one (ps_ret (pe_and (pe_ca C_is_integer_in hr (pa_cons (pe_ix ix_tup (pv 0) pe_int (fun _ _ => rfl)) (pa_cons pe_int (pa_cons (pe_op op_sub (pe_globI T.i_ABOVE_PRIMES) pe_int) pa_nil)))) (pe_one (pe_ca C_is_prime hr (pa_cons (pe_ix ix_tup (pv 0) pe_int (fun _ _ => rfl)) pa_nil))))))), ?_⟩
    refine ⟨_, rfl, b, _, 2, rfl, hT, ?_⟩
    refine ⟨true, rfl, iteF ?_⟩
    refine ⟨_, rfl, b, _, 1, _, rfl, rfl, hT, atI_nat (j := 1) rfl, ?_⟩
    walk_at "isint"
    have e1 : decide (V.int e = V.int 0) = false := decide_eq_false fun z => he (V.int.inj z)
    refine ⟨true, rfl, iteF ?_⟩
    refine ⟨_, rfl, b, _, 1, _, rfl, rfl, hT, atI_nat (j := 1) rfl, rfl, _, rfl, ?_⟩
    rw [e1]
    refine iteF ?_
    refine ⟨_, rfl, b, _, 0, _, rfl, rfl, hT, atI_nat (j := 0) rfl, _, _, rfl, rfl, ?_⟩
    refine ⟨p, 2, _, rfl, ?_⟩
    have p2 := hp.two
    have e2 : decide ((2 : Int) ≤ (p : Int) ∧ (p : Int) ≤ 1000000 - 1) = true := decide_eq_true ⟨by omega, by omega⟩
    refine ⟨true, by rw [e2], iteT ?_⟩
    refine ⟨_, rfl, b, _, 0, _, rfl, rfl, hT, atI_nat (j := 0) rfl, p, rfl, by omega, fun bb H' s hb => ?_⟩
    have : bb = true := hb.mpr hp
    rw [this]
    exact q H' s
def spAsc (K : PySem.W.Frag) : Sp := fun vs H Q _ => ∃ (a : Addr) (ns : List Int), vs = [.ref a] ∧ SqL K H a (ns.map V.int) ∧ ns.Pairwise (· < ·) ∧ ns.length ≤ 2000 ∧ ∀ H', Same H H' → Q (.bl true) H'
theorem ca_is_ascending (T : Tx K mg) : Ca P w K mg base 1 "is_ascending" s_is_ascending ["items"] (spAsc K) := by
  refine Ca.of (fd_is_ascending T) sc_is_ascending ?_ ?_
  · rintro vs H Q E ⟨b, ns, rfl, _⟩; rfl
  · rintro f cdv A out s H vs Q E hr ⟨b, ns, rfl, hS, hA, hl, q⟩
    refine ⟨_, (pss_one (ps_ret (pe_callB (cr_all rfl) (by rfl) T.f_all (by decide +kernel) (pa_cons (pe_lc (own := [("one", 1), ("other", 2)]) rfl sc_is_ascending.nd (pi_zip (by rfl) T.f_zip (pa_cons (pv 0) (pa_cons (pe_slice sl_list (pv 0) (po_some pe_int) po_none) pa_nil))) (blkOk_by (own := [("one", 1), ("other", 2)]) (N := n_is_ascending) (sc := defScope s_is_ascending) (by decide +kernel)) (fun _ _ _ _ _ => (pg_tupK (K := K) 2 rfl (pgs_cons (pg_name (i := 1) sc_is_ascending.nd rfl (Or.inl rfl) (Or.inr rfl)) (pgs_cons (pg_name (i := 2) sc_is_ascending.nd rfl (Or.inl rfl) (Or.inr rfl)) pgs_nil)))) (fun _ _ _ _ _ => pts_nil) (fun _ _ _ _ _ => (pe_cmpR op_lt (pv 1) (pv 2) (nomark _)))) pa_nil)))), ?_⟩
    refine ⟨_, rfl, _, rfl, 1, rfl, b, _, rfl, hS, fun p np => ?_⟩
    have s1 := same_new (o := .lst (cutV (ns.map V.int) (some 1) none)) np
    have ec : cutV (ns.map V.int) (some 1) none = (ns.drop 1).map V.int := by
      unfold cutV
      cases ns with
      | nil => rfl
      | cons x r =>
        have e1 : HT.sIx ((x :: r).map V.int).length 0 (some 1) = 1 := by
          rw [List.length_map, List.length_cons]; simp [HT.sIx]
        have e2 : HT.sIx ((x :: r).map V.int).length ((x :: r).map V.int).length none = ((x :: r).map V.int).length := rfl
        rw [e1, e2, List.take_of_length_le (by rw [List.length_drop]; omega), List.map_drop]
    rw [ec] at s1 ⊢
    refine ⟨b, p, _, _, rfl, s1.seq hS, sqL_new, fun D nD => ?_⟩
    have len : ns.length - 1 = min (ns.map V.int).length ((ns.drop 1).map V.int).length := by
      rw [List.length_map, List.length_map, List.length_drop]; omega
    generalize e1 : upd H p (HO.lst ((ns.drop 1).map V.int)) = H1 at *
    have hp : SqL K H1 p ((ns.drop 1).map V.int) := by rw [← e1]; exact sqL_new
    refine lc_it (walk_zip (xs := ns.map V.int) (ys := (ns.drop 1).map V.int) len) (fun i H' => Same H1 H' ∧ H' D = some (.lst ((List.replicate i true).map V.bl))) ?_ ?_ ?_ ?_
    · exact ⟨same_new nD, upd_same⟩
    · rintro i H' _ ⟨sm, _⟩; exact ⟨sm.seq (s1.seq hS), sm.seq hp⟩
    · rintro i x H' H2 hi ⟨sm, hD⟩ ⟨t, x1, x2, rfl, nt, rfl, g1, g2⟩
      obtain ⟨u, hu, rfl⟩ := map_at g1
      obtain ⟨v, hv, rfl⟩ := map_at g2
      have s3 := same_new (o := .tup [V.int u, V.int v]) nt
      refine ⟨t, _, rfl, sqT_new, rfl, _, _, rfl, _, [], rfl, rfl, rfl, ?_⟩
      refine ⟨_, rfl, _, rfl, u, v, rfl, rfl, _, s3 _ _ hD, ?_, same_write nD (sm.trans s3), ?_⟩
      · rw [List.length_map, List.length_replicate, sizeLine_eq]
        omega
      · have lt : u < v := by
          rw [List.getElem?_drop] at hv
          have a1 := List.getElem?_eq_some_iff.mp hu
          have a2 := List.getElem?_eq_some_iff.mp hv
          obtain ⟨b1, c1⟩ := a1
          obtain ⟨b2, c2⟩ := a2
          have := List.pairwise_iff_getElem.mp hA i (1 + i) b1 b2 (by omega)
          rw [c1, c2] at this; exact this
        show upd _ D _ D = _
        rw [upd_same, List.replicate_succ', List.map_append]
        show some (HO.lst (_ ++ [V.bl (decide (u < v))])) = _
        rw [decide_eq_true lt]; rfl
    · rintro H2 ⟨sm, hD⟩
      refine ⟨D, _, rfl, .inl (.inl hD), ?_⟩
      have e : (List.replicate (ns.length - 1) true).all id = true := by simp
      have z := q H2 (s1.trans sm)
      rw [← e] at z; exact z
end
end K06

namespace K06
open PySem PySem.Spec PyProof.Rows L2 Ly Am
section
variable {P : Program} {w : World} {K : PySem.W.Frag} {mg : Str → Option Value} {base : Heap}
local macro_rules | `(tactic| walk_at "isint") => `(tactic| refine ⟨_, "int", true, false, rfl, tyx_int, by decide +kernel, by decide +kernel, ?_⟩)
def spIsAmount (K : PySem.W.Frag) : Sp := fun vs H Q _ => ∃ (v : V) (d : Int) (L : List (Int × Int)), vs = [v] ∧ AmtAt K H v d L ∧ AmOk d L ∧ ∀ H', Same H H' → Q (.bl true) H'
def spReqAmount (K : PySem.W.Frag) : Sp := fun vs H Q _ => ∃ (v : V) (d : Int) (L : List (Int × Int)), vs = [v] ∧ AmtAt K H v d L ∧ AmOk d L ∧ ∀ H', Same H H' → Q .non H'
theorem ca_is_amount (T : Tx K mg) : Ca P w K mg base 4 "is_amount" s_is_amount ["thing"] (spIsAmount K) := by
  have C_is_tuple_of := ca_is_tuple_of (P := P) (w := w) (base := base) T
  have C_is_integer := ca_is_integer (P := P) (w := w) (base := base) T
  have C_is_part := ca_is_part (P := P) (w := w) (base := base) T
  have C_is_ascending := ca_is_ascending (P := P) (w := w) (base := base) T
  refine Ca.of (fd_is_amount T) sc_is_amount ?_ ?_
  · rintro vs H Q E ⟨v, d, L, rfl, _⟩; rfl
  · rintro f cdv A out s H vs Q E hr ⟨_, d, L, rfl, ⟨a, b, rs, rfl, h1, h2, h3⟩, ok, q⟩
    refine ⟨_, (pss_cons (ps_if (pt_not (pt_val (pe_ca C_is_tuple_of hr (pa_cons (pv 0) (pa_cons pe_int pa_nil)))))
 (pss_one (ps_ret pe_bl))
 pss_nil)
 (pss_cons (ps_asg (pv 0) (pg_tup rfl (pgs_cons (pg_name (i := 1) sc_is_amount.nd rfl (.inl rfl)) (pgs_cons (pg_name (i := 2) sc_is_amount.nd rfl (.inl rfl)) pgs_nil))))
 (pss_cons (ps_if (PW.pt (pw_or (pt_not (pt_val (pe_ca C_is_integer hr (pa_cons (pv 1) pa_nil)))) (pw_or (pt_cmpR op_lt (pv 1) pe_int (nomark _)) (pw_or1 (pt_not (pt_val (pe_callB call_isi (by rfl) T.f_isinstance (by decide +kernel) (pa_cons (pv 2) (pa_cons (pe_bltn (v := .ty "tuple") (by rfl) T.f_tuple (by decide +kernel) rfl) pa_nil)))))))))
 (pss_one (ps_ret pe_bl))
 pss_nil)
 (pss_cons (ps_if (pt_not (pt_val (pe_callB (cr_all rfl) (by rfl) T.f_all (by decide +kernel) (pa_cons (pe_lc (own := [("part", 3)]) rfl sc_is_amount.nd (pi_tup (pv 2)) (blkOk_by (own := [("part", 3)]) (N := n_is_amount) (sc := defScope s_is_amount) (by decide +kernel)) (fun _ _ _ _ _ => (pg_name (i := 3) sc_is_amount.nd rfl (Or.inl rfl) (Or.inr rfl))) (fun _ _ _ _ _ => pts_nil) (fun _ _ _ _ _ => (pe_ca C_is_part hr (pa_cons (pv 3) pa_nil)))) pa_nil))))
 (pss_one (ps_ret pe_bl))
 pss_nil)
 (pss_cons (ps_set (i := 4) sc_is_amount.nd rfl (.inl rfl) (pv 1))
 (pss_cons (ps_for PassesOwn.never rfl (pi_tup (pv 2)) (pg_name (i := 3) sc_is_amount.nd rfl (.inl rfl))
 (pss_one (ps_set (i := 4) sc_is_amount.nd rfl (.inl rfl) (pe_callBfun cr_gcd (by rfl) T.b_gcd (pa_cons (pv 4) (pa_cons (pe_ix ix_tup (pv 3) pe_int (fun _ _ => rfl)) pa_nil))))))
 (pss_one (ps_ret (pe_and (pe_cmpR op_eq (pv 4) pe_int (nomark _)) (pe_one (pe_ca C_is_ascending hr (pa_cons (pe_lc (own := [("part", 3)]) rfl sc_is_amount.nd (pi_tup (pv 2)) (blkOk_by (own := [("part", 3)]) (N := n_is_amount) (sc := defScope s_is_amount) (by decide +kernel)) (fun _ _ _ _ _ => (pg_name (i := 3) sc_is_amount.nd rfl (Or.inl rfl) (Or.inr rfl))) (fun _ _ _ _ _ => pts_nil) (fun _ _ _ _ _ => (pe_ix (ix_tupK (K := K)) (pv 3) pe_int (fun _ _ => rfl)))) pa_nil)))))))))))), ?_⟩
    have d1 := ok.cn.d1
    have rl : rs.length = L.length := Paired.length h3
    have ll := ok.len
    refine ⟨_, rfl, a, _, 2, rfl, h1, ?_⟩
    refine ⟨_, rfl, iteF ?_⟩
    refine ⟨_, rfl, a, _, rfl, h1, rfl, _, _, rfl, _, [], rfl, rfl, ?_⟩
    refine ⟨_, rfl, ?_⟩
    walk_at "isint"
    refine ⟨true, rfl, iteF ?_⟩
    have e1 : decide (d < (1 : Int)) = false := decide_eq_false (by omega)
    refine ⟨_, rfl, _, _, rfl, rfl, _, rfl, ?_⟩
    rw [e1]
    refine iteF ?_
    refine ⟨_, rfl, _, .ty "tuple", _, _, true, rfl, .ty "tuple", tyx_tup h2, kit_ty (by decide +kernel), true, rfl, iteF ?_⟩
    refine ⟨_, rfl, b, rfl, ⟨_, h2⟩, fun D nD => ?_⟩
    refine lc_tup (xs := rs.map V.ref) (fun i H' => Same H H' ∧ H' D = some (.lst ((List.replicate i true).map V.bl))) ?_ ?_ ?_ ?_
    · exact ⟨same_new nD, upd_same⟩
    · rintro i H' _ ⟨sm, _⟩; exact SqT.same sm h2
    · rintro i x H' hx ⟨sm, hD⟩
      obtain ⟨r, hr1, rfl⟩ := map_at hx
      obtain ⟨u, hu, hut⟩ := Paired.at' h3 hr1
      have um := List.mem_of_getElem? hu
      obtain ⟨p, pe, pp, pl⟩ := ok.cn.pr u um
      refine ⟨rfl, ?_⟩
      refine ⟨_, rfl, r, p, u.2, rfl, by rw [← pe]; exact SqT.same sm hut, pp, pl, ok.cn.nz u um, fun H3 s3 => ?_⟩
      refine ⟨_, s3 _ _ hD, ?_, same_write nD (sm.trans s3), ?_⟩
      · have := (List.getElem?_eq_some_iff.mp hr1).1
        rw [List.length_map, List.length_replicate, sizeLine_eq]; omega
      · rw [upd_same, List.replicate_succ', List.map_append]; rfl
    · rintro H2 ⟨sm, hD⟩
      refine ⟨D, _, rfl, .inl (.inl hD), true, by simp, iteF ?_⟩
      refine ⟨_, rfl, ?_⟩
      refine ⟨_, rfl, b, rfl, ⟨_, SqT.same sm h2⟩, ?_⟩
      refine for_tup (xs := rs.map V.ref) (fun i σ H' => ∃ y3, σ = [some (.ref a), some (.int d), some (.ref b), y3, some (.int (gl d ((L.take i).map (·.2))))] ∧ H' = H2) ⟨_, rfl, rfl⟩ ?_ ?_ ?_
      · rintro i σ H' _ ⟨_, _, rfl⟩; exact SqT.same sm h2
      · rintro i x σ H' hx ⟨y3, rfl, rfl⟩
        obtain ⟨r, hr1, rfl⟩ := map_at hx
        obtain ⟨u, hu, hut⟩ := Paired.at' h3 hr1
        refine ⟨_, rfl, _, rfl, r, _, 1, _, rfl, rfl, SqT.same sm hut, atI_nat (j := 1) rfl, _, _, rfl, ⟨some (.ref r), ?_, rfl⟩⟩
        rw [take_snoc _ hu, gl_snoc]
        rfl
      · rintro σ H' ⟨y3, rfl, rfl⟩
        rw [List.length_map, rl, List.take_of_length_le (Nat.le_refl _), ok.cn.gcd]
        refine ⟨_, rfl, rfl, true, rfl, iteT ?_⟩
        refine ⟨_, rfl, b, rfl, ⟨_, SqT.same sm h2⟩, fun D2 nD2 => ?_⟩
        refine lc_tup (xs := rs.map V.ref) (fun i H' => Same H H' ∧ H' D2 = some (.lst (((L.take i).map (·.1)).map V.int))) ?_ ?_ ?_ ?_
        · exact ⟨sm.trans (same_new nD2), upd_same⟩
        · rintro i H' _ ⟨sm, _⟩; exact SqT.same sm h2
        · rintro i x H3 hx ⟨sm3, hD3⟩
          obtain ⟨r, hr1, rfl⟩ := map_at hx
          obtain ⟨u, hu, hut⟩ := Paired.at' h3 hr1
          refine ⟨rfl, ?_⟩
          refine ⟨_, rfl, r, _, 0, _, rfl, rfl, SqT.same sm3 hut, atI_nat (j := 0) rfl, _, hD3, ?_, same_write (sm.free nD2) sm3, ?_⟩
          · rw [List.length_map, List.length_map, List.length_take, sizeLine_eq]; omega
          · rw [upd_same, take_snoc _ hu, List.map_append]; rfl
        · rintro H3 ⟨sm3, hD3⟩
          rw [List.length_map, rl, List.take_of_length_le (Nat.le_refl _)] at hD3
          refine ⟨D2, L.map (·.1), rfl, .inl (.inl hD3), ?_, by rw [List.length_map]; omega, fun H4 s4 => q H4 (sm3.trans s4)⟩
          rw [List.pairwise_map]
          exact ok.cn.asc
theorem ca_require_amount (T : Tx K mg) : Ca P w K mg base 5 "require_amount" s_require_amount ["thing"] (spReqAmount K) := by
  have C_is_amount := ca_is_amount (P := P) (w := w) (base := base) T
  refine Ca.of (fd_require_amount T) sc_require_amount ?_ ?_
  · rintro vs H Q E ⟨v, d, L, rfl, _⟩; rfl
  · rintro f cdv A out s H vs Q E hr ⟨v, d, L, rfl, ha, ok, q⟩
    refine ⟨_, (pss_one (ps_if (pt_not (pt_val (pe_ca C_is_amount hr (pa_cons (pv 0) pa_nil))))
 (pss_one ps_never)
 pss_nil)), ?_⟩
    refine ⟨_, rfl, v, d, L, rfl, ha, ok, fun H' s' => ⟨true, rfl, iteF ?_⟩⟩
    exact q H' s'
def spReqNumber : Sp := fun vs H Q _ => ∃ (i lo hi : Int), vs = [.int i, .int lo, .int hi] ∧ lo ≤ i ∧ i ≤ hi ∧ Q .non H
theorem ca_require_number (T : Tx K mg) : Ca P w K mg base 3 "require_number" s_require_number ["thing", "low", "high"] spReqNumber := by
  have C_is_integer_in := ca_is_integer_in (P := P) (w := w) (base := base) T
  refine Ca.of (fd_require_number T) sc_require_number ?_ ?_
  · rintro vs H Q E ⟨i, lo, hi, rfl, _⟩; rfl
  · rintro f cdv A out s H vs Q E hr ⟨i, lo, hi, rfl, h1, h2, q⟩
    refine ⟨_, (pss_one (ps_if (pt_not (pt_val (pe_ca C_is_integer_in hr (pa_cons (pv 0) (pa_cons (pv 1) (pa_cons (pv 2) pa_nil))))))
 (pss_one ps_never)
 pss_nil)), ?_⟩
    refine ⟨_, rfl, _, rfl, _, rfl, i, lo, hi, rfl, ?_⟩
    exact ⟨true, by rw [decide_eq_true (⟨h1, h2⟩ : lo ≤ i ∧ i ≤ hi)], iteF q⟩
/-- the logarithm of n -/
noncomputable def lo1 (n : Nat) (p : Int) : Int := lg [(1, (n : Int))] p
def spAmountOf (K : PySem.W.Frag) : Sp := fun vs H Q _ => ∃ n : Nat, vs = [.int n] ∧ 0 < n ∧ n ≤ 1000 ∧ ∀ v d L H', Same H H' → AmtAt K H' v d L → St4 d L 1 (lo1 n) → Q v H'
theorem ca_amount_of (T : Tx K mg) : Ca P w K mg base 5 "amount_of" s_amount_of ["number"] (spAmountOf K) := by
  have C_require_number := ca_require_number (P := P) (w := w) (base := base) T
  have C_amount_from := ca_amount_from (P := P) (w := w) (base := base) T
  have C_prime_powers := ca_prime_powers (P := P) (w := w) (base := base) T
  refine Ca.of (fd_amount_of T) sc_amount_of ?_ ?_
  · rintro vs H Q E ⟨n, rfl, _⟩; rfl
  · rintro f cdv A out s H vs Q E hr ⟨n, rfl, h0, h1, q⟩
    refine ⟨_, (pss_cons (ps_expr (pe_ca C_require_number hr (pa_cons (pv 0) (pa_cons pe_int (pa_cons (pe_globI T.i_ABOVE_PRIMES) pa_nil)))))
 (pss_one (ps_ret (pe_ca C_amount_from hr (pa_cons pe_int (pa_cons (pe_ca C_prime_powers hr (pa_cons (pv 0) pa_nil)) pa_nil)))))), ?_⟩
    refine ⟨_, rfl, n, 1, 1000000, rfl, by omega, by omega, ?_⟩
    refine ⟨_, rfl, n, rfl, h0, by omega, fun D L H' nD sm hD pf => ?_⟩
    refine ⟨1, D, zz L, rfl, by omega, by omega, hD, ?_, ?_, fun v d L' H2 s2 am st => q v d L' H2 (sm.trans s2) am ⟨st.1, fun p => ?_⟩⟩
    · refine ⟨zz_nodup pf.asc, fun q hq => ?_⟩
      obtain ⟨x, hx, rfl⟩ := List.mem_map.mp hq
      exact ⟨x.1, rfl, (pf.pr x hx).1, by have := (PF.bound pf hx).1; omega⟩
    · have := keys_few (m := 1000) (zz_nodup pf.asc) fun q hq => by
        obtain ⟨x, hx, rfl⟩ := List.mem_map.mp hq
        have := (PF.bound pf hx).1
        exact ⟨by show (0 : Int) ≤ (x.1 : Int); omega, by show (x.1 : Int) ≤ _; omega⟩
      omega
    · have z := st.2 p
      rw [PF.ig pf] at z
      exact z
def spSpread (K : PySem.W.Frag) : Sp := fun vs H Q _ => ∃ (a : Addr) (ns : List Int), vs = [.ref a] ∧ SqT K H a (ns.map V.int) ∧ Cts ns ∧ (∀ n ∈ ns, n ≤ 999) ∧
  ∀ v d L H', Same H H' → AmtAt K H' v d L → St4 d L ns.sum (lg (sprM ns)) → Q v H'
theorem ca_spread (T : Tx K mg) : Ca P w K mg base 4 "spread" s_spread ["counts"] (spSpread K) := by
  have C_spread_of := ca_spread_of (P := P) (w := w) (base := base) T
  have C_are_integers_in := ca_are_integers_in (P := P) (w := w) (base := base) T
  refine Ca.of (fd_spread T) sc_spread ?_ ?_
  · rintro vs H Q E ⟨a, ns, rfl, _⟩; rfl
  · rintro f cdv A out s H vs Q E hr ⟨a, ns, rfl, hT, hc, h9, q⟩
    refine ⟨_, (pss_cons (ps_if (PW.pt (pw_or (pt_not (pt_val (pe_ca C_are_integers_in hr (pa_cons (pv 0) (pa_cons pe_int (pa_cons (pe_globI T.i_MOST_COUNT) pa_nil)))))) (pw_or1 (pt_not (pt_chain op_le op_le pe_int (pe_callB call_len_seq (by rfl) T.f_len (by decide +kernel) (pa_cons (pv 0) pa_nil)) (pe_globI T.i_MOST_COUNTS))))))
 (pss_one ps_never)
 pss_nil)
 (pss_one (ps_ret (pe_ca C_spread_of hr (pa_cons (pv 0) pa_nil))))), ?_⟩
    refine ⟨_, rfl, a, ns, 1, 999, rfl, hT, by have := hc.len; omega, fun H' sm => ?_⟩
    have e1 : (ns.all fun i => decide ((1 : Int) ≤ i ∧ i ≤ 999)) = true := by
      rw [List.all_eq_true]
      intro n hn
      have := hc.pos n hn
      exact decide_eq_true ⟨by omega, h9 n hn⟩
    rw [e1]
    refine ⟨true, rfl, iteF ?_⟩
    have l1 := hc.ne
    have l2 := hc.len
    refine ⟨_, rfl, a, _, rfl, .inr (SqT.same sm hT), ?_⟩
    refine ⟨_, _, rfl, rfl, _, rfl, ite2 (fun c => ?_) (fun c => absurd (decide_eq_true (by rw [List.length_map]; omega)) c)⟩
    refine ⟨_, _, rfl, rfl, _, rfl, ite2 (fun c => ?_) (fun c => ?_)⟩
    · have : ¬ (((ns.map V.int).length : Int) ≤ 40) := by
        intro z
        have z2 : decide (((ns.map V.int).length : Int) ≤ 40) = true := decide_eq_true z
        rw [z2] at c; cases c
      rw [List.length_map] at this
      omega
    · exact ⟨_, rfl, a, ns, rfl, SqT.same sm hT, hc, fun v d L H2 s2 am st => q v d L H2 (sm.trans s2) am st⟩
end
end K06

namespace K06
open PySem PySem.Spec PyProof.Rows L2 Ly Am
section
/-- an amount that stands for f / B, prime by prime -/
def Val (K : PySem.W.Frag) (H : Hp) (v : V) (B : Int) (f : Int → Int) : Prop := ∃ d L, AmtAt K H v d L ∧ St4 d L B f
theorem Val.same {K : PySem.W.Frag} {H H' : Hp} {v : V} {B : Int} {f : Int → Int} (s : Same H H') (h : Val K H v B f) : Val K H' v B f := by
  obtain ⟨d, L, h1, h2⟩ := h
  exact ⟨d, L, h1.same s, h2⟩
theorem Val.kp {K : PySem.W.Frag} {H H' : Hp} {v : V} {B : Int} {f : Int → Int} (s : Kp H H') (h : Val K H v B f) : Val K H' v B f := by
  obtain ⟨d, L, h1, h2⟩ := h
  exact ⟨d, L, h1.kp s, h2⟩
structure Bd (B : Int) (f : Int → Int) : Prop where
  pos : 0 < B
  bl : B < 2 ^ 50
  key : ∀ p, f p ≠ 0 → p ≤ 1000
  par : ∀ p, (f p).natAbs < 2 ^ 50
theorem Bd.ok {B d : Int} {f : Int → Int} {L : List (Int × Int)} (b : Bd B f) (s : St4 d L B f) : AmOk d L := by
  refine ⟨s.1, by have := s.le b.pos; have := b.bl; omega, fun q hq => b.key _ (s.zero b.pos hq), fun q hq => ?_⟩
  have h1 := s.abs b.pos q.1
  rw [ig_mem (asc_nodup s.1.asc) hq] at h1
  have := b.par q.1
  omega
theorem St4.congr {d B C : Int} {L : List (Int × Int)} {f g : Int → Int} (s : St4 d L B f) (hB : 0 < B) (h : ∀ p, f p * C = g p * B) : St4 d L C g := by
  refine ⟨s.1, fun p => ?_⟩
  have h1 := s.2 p
  have h2 : (ig L p * C) * B = (g p * d) * B := by
    calc (ig L p * C) * B = (ig L p * B) * C := by rw [Int.mul_right_comm]
      _ = (f p * C) * d := by rw [h1, Int.mul_right_comm]
      _ = (g p * d) * B := by rw [h p, Int.mul_right_comm]
  exact Int.eq_of_mul_eq_mul_right (by omega) h2
theorem Val.congr {K : PySem.W.Frag} {H : Hp} {v : V} {B C : Int} {f g : Int → Int} (h : Val K H v B f) (hB : 0 < B) (e : ∀ p, f p * C = g p * B) : Val K H v C g := by
  obtain ⟨d, L, h1, h2⟩ := h
  exact ⟨d, L, h1, St4.congr h2 hB e⟩
theorem comb_val {d d1 d2 B : Int} {L L1 L2 : List (Int × Int)} {f1 f2 : Int → Int} {s : Int} (h1 : St4 d1 L1 B f1) (h2 : St4 d2 L2 B f2) (hB : 0 < B)
    (h : St4 d L (lcms 1 [(1, d1, L1), (s, d2, L2)]) (cf (lcms 1 [(1, d1, L1), (s, d2, L2)]) [(1, d1, L1), (s, d2, L2)])) : St4 d L B (fun p => f1 p + s * f2 p) := by
  have c1 := h1.1.d1
  have c2 := h2.1.d1
  have hb := lcms_pos [(1, d1, L1), (s, d2, L2)] 1 (by omega) (by
    intro t ht
    rcases List.mem_cons.mp ht with e | ht
    · rw [e]; exact c1
    · rcases List.mem_cons.mp ht with e | ht
      · rw [e]; exact c2
      · cases ht)
  have dv := (lcms_dvd [(1, d1, L1), (s, d2, L2)] 1).2
  have v1 := dv (1, d1, L1) (by simp)
  have v2 := dv (s, d2, L2) (by simp)
  generalize lcms 1 [(1, d1, L1), (s, d2, L2)] = C at *
  refine St4.congr h hb fun p => ?_
  obtain ⟨x, hx⟩ := v1
  obtain ⟨y, hy⟩ := v2
  have e1 : C / d1 = x := by rw [hx]; exact Int.mul_ediv_cancel_left _ (by show d1 ≠ 0; omega)
  have e2 : C / d2 = y := by rw [hy]; exact Int.mul_ediv_cancel_left _ (by show d2 ≠ 0; omega)
  have g1 := h1.2 p
  have g2 := h2.2 p
  have e3 : cf C [(1, d1, L1), (s, d2, L2)] p = 1 * (C / d1) * ig L1 p + (s * (C / d2) * ig L2 p + 0) := rfl
  rw [e3, e1, e2, Int.add_mul, Int.add_mul, Int.add_mul]
  have k1 : 1 * x * ig L1 p * B = f1 p * C := by
    rw [Int.one_mul, Int.mul_assoc, g1, hx]; show x * (f1 p * d1) = f1 p * (d1 * x)
    rw [Int.mul_comm, Int.mul_assoc]
  have k2 : s * y * ig L2 p * B = s * f2 p * C := by
    rw [Int.mul_assoc, g2, hy]; show s * y * (f2 p * d2) = s * f2 p * (d2 * y)
    rw [Int.mul_assoc, Int.mul_assoc]; congr 1; rw [Int.mul_left_comm, Int.mul_comm y d2]
  rw [k1, k2, Int.zero_mul, Int.add_zero]
end
section
variable {P : Program} {w : World} {K : PySem.W.Frag} {mg : Str → Option Value} {base : Heap}
def spPM (K : PySem.W.Frag) (s : Int) : Sp := fun vs H Q _ => ∃ (v1 v2 : V) (B : Int) (f1 f2 : Int → Int), vs = [v1, v2] ∧ Val K H v1 B f1 ∧ Val K H v2 B f2 ∧ Bd B f1 ∧ Bd B f2 ∧
  ∀ v H', Same H H' → Val K H' v B (fun p => f1 p + s * f2 p) → Q v H'
theorem lcms2_le {d1 d2 B s : Int} {L1 L2 : List (Int × Int)} (h1 : d1 ∣ B) (h2 : d2 ∣ B) (hB : 0 < B) : lcms 1 [(1, d1, L1), (s, d2, L2)] ≤ B := by
  refine Int.le_of_dvd hB ?_
  show (((((1 : Int).natAbs.lcm d1.natAbs : Nat) : Int).natAbs.lcm d2.natAbs : Nat) : Int) ∣ B
  rw [show (1 : Int).natAbs = 1 from rfl, Nat.lcm_eq_right (Nat.one_dvd _)]
  apply Int.natAbs_dvd_natAbs.mp
  rw [Int.natAbs_natCast, Int.natAbs_natCast]
  exact Nat.lcm_dvd (Int.natAbs_dvd_natAbs.mpr h1) (Int.natAbs_dvd_natAbs.mpr h2)
theorem ca_plus (T : Tx K mg) : Ca P w K mg base 6 "plus" s_plus ["one", "other"] (spPM K 1) := by
  have C_require_amount := ca_require_amount (P := P) (w := w) (base := base) T
  have C_combined := ca_combined (P := P) (w := w) (base := base) T
  refine Ca.of (fd_plus T) sc_plus ?_ ?_
  · rintro vs H Q E ⟨v1, v2, B, f1, f2, rfl, _⟩; rfl
  · rintro f cdv A out s H vs Q E hr ⟨v1, v2, B, f1, f2, rfl, ⟨d1, L1, a1, t1⟩, ⟨d2, L2, a2, t2⟩, b1, b2, q⟩
    refine ⟨_, (pss_cons (ps_expr (pe_ca C_require_amount hr (pa_cons (pv 0) pa_nil)))
 (pss_cons (ps_expr (pe_ca C_require_amount hr (pa_cons (pv 1) pa_nil)))
 (pss_one (ps_ret (pe_ca C_combined hr (pa_cons (pe_lst (pa_cons (pe_tup (pa_cons pe_int (pa_cons (pv 0) pa_nil))) (pa_cons (pe_tup (pa_cons pe_int (pa_cons (pv 1) pa_nil))) pa_nil))) pa_nil)))))), ?_⟩
    have ok1 := b1.ok t1
    have ok2 := b2.ok t2
    refine ⟨_, rfl, v1, d1, L1, rfl, a1, ok1, fun H1 s1 => ?_⟩
    refine ⟨_, rfl, v2, d2, L2, rfl, a2.same s1, ok2, fun H2 s2 => ?_⟩
    have z1 : 2 ≤ sizeLine := by rw [sizeLine_eq]; omega
    refine ⟨_, rfl, z1, fun p1 np1 => ⟨_, rfl, z1, fun p2 np2 => ⟨z1, fun l nl => ?_⟩⟩⟩
    have s3 := same_new (o := .tup [V.int 1, v1]) np1
    have s4 := same_new (o := .tup [V.int (1), v2]) np2
    have s5 := same_new (o := .lst [V.ref p1, V.ref p2]) nl
    refine ⟨l, [p1, p2], [(1, d1, L1), (1, d2, L2)], rfl, sqL_new, .cons ⟨v1, ?_, a1.same (((((s1.trans s2).trans s3).trans s4)).trans s5)⟩ (.cons ⟨v2, ?_, a2.same (((((s1.trans s2).trans s3).trans s4)).trans s5)⟩ .nil), ?_, ?_, fun v d L H3 s6 am st => q v H3 ((((((s1.trans s2).trans s3).trans s4)).trans s5).trans s6) ⟨d, L, am, comb_val t1 t2 b1.pos st⟩⟩
    · exact SqT.same (s4.trans s5) sqT_new
    · exact SqT.same s5 sqT_new
    · intro t ht
      rcases List.mem_cons.mp ht with e | ht
      · rw [e]; exact ⟨ok1.cn, by show (1 : Int).natAbs < _; decide, ok1.key, ok1.par⟩
      · rcases List.mem_cons.mp ht with e | ht
        · rw [e]; exact ⟨ok2.cn, by show (1 : Int).natAbs < _; decide, ok2.key, ok2.par⟩
        · cases ht
    · have := lcms2_le (L1 := L1) (L2 := L2) (s := 1) (t1.dvd b1.pos) (t2.dvd b1.pos) b1.pos
      have := b1.bl
      omega
theorem ca_minus (T : Tx K mg) : Ca P w K mg base 6 "minus" s_minus ["one", "other"] (spPM K (-1)) := by
  have C_require_amount := ca_require_amount (P := P) (w := w) (base := base) T
  have C_combined := ca_combined (P := P) (w := w) (base := base) T
  refine Ca.of (fd_minus T) sc_minus ?_ ?_
  · rintro vs H Q E ⟨v1, v2, B, f1, f2, rfl, _⟩; rfl
  · rintro f cdv A out s H vs Q E hr ⟨v1, v2, B, f1, f2, rfl, ⟨d1, L1, a1, t1⟩, ⟨d2, L2, a2, t2⟩, b1, b2, q⟩
    refine ⟨_, (pss_cons (ps_expr (pe_ca C_require_amount hr (pa_cons (pv 0) pa_nil)))
 (pss_cons (ps_expr (pe_ca C_require_amount hr (pa_cons (pv 1) pa_nil)))
 (pss_one (ps_ret (pe_ca C_combined hr (pa_cons (pe_lst (pa_cons (pe_tup (pa_cons pe_int (pa_cons (pv 0) pa_nil))) (pa_cons (pe_tup (pa_cons (pe_un un_neg pe_int) (pa_cons (pv 1) pa_nil))) pa_nil))) pa_nil)))))), ?_⟩
    have ok1 := b1.ok t1
    have ok2 := b2.ok t2
    refine ⟨_, rfl, v1, d1, L1, rfl, a1, ok1, fun H1 s1 => ?_⟩
    refine ⟨_, rfl, v2, d2, L2, rfl, a2.same s1, ok2, fun H2 s2 => ?_⟩
    have z1 : 2 ≤ sizeLine := by rw [sizeLine_eq]; omega
    refine ⟨_, rfl, z1, fun p1 np1 => ⟨_, rfl, _, rfl, z1, fun p2 np2 => ⟨z1, fun l nl => ?_⟩⟩⟩
    have s3 := same_new (o := .tup [V.int 1, v1]) np1
    have s4 := same_new (o := .tup [V.int (-1), v2]) np2
    have s5 := same_new (o := .lst [V.ref p1, V.ref p2]) nl
    refine ⟨l, [p1, p2], [(1, d1, L1), (-1, d2, L2)], rfl, sqL_new, .cons ⟨v1, ?_, a1.same (((((s1.trans s2).trans s3).trans s4)).trans s5)⟩ (.cons ⟨v2, ?_, a2.same (((((s1.trans s2).trans s3).trans s4)).trans s5)⟩ .nil), ?_, ?_, fun v d L H3 s6 am st => q v H3 ((((((s1.trans s2).trans s3).trans s4)).trans s5).trans s6) ⟨d, L, am, comb_val t1 t2 b1.pos st⟩⟩
    · exact SqT.same (s4.trans s5) sqT_new
    · exact SqT.same s5 sqT_new
    · intro t ht
      rcases List.mem_cons.mp ht with e | ht
      · rw [e]; exact ⟨ok1.cn, by show (1 : Int).natAbs < _; decide, ok1.key, ok1.par⟩
      · rcases List.mem_cons.mp ht with e | ht
        · rw [e]; exact ⟨ok2.cn, by show (-1 : Int).natAbs < _; decide, ok2.key, ok2.par⟩
        · cases ht
    · have := lcms2_le (L1 := L1) (L2 := L2) (s := -1) (t1.dvd b1.pos) (t2.dvd b1.pos) b1.pos
      have := b1.bl
      omega
theorem ig_scale (t : Int) (L : List (Int × Int)) (p : Int) : ig (L.map fun q => (q.1, q.2 * t)) p = ig L p * t := by
  induction L with
  | nil => show (0 : Int) = 0 * t; rw [Int.zero_mul]
  | cons x r ih =>
    rw [List.map_cons, ig_cons, ig_cons, ih]
    show (if p = x.1 then x.2 * t else _) = _
    split <;> rfl
def spTimes (K : PySem.W.Frag) : Sp := fun vs H Q _ => ∃ (v : V) (B : Int) (f : Int → Int) (t b : Int), vs = [v, .int t, .int b] ∧ Val K H v B f ∧ Bd B f ∧ 0 < t ∧ t ≤ 1000 ∧ 0 < b ∧ b ≤ 1000 ∧
  ∀ v H', Same H H' → Val K H' v (B * b) (fun p => f p * t) → Q v H'
theorem ca_times (T : Tx K mg) : Ca P w K mg base 6 "times" s_times ["amount", "top", "bottom"] (spTimes K) := by
  have C_require_amount := ca_require_amount (P := P) (w := w) (base := base) T
  have C_require_number := ca_require_number (P := P) (w := w) (base := base) T
  have C_amount_from := ca_amount_from (P := P) (w := w) (base := base) T
  refine Ca.of (fd_times T) sc_times ?_ ?_
  · rintro vs H Q E ⟨v, B, f, t, b, rfl, _⟩; rfl
  · rintro f cdv A out s H vs Q E hr ⟨v, B, g, t, b, rfl, ⟨d, L, ha, st⟩, bd, ht0, ht1, hb0, hb1, q⟩
    refine ⟨_, (pss_cons (ps_expr (pe_ca C_require_amount hr (pa_cons (pv 0) pa_nil)))
 (pss_cons (ps_expr (pe_ca C_require_number hr (pa_cons (pv 1) (pa_cons (pe_un un_neg (pe_globI T.i_MOST_TOP)) (pa_cons (pe_globI T.i_MOST_TOP) pa_nil)))))
 (pss_cons (ps_expr (pe_ca C_require_number hr (pa_cons (pv 2) (pa_cons pe_int (pa_cons (pe_globI T.i_MOST_TOP) pa_nil)))))
 (pss_cons (ps_setDc (i := 3) (own := [("prime", 4), ("factor", 5)]) rfl sc_times.nd rfl rfl (sw_trueD rfl rfl rfl (by decide +kernel)) (pi_tup (pe_ix ix_tup (pv 0) pe_int (fun _ _ => rfl))) (blkOk_by (own := [("prime", 4), ("factor", 5)]) (N := n_times) (sc := defScope s_times) (by decide +kernel)) (fun _ _ _ _ _ => (pg_tupK (K := K) 2 rfl (pgs_cons (pg_name (i := 4) sc_times.nd rfl (Or.inl rfl) (Or.inr rfl)) (pgs_cons (pg_name (i := 5) sc_times.nd rfl (Or.inl rfl) (Or.inr rfl)) pgs_nil)))) (fun _ _ _ _ _ => pts_nil) (fun _ _ _ _ _ => (pv 4)) (fun _ _ _ _ _ => (pe_op op_mulW (pv 5) (pv 1))))
 (pss_one (ps_ret (pe_ca C_amount_from hr (pa_cons (pe_op op_mulW (pe_ix ix_tup (pv 0) pe_int (fun _ _ => rfl)) (pv 2)) (pa_cons (pv 3) pa_nil))))))))), ?_⟩
    have ok := bd.ok st
    refine ⟨_, rfl, v, d, L, rfl, ha, ok, fun H1 s1 => ?_⟩
    obtain ⟨a, b2, rs, rfl, h1, h2, h3⟩ := ha.same s1
    have rl : rs.length = L.length := Paired.length h3
    have ll := ok.len
    refine ⟨_, rfl, _, rfl, t, -1000, 1000, rfl, by omega, by omega, ?_⟩
    refine ⟨_, rfl, b, 1, 1000, rfl, by omega, by omega, ?_⟩
    refine ⟨_, rfl, a, _, 1, _, rfl, rfl, h1, atI_nat (j := 1) rfl, b2, rfl, ⟨_, h2⟩, fun D nD => ?_⟩
    refine dc_tup (xs := rs.map V.ref) (fun i H' => Same H1 H' ∧ H' D = some (.dK (kd ((L.take i).map fun q => (q.1, q.2 * t))))) ?_ ?_ ?_ ?_
    · exact ⟨same_new nD, upd_same⟩
    · rintro i H' _ ⟨sm, _⟩; exact SqT.same sm h2
    · rintro i x H' hx ⟨sm, hD⟩
      obtain ⟨r, hr1, rfl⟩ := map_at hx
      obtain ⟨u, hu, hut⟩ := Paired.at' h3 hr1
      have um := List.mem_of_getElem? hu
      refine ⟨r, _, rfl, SqT.same sm hut, rfl, _, _, rfl, _, [], rfl, rfl, rfl, ?_⟩
      refine ⟨_, rfl, _, rfl, _, rfl, _, _, rfl, rfl, wide_mul (a := 64) (b := 20) (ok.par u um) (by omega) (by omega) (by omega) (by omega), _, Sum.inl u.1, rfl, hD, ?_, same_write nD sm, ?_⟩
      · rw [kd_len, List.length_map, List.length_take, sizeLine_eq]; omega
      · rw [upd_same, kd_put, ip_new, take_snoc _ hu]
        apply (lookup_none_iff _ _).mpr
        intro q hq z
        obtain ⟨q', hq', rfl⟩ := List.mem_map.mp hq
        have nd := asc_nodup ok.cn.asc
        have hj : i < L.length := (List.getElem?_eq_some_iff.mp hu).1
        have e1 : L = L.take i ++ u :: L.drop (i + 1) := by
          conv => lhs; rw [← List.take_append_drop i L]
          congr 1
          rw [List.drop_eq_getElem_cons hj]
          congr 1
          exact (List.getElem?_eq_some_iff.mp hu).2
        rw [e1, List.map_append, List.nodup_append] at nd
        exact nd.2.2 _ (List.mem_map.mpr ⟨q', hq', rfl⟩) _ (by rw [List.map_cons]; exact List.mem_cons_self) z
    · rintro H2 ⟨sm, hD⟩
      rw [List.length_map, rl, List.take_of_length_le (Nat.le_refl _)] at hD
      have dl := ok.dl
      have d1 := ok.cn.d1
      have db := st.le bd.pos
      have bl := bd.bl
      refine ⟨_, rfl, a, _, 0, _, rfl, rfl, SqT.same sm h1, atI_nat (j := 0) rfl, _, rfl, _, _, rfl, rfl, wide_mul (a := 64) (b := 20) (by omega) (by omega) (by omega) (by omega) (by omega), ?_⟩
      have m1 : d * b ≤ 2 ^ 50 * 1000 := Int.mul_le_mul (by omega) hb1 (by omega) (by omega)
      have m0 : 0 < d * b := Int.mul_pos d1 hb0
      refine ⟨_, rfl, d * b, D, L.map fun q => (q.1, q.2 * t), rfl, m0, by omega, hD, ⟨?_, ?_⟩, by rw [List.length_map]; omega, fun v' d' L' H3 s3 am st3 => q v' H3 ((s1.trans sm).trans s3) ⟨d', L', am, ?_⟩⟩
      · rw [List.map_map]; exact asc_nodup ok.cn.asc
      · intro x hx
        obtain ⟨y, hy, rfl⟩ := List.mem_map.mp hx
        exact ok.cn.pr y hy
      · refine St4.congr st3 m0 fun p => ?_
        have e1 := ig_scale t L p
        have e2 := st.2 p
        rw [e1]
        calc ig L p * t * (B * b) = (ig L p * B) * (t * b) := by rw [Int.mul_assoc, Int.mul_assoc]; congr 1; rw [Int.mul_left_comm]
          _ = (g p * d) * (t * b) := by rw [e2]
          _ = g p * t * (d * b) := by rw [Int.mul_assoc, Int.mul_assoc]; congr 1; rw [Int.mul_left_comm]
/-- which of the products is greater -/
def sgn (L : List (Int × Int)) : Int := if up 1 L = dn 1 L then 0 else if dn 1 L < up 1 L then 1 else -1
def spSignOf (K : PySem.W.Frag) : Sp := fun vs H Q _ => ∃ (v : V) (d : Int) (L : List (Int × Int)) (n : Nat), vs = [v] ∧ AmtAt K H v d L ∧ AmOk d L ∧ Fits n 1 L ∧ ∀ H', Same H H' → Q (.int (sgn L)) H'
theorem ca_sign_of (T : Tx K mg) : Ca P w K mg base 6 "sign_of" s_sign_of ["amount"] (spSignOf K) := by
  have C_require_amount := ca_require_amount (P := P) (w := w) (base := base) T
  have C_products_of := ca_products_of (P := P) (w := w) (base := base) T
  refine Ca.of (fd_sign_of T) sc_sign_of ?_ ?_
  · rintro vs H Q E ⟨v, d, L, n, rfl, _⟩; rfl
  · rintro f cdv A out s H vs Q E hr ⟨v, d, L, n, rfl, ha, ok, ft, q⟩
    refine ⟨_, (pss_cons (ps_expr (pe_ca C_require_amount hr (pa_cons (pv 0) pa_nil)))
 (pss_cons (ps_asg (pe_ca C_products_of hr (pa_cons (pe_ix ix_tup (pv 0) pe_int (fun _ _ => rfl)) (pa_cons pe_int pa_nil))) (pg_tup rfl (pgs_cons (pg_name (i := 1) sc_sign_of.nd rfl (.inl rfl)) (pgs_cons (pg_name (i := 2) sc_sign_of.nd rfl (.inl rfl)) pgs_nil))))
 (pss_cons (ps_if (pt_cmpR op_eq (pv 1) (pv 2) (nomark _))
 (pss_one (ps_ret pe_int))
 pss_nil)
 (pss_one (ps_ret (pe_ifExp (pt_cmpR op_gt (pv 1) (pv 2) (nomark _)) pe_int (pe_un un_neg pe_int))))))), ?_⟩
    refine ⟨_, rfl, v, d, L, rfl, ha, ok, fun H1 s1 => ?_⟩
    obtain ⟨a, b2, rs, rfl, h1, h2, h3⟩ := ha.same s1
    refine ⟨_, rfl, a, _, 1, _, rfl, rfl, h1, atI_nat (j := 1) rfl, ?_⟩
    refine ⟨b2, rs, L, 1, n, rfl, h2, h3, ft, fun t H2 s2 ht => ?_⟩
    refine ⟨t, _, rfl, ht, rfl, _, _, rfl, _, [], rfl, rfl, ?_⟩
    refine ⟨_, rfl, _, rfl, rfl, _, rfl, ite2 (fun c => ?_) (fun c => ?_)⟩
    · have e : up 1 L = dn 1 L := V.int.inj (of_decide_eq_true c)
      have z := q H2 (s1.trans s2)
      unfold sgn at z
      rw [if_pos e] at z
      exact z
    · have e : ¬ up 1 L = dn 1 L := fun z => c (decide_eq_true (congrArg V.int z))
      have z := q H2 (s1.trans s2)
      unfold sgn at z
      rw [if_neg e] at z
      refine ⟨_, rfl, _, rfl, _, _, rfl, rfl, _, rfl, ite2 (fun c => ?_) (fun c => ?_)⟩
      · have c' : dn 1 L < up 1 L := of_decide_eq_true c
        rw [if_pos c'] at z; exact z
      · have c' : ¬ dn 1 L < up 1 L := fun z => c (decide_eq_true z)
        rw [if_neg c'] at z; exact ⟨_, rfl, z⟩
def spIsBelow (K : PySem.W.Frag) : Sp := fun vs H Q _ => ∃ (v1 v2 : V) (B : Int) (f1 f2 : Int → Int) (n : Nat), vs = [v1, v2] ∧ Val K H v1 B f1 ∧ Val K H v2 B f2 ∧ Bd B f1 ∧ Bd B f2 ∧ Bd B (fun p => f1 p + -1 * f2 p) ∧
  (∀ d L, St4 d L B (fun p => f1 p + -1 * f2 p) → Fits n 1 L) ∧ ∀ d L H', Same H H' → St4 d L B (fun p => f1 p + -1 * f2 p) → Q (.bl (decide (up 1 L < dn 1 L))) H'
theorem ca_is_below (T : Tx K mg) : Ca P w K mg base 7 "is_below" s_is_below ["one", "other"] (spIsBelow K) := by
  have C_minus := ca_minus (P := P) (w := w) (base := base) T
  have C_sign_of := ca_sign_of (P := P) (w := w) (base := base) T
  refine Ca.of (fd_is_below T) sc_is_below ?_ ?_
  · rintro vs H Q E ⟨v1, v2, B, f1, f2, n, rfl, _⟩; rfl
  · rintro f cdv A out s H vs Q E hr ⟨v1, v2, B, f1, f2, n, rfl, a1, a2, b1, b2, b3, ft, q⟩
    refine ⟨_, (pss_one (ps_ret (pe_cmpR op_lt (pe_ca C_sign_of hr (pa_cons (pe_ca C_minus hr (pa_cons (pv 0) (pa_cons (pv 1) pa_nil))) pa_nil)) pe_int (nomark _)))), ?_⟩
    refine ⟨_, rfl, _, rfl, v1, v2, B, f1, f2, rfl, a1, a2, b1, b2, fun v H1 s1 ⟨d, L, am, st⟩ => ?_⟩
    refine ⟨v, d, L, n, rfl, am, b3.ok st, ft d L st, fun H2 s2 => ?_⟩
    refine ⟨_, _, rfl, rfl, ?_⟩
    have z := q d L H2 (s1.trans s2) st
    have e : decide (sgn L < 0) = decide (up 1 L < dn 1 L) := by
      apply decide_eq_decide.mpr
      unfold sgn
      split
      · omega
      · split <;> omega
    rw [← e] at z
    exact z
end
end K06

namespace K06
open PySem PySem.Spec PyProof.Rows L2 Ly Am
section
/-- the deck at D, its cells at C, no more than n draws so far -/
def deckK (C : Addr) (m k : Int) : List (Key × V) := [(Sum.inr "cells", V.ref C), (Sum.inr "mixed", V.int m), (Sum.inr "draws", V.int k)]
structure DeckAt (H : Hp) (D C : Addr) (n : Nat) : Prop where
  ex : ∃ (cs : List Int) (m k : Int), H D = some (.dK (deckK C m k)) ∧ H C = some (.lst (cs.map V.int)) ∧ cs.length ≤ 1000 ∧ 0 ≤ m ∧ m < 2147483563 ∧ 0 ≤ k ∧ k ≤ n
/-- all is kept but the deck -/
def Ot (D C : Addr) (H H' : Hp) : Prop := ∀ b o, H b = some o → b ≠ D → b ≠ C → H' b = some o
theorem Ot.refl (D C : Addr) (H : Hp) : Ot D C H H := fun _ _ e _ _ => e
theorem Ot.trans {D C : Addr} {H H1 H2 : Hp} (a : Ot D C H H1) (b : Ot D C H1 H2) : Ot D C H H2 := fun c o e h1 h2 => b c o (a c o e h1 h2) h1 h2
theorem Ot.of {D C : Addr} {H H' : Hp} (s : Same H H') : Ot D C H H' := fun b o e _ _ => s b o e
theorem Ot.kp {D C : Addr} {H H' : Hp} {n : Nat} (d : DeckAt H D C n) (h : Ot D C H H') : Kp H H' := fun b o e h1 h2 => by
  obtain ⟨cs, m, k, hD, hC, _⟩ := d.ex
  refine h b o e ?_ ?_
  · rintro rfl; rw [hD] at e; exact h2 _ (Option.some.inj e).symm
  · rintro rfl; rw [hC] at e; exact h1 _ (Option.some.inj e).symm
theorem DeckAt.same {H H' : Hp} {D C : Addr} {n : Nat} (s : Same H H') (d : DeckAt H D C n) : DeckAt H' D C n := by
  obtain ⟨cs, m, k, hD, hC, r⟩ := d.ex
  exact ⟨cs, m, k, s _ _ hD, s _ _ hC, r⟩
theorem DeckAt.mono {H : Hp} {D C : Addr} {n m : Nat} (h : n ≤ m) (d : DeckAt H D C n) : DeckAt H D C m := by
  obtain ⟨cs, m, k, hD, hC, r1, r2, r3, r4, r5⟩ := d.ex
  exact ⟨cs, m, k, hD, hC, r1, r2, r3, r4, by omega⟩
theorem DeckAt.ne {H : Hp} {D C : Addr} {n : Nat} (d : DeckAt H D C n) : D ≠ C := by
  obtain ⟨cs, m, k, hD, hC, _⟩ := d.ex
  rintro rfl
  rw [hD] at hC
  cases hC
end
section
variable {P : Program} {w : World} {K : PySem.W.Frag} {mg : Str → Option Value} {base : Heap}
def spDeck (K : PySem.W.Frag) : Sp := fun vs H Q _ => ∃ (a : Addr) (ns : List Int), vs = [.ref a] ∧ SqL K H a (ns.map V.int) ∧ ns.length ≤ 63 ∧ ∀ D C H', Same H H' → DeckAt H' D C 0 → Q (.ref D) H'
theorem ca_L_deck (T : Tx K mg) : Ca P w K mg base 1 "_law_deck" s_L_deck ["_law_script"] (spDeck K) := by
  refine Ca.of (fd_L_deck T) sc_L_deck ?_ ?_
  · rintro vs H Q E ⟨a, ns, rfl, _⟩; rfl
  · rintro f cdv A out s H vs Q E hr ⟨a, ns, rfl, hS, hl, q⟩
    refine ⟨_, (pss_cons (ps_set (i := 1) sc_L_deck.nd rfl (.inl rfl) pe_int)
 (pss_cons (ps_for PassesOwn.never rfl (pi_list (pe_slice sl_list (pv 0) po_none (po_some pe_int))) (pg_name (i := 2) sc_L_deck.nd rfl (.inl rfl))
 (pss_one (ps_set (i := 1) sc_L_deck.nd rfl (.inl rfl) (pe_op op_mod (pe_callTy call_int1 (by rfl) T.f_int (by decide +kernel) (pa_cons (pe_op op_add (pe_op op_add (pe_op op_mulW (pv 1) pe_int) (pe_op op_mod (pe_callTy call_int1 (by rfl) T.f_int (by decide +kernel) (pa_cons (pv 2) pa_nil)) pe_int)) pe_int) pa_nil)) pe_int))))
 (pss_one (ps_ret (pe_disp (pps_cons pe_str (pe_revL (pe_callTy call_list_of (by rfl) T.f_list (by decide +kernel) (pa_cons (pe_slice sl_list (pv 0) po_none (po_some pe_int)) pa_nil))) (pps_cons pe_str (pv 1) (pps_cons pe_str pe_int pps_nil))) (by rfl) (by rfl) (fun z => by cases z) (by decide)))))), ?_⟩
    have ec : cutV (ns.map V.int) none (some 63) = ns.map V.int := by
      unfold cutV
      have e1 : HT.sIx (ns.map V.int).length 0 none = 0 := rfl
      have e2 : HT.sIx (ns.map V.int).length (ns.map V.int).length (some 63) = (ns.map V.int).length := by
        rw [List.length_map]; simp [HT.sIx]; omega
      rw [e1, e2, List.drop_zero, List.take_of_length_le (by omega)]
    refine ⟨_, rfl, ?_⟩
    refine ⟨63, rfl, a, _, rfl, hS, fun p np => ?_⟩
    rw [ec]
    have s1 := same_new (o := .lst (ns.map V.int)) np
    refine ⟨p, rfl, ⟨_, sqL_new⟩, ?_⟩
    refine for_list (xs := ns.map V.int) (fun i σ H' => ∃ m y, σ = [some (.ref a), some (.int m), y] ∧ 0 ≤ m ∧ m < 2147483563 ∧ H' = upd H p (.lst (ns.map V.int))) ⟨10889613, none, rfl, by omega, by omega, rfl⟩ ?_ ?_ ?_
    · rintro i σ H' _ ⟨_, _, _, _, _, rfl⟩; exact sqL_new
    · rintro i x σ H' hx ⟨m, y, rfl, m0, m1, rfl⟩
      obtain ⟨c, hc, rfl⟩ := map_at hx
      have c0 : 0 ≤ c % 2147483549 := Int.emod_nonneg _ (by omega)
      have c1 : c % 2147483549 < 2147483549 := Int.emod_lt_of_pos _ (by omega)
      have e0 : 0 ≤ (m * 39373 + c % 2147483549 + 65) % 2147483563 := Int.emod_nonneg _ (by omega)
      have e1 : (m * 39373 + c % 2147483549 + 65) % 2147483563 < 2147483563 := Int.emod_lt_of_pos _ (by omega)
      refine ⟨_, rfl, _, _, rfl, rfl, wide_mul (a := 40) (b := 20) (by omega) (by omega) (by omega) (by omega) (by omega), _, rfl, .inl ⟨c, rfl, _, _, rfl, rfl, (by show (0 : Int) < 2147483549; omega), ?_⟩⟩
      exact ⟨_, _, rfl, rfl, _, _, rfl, rfl, .inl ⟨_, rfl, _, _, rfl, rfl, (by show (0 : Int) < 2147483563; omega), _, _, rfl, e0, e1, rfl⟩⟩
    · rintro σ H' ⟨m, y, rfl, m0, m1, rfl⟩
      intro d nd
      have s2 := same_new (o := .dK []) nd
      refine ⟨_, rfl, 63, rfl, a, _, rfl, (s1.trans s2).seq hS, fun p2 np2 => ?_⟩
      rw [ec]
      have s3 := same_new (o := .lst (ns.map V.int)) np2
      refine ⟨p2, _, rfl, .inl sqL_new, fun p3 np3 => ?_⟩
      have s4 := same_new (o := .lst (ns.map V.int)) np3
      refine ⟨p3, _, rfl, sqL_new, fun C nC => ?_⟩
      have s5 := same_new (o := .lst (ns.map V.int).reverse) nC
      refine ⟨_, rfl, ?_⟩
      have sA := (s2.trans s3).trans (s4.trans s5)
      have hd0 : (upd (upd (upd (upd (upd H p (.lst (ns.map V.int))) d (.dK [])) p2 (.lst (ns.map V.int))) p3 (.lst (ns.map V.int))) C (.lst (ns.map V.int).reverse)) d = some (.dK []) := ((s3.trans s4).trans s5) _ _ upd_same
      have hC0 : (upd (upd (upd (upd (upd H p (.lst (ns.map V.int))) d (.dK [])) p2 (.lst (ns.map V.int))) p3 (.lst (ns.map V.int))) C (.lst (ns.map V.int).reverse)) C = some (.lst (ns.map V.int).reverse) := upd_same
      generalize (upd (upd (upd (upd (upd H p (.lst (ns.map V.int))) d (.dK [])) p2 (.lst (ns.map V.int))) p3 (.lst (ns.map V.int))) C (.lst (ns.map V.int).reverse)) = H5 at *
      have ndC : d ≠ C := by rintro rfl; rw [hd0] at hC0; cases hC0
      refine ⟨hd0, deckK C m 0, rfl, by show 3 ≤ 15; omega, ?_⟩
      refine q d C _ ((s1.trans (same_write nd sA))) ⟨ns.reverse, m, 0, ?_, ?_, ?_, m0, m1, by omega, by omega⟩
      · rw [upd_same]; rfl
      · rw [upd_ne ndC.symm, hC0, List.map_reverse]
      · rw [List.length_reverse]; omega
end
end K06

namespace K06
open PySem PySem.Spec PyProof.Rows L2 Ly Am
section
theorem dv_cells (C : Addr) (m k : Int) : valV (deckK C m k) (Sum.inr "cells") = some (V.ref C) := by rfl
theorem dv_mixed (C : Addr) (m k : Int) : valV (deckK C m k) (Sum.inr "mixed") = some (V.int m) := by rfl
theorem dv_draws (C : Addr) (m k : Int) : valV (deckK C m k) (Sum.inr "draws") = some (V.int k) := by rfl
theorem dp_draws (C : Addr) (m k j : Int) : putK (deckK C m k) (Sum.inr "draws") (V.int j) = deckK C m j := by rfl
theorem dg_cells {H : Hp} {D C : Addr} {m k : Int} (h : H D = some (.dK (deckK C m k))) : DGet H D (.str "cells") (some (V.ref C)) := by
  have := DGet.k (k := Sum.inr "cells") h
  rw [dv_cells] at this; exact this
theorem dg_mixed {H : Hp} {D C : Addr} {m k : Int} (h : H D = some (.dK (deckK C m k))) : DGet H D (.str "mixed") (some (V.int m)) := by
  have := DGet.k (k := Sum.inr "mixed") h
  rw [dv_mixed] at this; exact this
theorem dg_draws {H : Hp} {D C : Addr} {m k : Int} (h : H D = some (.dK (deckK C m k))) : DGet H D (.str "draws") (some (V.int k)) := by
  have := DGet.k (k := Sum.inr "draws") h
  rw [dv_draws] at this; exact this
theorem lay_ints : ∀ cs : List Int, PyData.canLayAll0 (cs.map PyData.int) = true
  | [] => by simp [PyData.canLayAll0]
  | c :: r => by
    rw [List.map_cons, PyData.canLayAll0, lay_ints r]; simp [PyData.canLay0]
theorem sh_ints (cs : List Int) : SeqAt.shaped (.list (cs.map PyData.int)) = true := by
  unfold SeqAt.shaped
  rw [PyData.canLay0, lay_ints]
  have h1 := depth_ints cs
  have h2 : (PyData.list (cs.map PyData.int)).depth ≤ 64 := by
    rw [PyData.depth]; omega
  rw [decide_eq_true h2]; rfl
theorem dp_ints {K : PySem.W.Frag} {H : Hp} : ∀ cs : List Int, DpAll K H (cs.map V.int) (cs.map PyData.int)
  | [] => .nil
  | c :: r => .cons (.int c) (dp_ints r)
theorem eqv_nil (cs : List Int) : PyData.eqv (.list (cs.map PyData.int)) (.list []) = decide (cs = []) := by
  cases cs with
  | nil => simp [PyData.eqv, PyData.eqvAll]
  | cons x r => simp [PyData.eqv, PyData.eqvAll]
end
section
variable {P : Program} {w : World} {K : PySem.W.Frag} {mg : Str → Option Value} {base : Heap}
def spDraw : Sp := fun vs H Q _ => ∃ (D C : Addr) (n : Nat) (many : Int), vs = [.ref D, .int many] ∧ DeckAt H D C n ∧ n < 2 ^ 30 ∧ 0 < many ∧ many < 2 ^ 40 ∧
  ∀ r H', 0 ≤ r → r < many → Ot D C H H' → DeckAt H' D C (n + 1) → Q (.int r) H'
theorem ca_L_draw (T : Tx K mg) : Ca P w K mg base 1 "_law_draw" s_L_draw ["_law_deck_here", "_law_many"] spDraw := by
  refine Ca.of (fd_L_draw T) sc_L_draw ?_ ?_
  · rintro vs H Q E ⟨D, C, n, many, rfl, _⟩; rfl
  · rintro f cdv A out s H vs Q E hr ⟨D, C, n, many, rfl, da, hn, m0, m1, q⟩
    have dne := da.ne
    obtain ⟨cs, m, k, hD, hC, hl, a0, a1, k0, k1⟩ := da.ex
    refine ⟨_, (pss_cons (ps_dput (hu_of hr) (pv 0) pe_str (pe_op op_add (pe_dget (hu_of hr) (pv 0) pe_str (fun _ _ => rfl)) pe_int) rfl)
 (pss_cons (ps_set (i := 2) sc_L_draw.nd rfl (.inl rfl) (pe_op op_add (pe_dget (hu_of hr) (pv 0) pe_str (fun _ _ => rfl)) (pe_op op_mulW pe_int (pe_dget (hu_of hr) (pv 0) pe_str (fun _ _ => rfl)))))
 (pss_cons (ps_if (pt_cmpR (op_neD hr.units) (pe_dget (hu_of hr) (pv 0) pe_str (fun _ _ => rfl)) (pe_lst pa_nil) (nomark _))
 (pss_cons (ps_set (i := 3) sc_L_draw.nd rfl (.inl rfl) (pe_bm0 PySem.F.plainAttrs_list PySem.F.slot_list_pop PySem.F.type_list_pop mt_pop (pe_dget (hu_of hr) (pv 0) pe_str (fun _ _ => rfl))))
 (pss_cons (ps_if (pt_cmpR op_ge (pv 3) (pe_op op_pow pe_int pe_int) (nomark _))
 (pss_cons (ps_expr (pe_bm PySem.F.plainAttrs_list PySem.F.slot_list_append PySem.F.type_list_append mt_append (pe_dget (hu_of hr) (pv 0) pe_str (fun _ _ => rfl)) (pa_cons (pe_op op_fdivW (pv 3) (pe_callB (call_max2 rfl) (by rfl) T.f_max (by decide +kernel) (pa_cons pe_int (pa_cons (pv 1) pa_nil)))) pa_nil)))
 (pss_one (ps_ret (pe_op op_mod (pe_callTy call_int1 (by rfl) T.f_int (by decide +kernel) (pa_cons (pv 3) pa_nil)) (pv 1)))))
 pss_nil)
 (pss_one (ps_set (i := 2) sc_L_draw.nd rfl (.inl rfl) (pe_op op_add (pv 2) (pe_op op_mod (pe_callTy call_int1 (by rfl) T.f_int (by decide +kernel) (pa_cons (pv 3) pa_nil)) pe_int))))))
 pss_nil)
 (pss_cons (ps_set (i := 2) sc_L_draw.nd rfl (.inl rfl) (pe_op op_mod (pe_callTy call_int1 (by rfl) T.f_int (by decide +kernel) (pa_cons (pe_op op_add (pe_op op_mulW (pv 2) pe_int) pe_int) pa_nil)) pe_int))
 (pss_cons (ps_set (i := 2) sc_L_draw.nd rfl (.inl rfl) (pe_op op_mod (pe_callTy call_int1 (by rfl) T.f_int (by decide +kernel) (pa_cons (pe_op op_add (pe_op op_add (pe_op op_mulW (pv 2) (pv 2)) (pe_op op_mulW pe_int (pe_dget (hu_of hr) (pv 0) pe_str (fun _ _ => rfl)))) pe_int) pa_nil)) pe_int))
 (pss_cons (ps_set (i := 2) sc_L_draw.nd rfl (.inl rfl) (pe_op op_mod (pe_callTy call_int1 (by rfl) T.f_int (by decide +kernel) (pa_cons (pe_op op_mulW (pv 2) pe_int) pa_nil)) pe_int))
 (pss_one (ps_ret (pe_op op_mod (pe_callTy call_int1 (by rfl) T.f_int (by decide +kernel) (pa_cons (pe_op op_fdiv (pv 2) pe_int) pa_nil)) (pv 1)))))))))), ?_⟩
    have ml : many.natAbs.log2 < 9000 := by
      have : many.natAbs.log2 < 41 := (Nat.log2_lt (by omega)).mpr (by omega)
      omega
    refine ⟨_, rfl, D, V.int k, rfl, dg_draws hD, _, _, rfl, rfl, ?_⟩
    refine ⟨_, rfl, D, _, rfl, DPut.k (k := Sum.inr "draws") hD (by show 3 < sizeLine; rw [sizeLine_eq]; omega), ?_⟩
    rw [dp_draws]
    have hD1 : (upd H D (.dK (deckK C m (k + 1)))) D = some (.dK (deckK C m (k + 1))) := upd_same
    have hC1 : (upd H D (.dK (deckK C m (k + 1)))) C = some (.lst (cs.map V.int)) := by rw [upd_ne dne.symm]; exact hC
    have o1 : Ot D C H (upd H D (.dK (deckK C m (k + 1)))) := fun b o e h1 _ => by rw [upd_ne h1]; exact e
    generalize upd H D (.dK (deckK C m (k + 1))) = H1 at *
    refine ⟨_, rfl, D, _, rfl, dg_mixed hD1, _, rfl, D, _, rfl, dg_draws hD1, _, _, rfl, rfl, wide_mul (a := 40) (b := 60) (by omega) (by omega) (by omega) (by omega) (by omega), _, _, rfl, rfl, ?_⟩
    have n0 : 0 ≤ m + 68473 * (k + 1) := by omega
    have n1 : m + 68473 * (k + 1) < 2 ^ 61 := by omega
    dsimp only
    generalize m + 68473 * (k + 1) = num at *
    refine ⟨_, rfl, D, _, rfl, dg_cells hD1, ?_⟩
    refine ⟨by show 0 ≤ sizeLine; omega, fun pz nz => ?_⟩
    have sz := same_new (o := .lst []) nz
    refine ⟨.list (cs.map PyData.int), .list [], .lst (sz.seq (.inl (.inl hC1))) (dp_ints cs), .lst sqL_new .nil, sh_ints cs, rfl, _, rfl, ?_⟩
    rw [eqv_nil]
    have o2 : Ot D C H (upd H1 pz (.lst [])) := o1.trans (Ot.of sz)
    have hD2 := sz _ _ hD1
    have hC2 := sz _ _ hC1
    generalize (upd H1 pz (.lst [])) = H2 at *
    by_cases ce : cs = []
    · rw [decide_eq_true ce]
      refine iteF ?_
      obtain ⟨cs', hcs'⟩ : ∃ cs' : List Int, cs' = cs := ⟨_, rfl⟩
      rw [← hcs'] at hC2
      have ln : cs'.length ≤ 1000 := by rw [hcs']; exact hl
      refine ⟨_, rfl, _, _, rfl, rfl, wide_mul (a := 62) (b := 20) (by omega) (by omega) (by omega) (by omega) (by omega), _, _, rfl, rfl, .inl ⟨_, rfl, _, _, rfl, rfl, (by show (0 : Int) < 2147483647; omega), ?_⟩⟩
      have u0 : 0 ≤ (num * 40014 + 65) % 2147483647 := Int.emod_nonneg _ (by omega)
      have u1 : (num * 40014 + 65) % 2147483647 < 2147483647 := Int.emod_lt_of_pos _ (by omega)
      generalize (num * 40014 + 65) % 2147483647 = x1 at *
      refine ⟨_, rfl, _, rfl, _, _, rfl, rfl, wide_mul (a := 40) (b := 40) (by omega) (by omega) (by omega) (by omega) (by omega), _, rfl, D, _, rfl, dg_draws hD2, _, _, rfl, rfl, wide_mul (a := 40) (b := 60) (by omega) (by omega) (by omega) (by omega) (by omega), _, _, rfl, rfl, _, _, rfl, rfl, .inl ⟨_, rfl, _, _, rfl, rfl, (by show (0 : Int) < 2147483563; omega), ?_⟩⟩
      have u2 : 0 ≤ (x1 * x1 + 58109 * (k + 1) + 77) % 2147483563 := Int.emod_nonneg _ (by omega)
      have u3 : (x1 * x1 + 58109 * (k + 1) + 77) % 2147483563 < 2147483563 := Int.emod_lt_of_pos _ (by omega)
      generalize (x1 * x1 + 58109 * (k + 1) + 77) % 2147483563 = x2 at *
      refine ⟨_, rfl, _, _, rfl, rfl, wide_mul (a := 40) (b := 20) (by omega) (by omega) (by omega) (by omega) (by omega), .inl ⟨_, rfl, _, _, rfl, rfl, (by show (0 : Int) < 2147483549; omega), ?_⟩⟩
      refine ⟨_, rfl, _, _, rfl, rfl, ⟨by omega, by omega⟩, .inl ⟨_, rfl, _, rfl, _, _, rfl, rfl, m0, ?_⟩⟩
      exact q _ H2 (Int.emod_nonneg _ (by omega)) (Int.emod_lt_of_pos _ m0) o2 ⟨cs', m, k + 1, hD2, hC2, ln, a0, a1, by omega, by omega⟩
    · rw [decide_eq_false ce]
      refine iteT ?_
      obtain ⟨cs', c, hcs⟩ : ∃ (cs' : List Int) (c : Int), cs = cs' ++ [c] := ⟨cs.dropLast, cs.getLast ce, (List.dropLast_concat_getLast ce).symm⟩
      have l1 : cs'.length + 1 = cs.length := by rw [hcs, List.length_append]; rfl
      refine ⟨_, rfl, D, _, rfl, dg_cells hD2, ?_, C, _, V.int c, rfl, rfl, hC2, ?_, ?_⟩
      · exact .inl ⟨rfl, _, .inl (.inl hC2)⟩
      · rw [hcs, List.map_append, List.length_append, List.length_map]
        simp
      have ed : (cs.map V.int).dropLast = cs'.map V.int := by
        rw [hcs, List.map_append]; simp
      rw [ed]
      have hC3 : (upd H2 C (.lst (cs'.map V.int))) C = some (.lst (cs'.map V.int)) := upd_same
      have hD3 : (upd H2 C (.lst (cs'.map V.int))) D = some (.dK (deckK C m (k + 1))) := by rw [upd_ne dne]; exact hD2
      have o3 : Ot D C H (upd H2 C (.lst (cs'.map V.int))) := o2.trans fun b o e _ h => by rw [upd_ne h]; exact e
      generalize (upd H2 C (.lst (cs'.map V.int))) = H3 at *
      refine ⟨_, rfl, _, _, rfl, rfl, ⟨by omega, by omega, by decide⟩, _, _, rfl, rfl, _, rfl, ite2 (fun c1 => ?_) (fun c1 => ?_)⟩
      · refine ⟨_, rfl, D, _, rfl, dg_cells hD3, .inl ⟨rfl, _, .inl (.inl hC3)⟩, _, rfl, _, rfl, 2, many, rfl, ?_⟩
        have hm : 0 < (if many > 2 then many else 2) := by split <;> omega
        have hm2 : (if many > 2 then many else 2) < 2 ^ 40 := by split <;> omega
        generalize (if many > 2 then many else 2) = mm at *
        refine ⟨_, _, rfl, rfl, ⟨hm, ?_⟩, C, _, _, rfl, rfl, hC3, by rw [List.length_map, sizeLine_eq]; omega, ?_⟩
        · have : mm.natAbs.log2 < 41 := (Nat.log2_lt (by omega)).mpr (by omega)
          omega
        · refine ⟨_, rfl, .inl ⟨c, rfl, _, rfl, _, _, rfl, rfl, m0, ?_⟩⟩
          refine q _ _ (Int.emod_nonneg _ (by omega)) (Int.emod_lt_of_pos _ m0) (o3.trans fun b o e _ h => by rw [upd_ne h]; exact e) ⟨cs' ++ [c / mm], m, k + 1, ?_, ?_, ?_, a0, a1, by omega, by omega⟩
          · rw [upd_ne dne]; exact hD3
          · rw [upd_same, List.map_append]; rfl
          · rw [List.length_append]; show cs'.length + 1 ≤ _; omega
      · have c0 : 0 ≤ c % 2147483549 := Int.emod_nonneg _ (by omega)
        have c2 : c % 2147483549 < 2147483549 := Int.emod_lt_of_pos _ (by omega)
        refine ⟨_, rfl, _, rfl, .inl ⟨c, rfl, _, _, rfl, rfl, (by show (0 : Int) < 2147483549; omega), _, _, rfl, rfl, ?_⟩⟩
        have n2 : 0 ≤ num + c % 2147483549 := by omega
        have n3 : num + c % 2147483549 < 2 ^ 62 := by omega
        dsimp only
        generalize num + c % 2147483549 = num2 at *
        have ln : cs'.length ≤ 1000 := by omega
        refine ⟨_, rfl, _, _, rfl, rfl, wide_mul (a := 62) (b := 20) (by omega) (by omega) (by omega) (by omega) (by omega), _, _, rfl, rfl, .inl ⟨_, rfl, _, _, rfl, rfl, (by show (0 : Int) < 2147483647; omega), ?_⟩⟩
        have u0 : 0 ≤ (num2 * 40014 + 65) % 2147483647 := Int.emod_nonneg _ (by omega)
        have u1 : (num2 * 40014 + 65) % 2147483647 < 2147483647 := Int.emod_lt_of_pos _ (by omega)
        generalize (num2 * 40014 + 65) % 2147483647 = x1 at *
        refine ⟨_, rfl, _, rfl, _, _, rfl, rfl, wide_mul (a := 40) (b := 40) (by omega) (by omega) (by omega) (by omega) (by omega), _, rfl, D, _, rfl, dg_draws hD3, _, _, rfl, rfl, wide_mul (a := 40) (b := 60) (by omega) (by omega) (by omega) (by omega) (by omega), _, _, rfl, rfl, _, _, rfl, rfl, .inl ⟨_, rfl, _, _, rfl, rfl, (by show (0 : Int) < 2147483563; omega), ?_⟩⟩
        have u2 : 0 ≤ (x1 * x1 + 58109 * (k + 1) + 77) % 2147483563 := Int.emod_nonneg _ (by omega)
        have u3 : (x1 * x1 + 58109 * (k + 1) + 77) % 2147483563 < 2147483563 := Int.emod_lt_of_pos _ (by omega)
        generalize (x1 * x1 + 58109 * (k + 1) + 77) % 2147483563 = x2 at *
        refine ⟨_, rfl, _, _, rfl, rfl, wide_mul (a := 40) (b := 20) (by omega) (by omega) (by omega) (by omega) (by omega), .inl ⟨_, rfl, _, _, rfl, rfl, (by show (0 : Int) < 2147483549; omega), ?_⟩⟩
        refine ⟨_, rfl, _, _, rfl, rfl, ⟨by omega, by omega⟩, .inl ⟨_, rfl, _, rfl, _, _, rfl, rfl, m0, ?_⟩⟩
        exact q _ H3 (Int.emod_nonneg _ (by omega)) (Int.emod_lt_of_pos _ m0) o3 ⟨cs', m, k + 1, hD3, hC3, ln, a0, a1, by omega, by omega⟩
end
end K06

namespace K06
open PySem PySem.Spec PyProof.Rows L2 Ly Am
section
variable {P : Program} {w : World} {K : PySem.W.Frag} {mg : Str → Option Value} {base : Heap}
local macro_rules | `(tactic| walk_at "isint") => `(tactic| refine ⟨_, "int", true, false, rfl, tyx_int, by decide +kernel, by decide +kernel, ?_⟩)
def spGcd : Sp := fun vs H Q _ => ∃ (a b : Int), vs = [.int a, .int b] ∧ b.natAbs < 2 ^ 64 ∧ Q (.int ((Nat.gcd a.natAbs b.natAbs : Nat) : Int)) H
theorem ca_L_gcd (T : Tx K mg) : Ca P w K mg base 1 "_law_gcd" s_L_gcd ["_law_a", "_law_b"] spGcd := by
  refine Ca.of (fd_L_gcd T) sc_L_gcd ?_ ?_
  · rintro vs H Q E ⟨a, b, rfl, _⟩; rfl
  · rintro f cdv A out s H vs Q E hr ⟨a, b, rfl, hb, q⟩
    refine ⟨_, (pss_cons (ps_for PassesOwn.never rfl (pi_range1 (by rfl) T.f_range (pa_cons pe_int pa_nil)) (pg_name (i := 2) sc_L_gcd.nd rfl (.inl rfl))
 (pss_cons (ps_if (pt_cmpR op_eq (pv 1) pe_int (nomark _))
 (pss_one (ps_ret (pe_callB call_abs (by rfl) T.f_abs (by decide +kernel) (pa_cons (pv 0) pa_nil))))
 pss_nil)
 (pss_one (ps_par (i := 0) (j := 1) rfl sc_L_gcd.nd rfl rfl (by decide) rfl rfl (pa_cons (pv 1) (pa_cons (pe_op op_modN (pe_callTy call_int1 (by rfl) T.f_int (by decide +kernel) (pa_cons (pv 0) pa_nil)) (pv 1)) pa_nil)) rfl))))
 (pss_one (ps_ret (pe_callB call_abs (by rfl) T.f_abs (by decide +kernel) (pa_cons (pv 0) pa_nil))))), ?_⟩
    generalize eg : Nat.gcd a.natAbs b.natAbs = g at *
    refine ⟨200, rfl, by omega, by omega, ?_⟩
    refine for_range (fun i σ H' => ∃ a b y, σ = [some (.int a), some (.int b), y] ∧ GI g i a b ∧ H' = H) ⟨a, b, none, rfl, ⟨eg, .inl ⟨rfl, hb⟩⟩, rfl⟩ ?_ ?_
    · rintro i σ H' hi ⟨a, b, y, rfl, gi, rfl⟩
      have ab : ∀ x : Int, (if x < 0 then -x else x) = (x.natAbs : Int) := fun x => by split <;> omega
      refine ⟨_, rfl, rfl, _, rfl, ite2 (fun c => ?_) (fun c => ?_)⟩
      · have b0 : b = 0 := V.int.inj (of_decide_eq_true c)
        subst b0
        have z := q
        rw [← gi.end, ← ab] at z
        exact ⟨_, rfl, a, rfl, z⟩
      · have b0 : b ≠ 0 := fun z => c (decide_eq_true (congrArg V.int z))
        exact ⟨_, rfl, _, rfl, .inl ⟨a, rfl, _, rfl, _, _, rfl, rfl, b0, _, _, rfl, _, _, _, rfl, gi.step b0, rfl⟩⟩
    · rintro σ H' ⟨a, b, y, rfl, gi, rfl⟩
      have ab : ∀ x : Int, (if x < 0 then -x else x) = (x.natAbs : Int) := fun x => by split <;> omega
      have b0 := gi.out (by decide)
      subst b0
      have z := q
      rw [← gi.end, ← ab] at z
      exact ⟨_, rfl, a, rfl, z⟩
def spLPrime : Sp := fun vs H Q _ => ∃ n : Nat, vs = [.int n] ∧ n < 1000000 ∧ ∀ b H', Same H H' → (b = true ↔ Pr n) → Q (.bl b) H'
/-- whether 2 + j is told -/
def tq (n j : Nat) : Bool := decide ((2 + j) * (2 + j) ≤ n ∧ n % (2 + j) = 0)
theorem tq_nil {n m : Nat} (h2 : 2 ≤ n) (h : n < (m + 2) * (m + 2)) : (List.range m).filter (tq n) = [] ↔ Pr n := by
  rw [← pr_sq h2, List.filter_eq_nil_iff]
  constructor
  · intro z d d2 dd c
    have dm : d < m + 2 := by
      apply Nat.lt_of_not_le
      intro y
      have := Nat.mul_self_le_mul_self y
      omega
    have := z (d - 2) (List.mem_range.mpr (by omega))
    apply this
    unfold tq
    rw [show 2 + (d - 2) = d by omega]
    exact decide_eq_true ⟨dd, c⟩
  · intro z j hj c
    have := of_decide_eq_true c
    exact z (2 + j) (by omega) this.1 this.2
def tql (n i : Nat) : List V := (((List.range i).filter (tq n)).map fun j => ((2 + j : Nat) : Int)).map V.int
theorem tql_yes {n i : Nat} (h : tq n i = true) : tql n (i + 1) = tql n i ++ [V.int (2 + (i : Int))] := by
  unfold tql
  rw [List.range_succ, List.filter_append, List.map_append, List.map_append]
  congr 1
  simp [h]
theorem tql_no {n i : Nat} (h : tq n i = false) : tql n (i + 1) = tql n i := by
  unfold tql
  rw [List.range_succ, List.filter_append, List.map_append, List.map_append]
  simp [h]
theorem tql_len (n i : Nat) : (tql n i).length ≤ i := by
  unfold tql
  rw [List.length_map, List.length_map]
  have := List.length_filter_le (tq n) (List.range i)
  rwa [List.length_range] at this
theorem ca_L_is_prime (T : Tx K mg) : Ca P w K mg base 1 "_law_is_prime" s_L_is_prime ["_law_p"] spLPrime := by
  refine Ca.of (fd_L_is_prime T) sc_L_is_prime ?_ ?_
  · rintro vs H Q E ⟨n, rfl, _⟩; rfl
  · rintro f cdv A out s H vs Q E hr ⟨n, rfl, hn, q⟩
    refine ⟨_, (pss_cons (ps_if (pt_not (pt_chain op_lt op_lt pe_int (pv 0) pe_int))
 (pss_one (ps_ret pe_bl))
 pss_nil)
 (pss_one (ps_ret (pe_cmpR (op_eqD hr.units) (pe_lc (own := [("_law_q", 1)]) rfl sc_L_is_prime.nd (pi_range2 (by rfl) T.f_range (pa_cons pe_int (pa_cons (pe_ifExp (pt_cmpR op_lt (pv 0) pe_int (nomark _)) pe_int pe_int) pa_nil))) (blkOk_by (own := [("_law_q", 1)]) (N := n_L_is_prime) (sc := defScope s_L_is_prime) (by decide +kernel)) (fun _ _ _ _ _ => (pg_name (i := 1) sc_L_is_prime.nd rfl (Or.inl rfl) (Or.inr rfl))) (fun _ _ _ _ _ => (pts_one (PW.pt (pw_and (pt_cmpR op_le (pe_op op_mulW (pv 1) (pv 1)) (pv 0) (nomark _)) (pw_and1 (pt_cmpR op_eq (pe_op op_mod (pe_callTy call_int1 (by rfl) T.f_int (by decide +kernel) (pa_cons (pv 0) pa_nil)) (pv 1)) pe_int (nomark _))))))) (fun _ _ _ _ _ => (pv 1))) (pe_lst pa_nil) (nomark _))))), ?_⟩
    refine ⟨_, rfl, _, _, rfl, rfl, _, rfl, ite2 (fun c => ?_) (fun c => ?_)⟩
    · have c' : (1 : Int) < n := of_decide_eq_true c
      refine ⟨_, _, rfl, rfl, _, rfl, ?_⟩
      have e1 : decide ((n : Int) < 1000000) = true := decide_eq_true (by omega)
      rw [e1]
      refine iteF ?_
      have n2 : 2 ≤ n := by omega
      refine ⟨_, rfl, _, _, rfl, rfl, _, rfl, ite2 (fun c2 => ?_) (fun c2 => ?_)⟩
      · have c3 : (n : Int) < 1000 := of_decide_eq_true c2
        have e4 : n < 32 * 32 := by omega
        refine ⟨2, 32, rfl, by decide, fun D nD => ?_⟩
        refine lc_range (lo := 2) (n := 30) (fun i H' => Same H H' ∧ H' D = some (.lst (tql n i))) ⟨same_new nD, upd_same⟩ ?_ ?_
        · rintro i H' hi ⟨sm, hD⟩
          have ci : (2 + (i : Int)) = ((2 + i : Nat) : Int) := by omega
          refine ⟨rfl, ?_⟩
          refine ⟨_, rfl, _, rfl, _, _, rfl, rfl, wide_mul (a := 20) (b := 20) (by omega) (by omega) (by omega) (by omega) (by omega), _, rfl, _, _, rfl, rfl, _, rfl, ite2 (fun c5 => ?_) (fun c5 => ?_)⟩
          · have c6 : (2 + (i : Int)) * (2 + (i : Int)) ≤ (n : Int) := of_decide_eq_true c5
            refine ⟨_, rfl, .inl ⟨_, rfl, _, rfl, _, _, rfl, rfl, (by omega), rfl, _, rfl, ite2 (fun c7 => ?_) (fun c7 => ?_)⟩⟩
            · have c8 : (n : Int) % (2 + (i : Int)) = 0 := V.int.inj (of_decide_eq_true c7)
              have tqt : tq n i = true := by
                rw [ci] at c6 c8
                exact decide_eq_true ⟨by exact_mod_cast c6, by omega⟩
              refine ⟨_, rfl, _, hD, ?_, same_write nD sm, ?_⟩
              · have := tql_len n i
                rw [sizeLine_eq]; omega
              · rw [upd_same, tql_yes tqt]
            · have c8 : ¬ (n : Int) % (2 + (i : Int)) = 0 := fun z => c7 (decide_eq_true (congrArg V.int z))
              have tqf : tq n i = false := by
                rw [ci] at c8
                exact decide_eq_false fun z => c8 (by omega)
              refine ⟨sm, ?_⟩
              rw [tql_no tqf]; exact hD
          · have c6 : ¬ (2 + (i : Int)) * (2 + (i : Int)) ≤ (n : Int) := fun z => c5 (decide_eq_true z)
            have tqf : tq n i = false := by
              rw [ci] at c6
              exact decide_eq_false fun z => c6 (by exact_mod_cast z.1)
            refine ⟨sm, ?_⟩
            rw [tql_no tqf]; exact hD
        · rintro H' ⟨sm, hD⟩
          refine ⟨by show 0 ≤ sizeLine; omega, fun pz nz => ?_⟩
          have sz := same_new (o := .lst []) nz
          refine ⟨.list ((((List.range 30).filter (tq n)).map fun j => ((2 + j : Nat) : Int)).map PyData.int), .list [], .lst (.inl (.inl (sz _ _ hD))) (dp_ints _), .lst sqL_new .nil, sh_ints _, rfl, ?_⟩
          rw [eqv_nil]
          refine q _ _ (sm.trans sz) ?_
          rw [← tq_nil (m := 30) n2 e4, decide_eq_true_iff]
          simp
      · have e4 : n < 1000 * 1000 := by omega
        refine ⟨2, 1000, rfl, by decide, fun D nD => ?_⟩
        refine lc_range (lo := 2) (n := 998) (fun i H' => Same H H' ∧ H' D = some (.lst (tql n i))) ⟨same_new nD, upd_same⟩ ?_ ?_
        · rintro i H' hi ⟨sm, hD⟩
          have ci : (2 + (i : Int)) = ((2 + i : Nat) : Int) := by omega
          refine ⟨rfl, ?_⟩
          refine ⟨_, rfl, _, rfl, _, _, rfl, rfl, wide_mul (a := 20) (b := 20) (by omega) (by omega) (by omega) (by omega) (by omega), _, rfl, _, _, rfl, rfl, _, rfl, ite2 (fun c5 => ?_) (fun c5 => ?_)⟩
          · have c6 : (2 + (i : Int)) * (2 + (i : Int)) ≤ (n : Int) := of_decide_eq_true c5
            refine ⟨_, rfl, .inl ⟨_, rfl, _, rfl, _, _, rfl, rfl, (by omega), rfl, _, rfl, ite2 (fun c7 => ?_) (fun c7 => ?_)⟩⟩
            · have c8 : (n : Int) % (2 + (i : Int)) = 0 := V.int.inj (of_decide_eq_true c7)
              have tqt : tq n i = true := by
                rw [ci] at c6 c8
                exact decide_eq_true ⟨by exact_mod_cast c6, by omega⟩
              refine ⟨_, rfl, _, hD, ?_, same_write nD sm, ?_⟩
              · have := tql_len n i
                rw [sizeLine_eq]; omega
              · rw [upd_same, tql_yes tqt]
            · have c8 : ¬ (n : Int) % (2 + (i : Int)) = 0 := fun z => c7 (decide_eq_true (congrArg V.int z))
              have tqf : tq n i = false := by
                rw [ci] at c8
                exact decide_eq_false fun z => c8 (by omega)
              refine ⟨sm, ?_⟩
              rw [tql_no tqf]; exact hD
          · have c6 : ¬ (2 + (i : Int)) * (2 + (i : Int)) ≤ (n : Int) := fun z => c5 (decide_eq_true z)
            have tqf : tq n i = false := by
              rw [ci] at c6
              exact decide_eq_false fun z => c6 (by exact_mod_cast z.1)
            refine ⟨sm, ?_⟩
            rw [tql_no tqf]; exact hD
        · rintro H' ⟨sm, hD⟩
          refine ⟨by show 0 ≤ sizeLine; omega, fun pz nz => ?_⟩
          have sz := same_new (o := .lst []) nz
          refine ⟨.list ((((List.range 998).filter (tq n)).map fun j => ((2 + j : Nat) : Int)).map PyData.int), .list [], .lst (.inl (.inl (sz _ _ hD))) (dp_ints _), .lst sqL_new .nil, sh_ints _, rfl, ?_⟩
          rw [eqv_nil]
          refine q _ _ (sm.trans sz) ?_
          rw [← tq_nil (m := 998) n2 e4, decide_eq_true_iff]
          simp
    · refine ⟨_, rfl, iteT ?_⟩
      refine q false H (Same.refl H) ⟨(fun z => nomatch z), fun z => ?_⟩
      have := z.two
      exact absurd (decide_eq_true (by omega)) c
end
end K06

namespace K06
open PySem PySem.Spec PyProof.Rows L2 Ly Am
section
variable {P : Program} {w : World} {K : PySem.W.Frag} {mg : Str → Option Value} {base : Heap}
local macro_rules | `(tactic| walk_at "isint") => `(tactic| refine ⟨_, "int", true, false, rfl, tyx_int, by decide +kernel, by decide +kernel, ?_⟩)
def spOwn (K : PySem.W.Frag) : Sp := fun vs H Q _ => ∃ (v : V) (d : Int) (L : List (Int × Int)), vs = [v] ∧ AmtAt K H v d L ∧ AmOk d L ∧ ∀ H', Same H H' → Q (.bl true) H'
theorem ne_no {n m : Int} (h : n = m) : (!decide (V.int n = V.int m)) = false := by rw [h]; simp
theorem ca_L_is_own_amount (T : Tx K mg) : Ca P w K mg base 2 "_law_is_own_amount" s_L_is_own_amount ["_law_thing"] (spOwn K) := by
  have C_L_is_integer := ca_L_is_integer (P := P) (w := w) (base := base) T
  have C_L_is_prime := ca_L_is_prime (P := P) (w := w) (base := base) T
  have C_L_gcd := ca_L_gcd (P := P) (w := w) (base := base) T
  refine Ca.of (fd_L_is_own_amount T) sc_L_is_own_amount ?_ ?_
  · rintro vs H Q E ⟨v, d, L, rfl, _⟩; rfl
  · rintro f cdv A out s H vs Q E hr ⟨_, d, L, rfl, ⟨a, b, rs, rfl, h1, h2, h3⟩, ok, q⟩
    refine ⟨_, (pss_cons (ps_if (PW.pt (pw_or (pt_not (pt_val (pe_callB call_isi (by rfl) T.f_isinstance (by decide +kernel) (pa_cons (pv 0) (pa_cons (pe_bltn (v := .ty "tuple") (by rfl) T.f_tuple (by decide +kernel) rfl) pa_nil))))) (pw_or (pt_cmpR op_ne (pe_callB call_len_seq (by rfl) T.f_len (by decide +kernel) (pa_cons (pv 0) pa_nil)) pe_int (nomark _)) (pw_or (pt_not (pt_val (pe_ca C_L_is_integer hr (pa_cons (pe_ix ix_tup (pv 0) pe_int (fun _ _ => rfl)) pa_nil)))) (pw_or1 (pt_cmpR op_lt (pe_ix ix_tup (pv 0) pe_int (fun _ _ => rfl)) pe_int (nomark _)))))))
 (pss_one (ps_ret pe_bl))
 pss_nil)
 (pss_cons (ps_if (pt_not (pt_val (pe_callB call_isi (by rfl) T.f_isinstance (by decide +kernel) (pa_cons (pe_ix ix_tup (pv 0) pe_int (fun _ _ => rfl)) (pa_cons (pe_bltn (v := .ty "tuple") (by rfl) T.f_tuple (by decide +kernel) rfl) pa_nil)))))
 (pss_one (ps_ret pe_bl))
 pss_nil)
 (pss_cons (ps_par (i := 1) (j := 2) rfl sc_L_is_own_amount.nd rfl rfl (by decide) rfl rfl (pa_cons (pe_ix ix_tup (pv 0) pe_int (fun _ _ => rfl)) (pa_cons pe_int pa_nil)) rfl)
 (pss_cons (ps_for PassesOwn.never rfl (pi_tup (pe_ix ix_tup (pv 0) pe_int (fun _ _ => rfl))) (pg_name (i := 3) sc_L_is_own_amount.nd rfl (.inl rfl))
 (pss_cons (ps_if (PW.pt (pw_or (pt_not (pt_val (pe_callB call_isi (by rfl) T.f_isinstance (by decide +kernel) (pa_cons (pv 3) (pa_cons (pe_bltn (v := .ty "tuple") (by rfl) T.f_tuple (by decide +kernel) rfl) pa_nil))))) (pw_or (pt_cmpR op_ne (pe_callB call_len_seq (by rfl) T.f_len (by decide +kernel) (pa_cons (pv 3) pa_nil)) pe_int (nomark _)) (pw_or (pt_not (pt_val (pe_ca C_L_is_integer hr (pa_cons (pe_ix ix_tup (pv 3) pe_int (fun _ _ => rfl)) pa_nil)))) (pw_or1 (pt_not (pt_val (pe_ca C_L_is_integer hr (pa_cons (pe_ix ix_tup (pv 3) pe_int (fun _ _ => rfl)) pa_nil)))))))))
 (pss_one (ps_ret pe_bl))
 pss_nil)
 (pss_cons (ps_if (PW.pt (pw_or (pt_cmpR op_le (pe_ix ix_tup (pv 3) pe_int (fun _ _ => rfl)) (pv 2) (nomark _)) (pw_or (pt_cmpR op_eq (pe_ix ix_tup (pv 3) pe_int (fun _ _ => rfl)) pe_int (nomark _)) (pw_or1 (pt_not (pt_val (pe_ca C_L_is_prime hr (pa_cons (pe_ix ix_tup (pv 3) pe_int (fun _ _ => rfl)) pa_nil))))))))
 (pss_one (ps_ret pe_bl))
 pss_nil)
 (pss_one (ps_par (i := 1) (j := 2) rfl sc_L_is_own_amount.nd rfl rfl (by decide) rfl rfl (pa_cons (pe_ca C_L_gcd hr (pa_cons (pv 1) (pa_cons (pe_ix ix_tup (pv 3) pe_int (fun _ _ => rfl)) pa_nil))) (pa_cons (pe_ix ix_tup (pv 3) pe_int (fun _ _ => rfl)) pa_nil)) rfl)))))
 (pss_one (ps_ret (pe_cmpR op_eq (pv 1) pe_int (nomark _)))))))), ?_⟩
    have d1 := ok.cn.d1
    have rl : rs.length = L.length := Paired.length h3
    refine ⟨_, rfl, _, .ty "tuple", _, _, true, rfl, .ty "tuple", tyx_tup h1, kit_ty (by decide +kernel), true, rfl, iteF ?_⟩
    refine ⟨_, rfl, a, _, rfl, .inr h1, rfl, _, rfl, ?_⟩
    refine iteF ?_
    refine ⟨_, rfl, a, _, 0, _, rfl, rfl, h1, atI_nat (j := 0) rfl, ?_⟩
    walk_at "isint"
    refine ⟨true, rfl, iteF ?_⟩
    have e1 : decide (d < (1 : Int)) = false := decide_eq_false (by omega)
    refine ⟨_, rfl, a, _, 0, _, rfl, rfl, h1, atI_nat (j := 0) rfl, _, _, rfl, rfl, _, rfl, ?_⟩
    rw [e1]
    refine iteF ?_
    refine ⟨_, rfl, a, _, 1, _, rfl, rfl, h1, atI_nat (j := 1) rfl, _, .ty "tuple", _, _, true, rfl, .ty "tuple", tyx_tup h2, kit_ty (by decide +kernel), true, rfl, iteF ?_⟩
    refine ⟨_, rfl, a, _, 0, _, rfl, rfl, h1, atI_nat (j := 0) rfl, _, _, rfl, ?_⟩
    refine ⟨_, rfl, a, _, 1, _, rfl, rfl, h1, atI_nat (j := 1) rfl, b, rfl, ⟨_, h2⟩, ?_⟩
    refine for_tup (xs := rs.map V.ref) (fun i σ H' => ∃ la y3, σ = [some (.ref a), some (.int (gl d ((L.take i).map (·.2)))), some (.int la), y3] ∧ Same H H' ∧ ∀ u, L[i]? = some u → la < u.1) ⟨1, none, rfl, Same.refl H, ?_⟩ ?_ ?_ ?_
    · intro u hu
      obtain ⟨p, e, pr, _⟩ := ok.cn.pr u (List.mem_of_getElem? hu)
      have := pr.two; omega
    · rintro i σ H' _ ⟨_, _, _, sm, _⟩; exact SqT.same sm h2
    · rintro i x σ H' hx ⟨la, y3, rfl, sm, hla⟩
      obtain ⟨r, hr1, rfl⟩ := map_at hx
      obtain ⟨u, hu, hut0⟩ := Paired.at' h3 hr1
      have hut := SqT.same sm hut0
      have um := List.mem_of_getElem? hu
      obtain ⟨p, pe, pp, pl⟩ := ok.cn.pr u um
      have lt := hla u hu
      refine ⟨_, rfl, _, .ty "tuple", _, _, true, rfl, .ty "tuple", tyx_tup hut, kit_ty (by decide +kernel), true, rfl, iteF ?_⟩
      refine ⟨_, rfl, r, _, rfl, .inr hut, rfl, _, rfl, iteF ?_⟩
      refine ⟨_, rfl, r, _, 0, _, rfl, rfl, hut, atI_nat (j := 0) rfl, ?_⟩
      walk_at "isint"
      refine ⟨true, rfl, iteF ?_⟩
      refine ⟨_, rfl, r, _, 1, _, rfl, rfl, hut, atI_nat (j := 1) rfl, ?_⟩
      walk_at "isint"
      refine ⟨true, rfl, iteF ?_⟩
      have e2 : decide (u.1 ≤ la) = false := decide_eq_false (by omega)
      have e3 : decide (V.int u.2 = V.int 0) = false := decide_eq_false fun z => ok.cn.nz u um (V.int.inj z)
      refine ⟨_, rfl, r, _, 0, _, rfl, rfl, hut, atI_nat (j := 0) rfl, _, rfl, _, _, rfl, rfl, _, rfl, ?_⟩
      rw [e2]
      refine iteF ?_
      refine ⟨_, rfl, r, _, 1, _, rfl, rfl, hut, atI_nat (j := 1) rfl, rfl, _, rfl, ?_⟩
      rw [e3]
      refine iteF ?_
      refine ⟨_, rfl, r, _, 0, _, rfl, rfl, hut, atI_nat (j := 0) rfl, p, by show [V.int u.1] = _; rw [pe], pl, fun bb H3 s3 hb => ?_⟩
      have : bb = true := hb.mpr pp
      subst this
      refine ⟨true, rfl, iteF ?_⟩
      have hut3 := SqT.same s3 hut
      refine ⟨_, rfl, _, rfl, r, _, 1, _, rfl, rfl, hut3, atI_nat (j := 1) rfl, _, _, rfl, ok.par u um, ?_⟩
      refine ⟨_, rfl, r, _, 0, _, rfl, rfl, hut3, atI_nat (j := 0) rfl, _, _, rfl, u.1, some (.ref r), ?_, sm.trans s3, ?_⟩
      · rw [take_snoc _ hu, gl_snoc]; rfl
      · intro z hz
        obtain ⟨b1, c1⟩ := List.getElem?_eq_some_iff.mp hu
        obtain ⟨b2, c2⟩ := List.getElem?_eq_some_iff.mp hz
        have := List.pairwise_iff_getElem.mp ok.cn.asc i (i + 1) b1 b2 (by omega)
        rw [c1, c2] at this; exact this
    · rintro σ H' ⟨la, y3, rfl, sm, _⟩
      rw [List.length_map, rl, List.take_of_length_le (Nat.le_refl _), ok.cn.gcd]
      exact ⟨_, rfl, rfl, q H' sm⟩
end
end K06

namespace K06
open PySem PySem.Spec PyProof.Rows L2 Ly Am
section
variable {P : Program} {w : World} {K : PySem.W.Frag} {mg : Str → Option Value} {base : Heap}
/-- what drawn counts are -/
structure Dn (most few : Int) (ns : List Int) : Prop where
  ne : 0 < ns.length
  len : (ns.length : Int) ≤ few
  lo : ∀ n ∈ ns, 0 < n
  hi : ∀ n ∈ ns, n ≤ 999
  tot : ns.sum ≤ most
theorem sum_le_mul : ∀ (ns : List Int) (c : Int), (∀ n ∈ ns, n ≤ c) → ns.sum ≤ ns.length * c
  | [], c, _ => by simp
  | x :: r, c, h => by
    have h1 := h x List.mem_cons_self
    have h2 := sum_le_mul r c fun y hy => h y (List.mem_cons_of_mem _ hy)
    rw [List.sum_cons, List.length_cons]
    have : ((r.length + 1 : Nat) : Int) * c = r.length * c + c := by rw [Int.natCast_add, Int.add_mul]; simp
    omega
theorem Dn.of {most few each : Int} {many : Nat} {ns : List Int} (hm : 0 < many) (hf : (many : Int) ≤ few) (hfm : few ≤ most) (he : each = (if (if most / many > 1 then most / many else 1) < 999 then (if most / many > 1 then most / many else 1) else 999))
    (hl : ns.length = many) (lo : ∀ n ∈ ns, 0 < n) (hi : ∀ n ∈ ns, n ≤ each) : Dn most few ns := by
  have q1 : 1 ≤ most / many := by
    have : (many : Int) * 1 ≤ most := by omega
    exact Int.le_ediv_of_mul_le (by omega) (by rw [Int.mul_comm]; exact this)
  have e1 : each ≤ most / many := by rw [he]; split <;> split <;> omega
  have e2 : each ≤ 999 := by rw [he]; split <;> split <;> omega
  refine ⟨by omega, by omega, lo, fun n hn => by have := hi n hn; omega, ?_⟩
  have h1 := sum_le_mul ns each hi
  have h2 : (ns.length : Int) * each ≤ many * (most / many) := by rw [hl]; exact Int.mul_le_mul_of_nonneg_left e1 (by omega)
  have h3 : (many : Int) * (most / many) ≤ most := Int.mul_ediv_self_le (by omega)
  omega
def spDrawn (K : PySem.W.Frag) : Sp := fun vs H Q _ => ∃ (D C : Addr) (n : Nat) (most few : Int), vs = [.ref D, .int most, .int few] ∧ DeckAt H D C n ∧ n < 2 ^ 29 ∧ 0 < few ∧ few ≤ 40 ∧ few ≤ most ∧ most ≤ 1000 ∧
  ∀ t ns H', Ot D C H H' → DeckAt H' D C (n + 50) → SqT K H' t (ns.map V.int) → Dn most few ns → Q (.ref t) H'
theorem ca_L_drawn (T : Tx K mg) : Ca P w K mg base 2 "_law_drawn" s_L_drawn ["_law_deck_here", "_law_most", "_law_few"] (spDrawn K) := by
  have C_L_draw := ca_L_draw (P := P) (w := w) (base := base) T
  refine Ca.of (fd_L_drawn T) sc_L_drawn ?_ ?_
  · rintro vs H Q E ⟨D, C, n, most, few, rfl, _⟩; rfl
  · rintro f cdv A out s H vs Q E hr ⟨D, C, n, most, few, rfl, da, hn, f0, f1, f2, m1, q⟩
    refine ⟨_, (pss_cons (ps_par (i := 3) (j := 4) rfl sc_L_drawn.nd rfl rfl (by decide) rfl rfl (pa_cons (pe_ca C_L_draw hr (pa_cons (pv 0) (pa_cons pe_int pa_nil))) (pa_cons (pe_op op_add pe_int (pe_ca C_L_draw hr (pa_cons (pv 0) (pa_cons (pv 2) pa_nil)))) pa_nil)) rfl)
 (pss_cons (ps_set (i := 5) sc_L_drawn.nd rfl (.inr rfl) (pe_callB (call_min2 rfl) (by rfl) T.f_min (by decide +kernel) (pa_cons pe_int (pa_cons (pe_callB (call_max2 rfl) (by rfl) T.f_max (by decide +kernel) (pa_cons pe_int (pa_cons (pe_op op_fdivW (pv 1) (pv 4)) pa_nil))) pa_nil))))
 (pss_cons (ps_if (pt_cmpR op_eq (pv 3) pe_int (nomark _))
 (pss_one (ps_ret (pe_op op_repA (pe_tup (pa_cons (pe_op op_add pe_int (pe_ca C_L_draw hr (pa_cons (pv 0) (pa_cons (pv 5) pa_nil)))) pa_nil)) (pv 4))))
 pss_nil)
 (pss_cons (ps_if (pt_cmpR op_eq (pv 3) pe_int (nomark _))
 (pss_one (ps_ret (pe_callTy call_tuple_of (by rfl) T.f_tuple (by decide +kernel) (pa_cons (pe_lc (own := [("_law_turn", 6)]) rfl sc_L_drawn.nd (pi_range1 (by rfl) T.f_range (pa_cons (pv 4) pa_nil)) (blkOk_by (own := [("_law_turn", 6)]) (N := n_L_drawn) (sc := defScope s_L_drawn) (by decide +kernel)) (fun _ _ _ _ _ => (pg_name (i := 6) sc_L_drawn.nd rfl (Or.inl rfl) (Or.inr rfl))) (fun _ _ _ _ _ => pts_nil) (fun _ _ _ _ _ => (pe_callB (call_min2 rfl) (by rfl) T.f_min (by decide +kernel) (pa_cons (pv 5) (pa_cons (pe_op op_shl pe_int (pe_ca C_L_draw hr (pa_cons (pv 0) (pa_cons pe_int pa_nil)))) pa_nil))))) pa_nil))))
 pss_nil)
 (pss_cons (ps_if (pt_cmpR op_eq (pv 3) pe_int (nomark _))
 (pss_one (ps_ret (pe_op op_catA (pe_tup (pa_cons (pe_callB (call_max2 rfl) (by rfl) T.f_max (by decide +kernel) (pa_cons pe_int (pa_cons (pe_callB (call_min2 rfl) (by rfl) T.f_min (by decide +kernel) (pa_cons pe_int (pa_cons (pe_op op_sub (pv 1) (pv 4)) pa_nil))) pa_nil))) pa_nil)) (pe_op op_repA (pe_tup (pa_cons pe_int pa_nil)) (pe_op op_sub (pv 4) pe_int)))))
 pss_nil)
 (pss_one (ps_ret (pe_callTy call_tuple_of (by rfl) T.f_tuple (by decide +kernel) (pa_cons (pe_lc (own := [("_law_turn", 6)]) rfl sc_L_drawn.nd (pi_range1 (by rfl) T.f_range (pa_cons (pv 4) pa_nil)) (blkOk_by (own := [("_law_turn", 6)]) (N := n_L_drawn) (sc := defScope s_L_drawn) (by decide +kernel)) (fun _ _ _ _ _ => (pg_name (i := 6) sc_L_drawn.nd rfl (Or.inl rfl) (Or.inr rfl))) (fun _ _ _ _ _ => pts_nil) (fun _ _ _ _ _ => (pe_op op_add pe_int (pe_ca C_L_draw hr (pa_cons (pv 0) (pa_cons (pv 5) pa_nil)))))) pa_nil))))))))), ?_⟩
    refine ⟨_, rfl, D, C, n, 5, rfl, da, by omega, by omega, by omega, fun way H1 w0 w1 o1 da1 => ?_⟩
    refine ⟨_, rfl, _, rfl, D, C, n + 1, few, rfl, da1, by omega, by omega, by omega, fun mn H2 k0 k1 o2 da2 => ?_⟩
    obtain ⟨many, em⟩ : ∃ many : Nat, (1 : Int) + mn = many := ⟨(1 + mn).toNat, by omega⟩
    have mp : 0 < many := by omega
    have mf : (many : Int) ≤ few := by omega
    refine ⟨_, _, rfl, rfl, _, _, rfl, ?_⟩
    have ml : (many : Int).natAbs.log2 < 9000 := by
      have : many.log2 < 41 := (Nat.log2_lt (by omega)).mpr (by omega)
      rw [Int.natAbs_natCast]; omega
    dsimp only
    rw [em]
    refine ⟨_, rfl, _, rfl, _, _, rfl, rfl, ⟨by omega, ml⟩, 1, most / many, rfl, 999, _, rfl, ?_⟩
    obtain ⟨each, ee⟩ : ∃ each, each = (if (if most / many > 1 then most / many else 1) < 999 then (if most / many > 1 then most / many else 1) else 999) := ⟨_, rfl⟩
    dsimp only
    rw [← ee]
    have e1 : 0 < each := by rw [ee]; split <;> split <;> omega
    have e2 : each ≤ 999 := by rw [ee]; split <;> split <;> omega
    have o12 := o1.trans o2
    refine ⟨_, rfl, rfl, _, rfl, ite2 (fun c => ?_) (fun c => ?_)⟩
    · refine ⟨_, rfl, _, rfl, D, C, n + 1 + 1, each, rfl, da2, by omega, e1, by omega, fun z H3 z0 z1 o3 da3 => ?_⟩
      refine ⟨_, _, rfl, rfl, by show 1 ≤ sizeLine; rw [sizeLine_eq]; omega, fun p np => ?_⟩
      have s4 := same_new (o := .tup [V.int (1 + z)]) np
      refine ⟨_, rfl, p, many, [V.int (1 + z)], rfl, rfl, sqT_new, by simp, by omega, by omega, by show 1 ≤ 1000; omega, fun k1 => ?_, fun k1 p2 np2 => ?_⟩
      · have m1 : many = 1 := by omega
        refine q p [1 + z] _ ((o12.trans o3).trans (Ot.of s4)) ((da3.mono (by omega)).same s4) sqT_new (Dn.of mp mf f2 ee (by show 1 = many; omega) ?_ ?_)
        · intro x hx; have := List.mem_singleton.mp hx; omega
        · intro x hx; have := List.mem_singleton.mp hx; omega
      · have s5 := same_new (o := .tup (List.replicate (many : Int).toNat [V.int (1 + z)]).flatten) np2
        have ef : (List.replicate (many : Int).toNat [V.int (1 + z)]).flatten = (List.replicate many (1 + z)).map V.int := by
          rw [Int.toNat_natCast, List.map_replicate]; simp
        rw [ef] at s5 ⊢
        refine q p2 (List.replicate many (1 + z)) _ (((o12.trans o3).trans (Ot.of s4)).trans (Ot.of s5)) (((da3.mono (by omega)).same s4).same s5) sqT_new (Dn.of mp mf f2 ee (by rw [List.length_replicate]) ?_ ?_)
        · intro x hx; have := (List.mem_replicate.mp hx).2; omega
        · intro x hx; have := (List.mem_replicate.mp hx).2; omega
    refine ⟨_, rfl, rfl, _, rfl, ite2 (fun c2 => ?_) (fun c2 => ?_)⟩
    · -- powers of two
      refine ⟨_, rfl, many, rfl, by omega, by omega, fun Dl nDl => ?_⟩
      have nD1 : Dl ≠ D := by rintro rfl; obtain ⟨_, _, _, h, _⟩ := da2.ex; rw [h] at nDl; cases nDl
      have nD2 : Dl ≠ C := by rintro rfl; obtain ⟨_, _, _, _, h, _⟩ := da2.ex; rw [h] at nDl; cases nDl
      refine lc_range (lo := 0) (n := (many : Int).toNat) (fun i H' => ∃ acc : List Int, Ot D C H H' ∧ DeckAt H' D C (n + 2 + i) ∧ H' Dl = some (.lst (acc.map V.int)) ∧ acc.length = i ∧ ∀ x ∈ acc, 0 < x ∧ x ≤ each) ?_ ?_ ?_
      · exact ⟨[], o12.trans (Ot.of (same_new nDl)), da2.same (same_new nDl), upd_same, rfl, by simp⟩
      · rintro i H' hi ⟨acc, ot, da', hD, al, ab⟩
        have hi' : i < 40 := by omega
        refine ⟨rfl, ?_⟩
        refine ⟨_, rfl, _, rfl, D, C, n + 2 + i, 6, rfl, da', by omega, by omega, by omega, fun z H3 z0 z1 o3 da3 => ?_⟩
        refine ⟨_, _, rfl, rfl, ⟨z0, by omega, by decide⟩, each, _, rfl, ?_⟩
        have vb : 0 < (if 1 * 2 ^ z.toNat < each then 1 * 2 ^ z.toNat else each) ∧ (if 1 * 2 ^ z.toNat < each then 1 * 2 ^ z.toNat else each) ≤ each := by
          have : (0 : Int) < 2 ^ z.toNat := Int.pow_pos (by omega)
          split <;> omega
        have hD3 := o3 _ _ hD nD1 nD2
        refine ⟨_, hD3, by rw [List.length_map]; exact small1000 (by omega), acc ++ [if 1 * 2 ^ z.toNat < each then 1 * 2 ^ z.toNat else each], ?_, ?_, ?_, ?_, ?_⟩
        · intro b o e h1 h2
          have e2 := o3 _ _ (ot b o e h1 h2) h1 h2
          by_cases h : b = Dl
          · exfalso
            subst h
            have : H b = none := by
              cases hh : H b with
              | none => rfl
              | some o' => have := o12 _ _ hh nD1 nD2; rw [nDl] at this; cases this
            rw [this] at e; cases e
          · rw [upd_ne h]; exact e2
        · obtain ⟨cs, m, k, hh1, hh2, r⟩ := da3.ex
          exact ⟨cs, m, k, by rw [upd_ne (Ne.symm nD1)]; exact hh1, by rw [upd_ne (Ne.symm nD2)]; exact hh2, r⟩
        · rw [upd_same, List.map_append]; rfl
        · rw [List.length_append, al]; rfl
        · intro x hx
          rcases List.mem_append.mp hx with hx | hx
          · exact ab x hx
          · have := List.mem_singleton.mp hx
            rw [this]; exact vb
      · rintro H' ⟨acc, ot, da', hD, al, ab⟩
        refine ⟨Dl, _, rfl, .inl ⟨.inl (.inl hD), fun l nl => ?_⟩⟩
        have s5 := same_new (o := .tup (acc.map V.int)) nl
        refine q l acc _ (ot.trans (Ot.of s5)) ((da'.mono (by omega)).same s5) sqT_new (Dn.of mp mf f2 ee (by omega) (fun x hx => (ab x hx).1) fun x hx => (ab x hx).2)
    refine ⟨_, rfl, rfl, _, rfl, ite2 (fun c3 => ?_) (fun c3 => ?_)⟩
    · refine ⟨_, rfl, _, rfl, _, _, rfl, rfl, 999, _, rfl, 1, _, rfl, by show 1 ≤ sizeLine; rw [sizeLine_eq]; omega, fun p np => ?_⟩
      obtain ⟨x, ex⟩ : ∃ x, x = (if (if most - many < 999 then most - many else 999) > 1 then (if most - many < 999 then most - many else 999) else 1) := ⟨_, rfl⟩
      dsimp only at np ⊢
      rw [← ex]
      have x0 : 0 < x := by rw [ex]; split <;> split <;> omega
      have x9 : x ≤ 999 := by rw [ex]; split <;> split <;> omega
      have xs : x + (many - 1) ≤ most := by rw [ex]; split <;> split <;> omega
      have s4 := same_new (o := .tup [V.int x]) np
      have da4 := (da2.mono (show n + 1 + 1 ≤ n + 50 by omega)).same s4
      have hp4 : SqT K (upd H2 p (.tup [V.int x])) p [V.int x] := sqT_new
      have o4 := o12.trans (Ot.of s4)
      generalize upd H2 p (.tup [V.int x]) = H4 at *
      refine ⟨by show 1 ≤ sizeLine; rw [sizeLine_eq]; omega, fun p1 np1 => ?_⟩
      have s5 := same_new (o := .tup [V.int 1]) np1
      have da5 := da4.same s5
      have hp5 := SqT.same s5 hp4
      have h15 : SqT K (upd H4 p1 (.tup [V.int 1])) p1 [V.int 1] := sqT_new
      have o5 := o4.trans (Ot.of s5)
      generalize upd H4 p1 (.tup [V.int 1]) = H5 at *
      refine ⟨_, rfl, _, _, rfl, rfl, p1, many - 1, [V.int 1], rfl, rfl, h15, by simp, by omega, by omega, by show 1 ≤ 1000; omega, fun k1 => ?_, fun k1 p2 np2 => ?_⟩
      · refine ⟨p, p1, [V.int x], [V.int 1], rfl, rfl, hp5, h15, by show 2 ≤ sizeLine; rw [sizeLine_eq]; omega, fun z => (by cases z), fun _ z => (by cases z), fun _ _ p3 np3 => ?_⟩
        have s6 := same_new (o := .tup ([V.int x] ++ [V.int 1])) np3
        refine q p3 [x, 1] _ (o5.trans (Ot.of s6)) (da5.same s6) sqT_new ⟨by show 0 < 2; omega, by show ((2 : Nat) : Int) ≤ few; omega, ?_, ?_, ?_⟩
        · intro y hy; simp at hy; omega
        · intro y hy; simp at hy; omega
        · show x + (1 + 0) ≤ most; omega
      · have ef : (List.replicate ((many : Int) - 1).toNat [V.int 1]).flatten = (List.replicate (many - 1) (1 : Int)).map V.int := by
          rw [show ((many : Int) - 1).toNat = many - 1 by omega, List.map_replicate]; simp
        rw [ef]
        have s6 := same_new (o := .tup ((List.replicate (many - 1) (1 : Int)).map V.int)) np2
        have da6 := da5.same s6
        have hp6 := SqT.same s6 hp5
        have h26 : SqT K (upd H5 p2 (.tup ((List.replicate (many - 1) (1 : Int)).map V.int))) p2 ((List.replicate (many - 1) (1 : Int)).map V.int) := sqT_new
        have o6 := o5.trans (Ot.of s6)
        generalize upd H5 p2 (.tup ((List.replicate (many - 1) (1 : Int)).map V.int)) = H6 at *
        have sm1 : (List.replicate (many - 1) (1 : Int)).sum = many - 1 := by
          have : ∀ j : Nat, (List.replicate j (1 : Int)).sum = j := fun j => by
            induction j with
            | zero => rfl
            | succ i ih => rw [List.replicate_succ, List.sum_cons, ih]; omega
          rw [this]; omega
        refine ⟨p, p2, [V.int x], _, rfl, rfl, hp6, h26, by rw [List.length_map, List.length_replicate, sizeLine_eq]; show 1 + _ ≤ _; omega, fun z => (by cases z), fun _ z => ?_, fun _ _ p3 np3 => ?_⟩
        · have m1 : many = 1 := by
            have := congrArg List.length z
            rw [List.length_map, List.length_replicate] at this
            simp at this; omega
          refine q p [x] _ o6 da6 hp6 ⟨by show 0 < 1; omega, by show ((1 : Nat) : Int) ≤ few; omega, ?_, ?_, ?_⟩
          · intro y hy; simp at hy; omega
          · intro y hy; simp at hy; omega
          · show x + 0 ≤ most; omega
        · have s7 := same_new (o := .tup ([V.int x] ++ (List.replicate (many - 1) (1 : Int)).map V.int)) np3
          refine q p3 (x :: List.replicate (many - 1) 1) _ (o6.trans (Ot.of s7)) (da6.same s7) sqT_new ⟨by rw [List.length_cons]; omega, by rw [List.length_cons, List.length_replicate]; omega, ?_, ?_, ?_⟩
          · intro y hy
            rcases List.mem_cons.mp hy with e | hy
            · omega
            · have := (List.mem_replicate.mp hy).2; omega
          · intro y hy
            rcases List.mem_cons.mp hy with e | hy
            · omega
            · have := (List.mem_replicate.mp hy).2; omega
          · rw [List.sum_cons, sm1]; omega
    · -- drawn
      refine ⟨_, rfl, many, rfl, by omega, by omega, fun Dl nDl => ?_⟩
      have nD1 : Dl ≠ D := by rintro rfl; obtain ⟨_, _, _, h, _⟩ := da2.ex; rw [h] at nDl; cases nDl
      have nD2 : Dl ≠ C := by rintro rfl; obtain ⟨_, _, _, _, h, _⟩ := da2.ex; rw [h] at nDl; cases nDl
      refine lc_range (lo := 0) (n := (many : Int).toNat) (fun i H' => ∃ acc : List Int, Ot D C H H' ∧ DeckAt H' D C (n + 2 + i) ∧ H' Dl = some (.lst (acc.map V.int)) ∧ acc.length = i ∧ ∀ x ∈ acc, 0 < x ∧ x ≤ each) ?_ ?_ ?_
      · exact ⟨[], o12.trans (Ot.of (same_new nDl)), da2.same (same_new nDl), upd_same, rfl, by simp⟩
      · rintro i H' hi ⟨acc, ot, da', hD, al, ab⟩
        have hi' : i < 40 := by omega
        refine ⟨rfl, ?_⟩
        refine ⟨_, rfl, _, rfl, D, C, n + 2 + i, each, rfl, da', by omega, e1, by omega, fun z H3 z0 z1 o3 da3 => ?_⟩
        refine ⟨_, _, rfl, rfl, ?_⟩
        have vb : 0 < 1 + z ∧ 1 + z ≤ each := by omega
        have hD3 := o3 _ _ hD nD1 nD2
        refine ⟨_, hD3, by rw [List.length_map]; exact small1000 (by omega), acc ++ [1 + z], ?_, ?_, ?_, ?_, ?_⟩
        · intro b o e h1 h2
          have e2 := o3 _ _ (ot b o e h1 h2) h1 h2
          by_cases h : b = Dl
          · exfalso
            subst h
            have : H b = none := by
              cases hh : H b with
              | none => rfl
              | some o' => have := o12 _ _ hh nD1 nD2; rw [nDl] at this; cases this
            rw [this] at e; cases e
          · rw [upd_ne h]; exact e2
        · obtain ⟨cs, m, k, hh1, hh2, r⟩ := da3.ex
          exact ⟨cs, m, k, by rw [upd_ne (Ne.symm nD1)]; exact hh1, by rw [upd_ne (Ne.symm nD2)]; exact hh2, r⟩
        · rw [upd_same, List.map_append]; rfl
        · rw [List.length_append, al]; rfl
        · intro x hx
          rcases List.mem_append.mp hx with hx | hx
          · exact ab x hx
          · have := List.mem_singleton.mp hx
            rw [this]; exact vb
      · rintro H' ⟨acc, ot, da', hD, al, ab⟩
        refine ⟨Dl, _, rfl, .inl ⟨.inl (.inl hD), fun l nl => ?_⟩⟩
        have s5 := same_new (o := .tup (acc.map V.int)) nl
        refine q l acc _ (ot.trans (Ot.of s5)) ((da'.mono (by omega)).same s5) sqT_new (Dn.of mp mf f2 ee (by omega) (fun x hx => (ab x hx).1) fun x hx => (ab x hx).2)
end
end K06

namespace K06
open PySem PySem.Spec PyProof.Rows L2 Ly Am
section
theorem lg_key {M : List (Int × Int)} {p : Int} {m : Int} (h : lg M p ≠ 0) (hM : ∀ q ∈ M, 0 < q.2 ∧ q.2 ≤ m) : 2 ≤ p ∧ p ≤ m := by
  by_cases hp : ∃ n : Nat, p = n ∧ Pr n
  · obtain ⟨n, rfl, pr⟩ := hp
    refine ⟨by have := pr.two; omega, ?_⟩
    rw [lg_pr M pr] at h
    by_cases z : ∃ q ∈ M, vi n q.2 ≠ 0
    · obtain ⟨q, hq, hv⟩ := z
      obtain ⟨q0, qm⟩ := hM q hq
      unfold vi at hv
      have h1 : vp n q.2.toNat ≠ 0 := by
        intro y; apply hv; rw [Int.toNat_natCast, y]; rfl
      have := vp_pos_le (by omega) h1
      omega
    · exfalso; apply h
      have : ∀ M' : List (Int × Int), (∀ q ∈ M', q ∈ M) → (M'.map fun q => q.1 * vi n q.2).sum = 0 := by
        intro M'
        induction M' with
        | nil => intro _; rfl
        | cons x r ih =>
          intro hs
          have hx : vi n x.2 = 0 := by
            by_cases y : vi n x.2 = 0
            · exact y
            · exact absurd ⟨x, hs x List.mem_cons_self, y⟩ z
          rw [List.map_cons, List.sum_cons, hx, Int.mul_zero, ih fun y hy => hs y (List.mem_cons_of_mem _ hy)]; rfl
      exact this M fun _ h => h
  · exact absurd (lg_no M hp) h
/-- the sum of the factors' sizes -/
def asz (M : List (Int × Int)) : Nat := (M.map fun q => q.1.natAbs).sum
theorem lg_abs {M : List (Int × Int)} {p : Int} {c : Nat} (hM : ∀ q ∈ M, 0 < q.2 ∧ q.2 < 2 ^ (c + 1)) : (lg M p).natAbs ≤ c * asz M := by
  by_cases hp : ∃ n : Nat, p = n ∧ Pr n
  · obtain ⟨n, rfl, pr⟩ := hp
    rw [lg_pr M pr]
    induction M with
    | nil => simp
    | cons x r ih =>
      have h1 := ih fun q hq => hM q (List.mem_cons_of_mem _ hq)
      obtain ⟨x0, xm⟩ := hM x List.mem_cons_self
      have e : asz (x :: r) = x.1.natAbs + asz r := by unfold asz; rw [List.map_cons, List.sum_cons]
      rw [List.map_cons, List.sum_cons, e, Nat.mul_add]
      have h2 : vp n x.2.toNat ≤ c := by
        refine vp_le pr.two (by omega) ?_
        have e2 : ((2 : Int) ^ (c + 1)) = ((2 ^ (c + 1) : Nat) : Int) := by simp
        omega
      have h3 : (x.1 * vi n x.2).natAbs ≤ c * x.1.natAbs := by
        unfold vi
        rw [Int.natAbs_mul, Int.natAbs_natCast, Int.toNat_natCast, Nat.mul_comm]
        exact Nat.mul_le_mul_right _ h2
      have h4 := Int.natAbs_add_le (x.1 * vi n x.2) ((r.map fun q => q.1 * vi n q.2).sum)
      omega
  · rw [lg_no M hp]; simp
theorem asz_spr {ns : List Int} (c : Cts ns) : asz (sprM ns) = 2 * ns.sum.toNat := by
  have s0 := c.sum_pos
  have key : ∀ l : List Int, (∀ n ∈ l, 0 < n) → asz (l.map fun n => (-n, n)) = l.sum.toNat := by
    intro l
    induction l with
    | nil => intro _; rfl
    | cons x r ih =>
      intro h
      have h0 := h x List.mem_cons_self
      have h1 := ih fun y hy => h y (List.mem_cons_of_mem _ hy)
      have h2 := sum_nonneg (ns := r) fun y hy => h y (List.mem_cons_of_mem _ hy)
      unfold asz at *
      rw [List.map_cons, List.map_cons, List.sum_cons, List.sum_cons, h1]
      show (-x).natAbs + _ = _
      omega
  have h := key ns c.pos
  unfold sprM asz at *
  rw [List.map_cons, List.sum_cons, h]
  show ns.sum.natAbs + _ = _
  omega
theorem spr_bd {ns : List Int} (c : Cts ns) : Bd ns.sum (lg (sprM ns)) := by
  have pi := c.pairs
  refine ⟨c.sum_pos, by have := c.tot; omega, fun p h => (lg_key (m := 1000) h pi.num).2, fun p => ?_⟩
  have h1 := lg_abs (p := p) (c := 9) fun q hq => ⟨(pi.num q hq).1, by have := (pi.num q hq).2; omega⟩
  rw [asz_spr c] at h1
  have := c.tot
  omega
end
section
variable {P : Program} {w : World} {K : PySem.W.Frag} {mg : Str → Option Value} {base : Heap}
theorem for_rangeB {lo : Int} {n : Nat} {g : TG} {tb : TS} {D : Ends} {σ : L2.St} {H : Hp} (PF : L2.St → Hp → Prop) (Pv : Nat → L2.St → Hp → Prop) (h0 : Pv 0 σ H)
    (fin : ∀ σ H, PF σ H → D.nx σ H)
    (hs : (∀ σ H, PF σ H → D.nx σ H) → ∀ i σ H, i < n → Pv i σ H → g (.int (lo + i)) σ H fun σ2 H2 => tb { D with nx := Pv (i + 1), ct := Pv (i + 1), bk := D.nx } σ2 H2)
    (hd : ∀ σ H, Pv n σ H → PF σ H) :
    ∃ W : Nat → Nat → L2.St → Hp → Prop, (∃ m, W 0 m σ H) ∧ ∀ i m σ H, W i m σ H →
      ((Itr lo n).stop i H ∧ D.nx σ H) ∨ ((Itr lo n).go i H ∧ ∃ N : L2.St → Hp → Prop, (∀ σ' H', N σ' H' → ∃ m', m' < m ∧ W (i + 1) m' σ' H') ∧ ∀ x H', (Itr lo n).yld i H x H' → g x σ H' fun σ2 H2 => tb { D with nx := N, ct := N, bk := D.nx } σ2 H2) :=
  for_range Pv h0 (hs fin) fun σ H p => fin σ H (hd σ H p)
def dueM (p : Nat) (s : Int) (ms : List Int) : Int := (ms.map fun m => s * m * vi p m).sum
def dueS (p : Nat) (PL : List (Int × Addr × List Int)) : Int := (PL.map fun z => dueM p z.1 z.2.2).sum
theorem dueM_snoc (p : Nat) (s m : Int) (ms : List Int) : dueM p s (ms ++ [m]) = dueM p s ms + s * m * vi p m := by
  unfold dueM; rw [List.map_append, List.sum_append]; simp
theorem dueS_snoc (p : Nat) (z : Int × Addr × List Int) (PL : List (Int × Addr × List Int)) : dueS p (PL ++ [z]) = dueS p PL + dueM p z.1 z.2.2 := by
  unfold dueS; rw [List.map_append, List.sum_append]; simp
theorem dueS_all {p : Nat} (pr : Pr p) (t1 a : Addr) (ns : List Int) : dueS p [(1, t1, [ns.sum]), (-1, a, ns)] = lg (sprM ns) p := by
  rw [lg_pr _ pr]
  unfold dueS dueM sprM
  simp only [List.map_cons, List.map_nil, List.sum_cons, List.sum_nil, List.map_map, Int.one_mul, Int.add_zero]
  congr 1
  congr 1
  apply List.map_congr_left
  intro m _
  show -1 * m * vi p m = -m * vi p m
  rw [Int.neg_mul, Int.one_mul]
def spStands (K : PySem.W.Frag) : Sp := fun vs H Q _ => ∃ (a : Addr) (v : V) (ns : List Int), vs = [.ref a, v] ∧ SqT K H a (ns.map V.int) ∧ Cts ns ∧ Val K H v ns.sum (lg (sprM ns)) ∧ ∀ H', Same H H' → Q (.bl true) H'
theorem ca_L_stands_for (T : Tx K mg) : Ca P w K mg base 3 "_law_stands_for" s_L_stands_for ["_law_counts", "_law_told"] (spStands K) := by
  have C_L_is_own_amount := ca_L_is_own_amount (P := P) (w := w) (base := base) T
  have C_L_is_prime := ca_L_is_prime (P := P) (w := w) (base := base) T
  refine Ca.of (fd_L_stands_for T) sc_L_stands_for ?_ ?_
  · rintro vs H Q E ⟨a, v, ns, rfl, _⟩; rfl
  · rintro f cdv A out s H vs Q E hr ⟨a, v, ns, rfl, hT, ct, ⟨d, L, am, st⟩, q⟩
    refine ⟨_, (pss_cons (ps_if (pt_not (pt_val (pe_ca C_L_is_own_amount hr (pa_cons (pv 1) pa_nil))))
 (pss_one (ps_ret pe_bl))
 pss_nil)
 (pss_cons (ps_set (i := 2) sc_L_stands_for.nd rfl (.inr rfl) (pe_callB (cr_sumT rfl) (by rfl) T.f_sum (by decide +kernel) (pa_cons (pv 0) pa_nil)))
 (pss_cons (ps_set (i := 3) sc_L_stands_for.nd rfl (.inl rfl) (pe_callTy (call_dictP rfl) (by rfl) T.f_dict (by decide +kernel) (pa_cons (pe_callTy call_list_of (by rfl) T.f_list (by decide +kernel) (pa_cons (pe_ix ix_tup (pv 1) pe_int (fun _ _ => rfl)) pa_nil)) pa_nil)))
 (pss_cons (ps_for PassesOwn.never rfl (pi_range2 (by rfl) T.f_range (pa_cons pe_int (pa_cons pe_int pa_nil))) (pg_name (i := 4) sc_L_stands_for.nd rfl (.inl rfl))
 (pss_cons (ps_if (pt_val (pe_ca C_L_is_prime hr (pa_cons (pv 4) pa_nil)))
 (pss_cons (ps_set (i := 5) sc_L_stands_for.nd rfl (.inl rfl) pe_int)
 (pss_cons (ps_for PassesOwn.never rfl (pi_tup (pe_tup (pa_cons (pe_tup (pa_cons pe_int (pa_cons (pe_tup (pa_cons (pv 2) pa_nil)) pa_nil))) (pa_cons (pe_tup (pa_cons (pe_un un_neg pe_int) (pa_cons (pv 0) pa_nil))) pa_nil)))) (pg_tup rfl (pgs_cons (pg_name (i := 6) sc_L_stands_for.nd rfl (.inl rfl)) (pgs_cons (pg_name (i := 7) sc_L_stands_for.nd rfl (.inl rfl)) pgs_nil)))
 (pss_one (ps_for PassesOwn.never rfl (pi_tup (pv 7)) (pg_name (i := 8) sc_L_stands_for.nd rfl (.inl rfl))
 (pss_cons (ps_set (i := 9) sc_L_stands_for.nd rfl (.inl rfl) (pv 8))
 (pss_one (ps_for PassesOwn.never rfl (pi_range1 (by rfl) T.f_range (pa_cons pe_int pa_nil)) (pg_name (i := 10) sc_L_stands_for.nd rfl (.inl rfl))
 (pss_one (ps_if (pt_cmpR op_eq (pe_op op_mod (pe_callTy call_int1 (by rfl) T.f_int (by decide +kernel) (pa_cons (pv 9) pa_nil)) (pv 4)) pe_int (nomark _))
 (pss_one (ps_par (i := 9) (j := 5) rfl sc_L_stands_for.nd rfl rfl (by decide) rfl rfl (pa_cons (pe_op op_fdivW (pv 9) (pv 4)) (pa_cons (pe_op op_add (pv 5) (pe_op op_mulW (pv 6) (pv 8))) pa_nil)) rfl))
 pss_nil))))))))
 (pss_one (ps_if (pt_cmpR op_ne (pe_op op_mulW (pv 5) (pe_ix ix_tup (pv 1) pe_int (fun _ _ => rfl))) (pe_op op_mulW (pe_dget2 (hu_of hr) (pv 3) (pv 4) pe_int ⟨rfl, rfl, rfl, rfl⟩) (pv 2)) (nomark _))
 (pss_one (ps_ret pe_bl))
 pss_nil))))
 pss_nil)
 (pss_one (ps_if (pt_cmpR op_gt (pv 4) (pv 2) (nomark _))
 (pss_one ps_break)
 pss_nil))))
 (pss_one (ps_ret (pe_cmpR (op_eqD hr.units) (pe_lock (pe_lc (own := [("_law_q", 11)]) rfl sc_L_stands_for.nd (pi_keys (pv 3)) (blkOk_by (own := [("_law_q", 11)]) (N := n_L_stands_for) (sc := defScope s_L_stands_for) (by decide +kernel)) (fun _ _ _ _ _ => (pg_name (i := 11) sc_L_stands_for.nd rfl (Or.inl rfl) (Or.inr rfl))) (fun _ _ _ _ _ => (pts_one (pt_cmpR op_gt (pv 11) (pv 2) (nomark _)))) (fun _ _ _ _ _ => (pv 11)))) (pe_lst pa_nil) (nomark _)))))))), ?_⟩
    have bd := spr_bd ct
    have ok := bd.ok st
    refine ⟨_, rfl, v, d, L, rfl, am, ok, fun H1 s1 => ⟨true, rfl, iteF ?_⟩⟩
    refine ⟨_, rfl, a, ns, rfl, SqT.same s1 hT, ?_⟩
    obtain ⟨ta, tb, rs, rfl, h1, h2, h3⟩ := am.same s1
    refine ⟨_, rfl, ta, _, 1, _, rfl, rfl, h1, atI_nat (j := 1) rfl, tb, _, rfl, .inr h2, fun l nl => ?_⟩
    have mk : mergeK [] (kd L) = kd L := by
      have key : ∀ (B A : List (Int × Int)), ((A ++ B).map (·.1)).Nodup → mergeK (kd A) (kd B) = kd (A ++ B) := by
        intro B
        induction B with
        | nil => intro A _; rw [List.append_nil]; rfl
        | cons x r ih =>
          intro A hn
          have h0 : A.lookup x.1 = none := by
            apply (lookup_none_iff _ _).mpr
            intro q hq z
            rw [List.map_append, List.nodup_append] at hn
            exact hn.2.2 _ (List.mem_map.mpr ⟨q, hq, rfl⟩) _ (by rw [List.map_cons]; exact List.mem_cons_self) z
          have e1 : mergeK (kd A) (kd (x :: r)) = mergeK (putK (kd A) (Sum.inl x.1) (V.int x.2)) (kd r) := rfl
          rw [e1, kd_put, ip_new h0, ih (A ++ [x]) (by rw [List.append_assoc]; exact hn), List.append_assoc]; rfl
      exact key L [] (asc_nodup ok.cn.asc)
    have s2 := same_new (o := .lst (rs.map V.ref)) nl
    refine ⟨l, rs, kd L, rfl, sqL_new, ?_, fun dp ndp => ?_⟩
    · have z := h3.kp (Same.kp s2)
      have key : ∀ {rs : List Addr} {L : List (Int × Int)} {Hx : Hp}, PairsAt K Hx rs L → Paired (fun p (kv : Key × V) => SqT K Hx p [kV kv.1, kv.2]) rs (kd L) := by
        intro rs L Hx h
        unfold PairsAt at h
        induction h with
        | nil => exact .nil
        | cons h _ ih => exact .cons h ih
      exact key z
    rw [mk]
    have s3 := same_new (o := .dK (kd L)) ndp
    have hD : (upd (upd H1 l (.lst (rs.map V.ref))) dp (.dK (kd L))) dp = some (.dK (kd L)) := upd_same
    have sH := (s1.trans s2).trans s3
    have h1' := SqT.same (s2.trans s3) h1
    generalize (upd (upd H1 l (.lst (rs.map V.ref))) dp (.dK (kd L))) = H2 at *
    have hT2 := SqT.same sH hT
    have N0 := ct.sum_pos
    have N1 := ct.tot
    refine ⟨2, 1000, rfl, by decide, ?_⟩
    refine for_rangeB (fun σ H' => ∃ y4 y5 y6 y7 y8 y9 y10, σ = [some (.ref a), some (.ref ta), some (.int ns.sum), some (.ref dp), y4, y5, y6, y7, y8, y9, y10, none] ∧ Same H2 H')
      (fun i σ H' => ∃ y4 y5 y6 y7 y8 y9 y10, σ = [some (.ref a), some (.ref ta), some (.int ns.sum), some (.ref dp), y4, y5, y6, y7, y8, y9, y10, none] ∧ Same H2 H') ⟨none, none, none, none, none, none, none, rfl, Same.refl H2⟩ ?_ ?_ ?_
    · rintro σ H' ⟨y4, y5, y6, y7, y8, y9, y10, rfl, sm⟩
      have hD' := sm _ _ hD
      refine ⟨dp, _, hD', trivial, fun od => ?_⟩
      refine ⟨_, rfl, dp, od, rfl, .inl ⟨_, upd_same, fun Dl nDl => ?_⟩⟩
      have nD0 : Dl ≠ dp := fun z => by rw [z, upd_same] at nDl; cases nDl
      refine lc_keys (fun i H'' => H'' Dl = some (.lst []) ∧ Same (upd H' dp (.frz od (.dK (kd L)))) H'') ⟨upd_same, same_new nDl⟩ ?_ ?_ ?_
      · rintro i H'' ⟨_, sm2⟩; exact sm2 _ _ upd_same
      · rintro i k x H'' hk ⟨hl0, sm2⟩
        obtain ⟨c, hc, rfl, rfl⟩ := kd_at hk
        have cm := List.mem_of_getElem? hc
        have z := st.zero bd.pos cm
        have z2 := (lg_key (m := ns.sum) z (by
          intro q hq
          refine ⟨(ct.pairs.num q hq).1, ?_⟩
          rcases List.mem_cons.mp hq with e | hq
          · rw [e]; exact Int.le_refl _
          · obtain ⟨n, hn, rfl⟩ := List.mem_map.mp hq
            exact mem_le_sum ct.pos hn)).2
        refine ⟨rfl, ?_⟩
        refine ⟨_, rfl, _, rfl, _, _, rfl, rfl, _, rfl, ?_⟩
        have e1 : decide (ns.sum < c.1) = false := decide_eq_false (by omega)
        rw [e1]
        exact iteF ⟨hl0, sm2⟩
      · rintro H'' ⟨hl0, sm2⟩
        refine ⟨sm2 _ _ upd_same, ?_⟩
        have smF : Same H' (upd H'' dp (.dK (kd L))) := fun b' o e => by
          by_cases h : b' = dp
          · subst h; rw [upd_same, ← hD']; exact e
          · rw [upd_ne h]; exact sm2 _ _ (by rw [upd_ne h]; exact e)
        have hl1 : (upd H'' dp (.dK (kd L))) Dl = some (.lst []) := by rw [upd_ne nD0]; exact hl0
        generalize (upd H'' dp (.dK (kd L))) = H4 at *
        refine ⟨by show 0 ≤ sizeLine; omega, fun pz nz => ?_⟩
        have sz := same_new (o := .lst []) nz
        refine ⟨.list [], .list [], .lst (xs := []) (.inl (.inl (sz _ _ hl1))) .nil, .lst sqL_new .nil, rfl, rfl, ?_⟩
        exact q _ (((sH.trans sm).trans smF).trans sz)
    · intro fin i σ H' hi
      rintro ⟨y4, y5, y6, y7, y8, y9, y10, rfl, sm⟩
      have hi2 : i < 998 := hi
      refine ⟨_, rfl, 2 + i, by show [V.int (2 + (i : Int))] = _; congr 2, by omega, fun b H3 s4 hb => ?_⟩
      have gto : ∀ (σ' : L2.St) (H' : Hp), True := fun _ _ => trivial
      have over : ∀ H4, Same H2 H4 → True := fun _ _ => trivial
      cases b with
      | false =>
        refine ⟨false, rfl, iteF ?_⟩
        refine ⟨_, rfl, _, rfl, _, _, rfl, rfl, _, rfl, ite2 (fun c => ?_) (fun c => ?_)⟩
        · exact fin _ _ ⟨_, _, _, _, _, _, _, rfl, sm.trans s4⟩
        · exact ⟨_, _, _, _, _, _, _, rfl, sm.trans s4⟩
      | true =>
        have pr : Pr (2 + i) := hb.mp rfl
        refine ⟨true, rfl, iteT ?_⟩
        have hp2 := pr.two
        have z1 : 1 ≤ sizeLine := by rw [sizeLine_eq]; omega
        have z2 : 2 ≤ sizeLine := by rw [sizeLine_eq]; omega
        have sm3 := sm.trans s4
        refine ⟨_, rfl, z1, fun t1 n1 => ⟨z2, fun t2 n2 => ⟨_, rfl, _, rfl, z2, fun t3 n3 => ⟨z2, fun t4 n4 => ?_⟩⟩⟩⟩
        have w1 := same_new (o := .tup [V.int ns.sum]) n1
        have w2 := same_new (o := .tup [V.int 1, V.ref t1]) n2
        have w3 := same_new (o := .tup [V.int (-1), V.ref a]) n3
        have w4 := same_new (o := .tup [V.ref t2, V.ref t3]) n4
        obtain ⟨PL, ePL⟩ : ∃ PL : List (Int × Addr × List Int), PL = [(1, t1, [ns.sum]), (-1, a, ns)] := ⟨_, rfl⟩
        obtain ⟨H4, eH4⟩ : ∃ H4, H4 = (upd (upd (upd (upd H3 t1 (.tup [V.int ns.sum])) t2 (.tup [V.int 1, V.ref t1])) t3 (.tup [V.int (-1), V.ref a])) t4 (.tup [V.ref t2, V.ref t3])) := ⟨_, rfl⟩
        have w14 : Same H3 H4 := by rw [eH4]; exact ((w1.trans w2).trans w3).trans w4
        have hPL : Paired (fun r (z : Int × Addr × List Int) => SqT K H4 r [V.int z.1, V.ref z.2.1] ∧ SqT K H4 z.2.1 (z.2.2.map V.int) ∧ (∀ m ∈ z.2.2, 0 < m ∧ m ≤ 1000) ∧ z.1.natAbs ≤ 1 ∧ z.2.2.length ≤ 40) [t2, t3] PL := by
          rw [ePL, eH4]
          refine .cons ⟨?_, ?_, ?_, by show (1 : Int).natAbs ≤ 1; decide, by show 1 ≤ 40; decide⟩ (.cons ⟨?_, ?_, ?_, by show (-1 : Int).natAbs ≤ 1; decide, ct.len⟩ .nil)
          · exact SqT.same (w3.trans w4) sqT_new
          · exact SqT.same ((w2.trans w3).trans w4) sqT_new
          · intro m hm
            have := List.mem_singleton.mp hm
            omega
          · exact SqT.same w4 sqT_new
          · exact SqT.same (sm3.trans (((w1.trans w2).trans w3).trans w4)) hT2
          · intro m hm
            have := mem_le_sum ct.pos hm
            exact ⟨ct.pos m hm, by omega⟩
        have h44 : SqT K H4 t4 ([t2, t3].map V.ref) := by rw [eH4]; exact sqT_new
        rw [← eH4]
        have sm4 := sm3.trans w14
        clear eH4 w1 w2 w3 w4
        refine ⟨t4, rfl, ⟨_, h44⟩, ?_⟩
        have lPL : PL.length = 2 := by rw [ePL]; rfl
        refine for_tup (xs := [t2, t3].map V.ref) (fun j σ H' => ∃ y6 y7 y8 y9 y10, σ = [some (.ref a), some (.ref ta), some (.int ns.sum), some (.ref dp), some (.int (2 + (i : Int))), some (.int (dueS (2 + i) (PL.take j))), y6, y7, y8, y9, y10, none] ∧ H4 = H') ⟨_, _, _, _, _, rfl, rfl⟩ ?_ ?_ ?_
        · rintro j σ H' _ ⟨_, _, _, _, _, _, rfl⟩; exact h44
        · rintro j x σ H' hx ⟨y6, y7, y8, y9, y10, rfl, rfl⟩
          obtain ⟨r, hr1, rfl⟩ := map_at hx
          obtain ⟨z, hz, hz1, hz2, hz3, hz4, hz5⟩ := Paired.at' hPL hr1
          refine ⟨r, _, rfl, hz1, rfl, _, _, rfl, _, [], rfl, rfl, ?_⟩
          refine ⟨_, rfl, z.2.1, rfl, ⟨_, hz2⟩, ?_⟩
          refine for_tup (xs := z.2.2.map V.int) (fun k σ H' => ∃ y8 y9 y10, σ = [some (.ref a), some (.ref ta), some (.int ns.sum), some (.ref dp), some (.int (2 + (i : Int))), some (.int (dueS (2 + i) (PL.take j) + dueM (2 + i) z.1 (z.2.2.take k))), some (.int z.1), some (.ref z.2.1), y8, y9, y10, none] ∧ H4 = H') ⟨y8, y9, y10, ?_, rfl⟩ ?_ ?_ ?_
          · rw [List.take_zero, show dueM (2 + i) z.1 [] = 0 from rfl, Int.add_zero]; rfl
          · rintro k σ H' _ ⟨_, _, _, _, rfl⟩; exact hz2
          · rintro k x σ H' hx ⟨y8, y9, y10, rfl, rfl⟩
            obtain ⟨m, hm, rfl⟩ := map_at hx
            have mm := List.mem_of_getElem? hm
            obtain ⟨m0, m1⟩ := hz3 m mm
            have tk : z.2.2.take (k + 1) = z.2.2.take k ++ [m] := by rw [List.take_add_one, hm]; rfl
            generalize eD : dueS (2 + i) (PL.take j) + dueM (2 + i) z.1 (z.2.2.take k) = D0 at *
            refine ⟨_, rfl, ?_⟩
            refine ⟨10, rfl, by omega, by omega, ?_⟩
            refine for_range (fun t σ H5 => ∃ (x : Nat) (due : Int) (y10 : Option V), σ = [some (.ref a), some (.ref ta), some (.int ns.sum), some (.ref dp), some (.int (2 + (i : Int))), some (.int due), some (.int z.1), some (.ref z.2.1), some (.int m), some (.int x), y10, none] ∧ 0 < x ∧ x ≤ 1000 ∧ due + z.1 * m * (vp (2 + i) x : Nat) = D0 + z.1 * m * vi ((2 + i : Nat) : Int) m ∧ vp (2 + i) x ≤ 10 - t ∧ H4 = H5) ⟨m.toNat, D0, y10, ?_, by omega, by omega, ?_, ?_, rfl⟩ ?_ ?_
            · rw [show ((m.toNat : Nat) : Int) = m by omega]; rfl
            · unfold vi; rw [Int.toNat_natCast]
            · exact vp_le (by omega) (by omega) (by omega)
            · rintro t σ H' ht ⟨x, due, y10, rfl, x0, x1, hv, vb, rfl⟩
              have ec : (x : Int) % (2 + (i : Int)) = ((x % (2 + i) : Nat) : Int) := by rw [Int.natCast_emod]; congr 1
              refine ⟨_, rfl, .inl ⟨_, rfl, _, rfl, _, _, rfl, rfl, (by show (0 : Int) < 2 + (i : Int); omega), rfl, _, rfl, ite2 (fun c => ?_) (fun c => ?_)⟩⟩
              · have c1 : (x : Int) % (2 + (i : Int)) = 0 := V.int.inj (of_decide_eq_true c)
                have c2 : x % (2 + i) = 0 := by rw [ec] at c1; exact Int.natCast_eq_zero.mp c1
                have e3 := vp_yes (p := 2 + i) (n := x) (by omega) x0 c2
                have xd : 0 < x / (2 + i) := by
                  have := Nat.div_add_mod x (2 + i)
                  apply Nat.pos_of_ne_zero
                  intro y
                  rw [y, c2, Nat.mul_zero] at this; omega
                have xl : x / (2 + i) ≤ x := Nat.div_le_self _ _
                have lw : ((2 : Int) + (i : Int)).natAbs.log2 < 9000 := by
                  have : ((2 : Int) + (i : Int)).natAbs.log2 < 41 := (Nat.log2_lt (by omega)).mpr (by omega)
                  omega
                refine ⟨_, rfl, _, rfl, _, _, rfl, rfl, ⟨by omega, lw⟩, _, rfl, _, rfl, _, rfl, _, _, rfl, rfl, wide_mul (a := 20) (b := 20) (by omega) (by omega) (by omega) (by omega) (by omega), _, _, rfl, rfl, _, _, rfl, x / (2 + i), due + z.1 * m, some (.int (0 + (t : Int))), ?_, xd, by omega, ?_, by omega, rfl⟩
                · rw [show ((x / (2 + i) : Nat) : Int) = (x : Int) / (2 + (i : Int)) by rw [Int.natCast_ediv]; congr 1]; rfl
                · rw [← hv, e3, Int.natCast_add, Int.mul_add, Int.natCast_one, Int.mul_one]; omega
              · have c1 : ¬ (x : Int) % (2 + (i : Int)) = 0 := fun z => c (decide_eq_true (congrArg V.int z))
                have c2 : x % (2 + i) ≠ 0 := fun z => c1 (by rw [ec, z]; rfl)
                exact ⟨x, due, some (.int (0 + (t : Int))), rfl, x0, x1, hv, by rw [vp_no c2]; omega, rfl⟩
            · rintro σ H' ⟨x, due, y10, rfl, x0, x1, hv, vb, rfl⟩
              refine ⟨some (.int m), some (.int (x : Int)), y10, ?_, rfl⟩
              have v0 : vp (2 + i) x = 0 := by
                have : vp (2 + i) x ≤ 10 - (10 : Int).toNat := vb
                have e : (10 : Int).toNat = 10 := rfl
                omega
              rw [v0] at hv
              rw [tk, dueM_snoc, ← Int.add_assoc, eD, ← hv]
              simp
          · rintro σ H' ⟨y8, y9, y10, rfl, rfl⟩
            refine ⟨some (.int z.1), some (.ref z.2.1), y8, y9, y10, ?_, rfl⟩
            rw [List.length_map, List.take_of_length_le (Nat.le_refl _), show PL.take (j + 1) = PL.take j ++ [z] by rw [List.take_add_one, hz]; rfl, dueS_snoc]
        · rintro σ H' ⟨y6, y7, y8, y9, y10, rfl, rfl⟩
          have ed : dueS (2 + i) (PL.take ([t2, t3].map V.ref).length) = lg (sprM ns) ((2 + i : Nat) : Int) := by
            rw [show PL.take ([t2, t3].map V.ref).length = PL by rw [List.take_of_length_le]; show PL.length ≤ 2; omega, ePL, dueS_all pr]
          rw [ed]
          have hD4 := sm4 _ _ hD
          have sp2 := st.2 ((2 + i : Nat) : Int)
          have ci : ((2 + i : Nat) : Int) = 2 + (i : Int) := by omega
          rw [ci] at sp2 ⊢
          have b1 := bd.par (2 + (i : Int))
          have d1 := ok.cn.d1
          have dN := st.le bd.pos
          have b2 : (ig L (2 + (i : Int))).natAbs < 2 ^ 64 := by
            have := st.abs bd.pos (2 + (i : Int))
            omega
          refine ⟨_, rfl, _, rfl, ta, _, 0, _, rfl, rfl, SqT.same sm4 h1', atI_nat (j := 0) rfl, _, _, rfl, rfl, wide_mul (a := 64) (b := 20) (by omega) (by omega) (by omega) (by omega) (by omega), _, rfl, dp, rfl, .inl ⟨_, .inl hD4⟩, _, rfl, _, DGet.k (k := Sum.inl (2 + (i : Int))) hD4, _, rfl, _, _, kd_getD _ _, rfl, wide_mul (a := 64) (b := 20) (by omega) (by omega) (by omega) (by omega) (by omega), rfl, _, rfl, ?_⟩
          rw [ne_no sp2.symm]
          refine iteF ?_
          refine ⟨_, rfl, _, rfl, _, _, rfl, rfl, _, rfl, ite2 (fun c => ?_) (fun c => ?_)⟩
          · exact fin _ _ ⟨_, _, _, _, _, _, _, rfl, sm4⟩
          · exact ⟨_, _, _, _, _, _, _, rfl, sm4⟩
    · rintro σ H' h; exact h
end
end K06

namespace K06
open PySem PySem.Spec PyProof.Rows L2 Ly Am
theorem vi_mul {p : Nat} (hp : Pr p) {a b : Int} (ha : 0 < a) (hb : 0 < b) : vi p (a * b) = vi p a + vi p b := by
  obtain ⟨x, rfl⟩ := Int.eq_ofNat_of_zero_le (Int.le_of_lt ha)
  obtain ⟨y, rfl⟩ := Int.eq_ofNat_of_zero_le (Int.le_of_lt hb)
  unfold vi
  rw [← Int.natCast_mul, Int.toNat_natCast, Int.toNat_natCast, Int.toNat_natCast, Int.toNat_natCast, vp_mul hp _ _ (by omega) (by omega)]
  exact Int.natCast_add _ _
theorem vi_one {p : Nat} (hp : Pr p) : vi p 1 = 0 := by
  unfold vi; rw [Int.toNat_natCast]; show ((vp p 1 : Nat) : Int) = 0; rw [vp_one hp.two]; rfl
theorem vi_pow {p : Nat} (hp : Pr p) {a : Int} (ha : 0 < a) : ∀ k : Nat, vi p (a ^ k) = k * vi p a
  | 0 => by rw [Int.pow_zero, vi_one hp]; simp
  | k + 1 => by rw [Int.pow_succ, vi_mul hp (ipp k ha) ha, vi_pow hp ha k, Int.natCast_add, Int.add_mul]; simp
theorem up_pos {L : List (Int × Int)} (h : ∀ q ∈ L, 0 < q.1) : 0 < up 1 L := by
  induction L with
  | nil => show (0 : Int) < 1; omega
  | cons q r ih =>
    have h1 := ih fun z hz => h z (List.mem_cons_of_mem _ hz)
    show 0 < (if 0 < q.2 then q.1 ^ (1 * q.2.natAbs) else 1) * up 1 r
    refine Int.mul_pos ?_ h1
    split
    · exact ipp _ (h q List.mem_cons_self)
    · omega
theorem dn_pos {L : List (Int × Int)} (h : ∀ q ∈ L, 0 < q.1) : 0 < dn 1 L := by
  induction L with
  | nil => show (0 : Int) < 1; omega
  | cons q r ih =>
    have h1 := ih fun z hz => h z (List.mem_cons_of_mem _ hz)
    show 0 < (if 0 < q.2 then 1 else q.1 ^ (1 * q.2.natAbs)) * dn 1 r
    refine Int.mul_pos ?_ h1
    split
    · omega
    · exact ipp _ (h q List.mem_cons_self)
theorem vi_updn {p : Nat} (hp : Pr p) {L : List (Int × Int)} (h : ∀ q ∈ L, 0 < q.1) : vi p (up 1 L) = vi p (dn 1 L) + (L.map fun q => q.2 * vi p q.1).sum := by
  induction L with
  | nil => show vi p 1 = vi p 1 + 0; rw [Int.add_zero]
  | cons q r ih =>
    have hr : ∀ z ∈ r, 0 < z.1 := fun z hz => h z (List.mem_cons_of_mem _ hz)
    have q0 := h q List.mem_cons_self
    have i := ih hr
    have u0 := up_pos hr
    have d0 := dn_pos hr
    rw [List.map_cons, List.sum_cons]
    show vi p ((if 0 < q.2 then q.1 ^ (1 * q.2.natAbs) else 1) * up 1 r) = vi p ((if 0 < q.2 then 1 else q.1 ^ (1 * q.2.natAbs)) * dn 1 r) + _
    by_cases c : 0 < q.2
    · rw [if_pos c, if_pos c, Int.one_mul, vi_mul hp (ipp _ q0) u0, vi_pow hp q0, i]
      have : ((1 * q.2.natAbs : Nat) : Int) = q.2 := by omega
      rw [this]; omega
    · rw [if_neg c, if_neg c, Int.one_mul, vi_mul hp (ipp _ q0) d0, vi_pow hp q0, i]
      have : ((1 * q.2.natAbs : Nat) : Int) = -q.2 := by omega
      rw [this, Int.neg_mul]; omega
theorem ig_sum {p : Nat} (hp : Pr p) : ∀ {L : List (Int × Int)}, (L.map (·.1)).Nodup → (∀ q ∈ L, ∃ n : Nat, q.1 = n ∧ Pr n ∧ n < 1000000) → (L.map fun q => q.2 * vi p q.1).sum = ig L p
  | [], _, _ => rfl
  | q :: r, nd, pr => by
    obtain ⟨n, e, pn, _⟩ := pr q List.mem_cons_self
    have nd2 := (List.nodup_cons.mp nd)
    have i := ig_sum hp (L := r) nd2.2 fun z hz => pr z (List.mem_cons_of_mem _ hz)
    rw [List.map_cons, List.sum_cons, i, ig_cons]
    have ev : vi p q.1 = if p = n then 1 else 0 := by
      unfold vi
      rw [e, Int.toNat_natCast, Int.toNat_natCast]
      by_cases c : p = n
      · rw [if_pos c, ← c, vp_self hp]; rfl
      · rw [if_neg c, vp_other hp pn c]; rfl
    rw [ev]
    by_cases c : p = n
    · have z : ig r p = 0 := ig_none fun x hx z => nd2.1 (List.mem_map.mpr ⟨x, hx, by show x.1 = q.1; rw [e, ← c]; exact z⟩)
      rw [if_pos c, if_pos (by rw [e, c]), z]; omega
    · rw [if_neg c, if_neg (by rw [e]; omega)]; omega
/-- number and factor exchanged -/
def sw (M : List (Int × Int)) : List (Int × Int) := M.map fun q => (q.2, q.1)
theorem cmp_up {L M : List (Int × Int)} {d B : Int} (st : St4 d L B (lg M)) (hB : 0 < B) (hM : ∀ q ∈ M, 0 < q.2) :
    (up 1 L < dn 1 L ↔ up 1 (sw M) < dn 1 (sw M)) ∧ (dn 1 L < up 1 L ↔ dn 1 (sw M) < up 1 (sw M)) := by
  have hL : ∀ q ∈ L, 0 < q.1 := fun q hq => by
    obtain ⟨n, e, pn, _⟩ := st.1.pr q hq
    have := pn.pos; omega
  have hS : ∀ q ∈ sw M, 0 < q.1 := fun q hq => by
    obtain ⟨x, hx, rfl⟩ := List.mem_map.mp hq
    exact hM x hx
  have d1 := st.1.d1
  have a0 := up_pos hL
  have b0 := dn_pos hL
  have c0 := up_pos hS
  have e0 := dn_pos hS
  have key := cmp_alike (a := (up 1 L).toNat) (b := (dn 1 L).toNat) (c := (up 1 (sw M)).toNat) (e := (dn 1 (sw M)).toNat) (B := B.toNat) (d := d.toNat) (by omega) (by omega) (by omega) (by omega) (by omega) (by omega) (fun p hp => by
    have v1 := vi_updn hp hL
    have v2 := vi_updn hp hS
    have v3 := ig_sum hp (asc_nodup st.1.asc) st.1.pr
    have v4 : ((sw M).map fun q => q.2 * vi p q.1).sum = lg M p := by
      rw [lg_pr M hp]
      unfold sw
      rw [List.map_map]; rfl
    have v5 := st.2 p
    rw [v3] at v1
    rw [v4] at v2
    have m1 : vi p (up 1 L) * B = vi p (dn 1 L) * B + ig L p * B := by rw [v1, Int.add_mul]
    have m2 : vi p (up 1 (sw M)) * d = vi p (dn 1 (sw M)) * d + lg M p * d := by rw [v2, Int.add_mul]
    have m3 : vi p (up 1 L) * B + vi p (dn 1 (sw M)) * d = vi p (up 1 (sw M)) * d + vi p (dn 1 L) * B := by rw [m1, m2, v5]; omega
    unfold vi at m3
    rw [Int.toNat_natCast] at m3
    have eB : B = (B.toNat : Int) := by omega
    have ed : d = (d.toNat : Int) := by omega
    rw [eB, ed] at m3
    exact_mod_cast m3)
  omega
/-! the powers of a spread -/
theorem dn_neg (ns : List Int) (h : ∀ n ∈ ns, 0 < n) : up 1 (sw (ns.map fun n => (-n, n))) = 1 ∧ dn 1 (sw (ns.map fun n => (-n, n))) = ee ns := by
  induction ns with
  | nil => exact ⟨rfl, rfl⟩
  | cons x r ih =>
    obtain ⟨i1, i2⟩ := ih fun y hy => h y (List.mem_cons_of_mem _ hy)
    have x0 := h x List.mem_cons_self
    have c : ¬ 0 < -x := by omega
    refine ⟨?_, ?_⟩
    · show (if 0 < -x then x ^ (1 * (-x).natAbs) else 1) * up 1 (sw (r.map fun n => (-n, n))) = 1
      rw [if_neg c, i1]; rfl
    · show (if 0 < -x then 1 else x ^ (1 * (-x).natAbs)) * dn 1 (sw (r.map fun n => (-n, n))) = ee (x :: r)
      rw [if_neg c, i2, ee_cons, show 1 * (-x).natAbs = x.toNat by omega]
theorem up_nl (ns : List Int) (h : ∀ n ∈ ns, 0 < n) : up 1 (sw (ns.map fun n => (n, n))) = ee ns ∧ dn 1 (sw (ns.map fun n => (n, n))) = 1 := by
  induction ns with
  | nil => exact ⟨rfl, rfl⟩
  | cons x r ih =>
    obtain ⟨i1, i2⟩ := ih fun y hy => h y (List.mem_cons_of_mem _ hy)
    have x0 := h x List.mem_cons_self
    refine ⟨?_, ?_⟩
    · show (if 0 < x then x ^ (1 * x.natAbs) else 1) * up 1 (sw (r.map fun n => (n, n))) = ee (x :: r)
      rw [if_pos x0, i1, ee_cons, show 1 * x.natAbs = x.toNat by omega]
    · show (if 0 < x then 1 else x ^ (1 * x.natAbs)) * dn 1 (sw (r.map fun n => (n, n))) = 1
      rw [if_pos x0, i2]; rfl
theorem up_app (k : Nat) : ∀ A B : List (Int × Int), up k (A ++ B) = up k A * up k B
  | [], B => by show up k B = 1 * up k B; rw [Int.one_mul]
  | x :: r, B => by show _ * up k (r ++ B) = _ * up k r * up k B; rw [up_app k r B, Int.mul_assoc]
theorem dn_app (k : Nat) : ∀ A B : List (Int × Int), dn k (A ++ B) = dn k A * dn k B
  | [], B => by show dn k B = 1 * dn k B; rw [Int.one_mul]
  | x :: r, B => by show _ * dn k (r ++ B) = _ * dn k r * dn k B; rw [dn_app k r B, Int.mul_assoc]
theorem sw_app (A B : List (Int × Int)) : sw (A ++ B) = sw A ++ sw B := by unfold sw; rw [List.map_append]
theorem up_spr {ns : List Int} (h : ∀ n ∈ ns, 0 < n) (hN : 0 < ns.sum) : up 1 (sw (sprM ns)) = ns.sum ^ ns.sum.toNat ∧ dn 1 (sw (sprM ns)) = ee ns := by
  obtain ⟨h1, h2⟩ := dn_neg ns h
  refine ⟨?_, ?_⟩
  · show (if 0 < ns.sum then ns.sum ^ (1 * ns.sum.natAbs) else 1) * up 1 (sw (ns.map fun n => (-n, n))) = _
    rw [if_pos hN, h1, Int.mul_one, show 1 * ns.sum.natAbs = ns.sum.toNat by omega]
  · show (if 0 < ns.sum then 1 else ns.sum ^ (1 * ns.sum.natAbs)) * dn 1 (sw (ns.map fun n => (-n, n))) = _
    rw [if_pos hN, h2, Int.one_mul]
/-- small ones can be worked out -/
theorem fits6 {L M : List (Int × Int)} {d B : Int} (st : St4 d L B (lg M)) (hB : 0 < B) (hM : ∀ q ∈ M, 0 < q.2 ∧ q.2 ≤ 60) (hz : asz M ≤ 200) : Fits 6 1 L := by
  have hk : ∀ q ∈ L, 2 ≤ q.1 ∧ q.1 ≤ 60 := fun q hq => lg_key (st.zero hB hq) hM
  have ha : ∀ q ∈ L, q.2.natAbs ≤ 1000 := fun q hq => by
    have h1 := st.abs hB q.1
    rw [ig_mem (asc_nodup st.1.asc) hq] at h1
    have h2 := lg_abs (M := M) (p := q.1) (c := 5) fun z hz' => ⟨(hM z hz').1, by have := (hM z hz').2; omega⟩
    omega
  have ln := keys_few (m := 60) (asc_nodup st.1.asc) fun q hq => ⟨by have := hk q hq; omega, by have := hk q hq; omega⟩
  have cs : cost L ≤ L.length * 1000 := by
    clear ln hk st
    induction L with
    | nil => exact Nat.zero_le _
    | cons x r ih =>
      have h1 := ih fun q hq => ha q (List.mem_cons_of_mem _ hq)
      have h2 := ha x List.mem_cons_self
      unfold cost at *
      rw [List.map_cons, List.sum_cons, List.length_cons]; omega
  refine ⟨fun q hq => ?_, fun q hq => ?_, ?_, by decide, fun q hq => ?_⟩
  · have := hk q hq; omega
  · have := ha q hq; omega
  · omega
  · have := ha q hq; omega
end K06

namespace K06
open PySem PySem.Spec PyProof.Rows L2 Ly Am
theorem lg_neg (M : List (Int × Int)) (p : Int) : lg (M.map fun q => (-q.1, q.2)) p = -1 * lg M p := by
  by_cases h : ∃ n : Nat, p = n ∧ Pr n
  · obtain ⟨n, rfl, pr⟩ := h
    rw [lg_pr _ pr, lg_pr _ pr, List.map_map]
    induction M with
    | nil => rfl
    | cons x r ih =>
      rw [List.map_cons, List.sum_cons, ih, List.map_cons, List.sum_cons]
      show -x.1 * vi n x.2 + _ = _
      rw [Int.mul_add, Int.neg_mul, Int.neg_mul, Int.one_mul]; omega
  · rw [lg_no _ h, lg_no _ h]; rfl
theorem neg_spr (ns : List Int) : (sprM ns).map (fun q => (-q.1, q.2)) = (-ns.sum, ns.sum) :: ns.map fun n => (n, n) := by
  unfold sprM
  rw [List.map_cons, List.map_map]
  congr 1
  apply List.map_congr_left
  intro n _
  show (-(-n), n) = (n, n)
  rw [Int.neg_neg]
theorem asz_app (A B : List (Int × Int)) : asz (A ++ B) = asz A + asz B := by unfold asz; rw [List.map_append, List.sum_append]
theorem asz_neg (M : List (Int × Int)) : asz (M.map fun q => (-q.1, q.2)) = asz M := by
  unfold asz
  rw [List.map_map]
  congr 1
  apply List.map_congr_left
  intro q _
  show (-q.1).natAbs = q.1.natAbs
  omega
/-- least and greatest -/
theorem fold_min (n : Int) (l : List Int) : l.foldl min n ≤ n ∧ ∀ x ∈ l, l.foldl min n ≤ x := by
  induction l generalizing n with
  | nil => exact ⟨Int.le_refl _, by simp⟩
  | cons y r ih =>
    obtain ⟨h1, h2⟩ := ih (min n y)
    rw [List.foldl_cons]
    refine ⟨by omega, fun x hx => ?_⟩
    rcases List.mem_cons.mp hx with e | hx
    · rw [e]; omega
    · exact h2 x hx
theorem fold_max (n : Int) (l : List Int) : n ≤ l.foldl max n ∧ ∀ x ∈ l, x ≤ l.foldl max n := by
  induction l generalizing n with
  | nil => exact ⟨Int.le_refl _, by simp⟩
  | cons y r ih =>
    obtain ⟨h1, h2⟩ := ih (max n y)
    rw [List.foldl_cons]
    refine ⟨by omega, fun x hx => ?_⟩
    rcases List.mem_cons.mp hx with e | hx
    · rw [e]; omega
    · exact h2 x hx
theorem fold_mem (f : Int → Int → Int) (hf : ∀ a b, f a b = a ∨ f a b = b) (n : Int) (l : List Int) : l.foldl f n ∈ n :: l := by
  induction l generalizing n with
  | nil => exact List.mem_cons_self
  | cons y r ih =>
    rw [List.foldl_cons]
    rcases hf n y with e | e
    · rw [e]
      rcases List.mem_cons.mp (ih n) with z | z
      · rw [z]; exact List.mem_cons_self
      · exact List.mem_cons_of_mem _ (List.mem_cons_of_mem _ z)
    · rw [e]
      rcases List.mem_cons.mp (ih y) with z | z
      · rw [z]; exact List.mem_cons_of_mem _ List.mem_cons_self
      · exact List.mem_cons_of_mem _ (List.mem_cons_of_mem _ z)
theorem min_lt_max (n : Int) (l : List Int) : l.foldl min n < l.foldl max n ↔ ¬ ∀ x ∈ n :: l, ∀ y ∈ n :: l, x = y := by
  have m1 := fold_mem min (fun a b => by omega) n l
  have m2 := fold_mem max (fun a b => by omega) n l
  obtain ⟨a1, a2⟩ := fold_min n l
  obtain ⟨b1, b2⟩ := fold_max n l
  constructor
  · intro h z
    have := z _ m1 _ m2
    omega
  · intro h
    apply Classical.byContradiction
    intro c
    apply h
    have all : ∀ x ∈ n :: l, x = l.foldl min n := fun x hx => by
      rcases List.mem_cons.mp hx with e | hx
      · rw [e]; omega
      · have := a2 x hx; have := b2 x hx; omega
    intro x hx y hy
    rw [all x hx, all y hy]
theorem sgn_spr {ns : List Int} {d : Int} {L : List (Int × Int)} (c : Cts ns) (st : St4 d L ns.sum (lg (sprM ns))) : sgn L = if 1 < ns.length then 1 else 0 := by
  have hN := c.sum_pos
  obtain ⟨k1, k2⟩ := cmp_up st hN fun q hq => (c.pairs.num q hq).1
  obtain ⟨u1, u2⟩ := up_spr c.pos hN
  rw [u1, u2] at k1 k2
  match ns, c, hN, k1, k2 with
  | [], c, _, _, _ => exact absurd c.ne (by decide)
  | [x], c, _, k1, k2 =>
    have e : ee [x] = [x].sum ^ [x].sum.toNat := by
      rw [ee_cons]; show x ^ x.toNat * 1 = (x + 0) ^ (x + 0).toNat
      rw [Int.mul_one, Int.add_zero]
    rw [e] at k1 k2
    have n1 : ¬ up 1 L < dn 1 L := fun z => Int.lt_irrefl _ (k1.mp z)
    have n2 : ¬ dn 1 L < up 1 L := fun z => Int.lt_irrefl _ (k2.mp z)
    unfold sgn
    rw [if_pos (by omega), if_neg (by show ¬ 1 < 1; omega)]
  | x :: y :: r, c, _, k1, k2 =>
    have lt := k2.mpr (ee_strict c.pos)
    unfold sgn
    rw [if_neg (by omega), if_pos lt, if_pos (by rw [List.length_cons, List.length_cons]; omega)]
theorem bd_lg {M : List (Int × Int)} {B : Int} (hB : 0 < B) (hB2 : B ≤ 100000) (hM : ∀ q ∈ M, 0 < q.2 ∧ q.2 ≤ 1000) (hz : asz M ≤ 2 ^ 20) : Bd B (lg M) := by
  refine ⟨hB, by omega, fun p h => (lg_key (m := 1000) h hM).2, fun p => ?_⟩
  have h1 := lg_abs (M := M) (p := p) (c := 9) fun q hq => ⟨(hM q hq).1, by have := (hM q hq).2; omega⟩
  omega
theorem neg_up {ns : List Int} (h : ∀ n ∈ ns, 0 < n) (hN : 0 < ns.sum) : up 1 (sw ((sprM ns).map fun q => (-q.1, q.2))) = ee ns ∧ dn 1 (sw ((sprM ns).map fun q => (-q.1, q.2))) = ns.sum ^ ns.sum.toNat := by
  obtain ⟨h1, h2⟩ := up_nl ns h
  rw [neg_spr]
  have c : ¬ 0 < -ns.sum := by omega
  refine ⟨?_, ?_⟩
  · show (if 0 < -ns.sum then ns.sum ^ (1 * (-ns.sum).natAbs) else 1) * up 1 (sw (ns.map fun n => (n, n))) = _
    rw [if_neg c, h1, Int.one_mul]
  · show (if 0 < -ns.sum then 1 else ns.sum ^ (1 * (-ns.sum).natAbs)) * dn 1 (sw (ns.map fun n => (n, n))) = _
    rw [if_neg c, h2, Int.mul_one, show 1 * (-ns.sum).natAbs = ns.sum.toNat by omega]
section
variable {P : Program} {w : World} {K : PySem.W.Frag} {mg : Str → Option Value} {base : Heap}
def spBounded (K : PySem.W.Frag) : Sp := fun vs H Q _ => ∃ (a : Addr) (v : V) (ns : List Int), vs = [.ref a, v] ∧ SqT K H a (ns.map V.int) ∧ Cts ns ∧ ns.sum ≤ 60 ∧ Val K H v ns.sum (lg (sprM ns)) ∧ ∀ H', Same H H' → Q (.bl true) H'
theorem ca_L_is_bounded (T : Tx K mg) : Ca P w K mg base 8 "_law_is_bounded" s_L_is_bounded ["_law_counts", "_law_told"] (spBounded K) := by
  have C_amount_of := ca_amount_of (P := P) (w := w) (base := base) T
  have C_sign_of := ca_sign_of (P := P) (w := w) (base := base) T
  have C_is_below := ca_is_below (P := P) (w := w) (base := base) T
  refine Ca.of (fd_L_is_bounded T) sc_L_is_bounded ?_ ?_
  · rintro vs H Q E ⟨a, v, ns, rfl, _⟩; rfl
  · rintro f cdv A out s H vs Q E hr ⟨a, v, ns, rfl, hT, ct, h60, hV, q⟩
    refine ⟨_, (pss_cons (ps_set (i := 2) sc_L_is_bounded.nd rfl (.inl rfl) (pe_ca C_amount_of hr (pa_cons (pe_callB call_len_seq (by rfl) T.f_len (by decide +kernel) (pa_cons (pv 0) pa_nil)) pa_nil)))
 (pss_cons (ps_if (PW.pt (pw_or (pt_cmpR op_ne (pe_ca C_sign_of hr (pa_cons (pv 1) pa_nil)) (pe_callTy call_int1 (by rfl) T.f_int (by decide +kernel) (pa_cons (pe_cmpR op_gt (pe_callB call_len_seq (by rfl) T.f_len (by decide +kernel) (pa_cons (pv 0) pa_nil)) pe_int (nomark _)) pa_nil)) (nomark _)) (pw_or1 (pt_val (pe_ca C_is_below hr (pa_cons (pv 2) (pa_cons (pv 1) pa_nil)))))))
 (pss_one (ps_ret pe_bl))
 pss_nil)
 (pss_one (ps_ret (pe_cmpR op_eq (pe_ca C_is_below hr (pa_cons (pv 1) (pa_cons (pv 2) pa_nil))) (pe_cmpR op_lt (pe_callB (cr_minT rfl hr.units) (by rfl) T.f_min (by decide +kernel) (pa_cons (pv 0) pa_nil)) (pe_callB (cr_maxT rfl hr.units) (by rfl) T.f_max (by decide +kernel) (pa_cons (pv 0) pa_nil)) (nomark _)) (nomark _)))))), ?_⟩
    have l0 := ct.ne
    have l1 := ct.len
    have N0 := ct.sum_pos
    have mx : ∀ n ∈ ns, n ≤ 60 := fun n hn => by have := mem_le_sum ct.pos hn; omega
    refine ⟨_, rfl, a, _, rfl, .inr hT, ns.length, by rw [List.length_map]; rfl, l0, by omega, fun vm dm Lm H1 s1 am stm => ?_⟩
    obtain ⟨d, L, av, st⟩ := hV.same s1
    have bd := spr_bd ct
    have num60 : ∀ q ∈ sprM ns, 0 < q.2 ∧ q.2 ≤ 60 := fun q hq => by
      refine ⟨(ct.pairs.num q hq).1, ?_⟩
      rcases List.mem_cons.mp hq with e | hq
      · rw [e]; exact h60
      · obtain ⟨n, hn, rfl⟩ := List.mem_map.mp hq
        exact mx n hn
    have az := asz_spr ct
    refine ⟨_, rfl, v, d, L, 6, rfl, av, bd.ok st, fits6 st N0 num60 (by omega), fun H2 s2 => ?_⟩
    refine ⟨_, rfl, a, _, rfl, .inr (SqT.same (s1.trans s2) hT), _, _, rfl, rfl, .inr ⟨_, rfl, rfl, _, rfl, ?_⟩⟩
    have es : sgn L = if decide ((1 : Int) < ((ns.map V.int).length : Int)) = true then 1 else 0 := by
      rw [sgn_spr ct st, List.length_map]
      by_cases h : 1 < ns.length
      · rw [if_pos h, if_pos (decide_eq_true (by omega))]
      · rw [if_neg h, if_neg (fun z => h (by have := of_decide_eq_true z; omega))]
    rw [ne_no es]
    refine iteF ?_
    have k0 : (0 : Int) < ns.length := by omega
    have N1 := ct.tot
    obtain ⟨u1, u2⟩ := up_spr ct.pos N0
    obtain ⟨w1, w2⟩ := neg_up ct.pos N0
    have nk : ∀ q ∈ [(ns.sum, (ns.length : Int))], 0 < q.2 ∧ q.2 ≤ 60 := fun q hq => by rw [List.mem_singleton.mp hq]; exact ⟨k0, by show (ns.length : Int) ≤ 60; omega⟩
    have nk' : ∀ q ∈ [(-ns.sum, (ns.length : Int))], 0 < q.2 ∧ q.2 ≤ 60 := fun q hq => by rw [List.mem_singleton.mp hq]; exact ⟨k0, by show (ns.length : Int) ≤ 60; omega⟩
    have zk : asz [(ns.sum, (ns.length : Int))] = ns.sum.toNat := by show ns.sum.natAbs + 0 = _; omega
    have zk' : asz [(-ns.sum, (ns.length : Int))] = ns.sum.toNat := by show (-ns.sum).natAbs + 0 = _; omega
    have stk : St4 dm Lm ns.sum (lg [(ns.sum, (ns.length : Int))]) := St4.congr stm (by omega) fun p => by
      rw [lg_scale, Int.mul_one, Int.mul_comm]; rfl
    have neg60 : ∀ q ∈ (sprM ns).map (fun q => (-q.1, q.2)), 0 < q.2 ∧ q.2 ≤ 60 := fun q hq => by
      obtain ⟨x, hx, rfl⟩ := List.mem_map.mp hq
      exact num60 x hx
    have f1 : (fun p => lg [(ns.sum, (ns.length : Int))] p + -1 * lg (sprM ns) p) = lg ([(ns.sum, (ns.length : Int))] ++ (sprM ns).map (fun q => (-q.1, q.2))) := by
      funext p; rw [lg_append, lg_neg]
    have f2 : (fun p => lg (sprM ns) p + -1 * lg [(ns.sum, (ns.length : Int))] p) = lg (sprM ns ++ [(-ns.sum, (ns.length : Int))]) := by
      funext p; rw [lg_append, ← lg_neg]; rfl
    have n1 : ∀ q ∈ [(ns.sum, (ns.length : Int))] ++ (sprM ns).map (fun q => (-q.1, q.2)), 0 < q.2 ∧ q.2 ≤ 60 := fun q hq => by
      rcases List.mem_append.mp hq with h | h
      · exact nk q h
      · exact neg60 q h
    have n2 : ∀ q ∈ sprM ns ++ [(-ns.sum, (ns.length : Int))], 0 < q.2 ∧ q.2 ≤ 60 := fun q hq => by
      rcases List.mem_append.mp hq with h | h
      · exact num60 q h
      · exact nk' q h
    have z1 : asz ([(ns.sum, (ns.length : Int))] ++ (sprM ns).map (fun q => (-q.1, q.2))) ≤ 200 := by rw [asz_app, asz_neg, zk, az]; omega
    have z2 : asz (sprM ns ++ [(-ns.sum, (ns.length : Int))]) ≤ 200 := by rw [asz_app, zk', az]; omega
    have th : ∀ {M : List (Int × Int)}, (∀ q ∈ M, 0 < q.2 ∧ q.2 ≤ 60) → ∀ q ∈ M, 0 < q.2 ∧ q.2 ≤ 1000 := fun h q hq => ⟨(h q hq).1, by have := (h q hq).2; omega⟩
    have bdk : Bd ns.sum (lg [(ns.sum, (ns.length : Int))]) := bd_lg N0 (by omega) (th nk) (by omega)
    have vk : Val K H2 vm ns.sum (lg [(ns.sum, (ns.length : Int))]) := ⟨dm, Lm, am.same s2, stk⟩
    have vt : Val K H2 v ns.sum (lg (sprM ns)) := ⟨d, L, av.same s2, st⟩
    refine ⟨_, rfl, _, rfl, vm, v, ns.sum, _, _, 6, rfl, vk, vt, bdk, bd, by rw [f1]; exact bd_lg N0 (by omega) (th n1) (by omega), fun d' L' st' => by rw [f1] at st'; exact fits6 st' N0 n1 z1, fun d' L' H3 s3 st' => ?_⟩
    rw [f1] at st'
    have c1 := (cmp_up st' N0 fun q hq => (n1 q hq).1).1
    rw [sw_app, up_app, dn_app, w1, w2] at c1
    have p1 : up 1 (sw [(ns.sum, (ns.length : Int))]) = (ns.length : Int) ^ ns.sum.toNat := by
      show (if 0 < ns.sum then (ns.length : Int) ^ (1 * ns.sum.natAbs) else 1) * 1 = _
      rw [if_pos N0, Int.mul_one, show 1 * ns.sum.natAbs = ns.sum.toNat by omega]
    have p2 : dn 1 (sw [(ns.sum, (ns.length : Int))]) = 1 := by
      show (if 0 < ns.sum then 1 else (ns.length : Int) ^ (1 * ns.sum.natAbs)) * 1 = _
      rw [if_pos N0]; rfl
    rw [p1, p2, Int.one_mul] at c1
    obtain ⟨en1, en2⟩ := ent_le ct.pos
    have no : decide (up 1 L' < dn 1 L') = false := decide_eq_false fun z => by have := c1.mp z; omega
    rw [no]
    refine ⟨false, rfl, iteF ?_⟩
    refine ⟨_, rfl, _, rfl, v, vm, ns.sum, _, _, 6, rfl, vt.same s3, vk.same s3, bd, bdk, by rw [f2]; exact bd_lg N0 (by omega) (th n2) (by omega), fun d' L' st' => by rw [f2] at st'; exact fits6 st' N0 n2 z2, fun d2 L2 H4 s4 st2 => ?_⟩
    rw [f2] at st2
    have c2 := (cmp_up st2 N0 fun q hq => (n2 q hq).1).1
    rw [sw_app, up_app, dn_app, u1, u2] at c2
    have p3 : up 1 (sw [(-ns.sum, (ns.length : Int))]) = 1 := by
      show (if 0 < -ns.sum then (ns.length : Int) ^ (1 * (-ns.sum).natAbs) else 1) * 1 = _
      rw [if_neg (by omega)]; rfl
    have p4 : dn 1 (sw [(-ns.sum, (ns.length : Int))]) = (ns.length : Int) ^ ns.sum.toNat := by
      show (if 0 < -ns.sum then 1 else (ns.length : Int) ^ (1 * (-ns.sum).natAbs)) * 1 = _
      rw [if_neg (by omega), Int.mul_one, show 1 * (-ns.sum).natAbs = ns.sum.toNat by omega]
    rw [p3, p4, Int.mul_one, Int.mul_comm (ee ns)] at c2
    have s14 := ((s1.trans s2).trans s3).trans s4
    obtain ⟨n, r, en⟩ : ∃ n r, ns = n :: r := by
      cases hh : ns with
      | nil => rw [hh] at l0; exact absurd l0 (by decide)
      | cons n r => exact ⟨n, r, rfl⟩
    have hT4 : SqT K H4 a ((n :: r).map V.int) := by rw [← en]; exact SqT.same s14 hT
    have fine : decide (up 1 L2 < dn 1 L2) = decide (r.foldl min n < r.foldl max n) := by
      apply decide_eq_decide.mpr
      rw [c2, min_lt_max, ← en]
      constructor
      · intro z all
        obtain ⟨c, hc⟩ : ∃ c, ∀ x ∈ ns, x = c := ⟨n, fun x hx => all x hx n (by rw [en]; exact List.mem_cons_self)⟩
        have := ent_eq ct.pos c hc (by rw [en]; exact fun z => nomatch z)
        omega
      · intro z
        apply Classical.byContradiction
        intro y
        exact z (en2 (by omega))
    refine ⟨_, rfl, a, n, r, rfl, hT4, _, rfl, a, n, r, rfl, hT4, _, _, rfl, rfl, rfl, ?_⟩
    have e : decide (V.bl (decide (up 1 L2 < dn 1 L2)) = V.bl (decide (r.foldl min n < r.foldl max n))) = true := by rw [fine]; simp
    have z := q H4 s14
    rw [← e] at z
    exact z
end
end K06

namespace K06
open PySem PySem.Spec PyProof.Rows L2 Ly Am
/-! sums over counts -/
def sv (p : Int) (ns : List Int) : Int := (ns.map fun n => n * vi p n).sum
theorem sv_cons (p n : Int) (r : List Int) : sv p (n :: r) = n * vi p n + sv p r := by unfold sv; rw [List.map_cons, List.sum_cons]
theorem sv_append (p : Int) (a b : List Int) : sv p (a ++ b) = sv p a + sv p b := by unfold sv; rw [List.map_append, List.sum_append]
theorem sv_perm (p : Int) {a b : List Int} (h : a.Perm b) : sv p a = sv p b := by
  induction h with
  | nil => rfl
  | cons x _ ih => rw [sv_cons, sv_cons, ih]
  | swap x y l => rw [sv_cons, sv_cons, sv_cons, sv_cons]; omega
  | trans _ _ i1 i2 => rw [i1, i2]
theorem sum_perm {a b : List Int} (h : a.Perm b) : a.sum = b.sum := by
  induction h with
  | nil => rfl
  | cons x _ ih => rw [List.sum_cons, List.sum_cons, ih]
  | swap x y l => rw [List.sum_cons, List.sum_cons, List.sum_cons, List.sum_cons]; omega
  | trans _ _ i1 i2 => rw [i1, i2]
theorem lg_spr {p : Nat} (hp : Pr p) (ns : List Int) : lg (sprM ns) p = ns.sum * vi p ns.sum - sv p ns := by
  rw [lg_pr _ hp]
  unfold sprM sv
  rw [List.map_cons, List.sum_cons, List.map_map]
  have : ∀ l : List Int, (l.map ((fun q : Int × Int => q.1 * vi p q.2) ∘ fun n => (-n, n))).sum = -(l.map fun n => n * vi p n).sum := by
    intro l
    induction l with
    | nil => rfl
    | cons x r ih =>
      rw [List.map_cons, List.sum_cons, ih, List.map_cons, List.sum_cons]
      show -x * vi p x + _ = _
      rw [Int.neg_mul]; omega
  rw [this]
  show ns.sum * vi p ns.sum + _ = _
  omega
/-- as soon as it holds for the primes -/
theorem by_primes {A B : Int → Int} (h0 : ∀ p : Int, (¬ ∃ n : Nat, p = n ∧ Pr n) → A p = B p) (h : ∀ p : Nat, Pr p → A p = B p) : ∀ p, A p = B p := by
  intro p
  by_cases e : ∃ n : Nat, p = n ∧ Pr n
  · obtain ⟨n, rfl, pr⟩ := e; exact h n pr
  · exact h0 p e
theorem spr_perm {a b : List Int} (h : a.Perm b) (p : Int) : lg (sprM a) p = lg (sprM b) p :=
  by_primes (A := lg (sprM a)) (B := lg (sprM b)) (fun p z => by rw [lg_no _ z, lg_no _ z]) (fun p hp => by rw [lg_spr hp, lg_spr hp, sum_perm h, sv_perm _ h]) p
theorem sum_flatten : ∀ ps : List (List Int), ps.flatten.sum = (ps.map fun q => q.sum).sum
  | [] => rfl
  | q :: r => by rw [List.flatten_cons, List.sum_append, List.map_cons, List.sum_cons, sum_flatten r]
theorem put_id {ns : List Int} {ps : List (List Int)} (h : ns.Perm ps.flatten) (p : Int) : lg (sprM ns) p = lg (sprM (ps.map fun q => q.sum)) p + (ps.map fun q => lg (sprM q) p).sum := by
  refine by_primes (A := lg (sprM ns)) (B := fun p => lg (sprM (ps.map fun q => q.sum)) p + (ps.map fun q => lg (sprM q) p).sum) (fun p z => ?_) (fun p hp => ?_) p
  · show _ = lg _ p + _
    rw [lg_no _ z, lg_no _ z]
    have : ∀ l : List (List Int), (l.map fun q => lg (sprM q) p).sum = 0 := by
      intro l
      induction l with
      | nil => rfl
      | cons x r ih => rw [List.map_cons, List.sum_cons, ih, lg_no _ z]; rfl
    rw [this]; rfl
  · show _ = lg _ p + _
    rw [lg_spr hp, lg_spr hp, sum_perm h, sv_perm _ h, sum_flatten]
    have : ∀ l : List (List Int), sv p (l.map fun q => q.sum) - sv p l.flatten = (l.map fun q => lg (sprM q) p).sum := by
      intro l
      induction l with
      | nil => rfl
      | cons x r ih => rw [List.map_cons, sv_cons, List.flatten_cons, sv_append, List.map_cons, List.sum_cons, lg_spr hp, ← ih]; omega
    rw [← this]; omega
theorem flat_lg (ps : List (List Int)) (p : Int) : lg ((ps.map sprM).flatten) p = (ps.map fun q => lg (sprM q) p).sum := by
  induction ps with
  | nil => exact lg_nil p
  | cons x r ih => rw [List.map_cons, List.flatten_cons, lg_append, ih, List.map_cons, List.sum_cons]
theorem sv_scale {p : Nat} (hp : Pr p) {c : Int} (hc : 0 < c) {ns : List Int} (h : ∀ n ∈ ns, 0 < n) : sv p (ns.map fun n => c * n) = c * (ns.sum * vi p c + sv p ns) ∧ (ns.map fun n => c * n).sum = c * ns.sum := by
  induction ns with
  | nil => exact ⟨by show (0 : Int) = c * (0 * vi p c + 0); simp, by show (0 : Int) = c * 0; simp⟩
  | cons x r ih =>
    obtain ⟨i1, i2⟩ := ih fun y hy => h y (List.mem_cons_of_mem _ hy)
    have x0 := h x List.mem_cons_self
    rw [List.map_cons]
    refine ⟨?_, by rw [List.sum_cons, i2, List.sum_cons, Int.mul_add]⟩
    rw [sv_cons, i1, List.sum_cons, sv_cons, vi_mul hp hc x0]
    generalize vi p c = u
    generalize vi p x = w
    generalize sv p r = t
    generalize r.sum = s
    simp only [Int.mul_add, Int.add_mul, Int.mul_assoc, Int.mul_comm, Int.mul_left_comm, Int.add_assoc, Int.add_comm, Int.add_left_comm]
theorem spr_scale {c : Int} (hc : 0 < c) {ns : List Int} (h : ∀ n ∈ ns, 0 < n) (hN : 0 < ns.sum) (p : Int) : lg (sprM (ns.map fun n => c * n)) p * ns.sum = lg (sprM ns) p * (ns.map fun n => c * n).sum := by
  refine by_primes (A := fun p => lg (sprM (ns.map fun n => c * n)) p * ns.sum) (B := fun p => lg (sprM ns) p * (ns.map fun n => c * n).sum) (fun p z => ?_) (fun p hp => ?_) p
  · show lg _ p * _ = lg _ p * _
    rw [lg_no _ z, lg_no _ z]; simp
  · show lg _ p * _ = lg _ p * _
    obtain ⟨e1, e2⟩ := sv_scale hp hc h
    rw [lg_spr hp, lg_spr hp, e1, e2, vi_mul hp hc hN]
    generalize vi p c = u
    generalize vi p ns.sum = w
    generalize sv p ns = t
    generalize ns.sum = s
    simp only [Int.sub_mul, Int.mul_sub, Int.mul_add, Int.add_mul, Int.mul_assoc, Int.mul_comm, Int.mul_left_comm]
    omega
theorem prod_row {p : Nat} (hp : Pr p) {a : Int} (ha : 0 < a) {bs : List Int} (h : ∀ n ∈ bs, 0 < n) : sv p (bs.map fun n => a * n) = a * vi p a * bs.sum + a * sv p bs ∧ (bs.map fun n => a * n).sum = a * bs.sum := by
  obtain ⟨e1, e2⟩ := sv_scale hp ha h
  refine ⟨?_, e2⟩
  rw [e1]
  generalize vi p a = u
  generalize sv p bs = t
  generalize bs.sum = s
  simp only [Int.mul_add, Int.mul_assoc, Int.mul_comm, Int.mul_left_comm]
/-- all products, row by row -/
def prods (as bs : List Int) : List Int := as.flatMap fun a => bs.map fun b => a * b
theorem prods_sum (as bs : List Int) : (prods as bs).sum = as.sum * bs.sum := by
  induction as with
  | nil => show (0 : Int) = 0 * _; simp
  | cons x r ih =>
    have e : prods (x :: r) bs = bs.map (fun b => x * b) ++ prods r bs := rfl
    have e2 : ∀ l : List Int, (l.map fun b => x * b).sum = x * l.sum := by
      intro l
      induction l with
      | nil => simp
      | cons y t ih => rw [List.map_cons, List.sum_cons, ih, List.sum_cons, Int.mul_add]
    rw [e, List.sum_append, ih, e2, List.sum_cons, Int.add_mul]
theorem prods_sv {p : Nat} (hp : Pr p) {as bs : List Int} (ha : ∀ n ∈ as, 0 < n) (hb : ∀ n ∈ bs, 0 < n) : sv p (prods as bs) = sv p as * bs.sum + as.sum * sv p bs := by
  induction as with
  | nil => show (0 : Int) = 0 * _ + 0 * _; simp
  | cons x r ih =>
    have e : prods (x :: r) bs = bs.map (fun b => x * b) ++ prods r bs := rfl
    rw [e, sv_append, ih fun y hy => ha y (List.mem_cons_of_mem _ hy), (prod_row hp (ha x List.mem_cons_self) hb).1, sv_cons, List.sum_cons, Int.add_mul, Int.add_mul]
    omega
theorem spr_prod {as bs : List Int} (ha : ∀ n ∈ as, 0 < n) (hb : ∀ n ∈ bs, 0 < n) (sa : 0 < as.sum) (sb : 0 < bs.sum) (p : Int) : lg (sprM (prods as bs)) p = lg (sprM as) p * bs.sum + lg (sprM bs) p * as.sum := by
  refine by_primes (A := lg (sprM (prods as bs))) (B := fun p => lg (sprM as) p * bs.sum + lg (sprM bs) p * as.sum) (fun p z => ?_) (fun p hp => ?_) p
  · show _ = lg _ p * _ + lg _ p * _
    rw [lg_no _ z, lg_no _ z, lg_no _ z]; simp
  · show _ = lg _ p * _ + lg _ p * _
    rw [lg_spr hp, lg_spr hp, lg_spr hp, prods_sum, prods_sv hp ha hb, vi_mul hp sa sb]
    generalize vi p as.sum = u
    generalize vi p bs.sum = w
    generalize sv p as = t
    generalize sv p bs = t2
    generalize as.sum = s
    generalize bs.sum = s2
    simp only [Int.sub_mul, Int.mul_sub, Int.mul_add, Int.add_mul, Int.mul_assoc, Int.mul_comm, Int.mul_left_comm]
    omega
theorem spr_ones (m : Nat) (p : Int) : lg (sprM (List.replicate m 1)) p * 1 = lo1 m p * m := by
  refine by_primes (A := fun p => lg (sprM (List.replicate m 1)) p * 1) (B := fun p => lo1 m p * m) (fun p z => ?_) (fun p hp => ?_) p
  · show lg _ p * 1 = lg _ p * _
    rw [lg_no _ z, lg_no _ z]; simp
  · show lg _ p * 1 = lg _ p * _
    have e1 : (List.replicate m (1 : Int)).sum = m := by rw [sumI_rep]; simp
    have e2 : sv p (List.replicate m 1) = 0 := by
      clear e1
      induction m with
      | zero => rfl
      | succ j ih => rw [List.replicate_succ, sv_cons, ih, vi_one hp]; rfl
    rw [lg_spr hp, lg_pr _ hp, e1, e2]
    simp [Int.mul_comm]
theorem spr_lone (n : Int) (p : Int) : lg (sprM [n]) p = 0 := by
  refine by_primes (A := lg (sprM [n])) (B := fun _ => 0) (fun p z => lg_no _ z) (fun p hp => ?_) p
  show _ = (0 : Int)
  rw [lg_spr hp, sv_cons]
  show (n + 0) * vi p (n + 0) - (n * vi p n + 0) = 0
  rw [Int.add_zero]; omega
theorem asz_flat (ps : List (List Int)) (h : ∀ q ∈ ps, Cts q) : asz ((ps.map sprM).flatten) = 2 * (ps.map fun q : List Int => q.sum).sum.toNat := by
  induction ps with
  | nil => rfl
  | cons x r ih =>
    have hx := h x List.mem_cons_self
    have s0 := hx.sum_pos
    have s1 : 0 ≤ (r.map fun q : List Int => q.sum).sum := by
      have : ∀ l : List (List Int), (∀ q ∈ l, Cts q) → 0 ≤ (l.map fun q : List Int => q.sum).sum := by
        intro l hl
        induction l with
        | nil => exact Int.le_refl _
        | cons y t ih2 =>
          have := (hl y List.mem_cons_self).sum_pos
          have := ih2 fun z hz => hl z (List.mem_cons_of_mem _ hz)
          rw [List.map_cons, List.sum_cons]; omega
      exact this r fun y hy => h y (List.mem_cons_of_mem _ hy)
    rw [List.map_cons, List.flatten_cons, asz_app, ih fun y hy => h y (List.mem_cons_of_mem _ hy), asz_spr hx, List.map_cons, List.sum_cons]
    omega
end K06

namespace K06
open PySem PySem.Spec PyProof.Rows L2 Ly Am
/-- the counts whose key is j -/
def part (ks ns : List Int) (j : Nat) : List Int := ((ks.zip ns).filter fun z => decide (z.1 = (j : Int))).map (·.2)
theorem part_snoc {ks ns : List Int} {j i : Nat} {k n : Int} (hk : ks[i]? = some k) (hn : ns[i]? = some n) : part (ks.take (i + 1)) (ns.take (i + 1)) j = if k = (j : Int) then part (ks.take i) (ns.take i) j ++ [n] else part (ks.take i) (ns.take i) j := by
  have e1 : ks.take (i + 1) = ks.take i ++ [k] := by rw [List.take_add_one, hk]; rfl
  have e2 : ns.take (i + 1) = ns.take i ++ [n] := by rw [List.take_add_one, hn]; rfl
  have l1 := (List.getElem?_eq_some_iff.mp hk).1
  have l2 := (List.getElem?_eq_some_iff.mp hn).1
  unfold part
  rw [e1, e2, List.zip_append (by rw [List.length_take, List.length_take]; omega), List.filter_append, List.map_append]
  by_cases c : k = (j : Int)
  · rw [if_pos c]; simp [c]
  · rw [if_neg c]; simp [c]
theorem part_mem {ks ns : List Int} {j : Nat} {x : Int} (h : x ∈ part ks ns j) : x ∈ ns := by
  obtain ⟨z, hz, rfl⟩ := List.mem_map.mp h
  exact (List.of_mem_zip (List.mem_filter.mp hz).1).2
theorem part_len (ks ns : List Int) (j : Nat) : (part ks ns j).length ≤ ns.length := by
  unfold part
  rw [List.length_map]
  have h1 := List.length_filter_le (fun z : Int × Int => decide (z.1 = (j : Int))) (ks.zip ns)
  rw [List.length_zip] at h1; omega
theorem part_perm : ∀ (ks ns : List Int), ks.length = ns.length → (∀ k ∈ ks, 0 ≤ k ∧ k < 3) → ns.Perm (part ks ns 0 ++ (part ks ns 1 ++ part ks ns 2))
  | [], [], _, _ => .nil
  | k :: ks, n :: ns, hl, hk => by
    have ih := part_perm ks ns (by simpa using hl) fun x hx => hk x (List.mem_cons_of_mem _ hx)
    have h0 := hk k List.mem_cons_self
    have c : ∀ j : Nat, part (k :: ks) (n :: ns) j = if k = (j : Int) then n :: part ks ns j else part ks ns j := fun j => by
      unfold part
      rw [List.zip_cons_cons, List.filter_cons]
      by_cases e : k = (j : Int)
      · rw [if_pos e, if_pos (decide_eq_true e)]; rfl
      · rw [if_neg e, if_neg (fun z => e (of_decide_eq_true z))]
    rw [c, c, c]
    have k3 : k = 0 ∨ k = 1 ∨ k = 2 := by omega
    rcases k3 with e | e | e
    · subst e
      exact List.Perm.cons n ih
    · subst e
      exact (List.Perm.cons n ih).trans List.perm_middle.symm
    · subst e
      refine (List.Perm.cons n ih).trans ?_
      rw [← List.append_assoc]
      refine List.perm_middle.symm.trans ?_
      rw [List.append_assoc]; exact List.Perm.refl _
theorem flat_filter (ps : List (List Int)) : (ps.filter fun q => decide (q ≠ [])).flatten = ps.flatten := by
  induction ps with
  | nil => rfl
  | cons x r ih =>
    rw [List.filter_cons]
    by_cases e : x = []
    · rw [if_neg (by simp [e]), ih, e]; rfl
    · rw [if_pos (by simp [e]), List.flatten_cons, ih, List.flatten_cons]
theorem eqvT_nil (cs : List Int) : PyData.eqv (.tuple (cs.map PyData.int)) (.tuple []) = decide (cs = []) := by
  cases cs with
  | nil => simp [PyData.eqv, PyData.eqvAll]
  | cons x r => simp [PyData.eqv, PyData.eqvAll]
theorem shT_ints (cs : List Int) : SeqAt.shaped (.tuple (cs.map PyData.int)) = true := by
  unfold SeqAt.shaped
  rw [PyData.canLay0, lay_ints]
  have h1 := depth_ints cs
  have h2 : (PyData.tuple (cs.map PyData.int)).depth ≤ 64 := by
    rw [PyData.depth]; omega
  rw [decide_eq_true h2]; rfl
theorem AmOk.rp {K : PySem.W.Frag} {H : Hp} {v : V} {d : Int} {L : List (Int × Int)} (ok : AmOk d L) (h : AmtAt K H v d L) :
    ∃ a, v = .ref a ∧ Dp K H (.ref a) (amtD d L) ∧ (amtD d L).showable = true ∧ (amtD d L).hasDict = false ∧ (amtD d L).depth ≤ 60 ∧ (amtD d L).shown.length ≤ sizeLine := by
  have t := amt_told (d := d) (L := L) (by have := ok.dl; have := ok.cn.d1; omega) ok.len (fun x hx => ⟨by
    obtain ⟨n, e, _, _⟩ := ok.cn.pr x hx
    have := ok.key x hx
    omega, ok.par x hx⟩)
  obtain ⟨a, b, rs, e, _⟩ := id h
  exact ⟨a, e, by rw [← e]; exact h.dp, t.show_, t.dict, by have := amt_depth d L; omega, by have := t.len; rw [sizeLine_eq]; omega⟩
section
variable {P : Program} {w : World} {K : PySem.W.Frag} {mg : Str → Option Value} {base : Heap}
def spTogether (K : PySem.W.Frag) : Sp := fun vs H Q _ => ∃ (D C a : Addr) (v : V) (n : Nat) (ns : List Int), vs = [.ref D, .ref a, v] ∧ DeckAt H D C n ∧ n < 2 ^ 29 ∧ SqT K H a (ns.map V.int) ∧ Cts ns ∧ ns.sum ≤ 60 ∧ Val K H v ns.sum (lg (sprM ns)) ∧
  ∀ H', Ot D C H H' → DeckAt H' D C (n + 50) → Q (.bl true) H'
theorem ca_L_is_put_together (T : Tx K mg) : CaG P w K mg base 9 "_law_is_put_together" s_L_is_put_together ["_law_deck_here", "_law_counts", "_law_told"] (spTogether K) := by
  have C_L_draw := ca_L_draw (P := P) (w := w) (base := base) T
  have C_plus := ca_plus (P := P) (w := w) (base := base) T
  have C_minus := ca_minus (P := P) (w := w) (base := base) T
  have C_times := ca_times (P := P) (w := w) (base := base) T
  have C_spread := ca_spread (P := P) (w := w) (base := base) T
  have C_is_below := ca_is_below (P := P) (w := w) (base := base) T
  refine CaG.of (fd_L_is_put_together T) sc_L_is_put_together ?_ ?_
  · rintro vs H Q E ⟨D, C, a, v, n, ns, rfl, _⟩; rfl
  · rintro f cdv A out s H vs Q E hgd hr ⟨D, C, a, v, n, ns, rfl, da, hn, hT, ct, h60, hV, q⟩
    refine ⟨_, (pss_cons (ps_set (i := 3) sc_L_is_put_together.nd rfl (.inr rfl) (pe_lc (own := [("_law_count", 9)]) rfl sc_L_is_put_together.nd (pi_tup (pv 1)) (blkOk_by (own := [("_law_count", 9)]) (N := n_L_is_put_together) (sc := (defScope s_L_is_put_together)) (by decide +kernel)) (fun _ _ _ _ _ => (pg_name (i := 9) sc_L_is_put_together.nd rfl (Or.inl rfl) (Or.inr rfl))) (fun _ _ _ _ _ => pts_nil) (fun _ _ _ _ _ => (pe_ca C_L_draw hr (pa_cons (pv 0) (pa_cons pe_int pa_nil))))))
 (pss_cons (ps_setLc (i := 4) (own := [("_law_at", 10)]) rfl sc_L_is_put_together.nd rfl rfl (sw_true rfl rfl rfl (by decide +kernel)) (pi_range1 (by rfl) T.f_range (pa_cons pe_int pa_nil)) (blkOk_by (own := [("_law_at", 10)]) (N := n_L_is_put_together) (sc := (defScope s_L_is_put_together)) (by decide +kernel)) (fun _ _ _ _ _ => (pg_name (i := 10) sc_L_is_put_together.nd rfl (Or.inr rfl) (Or.inl rfl))) (fun _ _ _ _ _ => pts_nil) (fun _ _ _ _ _ => (pe_callTy (call_tuple_ofK (K := K)) (by rfl) T.f_tuple (by decide +kernel) (pa_cons (pe_lc (own := [("_law_key", 11), ("_law_count", 9)]) rfl sc_L_is_put_together.nd (pi_zipM (K := K) (by rfl) T.f_zip (pa_cons (pv 3) (pa_cons (pv 1) pa_nil))) (blkOk_by (own := [("_law_key", 11), ("_law_count", 9)]) (N := n_L_is_put_together) (sc := ({ kind := .function, names := [(".0", .local), ("_law_at", .cell), ("tuple", .globalImplicit), ("zip", .globalImplicit), ("_law_counts", .cell), ("_law_keys", .cell)], isGenerator := false, isCoroutine := false } : Scope)) (by decide +kernel)) (fun _ _ _ _ _ => (pg_tupK (K := K) 2 rfl (pgs_cons (pg_name (i := 11) sc_L_is_put_together.nd rfl (Or.inl rfl) (Or.inr rfl)) (pgs_cons (pg_name (i := 9) sc_L_is_put_together.nd rfl (Or.inl rfl) (Or.inr rfl)) pgs_nil)))) (fun _ _ _ _ _ => (pts_one (pt_cmpR op_eq (pv 11) (pv 10) (nomark _)))) (fun _ _ _ _ _ => (pv 9))) pa_nil))))
 (pss_cons (ps_setLc (i := 4) (own := [("_law_part", 5)]) rfl sc_L_is_put_together.nd rfl rfl (sw_true rfl rfl rfl (by decide +kernel)) (pi_list (pv 4)) (blkOk_by (own := [("_law_part", 5)]) (N := n_L_is_put_together) (sc := (defScope s_L_is_put_together)) (by decide +kernel)) (fun _ _ _ _ _ => (pg_name (i := 5) sc_L_is_put_together.nd rfl (Or.inl rfl) (Or.inr rfl))) (fun _ _ _ _ _ => (pts_one (pt_cmpR (op_neDK hr.units (K := K)) (pv 5) (pe_tup pa_nil) (nomark _)))) (fun _ _ _ _ _ => (pv 5)))
 (pss_cons (ps_par (i := 6) (j := 7) rfl sc_L_is_put_together.nd rfl rfl (by decide) rfl rfl (pa_cons (pe_callB (cr_sumT rfl) (by rfl) T.f_sum (by decide +kernel) (pa_cons (pv 1) pa_nil)) (pa_cons (pe_tup (pa_cons pe_int (pa_cons (pe_tup pa_nil) pa_nil))) pa_nil)) rfl)
 (pss_cons (ps_for PassesOwn.never rfl (pi_list (pv 4)) (pg_name (i := 5) sc_L_is_put_together.nd rfl (.inl rfl))
 (pss_one (ps_set (i := 7) sc_L_is_put_together.nd rfl (.inl rfl) (pe_ca C_plus hr (pa_cons (pv 7) (pa_cons (pe_ca C_times hr (pa_cons (pe_ca C_spread hr (pa_cons (pv 5) pa_nil)) (pa_cons (pe_callB (cr_sumT rfl) (by rfl) T.f_sum (by decide +kernel) (pa_cons (pv 5) pa_nil)) (pa_cons (pv 6) pa_nil)))) pa_nil))))))
 (pss_cons (ps_set (i := 8) sc_L_is_put_together.nd rfl (.inl rfl) (pe_ca C_spread hr (pa_cons (pe_callTy call_tuple_of (by rfl) T.f_tuple (by decide +kernel) (pa_cons (pe_lc (own := [("_law_part", 5)]) rfl sc_L_is_put_together.nd (pi_list (pv 4)) (blkOk_by (own := [("_law_part", 5)]) (N := n_L_is_put_together) (sc := (defScope s_L_is_put_together)) (by decide +kernel)) (fun _ _ _ _ _ => (pg_name (i := 5) sc_L_is_put_together.nd rfl (Or.inl rfl) (Or.inr rfl))) (fun _ _ _ _ _ => pts_nil) (fun _ _ _ _ _ => (pe_callB (cr_sumTK rfl (K := K)) (by rfl) T.f_sum (by decide +kernel) (pa_cons (pv 5) pa_nil)))) pa_nil)) pa_nil)))
 (pss_one (ps_ret (pe_and (pe_cmpR op_eq (pe_callB (cr_repr hgd hr.units) (by rfl) T.f_repr (by decide +kernel) (pa_cons (pe_ca C_plus hr (pa_cons (pv 8) (pa_cons (pv 7) pa_nil))) pa_nil)) (pe_callB (cr_repr hgd hr.units) (by rfl) T.f_repr (by decide +kernel) (pa_cons (pv 2) pa_nil)) (nomark _)) (pe_and (pe_not (pe_ca C_is_below hr (pa_cons (pv 2) (pa_cons (pv 8) pa_nil)))) (pe_one (pe_cmpR op_eq (pe_callB (cr_repr hgd hr.units) (by rfl) T.f_repr (by decide +kernel) (pa_cons (pe_ca C_minus hr (pa_cons (pv 2) (pa_cons (pv 8) pa_nil))) pa_nil)) (pe_callB (cr_repr hgd hr.units) (by rfl) T.f_repr (by decide +kernel) (pa_cons (pv 7) pa_nil)) (nomark _))))))))))))), ?_⟩
    have l0 := ct.ne
    have l1 := ct.len
    have N0 := ct.sum_pos
    have N1 := ct.tot
    refine ⟨_, rfl, a, rfl, ⟨_, hT⟩, fun Dk nDk => ?_⟩
    have nk1 : Dk ≠ D := by rintro rfl; obtain ⟨_, _, _, h, _⟩ := da.ex; rw [h] at nDk; cases nDk
    have nk2 : Dk ≠ C := by rintro rfl; obtain ⟨_, _, _, _, h, _⟩ := da.ex; rw [h] at nDk; cases nDk
    refine lc_tup (xs := ns.map V.int) (fun i H' => ∃ ks : List Int, Ot D C H H' ∧ DeckAt H' D C (n + i) ∧ H' Dk = some (.lst (ks.map V.int)) ∧ ks.length = i ∧ ∀ k ∈ ks, 0 ≤ k ∧ k < 3) ?_ ?_ ?_ ?_
    · exact ⟨[], Ot.of (same_new nDk), da.same (same_new nDk), upd_same, rfl, by simp⟩
    · rintro i H' _ ⟨ks, ot, _⟩
      exact SqT.kp (ot.kp da) hT
    · rintro i x H' hx ⟨ks, ot, da', hD, al, ab⟩
      obtain ⟨c, hc, rfl⟩ := map_at hx
      have hi' := (List.getElem?_eq_some_iff.mp hc).1
      refine ⟨rfl, ?_⟩
      refine ⟨_, rfl, D, C, n + i, 3, rfl, da', by omega, by omega, by omega, fun z H3 z0 z1 o3 da3 => ?_⟩
      have hD3 := o3 _ _ hD nk1 nk2
      refine ⟨_, hD3, by rw [List.length_map]; exact small1000 (by omega), ks ++ [z], ?_, ?_, ?_, ?_, ?_⟩
      · intro b o e h1 h2
        have e2 := o3 _ _ (ot b o e h1 h2) h1 h2
        by_cases h : b = Dk
        · subst h; rw [nDk] at e; cases e
        · rw [upd_ne h]; exact e2
      · obtain ⟨cs, m, k, hh1, hh2, r⟩ := da3.ex
        exact ⟨cs, m, k, by rw [upd_ne (Ne.symm nk1)]; exact hh1, by rw [upd_ne (Ne.symm nk2)]; exact hh2, r⟩
      · rw [upd_same, List.map_append]; rfl
      · rw [List.length_append, al]; rfl
      · intro x hx
        rcases List.mem_append.mp hx with hx | hx
        · exact ab x hx
        · rw [List.mem_singleton.mp hx]; exact ⟨z0, z1⟩
    rintro H1 ⟨ks, ot1, da1, hK, kl, kb⟩
    rw [List.length_map] at da1 kl
    have hT1 := SqT.kp (ot1.kp da) hT
    have hV1 := hV.kp (ot1.kp da)
    -- the parts
    refine ⟨3, rfl, by omega, by omega, fun Dp nDp => ?_⟩
    refine lc_range (lo := 0) (n := (3 : Int).toNat) (fun j H' => ∃ ts : List Addr, Same H1 H' ∧ H' Dp = some (.lst (ts.map V.ref)) ∧ Paired (fun t (p : List Int) => H' t = some (.tup (p.map V.int))) ts ((List.range j).map (part ks ns))) ?_ ?_ ?_
    · exact ⟨[], same_new nDp, upd_same, .nil⟩
    · rintro j H' hj ⟨ts, sm, hDp, pt⟩
      refine ⟨rfl, ?_⟩
      refine ⟨_, rfl, _, rfl, Dk, a, _, _, rfl, sm.seq (.inl (.inl hK)), SqT.same sm hT1, fun Di nDi => ?_⟩
      have kn : ks.length = ns.length := kl
      refine lc_it (walk_zipM (xs := ks.map V.int) (ys := ns.map V.int) (n := ns.length) (by rw [List.length_map, List.length_map]; omega)) (fun i H'' => Same H' H'' ∧ H'' Di = some (.lst ((part (ks.take i) (ns.take i) j).map V.int))) ?_ ?_ ?_ ?_
      · exact ⟨same_new nDi, by rw [upd_same]; rfl⟩
      · rintro i H'' _ ⟨s2, _⟩
        exact ⟨(sm.trans s2).seq (.inl (.inl hK)), SqT.same (sm.trans s2) hT1⟩
      · rintro i x H'' H3 hi ⟨s2, hDi⟩ ⟨t, x1, x2, rfl, nt, rfl, g1, g2⟩
        obtain ⟨k, hk, rfl⟩ := map_at g1
        obtain ⟨c, hc, rfl⟩ := map_at g2
        have s3 := same_new (o := .tup [V.int k, V.int c]) nt
        refine ⟨t, _, rfl, sqT_new, rfl, _, _, rfl, _, [], rfl, rfl, rfl, ?_⟩
        refine ⟨_, rfl, _, rfl, rfl, _, rfl, ?_⟩
        have e1 : decide (V.int k = V.int (0 + (j : Int))) = decide (k = (j : Int)) := by
          apply decide_eq_decide.mpr
          rw [Int.zero_add]
          exact ⟨fun z => V.int.inj z, fun z => congrArg V.int z⟩
        rw [e1]
        have pl := part_len (ks.take i) (ns.take i) j
        have tl : (ns.take i).length ≤ ns.length := by rw [List.length_take]; omega
        by_cases z : k = (j : Int)
        · rw [decide_eq_true z]
          refine iteT ⟨_, rfl, _, s3 _ _ hDi, by rw [List.length_map]; exact small1000 (by omega), same_write nDi (s2.trans s3), ?_⟩
          rw [upd_same, part_snoc hk hc, if_pos z, List.map_append]; rfl
        · rw [decide_eq_false z]
          refine iteF ⟨s2.trans s3, ?_⟩
          rw [s3 _ _ hDi, part_snoc hk hc, if_neg z]
      · rintro H'' ⟨s2, hDi⟩
        rw [List.take_of_length_le (by omega), List.take_of_length_le (by omega)] at hDi
        refine ⟨Di, _, rfl, .inl ⟨.inl (.inl hDi), fun t nt => ?_⟩⟩
        have s3 := same_new (o := .tup ((part ks ns j).map V.int)) nt
        have s23 := s2.trans s3
        have tn : ts.length = j := by have := Paired.length pt; rw [List.length_map, List.length_range] at this; exact this
        have hj3 : j < 3 := hj
        refine ⟨_, s23 _ _ hDp, by rw [List.length_map]; exact small1000 (by omega), ts ++ [t], same_write nDp (sm.trans s23), by rw [upd_same, List.map_append]; rfl, ?_⟩
        rw [List.range_succ, List.map_append]
        have tD : t ≠ Dp := fun e => ne_of_none (s2 _ _ hDp) nt e.symm
        refine paired_snoc (by rw [upd_ne tD]; exact upd_same) (Paired.mapP pt fun r p h => ?_)
        have : r ≠ Dp := by rintro rfl; rw [hDp] at h; cases h
        rw [upd_ne this]; exact s23 _ _ h
    rintro H2 ⟨ts, s2, hDp, pt⟩
    have e3 : (List.range (3 : Int).toNat).map (part ks ns) = [part ks ns 0, part ks ns 1, part ks ns 2] := rfl
    rw [e3] at pt
    have pm := part_perm ks ns kl kb
    obtain ⟨pp, epp⟩ : ∃ pp, pp = [part ks ns 0, part ks ns 1, part ks ns 2] := ⟨_, rfl⟩
    have pm2 : ns.Perm pp.flatten := by rw [epp]; simpa using pm
    have pl3 : pp.length = 3 := by rw [epp]; rfl
    have pin : ∀ q ∈ pp, q.length ≤ ns.length ∧ ∀ x ∈ q, x ∈ ns := by
      intro q hq
      rw [epp] at hq
      have : ∃ j, q = part ks ns j := by
        rcases List.mem_cons.mp hq with e | hq
        · exact ⟨0, e⟩
        · rcases List.mem_cons.mp hq with e | hq
          · exact ⟨1, e⟩
          · exact ⟨2, List.mem_singleton.mp hq⟩
      obtain ⟨j, rfl⟩ := this
      exact ⟨part_len ks ns j, fun x hx => part_mem hx⟩
    rw [← epp] at pt
    clear epp e3 pm
    -- those that are not ()
    refine ⟨_, rfl, Dp, rfl, ⟨_, .inl (.inl hDp)⟩, fun Dq nDq => ?_⟩
    refine lc_list (xs := ts.map V.ref) (fun i H' => ∃ us : List Addr, Same H2 H' ∧ H' Dq = some (.lst (us.map V.ref)) ∧ Paired (fun t (p : List Int) => H' t = some (.tup (p.map V.int))) us ((pp.take i).filter fun q => decide (q ≠ []))) ?_ ?_ ?_ ?_
    · exact ⟨[], same_new nDq, upd_same, .nil⟩
    · rintro i H' _ ⟨_, sm, _⟩; exact sm.seq (.inl (.inl hDp))
    · rintro i x H' hx ⟨us, sm, hDq, pu⟩
      obtain ⟨r, hr1, rfl⟩ := map_at hx
      obtain ⟨p, hp, hrp⟩ := Paired.at' pt hr1
      have hrp2 := sm _ _ hrp
      have tk : pp.take (i + 1) = pp.take i ++ [p] := by rw [List.take_add_one, hp]; rfl
      have ul : us.length ≤ 3 := by
        have h1 := Paired.length pu
        have h2 := List.length_filter_le (fun q : List Int => decide (q ≠ [])) (pp.take i)
        rw [List.length_take] at h2
        omega
      refine ⟨rfl, ?_⟩
      refine ⟨_, rfl, by show 0 ≤ sizeLine; omega, fun pz nz => ?_⟩
      have sz := same_new (o := .tup []) nz
      refine ⟨.tuple (p.map PyData.int), .tuple [], .tup (.inl (.inl (sz _ _ hrp2))) (dp_ints p), .tup sqT_new .nil, shT_ints p, rfl, _, rfl, ?_⟩
      rw [eqvT_nil]
      by_cases z : p = []
      · rw [decide_eq_true z]
        refine iteF ⟨us, sm.trans sz, sz _ _ hDq, ?_⟩
        rw [tk, List.filter_append]
        have e : [p].filter (fun q : List Int => decide (q ≠ [])) = [] := by simp [z]
        rw [e, List.append_nil]
        exact Paired.mapP pu fun _ _ h => sz _ _ h
      · rw [decide_eq_false z]
        refine iteT ⟨_, rfl, _, sz _ _ hDq, by rw [List.length_map]; exact small1000 (by omega), us ++ [r], same_write nDq (sm.trans sz), by rw [upd_same, List.map_append]; rfl, ?_⟩
        rw [tk, List.filter_append]
        have e : [p].filter (fun q : List Int => decide (q ≠ [])) = [p] := by simp [z]
        rw [e]
        have keep : ∀ (t : Addr) (xs : List V), H' t = some (.tup xs) → (upd (upd H' pz (.tup [])) Dq (.lst (us.map V.ref ++ [V.ref r]))) t = some (.tup xs) := fun t xs h => by
          have : t ≠ Dq := by rintro rfl; rw [hDq] at h; cases h
          rw [upd_ne this]; exact sz _ _ h
        refine paired_snoc ?_ (Paired.mapP pu fun t q h => keep t _ h)
        exact keep _ _ hrp2
    rintro H3 ⟨us, s3, hDq, pu⟩
    have tsl : ts.length = 3 := by rw [Paired.length pt, pl3]
    rw [List.take_of_length_le (by rw [List.length_map]; omega)] at pu
    obtain ⟨ps, eps⟩ : ∃ ps, ps = pp.filter fun q => decide (q ≠ []) := ⟨_, rfl⟩
    have pm3 : ns.Perm ps.flatten := by rw [eps, flat_filter]; exact pm2
    have pne : ∀ q ∈ ps, q ≠ [] := fun q hq => by
      rw [eps] at hq
      exact of_decide_eq_true (List.mem_filter.mp hq).2
    have pin2 : ∀ q ∈ ps, q.length ≤ ns.length ∧ ∀ x ∈ q, x ∈ ns := fun q hq => by
      rw [eps] at hq
      exact pin q (List.mem_filter.mp hq).1
    have psl : ps.length ≤ 3 := by
      rw [eps]
      have := List.length_filter_le (fun q : List Int => decide (q ≠ [])) pp
      omega
    rw [← eps] at pu
    clear eps pm2 pin pt hDp
    have usl : us.length = ps.length := Paired.length pu
    have ppos : ∀ q ∈ ps, ∀ x ∈ q, 0 < x := fun q hq x hx => ct.pos x ((pin2 q hq).2 x hx)
    have sump : ∀ s ∈ ps.map (fun q => q.sum), 0 < s := fun s hs => by
      obtain ⟨q, hq, rfl⟩ := List.mem_map.mp hs
      exact sumI_pos (pne q hq) (ppos q hq)
    have sumN : (ps.map fun q => q.sum).sum = ns.sum := by rw [← sum_flatten, sum_perm pm3]
    have sumle : ∀ q ∈ ps, q.sum ≤ ns.sum := fun q hq => by
      rw [← sumN]; exact mem_le_sum sump (List.mem_map.mpr ⟨q, hq, rfl⟩)
    have ctp : ∀ q ∈ ps, Cts q := fun q hq => ⟨ppos q hq, List.length_pos_iff.mpr (pne q hq), by have := (pin2 q hq).1; omega, by have := sumle q hq; omega⟩
    have psne : ps ≠ [] := by
      rintro rfl
      have : ns.sum = 0 := by rw [← sumN]; rfl
      omega
    have cts : Cts (ps.map fun q => q.sum) := ⟨sump, by rw [List.length_map]; exact List.length_pos_iff.mpr psne, by rw [List.length_map]; omega, by rw [sumN]; omega⟩
    have s13 := s2.trans s3
    have flatnum : ∀ l : List (List Int), (∀ q ∈ l, q ∈ ps) → ∀ z ∈ (l.map sprM).flatten, 0 < z.2 ∧ z.2 ≤ 60 := by
      intro l hl z hz
      obtain ⟨m, hm, hz⟩ := List.mem_flatten.mp hz
      obtain ⟨q, hq, rfl⟩ := List.mem_map.mp hm
      have c := ctp q (hl q hq)
      have sl := sumle q (hl q hq)
      refine ⟨(c.pairs.num z hz).1, ?_⟩
      rcases List.mem_cons.mp hz with e | hz
      · rw [e]; show q.sum ≤ 60; omega
      · obtain ⟨n, hn, rfl⟩ := List.mem_map.mp hz
        have := mem_le_sum c.pos hn
        show n ≤ 60; omega
    have flatbd : ∀ l : List (List Int), (∀ q ∈ l, q ∈ ps) → l.length ≤ 3 → Bd ns.sum (lg ((l.map sprM).flatten)) := by
      intro l hl h3
      refine bd_lg N0 (by omega) (fun z hz => ⟨(flatnum l hl z hz).1, by have := (flatnum l hl z hz).2; omega⟩) ?_
      rw [asz_flat l fun q hq => ctp q (hl q hq)]
      have := sum_le_mul (l.map fun q => q.sum) 60 (by
        intro s hs
        obtain ⟨q, hq, rfl⟩ := List.mem_map.mp hs
        have := sumle q (hl q hq); omega)
      rw [List.length_map] at this
      omega
    have tmem : ∀ i, ∀ q ∈ ps.take i, q ∈ ps := fun i q hq => List.mem_of_mem_take hq
    -- total, left
    have z2 : 2 ≤ sizeLine := by rw [sizeLine_eq]; omega
    refine ⟨_, rfl, a, ns, rfl, SqT.same s13 hT1, by show 0 ≤ sizeLine; omega, fun t0 nt0 => ⟨z2, fun t1 nt1 => ?_⟩⟩
    have w0 := same_new (o := .tup []) nt0
    have w1 := same_new (o := .tup [V.int 1, V.ref t0]) nt1
    have zero : Val K (upd (upd H3 t0 (.tup [])) t1 (.tup [V.int 1, V.ref t0])) (.ref t1) ns.sum (lg (((ps.take 0).map sprM).flatten)) := by
      refine ⟨1, [], ⟨t1, t0, [], rfl, sqT_new, SqT.same w1 sqT_new, .nil⟩, ⟨by omega, .nil, by simp, by simp, rfl⟩, fun p => ?_⟩
      rw [List.take_zero]
      show (0 : Int) * _ = lg [] p * 1
      rw [lg_nil]; simp
    refine ⟨_, _, rfl, ?_⟩
    have w01 := w0.trans w1
    generalize upd (upd H3 t0 (.tup [])) t1 (.tup [V.int 1, V.ref t0]) = H4 at *
    have hDq4 := w01 _ _ hDq
    have pu4 : Paired (fun t (p : List Int) => H4 t = some (.tup (p.map V.int))) us ps := Paired.mapP pu fun _ _ h => w01 _ _ h
    refine ⟨_, rfl, Dq, rfl, ⟨_, .inl (.inl hDq4)⟩, ?_⟩
    refine for_list (xs := us.map V.ref) (fun i σ H' => ∃ y5 vl, σ = [some (.ref D), some (.ref a), some v, some (.ref Dk), some (.ref Dq), y5, some (.int ns.sum), some vl, none, none, none, none] ∧ Same H4 H' ∧ Val K H' vl ns.sum (lg (((ps.take i).map sprM).flatten))) ⟨none, _, rfl, Same.refl H4, zero⟩ ?_ ?_ ?_
    · rintro i σ H' _ ⟨_, _, _, sm, _⟩; exact sm.seq (.inl (.inl hDq4))
    · rintro i x σ H' hx ⟨y5, vl, rfl, sm, Vl⟩
      obtain ⟨r, hr1, rfl⟩ := map_at hx
      obtain ⟨p, hp, hrp⟩ := Paired.at' pu4 hr1
      have pmem := List.mem_of_getElem? hp
      have cp := ctp p pmem
      have S0 := cp.sum_pos
      have Sle := sumle p pmem
      have hrp2 : SqT K H' r (p.map V.int) := .inl (.inl (sm _ _ hrp))
      have tk : ps.take (i + 1) = ps.take i ++ [p] := by rw [List.take_add_one, hp]; rfl
      have til : (ps.take i).length ≤ 3 := by rw [List.length_take]; omega
      refine ⟨_, rfl, _, rfl, r, p, rfl, hrp2, cp, fun n hn => by have := mem_le_sum cp.pos hn; omega, fun v1 d1 L1 H5 s5 am1 st1 => ?_⟩
      refine ⟨_, rfl, r, p, rfl, SqT.same s5 hrp2, _, rfl, v1, p.sum, lg (sprM p), p.sum, ns.sum, rfl, ⟨d1, L1, am1, st1⟩, spr_bd cp, S0, by omega, N0, N1, fun v2 H6 s6 V2 => ?_⟩
      have V2' : Val K H6 v2 ns.sum (lg (sprM p)) := V2.congr (Int.mul_pos S0 N0) fun q => by
        show lg (sprM p) q * p.sum * ns.sum = lg (sprM p) q * (p.sum * ns.sum)
        rw [Int.mul_assoc]
      have s56 := s5.trans s6
      have bp : Bd ns.sum (lg (sprM p)) := by
        have := flatbd [p] (fun q hq => by rw [List.mem_singleton.mp hq]; exact pmem) (by show 1 ≤ 3; omega)
        have e : ([p].map sprM).flatten = sprM p := by simp
        rwa [e] at this
      refine ⟨vl, v2, ns.sum, _, _, rfl, Vl.same s56, V2', flatbd _ (tmem i) til, bp, fun v3 H7 s7 V3 => ⟨some (.ref r), v3, rfl, (sm.trans s56).trans s7, ?_⟩⟩
      have e : (fun q => lg (((ps.take i).map sprM).flatten) q + 1 * lg (sprM p) q) = lg (((ps.take (i + 1)).map sprM).flatten) := by
        funext q
        rw [tk, List.map_append, List.flatten_append, lg_append, Int.one_mul]
        simp
      rw [e] at V3
      exact V3
    · rintro σ H' ⟨y5, vl, rfl, sm, Vl⟩
      rw [List.length_map, usl, List.take_of_length_le (Nat.le_refl _)] at Vl
      have s14 := s13.trans (w01.trans sm)
      have hDq5 := sm _ _ hDq4
      have pu5 : Paired (fun t (p : List Int) => H' t = some (.tup (p.map V.int))) us ps := Paired.mapP pu4 fun _ _ h => sm _ _ h
      -- near
      refine ⟨_, rfl, Dq, rfl, ⟨_, .inl (.inl hDq5)⟩, fun Ds nDs => ?_⟩
      refine lc_list (xs := us.map V.ref) (fun i H'' => Same H' H'' ∧ H'' Ds = some (.lst (((ps.map fun q => q.sum).take i).map V.int))) ?_ ?_ ?_ ?_
      · exact ⟨same_new nDs, upd_same⟩
      · rintro i H'' _ ⟨sm2, _⟩; exact sm2.seq (.inl (.inl hDq5))
      · rintro i x H'' hx ⟨sm2, hDs⟩
        obtain ⟨r, hr1, rfl⟩ := map_at hx
        obtain ⟨p, hp, hrp⟩ := Paired.at' pu5 hr1
        have hps : (ps.map fun q => q.sum)[i]? = some p.sum := by rw [List.getElem?_map, hp]; rfl
        refine ⟨rfl, ?_⟩
        refine ⟨_, rfl, r, p, rfl, .inl (.inl (sm2 _ _ hrp)), _, hDs, ?_, same_write nDs sm2, ?_⟩
        · rw [List.length_map, List.length_take, List.length_map]; exact small1000 (by omega)
        · rw [upd_same, List.take_add_one, hps, List.map_append]; rfl
      · rintro H'' ⟨sm2, hDs⟩
        rw [List.length_map, usl, List.take_of_length_le (by rw [List.length_map]; exact Nat.le_refl _)] at hDs
        refine ⟨Ds, _, rfl, .inl ⟨.inl (.inl hDs), fun t nt => ?_⟩⟩
        have s3' := same_new (o := .tup ((ps.map fun q => q.sum).map V.int)) nt
        refine ⟨t, ps.map fun q => q.sum, rfl, sqT_new, cts, fun n hn => by have := mem_le_sum sump hn; omega, fun vn dn' Ln H5 s5 amn stn => ?_⟩
        have s15 := (s14.trans sm2).trans (s3'.trans s5)
        have s45 := (sm2.trans s3').trans s5
        rw [sumN] at stn
        have bdn : Bd ns.sum (lg (sprM (ps.map fun q => q.sum))) := by have := spr_bd cts; rwa [sumN] at this
        have bdl : Bd ns.sum (lg ((ps.map sprM).flatten)) := flatbd ps (fun _ h => h) psl
        have bdt := spr_bd ct
        have Vn : Val K H5 vn ns.sum (lg (sprM (ps.map fun q => q.sum))) := ⟨dn', Ln, amn, stn⟩
        have Vl5 := Vl.same s45
        obtain ⟨dl, Ll, aml, stl⟩ := id Vl5
        have Vt5 := hV1.same s15
        obtain ⟨dt, Lt, amt, stt⟩ := id Vt5
        refine ⟨_, rfl, _, rfl, vn, vl, ns.sum, _, _, rfl, Vn, Vl5, bdn, bdl, fun vp H6 s6 ⟨dp, Lp, amp, stp⟩ => ?_⟩
        have u1 := St4.unique stp stt N0 N0 fun p => by
          have := put_id pm3 p
          rw [this, flat_lg, Int.one_mul]
        obtain ⟨e1, e2⟩ := u1
        subst e1 e2
        have okt := bdt.ok stt
        obtain ⟨ra1, re1, rb1, rc1, rd1, rf1, rg1⟩ := AmOk.rp okt amp
        obtain ⟨ra2, re2, rb2, rc2, rd2, rf2, rg2⟩ := AmOk.rp okt (amt.same s6)
        refine ⟨ra1, _, by rw [re1], rb1, rc1, rd1, rf1, rg1, ?_⟩
        refine ⟨_, rfl, ra2, _, by rw [re2], rb2, rc2, rd2, rf2, rg2, ?_⟩
        refine ⟨rfl, true, by simp, iteT ?_⟩
        -- not below
        have A1 : ∀ q ∈ ns.map (fun n => (-n, n)), 0 < q.2 ∧ q.2 ≤ 60 := fun q hq => by
          obtain ⟨n, hn, rfl⟩ := List.mem_map.mp hq
          have := mem_le_sum ct.pos hn
          exact ⟨ct.pos n hn, by show n ≤ 60; omega⟩
        have A2 : ∀ q ∈ (ps.map fun q => q.sum).map (fun n => (n, n)), 0 < q.2 ∧ q.2 ≤ 60 := fun q hq => by
          obtain ⟨n, hn, rfl⟩ := List.mem_map.mp hq
          have := mem_le_sum sump hn
          exact ⟨sump n hn, by show n ≤ 60; omega⟩
        have A3 : ∀ q ∈ ns.map (fun n => (-n, n)) ++ (ps.map fun q => q.sum).map (fun n => (n, n)), 0 < q.2 ∧ q.2 ≤ 60 := fun q hq => by
          rcases List.mem_append.mp hq with h | h
          · exact A1 q h
          · exact A2 q h
        have fe : (fun p => lg (sprM ns) p + -1 * lg (sprM (ps.map fun q => q.sum)) p) = lg (ns.map (fun n => (-n, n)) ++ (ps.map fun q => q.sum).map (fun n => (n, n))) := by
          funext p
          have h1 : lg (sprM ns) p = lg [(ns.sum, ns.sum)] p + lg (ns.map fun n => (-n, n)) p := lg_append [(ns.sum, ns.sum)] _ p
          have h2 : -1 * lg (sprM (ps.map fun q => q.sum)) p = lg [(-ns.sum, ns.sum)] p + lg ((ps.map fun q => q.sum).map fun n => (n, n)) p := by
            rw [← lg_neg, neg_spr, sumN]
            exact lg_append [(-ns.sum, ns.sum)] _ p
          have h3 : lg [(-ns.sum, ns.sum)] p = -1 * lg [(ns.sum, ns.sum)] p := lg_neg [(ns.sum, ns.sum)] p
          rw [h1, h2, h3, lg_append]; omega
        have az1 := asz_spr ct
        have az2 := asz_spr cts
        rw [sumN] at az2
        have z0 : asz (ns.map (fun n => (-n, n)) ++ (ps.map fun q => q.sum).map (fun n => (n, n))) ≤ 200 := by
          have g1 : asz (sprM ns) = ns.sum.natAbs + asz (ns.map fun n => (-n, n)) := by unfold sprM asz; rw [List.map_cons, List.sum_cons]
          have g2 : asz (sprM (ps.map fun q => q.sum)) = ns.sum.natAbs + asz ((ps.map fun q => q.sum).map fun n => (n, n)) := by
            rw [← asz_neg, neg_spr, sumN]; unfold asz; rw [List.map_cons, List.sum_cons]
            show (-ns.sum).natAbs + _ = _
            omega
          rw [asz_app]; omega
        have bdd : Bd ns.sum (lg (ns.map (fun n => (-n, n)) ++ (ps.map fun q => q.sum).map (fun n => (n, n)))) := bd_lg N0 (by omega) (fun q hq => ⟨(A3 q hq).1, by have := (A3 q hq).2; omega⟩) (by omega)
        refine ⟨_, rfl, _, rfl, v, vn, ns.sum, _, _, 6, rfl, Vt5.same s6, Vn.same s6, bdt, bdn, by rw [fe]; exact bdd, fun d' L' st' => by rw [fe] at st'; exact fits6 st' N0 A3 z0, fun d' L' H7 s7 st' => ?_⟩
        rw [fe] at st'
        have c1 := (cmp_up st' N0 fun q hq => (A3 q hq).1).1
        obtain ⟨g1, g2⟩ := dn_neg ns ct.pos
        obtain ⟨g3, g4⟩ := up_nl (ps.map fun q => q.sum) sump
        rw [sw_app, up_app, dn_app, g1, g2, g3, g4, Int.one_mul, Int.mul_one] at c1
        have le1 := ee_parts (ps := ps) fun q hq => ⟨pne q hq, ppos q hq⟩
        rw [← ee_perm pm3] at le1
        have no : decide (up 1 L' < dn 1 L') = false := decide_eq_false fun z => by have := c1.mp z; omega
        rw [no]
        refine ⟨false, rfl, true, rfl, iteT ?_⟩
        have s67 := s6.trans s7
        refine ⟨_, rfl, _, rfl, v, vn, ns.sum, _, _, rfl, Vt5.same s67, Vn.same s67, bdt, bdn, fun vm H8 s8 ⟨dm, Lm, amm, stm⟩ => ?_⟩
        have u2 := St4.unique stm stl N0 N0 fun p => by
          have := put_id pm3 p
          congr 1
          show lg (sprM ns) p + -1 * lg (sprM (ps.map fun q => q.sum)) p = _
          rw [this, flat_lg]; omega
        obtain ⟨e3, e4⟩ := u2
        subst e3 e4
        have okl := bdl.ok stl
        obtain ⟨ra3, re3, rb3, rc3, rd3, rf3, rg3⟩ := AmOk.rp okl amm
        obtain ⟨ra4, re4, rb4, rc4, rd4, rf4, rg4⟩ := AmOk.rp okl (aml.same (s67.trans s8))
        refine ⟨ra3, _, by rw [re3], rb3, rc3, rd3, rf3, rg3, ?_⟩
        refine ⟨_, rfl, ra4, _, by rw [re4], rb4, rc4, rd4, rf4, rg4, ?_⟩
        have fin := q H8 (ot1.trans (Ot.of (s15.trans (s67.trans s8)))) ((da1.mono (by omega)).same (s15.trans (s67.trans s8)))
        refine ⟨rfl, ?_⟩
        have e5 : decide (V.str (amtD dm Lm).shown = V.str (amtD dm Lm).shown) = true := by simp
        rw [e5]
        exact fin
end
end K06

namespace K06
open PySem PySem.Spec PyProof.Rows L2 Ly Am
theorem Dn.cts {most few : Int} {ns : List Int} (d : Dn most few ns) (h1 : few ≤ 40) (h2 : most ≤ 1000) : Cts ns :=
  ⟨d.lo, d.ne, by have := d.len; omega, by have := d.tot; omega⟩
theorem no_ne {x y : Str} (h : x = y) : (!decide (V.str x = V.str y)) = false := by rw [h]; simp
theorem sIx_mid {n d at_ : Nat} (h : at_ ≤ n) : HT.sIx n d (some (at_ : Int)) = at_ := by
  rw [HT.sIx_nat]; omega
theorem cut_from (cs : List Int) {at_ : Nat} (h : at_ ≤ cs.length) : cutV (cs.map V.int) (some (at_ : Int)) none = (cs.drop at_).map V.int := by
  unfold cutV
  have e1 : HT.sIx (cs.map V.int).length 0 (some (at_ : Int)) = at_ := sIx_mid (by rw [List.length_map]; exact h)
  have e2 : HT.sIx (cs.map V.int).length (cs.map V.int).length none = (cs.map V.int).length := rfl
  rw [e1, e2, List.take_of_length_le (by rw [List.length_drop]; omega), List.map_drop]
theorem cut_to (cs : List Int) {at_ : Nat} (h : at_ ≤ cs.length) : cutV (cs.map V.int) none (some (at_ : Int)) = (cs.take at_).map V.int := by
  unfold cutV
  have e1 : HT.sIx (cs.map V.int).length 0 none = 0 := rfl
  have e2 : HT.sIx (cs.map V.int).length (cs.map V.int).length (some (at_ : Int)) = at_ := sIx_mid (by rw [List.length_map]; exact h)
  rw [e1, e2, List.drop_zero, Nat.sub_zero, List.map_take]
theorem two_rp {K : PySem.W.Frag} {H : Hp} {p : Addr} {v1 v2 : V} {d1 d2 : Int} {L1 L2 : List (Int × Int)} (ok1 : AmOk d1 L1) (ok2 : AmOk d2 L2) (h1 : AmtAt K H v1 d1 L1) (h2 : AmtAt K H v2 d2 L2) (hp : SqT K H p [v1, v2]) :
    Dp K H (.ref p) (.tuple [amtD d1 L1, amtD d2 L2]) ∧ (PyData.tuple [amtD d1 L1, amtD d2 L2]).showable = true ∧ (PyData.tuple [amtD d1 L1, amtD d2 L2]).hasDict = false ∧
      (PyData.tuple [amtD d1 L1, amtD d2 L2]).depth ≤ 60 ∧ (PyData.tuple [amtD d1 L1, amtD d2 L2]).shown.length ≤ sizeLine := by
  have tl : ∀ {d : Int} {L : List (Int × Int)}, AmOk d L → Told 300000 (amtD d L) := fun {d L} ok => amt_told (by have := ok.dl; have := ok.cn.d1; omega) ok.len (fun x hx => ⟨by
    obtain ⟨n, e, _, _⟩ := ok.cn.pr x hx
    have := ok.key x hx
    omega, ok.par x hx⟩)
  have t := told_tup (c := 300000) (ds := [amtD d1 L1, amtD d2 L2]) (by
    intro y hy
    rcases List.mem_cons.mp hy with e | hy
    · rw [e]; exact tl ok1
    · rw [List.mem_singleton.mp hy]; exact tl ok2)
  refine ⟨.tup hp (.cons h1.dp (.cons h2.dp .nil)), t.show_, t.dict, ?_, ?_⟩
  · have g1 := amt_depth d1 L1
    have g2 := amt_depth d2 L2
    simp only [PyData.depth, PyData.depthAll]
    omega
  · have := t.len
    rw [sizeLine_eq]
    have e : [amtD d1 L1, amtD d2 L2].length = 2 := rfl
    rw [e] at this; omega
theorem prods_snoc (as bs : List Int) (x : Int) : prods (as ++ [x]) bs = prods as bs ++ bs.map fun n => x * n := by
  unfold prods; rw [List.flatMap_append]; simp
theorem prods_len (as bs : List Int) : (prods as bs).length = as.length * bs.length := by
  induction as with
  | nil => show 0 = 0 * _; simp
  | cons x r ih =>
    have e : prods (x :: r) bs = bs.map (fun b => x * b) ++ prods r bs := rfl
    rw [e, List.length_append, List.length_map, ih, List.length_cons, Nat.add_mul]; omega
theorem prods_pos {as bs : List Int} (ha : ∀ n ∈ as, 0 < n) (hb : ∀ n ∈ bs, 0 < n) : ∀ n ∈ prods as bs, 0 < n := by
  intro n hn
  obtain ⟨x, hx, hn⟩ := List.mem_flatMap.mp hn
  obtain ⟨y, hy, rfl⟩ := List.mem_map.mp hn
  exact Int.mul_pos (ha x hx) (hb y hy)
section
variable {P : Program} {w : World} {K : PySem.W.Frag} {mg : Str → Option Value} {base : Heap}
theorem fnG_ofN {x : Str} {st : Stmt} {N ps : List Str} {k : Nat} {sp : Sp} {f : Addr} {fd : FuncData} (F : FnP K x st f fd) (S : FnScope N ps (defScope st))
    (len : ∀ vs H Q E, sp vs H Q E → vs.length = ps.length)
    (hb : ∀ (cdv : Value) (A : Around) (out : List Env) (s : Shared) (H : Hp) (vs : List V) (Q : VK) (E : XK),
      A.guards = some [] → Room k (A.deeper (envOfC x (defScope st) s.heap.objs.size f cdv)) → sp vs H Q E →
      ∃ t, PSs (cxOf CX0 P w K mg base N x (defScope st) f cdv A out s H E).nox (defBody st) t ∧
        t { nx := fun _ H' => Q .non H', rt := Q } (start N vs) H) :
    FnG P w K mg base CX0 (k + 1) f fd ps sp := by
  refine fnG_of F S len ?_
  intro cdv A out s H vs Q E hgd hr h
  obtain ⟨t, h1, h2⟩ := hb cdv A out s H vs Q E hgd hr h
  exact ⟨t, h1.nox, h2⟩
def spLaw (K : PySem.W.Frag) : Sp := fun vs H Q _ => ∃ (a : Addr) (ns : List Int), vs = [.ref a] ∧ SqL K H a (ns.map V.int) ∧ ns.length ≤ 63 ∧ ∀ H', Q (.bl true) H'
theorem law_fn (T : Tx K mg) {f : Addr} {fd : FuncData} (F : FnP K "law" s_law f fd) : FnG P w K mg base CX0 10 f fd ["_law_script"] (spLaw K) := by
  have C_L_deck := ca_L_deck (P := P) (w := w) (base := base) T
  have C_L_draw := ca_L_draw (P := P) (w := w) (base := base) T
  have C_L_drawn := ca_L_drawn (P := P) (w := w) (base := base) T
  have C_L_stands_for := ca_L_stands_for (P := P) (w := w) (base := base) T
  have C_L_is_bounded := ca_L_is_bounded (P := P) (w := w) (base := base) T
  have C_L_is_put_together := ca_L_is_put_together (P := P) (w := w) (base := base) T
  have C_plus := ca_plus (P := P) (w := w) (base := base) T
  have C_spread := ca_spread (P := P) (w := w) (base := base) T
  have C_is_amount := ca_is_amount (P := P) (w := w) (base := base) T
  have C_amount_of := ca_amount_of (P := P) (w := w) (base := base) T
  refine fnG_ofN F sc_law ?_ ?_
  · rintro vs H Q E ⟨a, ns, rfl, _⟩; rfl
  · rintro cdv A out s H vs Q E hgd hr ⟨a, ns, rfl, hS, hl, q⟩
    refine ⟨_, (pss_cons (ps_set (i := 1) sc_law.nd rfl (.inl rfl) (pe_ca C_L_deck hr (pa_cons (pv 0) pa_nil)))
 (pss_cons (ps_set (i := 2) sc_law.nd rfl (.inl rfl) (pe_ca C_L_drawn hr (pa_cons (pv 1) (pa_cons pe_int (pa_cons pe_int pa_nil)))))
 (pss_cons (ps_set (i := 3) sc_law.nd rfl (.inl rfl) (pe_ca C_spread hr (pa_cons (pv 2) pa_nil)))
 (pss_cons (ps_if (PW.pt (pw_or (pt_cmpR op_ne (pe_callB (cr_repr hgd hr.units) (by rfl) T.f_repr (by decide +kernel) (pa_cons (pe_caK ["counts"] C_spread hr (pk_cons (pv 2) pk_nil) (fun _ _ _ _ _ _ us ws hl => match us, ws, hl with | [], [_], _ => rfl | [_], [], _ => rfl)) pa_nil)) (pe_callB (cr_repr hgd hr.units) (by rfl) T.f_repr (by decide +kernel) (pa_cons (pv 3) pa_nil)) (nomark _)) (pw_or (pt_not (pt_val (pe_ca C_L_stands_for hr (pa_cons (pv 2) (pa_cons (pv 3) pa_nil))))) (pw_or1 (pt_cmpR op_notBl (pe_ca C_is_amount hr (pa_cons (pv 3) pa_nil)) pe_bl (nomark _))))))
 (pss_one (ps_ret pe_bl))
 pss_nil)
 (pss_cons (ps_if (PW.pt (pw_or (pt_not (pt_val (pe_ca C_L_is_bounded hr (pa_cons (pv 2) (pa_cons (pv 3) pa_nil))))) (pw_or1 (pt_not (pt_val (pe_caG C_L_is_put_together hgd hr (pa_cons (pv 1) (pa_cons (pv 2) (pa_cons (pv 3) pa_nil)))))))))
 (pss_one (ps_ret pe_bl))
 pss_nil)
 (pss_cons (ps_set (i := 4) sc_law.nd rfl (.inr rfl) (pe_op op_add pe_int (pe_ca C_L_draw hr (pa_cons (pv 1) (pa_cons pe_int pa_nil)))))
 (pss_cons (ps_if (PW.pt (pw_or (pt_cmpR op_ne (pe_callB (cr_repr hgd hr.units) (by rfl) T.f_repr (by decide +kernel) (pa_cons (pe_ca C_spread hr (pa_cons (pe_callTy call_tuple_of (by rfl) T.f_tuple (by decide +kernel) (pa_cons (pe_lc (own := [("_law_count", 5)]) rfl sc_law.nd (pi_tup (pv 2)) (blkOk_by (own := [("_law_count", 5)]) (N := n_law) (sc := (defScope s_law)) (by decide +kernel)) (fun _ _ _ _ _ => (pg_name (i := 5) sc_law.nd rfl (Or.inl rfl) (Or.inr rfl))) (fun _ _ _ _ _ => pts_nil) (fun _ _ _ _ _ => (pe_op op_mulW (pv 4) (pv 5)))) pa_nil)) pa_nil)) pa_nil)) (pe_callB (cr_repr hgd hr.units) (by rfl) T.f_repr (by decide +kernel) (pa_cons (pv 3) pa_nil)) (nomark _)) (pw_or1 (pt_cmpR op_ne (pe_callB (cr_repr hgd hr.units) (by rfl) T.f_repr (by decide +kernel) (pa_cons (pe_ca C_spread hr (pa_cons (pe_revT (pv 2)) pa_nil)) pa_nil)) (pe_callB (cr_repr hgd hr.units) (by rfl) T.f_repr (by decide +kernel) (pa_cons (pv 3) pa_nil)) (nomark _)))))
 (pss_one (ps_ret pe_bl))
 pss_nil)
 (pss_cons (ps_set (i := 6) sc_law.nd rfl (.inl rfl) (pe_ca C_L_draw hr (pa_cons (pv 1) (pa_cons (pe_callB call_len_seq (by rfl) T.f_len (by decide +kernel) (pa_cons (pv 2) pa_nil)) pa_nil))))
 (pss_cons (ps_if (PW.pt (pw_or (pt_cmpR op_ne (pe_callB (cr_repr hgd hr.units) (by rfl) T.f_repr (by decide +kernel) (pa_cons (pe_ca C_spread hr (pa_cons (pe_op op_catA (pe_slice sl_tupA (pv 2) (po_some (pv 6)) po_none) (pe_slice sl_tupA (pv 2) po_none (po_some (pv 6)))) pa_nil)) pa_nil)) (pe_callB (cr_repr hgd hr.units) (by rfl) T.f_repr (by decide +kernel) (pa_cons (pv 3) pa_nil)) (nomark _)) (pw_or1 (pt_cmpR op_ne (pe_callB (cr_repr hgd hr.units) (by rfl) T.f_repr (by decide +kernel) (pa_cons (pe_ca C_spread hr (pa_cons (pe_callTy call_tuple_of (by rfl) T.f_tuple (by decide +kernel) (pa_cons (pe_callB cr_sortedTI (by rfl) T.f_sorted (by decide +kernel) (pa_cons (pv 2) pa_nil)) pa_nil)) pa_nil)) pa_nil)) (pe_callB (cr_repr hgd hr.units) (by rfl) T.f_repr (by decide +kernel) (pa_cons (pv 3) pa_nil)) (nomark _)))))
 (pss_one (ps_ret pe_bl))
 pss_nil)
 (pss_cons (ps_set (i := 7) sc_law.nd rfl (.inl rfl) (pe_op op_add pe_int (pe_ca C_L_draw hr (pa_cons (pv 1) (pa_cons pe_int pa_nil)))))
 (pss_cons (ps_if (pt_cmpR op_ne (pe_callB (cr_repr hgd hr.units) (by rfl) T.f_repr (by decide +kernel) (pa_cons (pe_tup (pa_cons (pe_ca C_spread hr (pa_cons (pe_op op_repA (pe_tup (pa_cons pe_int pa_nil)) (pv 7)) pa_nil)) (pa_cons (pe_ca C_spread hr (pa_cons (pe_tup (pa_cons (pv 7) pa_nil)) pa_nil)) pa_nil))) pa_nil)) (pe_callB (cr_repr hgd hr.units) (by rfl) T.f_repr (by decide +kernel) (pa_cons (pe_tup (pa_cons (pe_ca C_amount_of hr (pa_cons (pv 7) pa_nil)) (pa_cons (pe_tup (pa_cons pe_int (pa_cons (pe_tup pa_nil) pa_nil))) pa_nil))) pa_nil)) (nomark _))
 (pss_one (ps_ret pe_bl))
 pss_nil)
 (pss_cons (ps_par (i := 8) (j := 9) rfl sc_law.nd rfl rfl (by decide) rfl rfl (pa_cons (pe_ca C_L_drawn hr (pa_cons (pv 1) (pa_cons pe_int (pa_cons pe_int pa_nil)))) (pa_cons (pe_ca C_L_drawn hr (pa_cons (pv 1) (pa_cons pe_int (pa_cons pe_int pa_nil)))) pa_nil)) rfl)
 (pss_cons (ps_set (i := 10) sc_law.nd rfl (.inl rfl) (pe_lst pa_nil))
 (pss_cons (ps_for PassesOwn.never rfl (pi_tup (pv 8)) (pg_name (i := 5) sc_law.nd rfl (.inr rfl))
 (pss_one (ps_expr (pe_bm PySem.F.plainAttrs_list PySem.F.slot_list_extend PySem.F.type_list_extend mt_extend (pv 10) (pa_cons (pe_lc (own := [("_law_far", 12)]) rfl sc_law.nd (pi_tup (pv 9)) (blkOk_by (own := [("_law_far", 12)]) (N := n_law) (sc := (defScope s_law)) (by decide +kernel)) (fun _ _ _ _ _ => (pg_name (i := 12) sc_law.nd rfl (Or.inl rfl) (Or.inr rfl))) (fun _ _ _ _ _ => pts_nil) (fun _ _ _ _ _ => (pe_op op_mulW (pv 5) (pv 12)))) pa_nil)))))
 (pss_cons (ps_if (pt_cmpR op_ne (pe_callB (cr_repr hgd hr.units) (by rfl) T.f_repr (by decide +kernel) (pa_cons (pe_ca C_spread hr (pa_cons (pe_callTy call_tuple_of (by rfl) T.f_tuple (by decide +kernel) (pa_cons (pv 10) pa_nil)) pa_nil)) pa_nil)) (pe_callB (cr_repr hgd hr.units) (by rfl) T.f_repr (by decide +kernel) (pa_cons (pe_ca C_plus hr (pa_cons (pe_ca C_spread hr (pa_cons (pv 8) pa_nil)) (pa_cons (pe_ca C_spread hr (pa_cons (pv 9) pa_nil)) pa_nil))) pa_nil)) (nomark _))
 (pss_one (ps_ret pe_bl))
 pss_nil)
 (pss_cons (ps_if (pt_cmpR op_gt (pe_ca C_L_draw hr (pa_cons (pv 1) (pa_cons pe_int pa_nil))) pe_int (nomark _))
 (pss_one (ps_ret pe_bl))
 pss_nil)
 (pss_cons (ps_set (i := 11) sc_law.nd rfl (.inl rfl) (pe_ca C_L_drawn hr (pa_cons (pv 1) (pa_cons pe_int (pa_cons pe_int pa_nil)))))
 (pss_one (ps_ret (pe_ca C_L_stands_for hr (pa_cons (pv 11) (pa_cons (pe_ca C_spread hr (pa_cons (pv 11) pa_nil)) pa_nil)))))))))))))))))))))), ?_⟩
    refine ⟨_, rfl, a, ns, rfl, hS, hl, fun D C H1 s1 da1 => ?_⟩
    refine ⟨_, rfl, D, C, 0, 60, 12, rfl, da1, by decide, by omega, by omega, by omega, by omega, fun t cs H2 o2 da2 hT dn => ?_⟩
    have ct := dn.cts (by omega) (by omega)
    have N0 := ct.sum_pos
    have N60 := dn.tot
    refine ⟨_, rfl, t, cs, rfl, hT, ct, dn.hi, fun v d L H3 s3 am st => ?_⟩
    have bd := spr_bd ct
    have ok := bd.ok st
    refine ⟨_, rfl, t, cs, rfl, SqT.same s3 hT, ct, dn.hi, fun v2 d2 L2 H4 s4 am2 st2 => ?_⟩
    obtain ⟨e1, e2⟩ := St4.unique st2 st N0 N0 fun p => rfl
    subst e1 e2
    obtain ⟨ra1, re1, rb1, rc1, rd1, rf1, rg1⟩ := AmOk.rp ok am2
    obtain ⟨ra2, re2, rb2, rc2, rd2, rf2, rg2⟩ := AmOk.rp ok (am.same s4)
    refine ⟨ra1, _, by rw [re1], rb1, rc1, rd1, rf1, rg1, ?_⟩
    refine ⟨_, rfl, ra2, _, by rw [re2], rb2, rc2, rd2, rf2, rg2, ?_⟩
    refine ⟨rfl, _, rfl, ?_⟩
    rw [no_ne rfl]
    refine iteF ?_
    have s34 := s3.trans s4
    refine ⟨_, rfl, _, rfl, t, v, cs, rfl, SqT.same s34 hT, ct, ⟨d2, L2, am.same s4, st⟩, fun H5 s5 => ⟨true, rfl, iteF ?_⟩⟩
    refine ⟨_, rfl, v, d2, L2, rfl, am.same (s4.trans s5), ok, fun H6 s6 => ⟨_, _, rfl, rfl, _, rfl, iteF ?_⟩⟩
    have s36 := (s4.trans s5).trans s6
    have s26 := s3.trans s36
    refine ⟨_, rfl, _, rfl, t, v, cs, rfl, SqT.same s26 hT, ct, N60, ⟨d2, L2, am.same s36, st⟩, fun H7 s7 => ⟨true, rfl, iteF ?_⟩⟩
    have s27 := s26.trans s7
    have s37 := s36.trans s7
    have da7 := da2.same s27
    refine ⟨_, rfl, _, rfl, _, rfl, D, C, t, v, 50, cs, rfl, da7, by decide, SqT.same s27 hT, ct, N60, ⟨d2, L2, am.same s37, st⟩, fun H8 o8 da8 => ⟨true, rfl, iteF ?_⟩⟩
    have k8 := o8.kp da7
    have hT8 := SqT.kp k8 (SqT.same s27 hT)
    have am8 := (am.same s37).kp k8
    clear s34 s36 s26 s27 s37 am2 st2 re1 rb1 re2 rb2 rc1 rd1 rf1 rg1 rc2 rd2 rf2 rg2 s3 s4 s5 s6 s7 am hT k8 o8 da7
    -- by
    refine ⟨_, rfl, D, C, 50 + 50, 9, rfl, da8, by decide, by omega, by omega, fun by_ H9 y0 y1 o9 da9 => ?_⟩
    have k9 := o9.kp da8
    have hT9 := SqT.kp k9 hT8
    have am9 := am8.kp k9
    refine ⟨_, _, rfl, rfl, ?_⟩
    dsimp only
    obtain ⟨by1, eby⟩ : ∃ b, 1 + by_ = b := ⟨_, rfl⟩
    rw [eby]
    have b0 : 0 < by1 := by omega
    have b9 : by1 ≤ 9 := by omega
    clear eby y0 y1 k9 hT8 am8 da8
    -- times by, turned about
    refine ⟨_, rfl, t, rfl, ⟨_, hT9⟩, fun Dl nDl => ?_⟩
    have len := ct.len
    refine lc_tup (xs := cs.map V.int) (fun i H' => Same H9 H' ∧ H' Dl = some (.lst (((cs.take i).map fun n => by1 * n).map V.int))) ?_ ?_ ?_ ?_
    · exact ⟨same_new nDl, upd_same⟩
    · rintro i H' _ ⟨sm, _⟩; exact SqT.same sm hT9
    · rintro i x H' hx ⟨sm, hD⟩
      obtain ⟨n, hn, rfl⟩ := map_at hx
      have nm := List.mem_of_getElem? hn
      have n0 := ct.pos n nm
      have n9 := dn.hi n nm
      refine ⟨rfl, ?_⟩
      refine ⟨_, rfl, _, rfl, _, _, rfl, rfl, wide_mul (a := 20) (b := 20) (by omega) (by omega) (by omega) (by omega) (by omega), _, hD, ?_, same_write nDl sm, ?_⟩
      · rw [List.length_map, List.length_map, List.length_take]; exact small1000 (by omega)
      · rw [upd_same, take_snoc _ hn, List.map_append]; rfl
    rintro H10 ⟨s10, hDl⟩
    rw [List.length_map, List.take_of_length_le (Nat.le_refl _)] at hDl
    refine ⟨Dl, _, rfl, .inl ⟨.inl (.inl hDl), fun t2 nt2 => ?_⟩⟩
    have s11 := same_new (o := .tup ((cs.map fun n => by1 * n).map V.int)) nt2
    have psc : ∀ n ∈ cs.map (fun n => by1 * n), 0 < n := fun n hn => by
      obtain ⟨m, hm, rfl⟩ := List.mem_map.mp hn
      exact Int.mul_pos b0 (ct.pos m hm)
    have ssc : (cs.map fun n => by1 * n).sum = by1 * cs.sum := by
      have : ∀ l : List Int, (l.map fun n => by1 * n).sum = by1 * l.sum := by
        intro l
        induction l with
        | nil => simp
        | cons y t ih => rw [List.map_cons, List.sum_cons, ih, List.sum_cons, Int.mul_add]
      exact this cs
    have sle : by1 * cs.sum ≤ 9 * 60 := Int.mul_le_mul b9 N60 (by omega) (by omega)
    have spo : 0 < by1 * cs.sum := Int.mul_pos b0 N0
    have csc : Cts (cs.map fun n => by1 * n) := ⟨psc, by rw [List.length_map]; exact ct.ne, by rw [List.length_map]; exact ct.len, by rw [ssc]; omega⟩
    refine ⟨t2, _, rfl, sqT_new, csc, fun n hn => by have := mem_le_sum psc hn; rw [ssc] at this; omega, fun v3 d3 L3 H12 s12 am3 st3 => ?_⟩
    obtain ⟨e1, e2⟩ := St4.unique st3 st csc.sum_pos N0 fun p => spr_scale b0 ct.pos N0 p
    subst e1 e2
    have s912 := (s10.trans s11).trans s12
    obtain ⟨ra1, re1, rb1, rc1, rd1, rf1, rg1⟩ := AmOk.rp ok am3
    obtain ⟨ra2, re2, rb2, rc2, rd2, rf2, rg2⟩ := AmOk.rp ok (am9.same s912)
    refine ⟨ra1, _, by rw [re1], rb1, rc1, rd1, rf1, rg1, ?_⟩
    refine ⟨_, rfl, ra2, _, by rw [re2], rb2, rc2, rd2, rf2, rg2, ?_⟩
    refine ⟨rfl, _, rfl, ?_⟩
    rw [no_ne rfl]
    refine iteF ?_
    have hT12 := SqT.same s912 hT9
    refine ⟨_, rfl, t, _, rfl, hT12, fun t3 nt3 => ?_⟩
    have erv : (cs.map V.int).reverse = cs.reverse.map V.int := List.map_reverse.symm
    rw [erv]
    have s13 := same_new (o := .tup (cs.reverse.map V.int)) nt3
    have cperm : ∀ {l : List Int}, l.Perm cs → Cts l ∧ ∀ n ∈ l, n ≤ 999 := fun {l} h => by
      refine ⟨⟨fun n hn => ct.pos n (h.mem_iff.mp hn), by rw [h.length_eq]; exact ct.ne, by rw [h.length_eq]; exact ct.len, by rw [sum_perm h]; exact ct.tot⟩, fun n hn => dn.hi n (h.mem_iff.mp hn)⟩
    have crv := cperm (List.reverse_perm cs)
    refine ⟨t3, cs.reverse, rfl, sqT_new, crv.1, crv.2, fun v4 d4 L4 H14 s14 am4 st4 => ?_⟩
    obtain ⟨e3, e4⟩ := St4.unique st4 st crv.1.sum_pos N0 fun p => by rw [spr_perm (List.reverse_perm cs), sum_perm (List.reverse_perm cs)]
    subst e3 e4
    have s914 := s912.trans (s13.trans s14)
    clear re1 rb1 re2 rb2 rc1 rd1 rf1 rg1 rc2 rd2 rf2 rg2
    obtain ⟨ra1, re1, rb1, rc1, rd1, rf1, rg1⟩ := AmOk.rp ok am4
    obtain ⟨ra2, re2, rb2, rc2, rd2, rf2, rg2⟩ := AmOk.rp ok (am9.same s914)
    refine ⟨ra1, _, by rw [re1], rb1, rc1, rd1, rf1, rg1, ?_⟩
    refine ⟨_, rfl, ra2, _, by rw [re2], rb2, rc2, rd2, rf2, rg2, ?_⟩
    refine ⟨rfl, _, rfl, ?_⟩
    rw [no_ne rfl]
    refine iteF ?_
    have da14 := da9.same s914
    have hT14 := SqT.same s914 hT9
    have am14 := am9.same s914
    clear re1 rb1 re2 rb2 rc1 rd1 rf1 rg1 rc2 rd2 rf2 rg2 s912 s914 s10 s11 s12 s13 s14 hT12 am3 am4 st3 st4 hDl
    -- at
    refine ⟨_, rfl, _, rfl, t, _, rfl, .inr hT14, ?_⟩
    refine ⟨D, C, 50 + 50 + 1, cs.length, by rw [List.length_map]; rfl, da14, by decide, by have := ct.ne; omega, by omega, fun at_ H15 a0 a1 o15 da15 => ?_⟩
    have k15 := o15.kp da14
    have hT15 := SqT.kp k15 hT14
    have am15 := am14.kp k15
    clear k15 hT14 am14 da14
    obtain ⟨at1, rfl⟩ : ∃ n : Nat, at_ = n := ⟨at_.toNat, by omega⟩
    have al : at1 < cs.length := by omega
    have prot : (cs.drop at1 ++ cs.take at1).Perm cs := by
      refine List.perm_append_comm.trans ?_
      rw [List.take_append_drop]
    have sx1 : HT.sIx (cs.map V.int).length 0 (some (at1 : Int)) = at1 := sIx_mid (by rw [List.length_map]; omega)
    have sx2 : HT.sIx (cs.map V.int).length (cs.map V.int).length (some (at1 : Int)) = at1 := sIx_mid (by rw [List.length_map]; omega)
    have sx3 : HT.sIx (cs.map V.int).length (cs.map V.int).length none = (cs.map V.int).length := rfl
    have lm : (cs.map V.int).length = cs.length := List.length_map _
    have nocut : ¬ (HT.sIx (cs.map V.int).length 0 none = 0 ∧ HT.sIx (cs.map V.int).length (cs.map V.int).length (some (at1 : Int)) = (cs.map V.int).length) := by
      rw [sx2, lm]; omega
    have tail1 : ∀ (G : Addr → Hp → Prop), (∀ tt HH, Same H15 HH → SqT K HH tt ((cs.drop at1 ++ cs.take at1).map V.int) → G tt HH) → True := fun _ _ => trivial
    by_cases z : at1 = 0
    · refine ⟨_, rfl, _, rfl, (at1 : Int), rfl, t, _, rfl, hT15, fun hw => ?_, fun hw => absurd ⟨by rw [sx1]; exact z, by rw [sx3]⟩ hw⟩
      refine ⟨_, rfl, _, rfl, (at1 : Int), rfl, t, _, rfl, hT15, fun hw => absurd hw nocut, fun hw p np => ?_⟩
      rw [cut_to cs (by omega)]
      have sR := same_new (o := .tup ((cs.take at1).map V.int)) np
      have hp : SqT K (upd H15 p (.tup ((cs.take at1).map V.int))) p ((cs.take at1).map V.int) := sqT_new
      generalize upd H15 p (.tup ((cs.take at1).map V.int)) = HH at *
      refine ⟨t, p, _, _, rfl, rfl, SqT.same sR hT15, hp, by rw [lm, List.length_map, List.length_take, sizeLine_eq]; omega, fun e => ?_, fun _ _ => ?_, fun _ e => ?_⟩
      · have := congrArg List.length e
        rw [lm] at this
        exact absurd this (by show cs.length ≠ 0; omega)
      · have hR : SqT K HH t ((cs.drop at1 ++ cs.take at1).map V.int) := by
          have : cs.drop at1 ++ cs.take at1 = cs := by rw [z]; simp
          rw [this]; exact SqT.same sR hT15
        clear hp
        have crot := cperm prot
        refine ⟨t, cs.drop at1 ++ cs.take at1, rfl, hR, crot.1, crot.2, fun v5 d5 L5 H16 s16 am5 st5 => ?_⟩
        obtain ⟨e5, e6⟩ := St4.unique st5 st crot.1.sum_pos N0 fun p => by rw [spr_perm prot, sum_perm prot]
        subst e5 e6
        have s1516 := sR.trans s16
        obtain ⟨ra3, re3, rb3, rc3, rd3, rf3, rg3⟩ := AmOk.rp ok am5
        obtain ⟨ra4, re4, rb4, rc4, rd4, rf4, rg4⟩ := AmOk.rp ok (am15.same s1516)
        refine ⟨ra3, _, by rw [re3], rb3, rc3, rd3, rf3, rg3, ?_⟩
        refine ⟨_, rfl, ra4, _, by rw [re4], rb4, rc4, rd4, rf4, rg4, ?_⟩
        refine ⟨rfl, _, rfl, ?_⟩
        rw [no_ne rfl]
        refine iteF ?_
        have hT16 := SqT.same s1516 hT15
        refine ⟨_, rfl, t, cs, rfl, hT16, fun cs2 ps pm2 _ nps => ?_⟩
        have s17 := same_new (o := .lst (cs2.map V.int)) nps
        refine ⟨ps, _, rfl, .inl ⟨sqL_new, fun pt npt => ?_⟩⟩
        have s18 := same_new (o := .tup (cs2.map V.int)) npt
        have csr := cperm pm2
        refine ⟨pt, cs2, rfl, sqT_new, csr.1, csr.2, fun v6 d6 L6 H17 s19 am6 st6 => ?_⟩
        obtain ⟨e7, e8⟩ := St4.unique st6 st csr.1.sum_pos N0 fun p => by rw [spr_perm pm2, sum_perm pm2]
        subst e7 e8
        have s1517 := ((s1516.trans s17).trans s18).trans s19
        obtain ⟨ra5, re5, rb5, rc5, rd5, rf5, rg5⟩ := AmOk.rp ok am6
        obtain ⟨ra6, re6, rb6, rc6, rd6, rf6, rg6⟩ := AmOk.rp ok (am15.same s1517)
        refine ⟨ra5, _, by rw [re5], rb5, rc5, rd5, rf5, rg5, ?_⟩
        refine ⟨_, rfl, ra6, _, by rw [re6], rb6, rc6, rd6, rf6, rg6, ?_⟩
        refine ⟨rfl, _, rfl, ?_⟩
        rw [no_ne rfl]
        refine iteF ?_
        have da17 := da15.same s1517
        -- many
        refine ⟨_, rfl, D, C, 50 + 50 + 1 + 1, 40, rfl, da17, by decide, by omega, by omega, fun mn H18 m0 m1 o18 da18 => ?_⟩
        refine ⟨_, _, rfl, rfl, ?_⟩
        dsimp only
        obtain ⟨many, em⟩ : ∃ many : Nat, (1 : Int) + mn = many := ⟨(1 + mn).toNat, by omega⟩
        have mp : 0 < many := by omega
        have mf : many ≤ 40 := by omega
        rw [em]
        clear em m0 m1 o18 da17 re3 rb3 re4 rb4 re5 rb5 re6 rb6 rc3 rd3 rf3 rg3 rc4 rd4 rf4 rg4 rc5 rd5 rf5 rg5 rc6 rd6 rf6 rg6
        refine ⟨by show 1 ≤ sizeLine; rw [sizeLine_eq]; omega, fun p1 np1 => ?_⟩
        have u1 := same_new (o := .tup [V.int 1]) np1
        have ef : (List.replicate (many : Int).toNat [V.int 1]).flatten = (List.replicate many (1 : Int)).map V.int := by
          rw [Int.toNat_natCast, List.map_replicate]; simp
        have cts1 : Cts (List.replicate many (1 : Int)) := ⟨fun n hn => by have := (List.mem_replicate.mp hn).2; omega, by rw [List.length_replicate]; exact mp, by rw [List.length_replicate]; exact mf, by rw [sumI_rep]; omega⟩
        have s1s : (List.replicate many (1 : Int)).sum = many := by rw [sumI_rep]; omega
        refine ⟨_, rfl, p1, many, [V.int 1], rfl, rfl, sqT_new, by simp, by omega, by omega, by show 1 ≤ 1000; omega, fun k1 => ?_, fun k1 p2 np2 => ?_⟩
        · have hQ : SqT K (upd H18 p1 (.tup [V.int 1])) p1 ((List.replicate many (1 : Int)).map V.int) := by
            have : many = 1 := by omega
            rw [this]; exact sqT_new
          have sQ := u1
          refine ⟨p1, List.replicate many 1, rfl, hQ, cts1, fun n hn => by have := (List.mem_replicate.mp hn).2; omega, fun v7 d7 L7 H19 s20 am7 st7 => ?_⟩
          have z1 : 1 ≤ sizeLine := by rw [sizeLine_eq]; omega
          have z2 : 2 ≤ sizeLine := by rw [sizeLine_eq]; omega
          have cts2 : Cts [(many : Int)] := ⟨fun n hn => by rw [List.mem_singleton.mp hn]; omega, by show 0 < 1; omega, by show 1 ≤ 40; omega, by show (many : Int) + 0 ≤ 1000; omega⟩
          refine ⟨_, rfl, z1, fun p3 np3 => ⟨p3, [(many : Int)], rfl, sqT_new, cts2, fun n hn => by rw [List.mem_singleton.mp hn]; omega, fun v8 d8 L8 H20 s21 am8 st8 => ⟨z2, fun p4 np4 => ?_⟩⟩⟩
          have u3 := same_new (o := .tup [V.int (many : Int)]) np3
          have u4 := same_new (o := .tup [v7, v8]) np4
          have ok7 := (spr_bd cts1).ok st7
          have ok8 := (spr_bd cts2).ok st8
          obtain ⟨rb7, rc7, rd7, rf7, rg7⟩ := two_rp (K := K) ok7 ok8 (am7.same ((u3.trans s21).trans u4)) (am8.same u4) (sqT_new (p := p4))
          refine ⟨p4, _, rfl, rb7, rc7, rd7, rf7, rg7, ?_⟩
          have t1 := sQ.trans (s20.trans ((u3.trans s21).trans u4))
          refine ⟨_, rfl, many, rfl, mp, by omega, fun v9 d9 L9 H21 s22 am9' st9 => ?_⟩
          refine ⟨by show 0 ≤ sizeLine; omega, fun p5 np5 => ⟨z2, fun p6 np6 => ⟨z2, fun p7 np7 => ?_⟩⟩⟩
          have u5 := same_new (o := .tup []) np5
          have u6 := same_new (o := .tup [V.int 1, V.ref p5]) np6
          have u7 := same_new (o := .tup [v9, V.ref p6]) np7
          have st0 : St4 1 [] 1 (fun _ => 0) := ⟨⟨by omega, .nil, by simp, by simp, rfl⟩, fun p => by show (0 : Int) * 1 = 0 * 1; rfl⟩
          obtain ⟨g1, g2⟩ := St4.unique st7 st9 cts1.sum_pos (by omega) fun p => by rw [s1s]; exact spr_ones many p
          obtain ⟨g3, g4⟩ := St4.unique st8 st0 cts2.sum_pos (by omega) fun p => by rw [spr_lone]; simp
          subst g1 g2 g3 g4
          have am0 : AmtAt K (upd (upd (upd H21 p5 (.tup [])) p6 (.tup [V.int 1, V.ref p5])) p7 (.tup [v9, V.ref p6])) (.ref p6) 1 [] := ⟨p6, p5, [], rfl, SqT.same u7 sqT_new, SqT.same (u6.trans u7) sqT_new, .nil⟩
          obtain ⟨rb8, rc8, rd8, rf8, rg8⟩ := two_rp (K := K) ok7 ok8 (am9'.same ((u5.trans u6).trans u7)) am0 (sqT_new (p := p7))
          refine ⟨p7, _, rfl, rb8, rc8, rd8, rf8, rg8, ?_⟩
          refine ⟨rfl, _, rfl, ?_⟩
          rw [no_ne rfl]
          refine iteF ?_
          have t2 := t1.trans (s22.trans ((u5.trans u6).trans u7))
          have daA := da18.same t2
          generalize (upd (upd (upd H21 p5 (.tup [])) p6 (.tup [V.int 1, V.ref p5])) p7 (.tup [v9, V.ref p6])) = HA at *
          clear rb7 rc7 rd7 rf7 rg7 rb8 rc8 rd8 rf8 rg8 am0 t1 t2 u3 u4 u5 u6 u7 am7 am8 am9' st7 st8 st9
          refine ⟨_, rfl, D, C, 50 + 50 + 1 + 1 + 1, 20, 5, rfl, daA, by decide, by omega, by omega, by omega, by omega, fun ta ca HB oB daB hTa dna => ?_⟩
          refine ⟨_, rfl, D, C, 50 + 50 + 1 + 1 + 1 + 50, 20, 5, rfl, daB, by decide, by omega, by omega, by omega, by omega, fun tb cb HC oC daC hTb dnb => ?_⟩
          refine ⟨_, _, rfl, ?_⟩
          have hTa2 := SqT.kp (oC.kp daB) hTa
          have cta := dna.cts (by omega) (by omega)
          have ctb := dnb.cts (by omega) (by omega)
          have Na := cta.sum_pos
          have Nb := ctb.sum_pos
          have la := dna.len
          have lb := dnb.len
          have sa := dna.tot
          have sb := dnb.tot
          refine ⟨by show 0 ≤ sizeLine; omega, fun pb npb => ?_⟩
          refine ⟨_, rfl, ta, rfl, ⟨_, SqT.same (same_new npb) hTa2⟩, ?_⟩
          refine for_tup (xs := ca.map V.int) (fun i σ H' => ∃ y5, σ = [some (.ref a), some (.ref D), some (.ref t), some v, some (.int by1), y5, some (.int (at1 : Int)), some (.int (many : Int)), some (.ref ta), some (.ref tb), some (.ref pb), none, none] ∧ Same HC H' ∧ H' pb = some (.lst ((prods (ca.take i) cb).map V.int))) ⟨none, rfl, same_new npb, upd_same⟩ ?_ ?_ ?_
          · rintro i σ H' _ ⟨_, _, sm, _⟩; exact SqT.same sm hTa2
          · rintro i x σ H' hx ⟨y5, rfl, sm, hpb⟩
            obtain ⟨n, hn, rfl⟩ := map_at hx
            have nm := List.mem_of_getElem? hn
            have n0 := cta.pos n nm
            have n9 := dna.hi n nm
            refine ⟨_, rfl, .inl ⟨rfl, _, .inl (.inl hpb)⟩, _, rfl, tb, rfl, ⟨_, SqT.same sm hTb⟩, fun Dm nDm => ?_⟩
            refine lc_tup (xs := cb.map V.int) (fun j H2 => Same H' H2 ∧ H2 Dm = some (.lst (((cb.take j).map fun b => n * b).map V.int))) ?_ ?_ ?_ ?_
            · exact ⟨same_new nDm, upd_same⟩
            · rintro j H2 _ ⟨sm2, _⟩; exact SqT.same (sm.trans sm2) hTb
            · rintro j x H2 hx ⟨sm2, hDm⟩
              obtain ⟨m, hm, rfl⟩ := map_at hx
              have mm := List.mem_of_getElem? hm
              have m0 := ctb.pos m mm
              have m9 := dnb.hi m mm
              refine ⟨rfl, ?_⟩
              refine ⟨_, rfl, _, rfl, _, _, rfl, rfl, wide_mul (a := 20) (b := 20) (by omega) (by omega) (by omega) (by omega) (by omega), _, hDm, ?_, same_write nDm sm2, ?_⟩
              · rw [List.length_map, List.length_map, List.length_take]; exact small1000 (by omega)
              · rw [upd_same, take_snoc _ hm, List.map_append]; rfl
            · rintro H2 ⟨sm2, hDm⟩
              rw [List.length_map, List.take_of_length_le (Nat.le_refl _)] at hDm
              have pl : (prods (ca.take i) cb).length ≤ 5 * 5 := by
                rw [prods_len]
                exact Nat.mul_le_mul (by rw [List.length_take]; omega) (by omega)
              refine ⟨pb, Dm, _, _, rfl, rfl, sm2 _ _ hpb, hDm, by rw [List.length_map, List.length_map, List.length_map, sizeLine_eq]; omega, ?_⟩
              refine ⟨some (.int n), rfl, same_write npb (sm.trans sm2), ?_⟩
              rw [upd_same, show ca.take (i + 1) = ca.take i ++ [n] by rw [List.take_add_one, hn]; rfl, prods_snoc, List.map_append]
          · rintro σ H' ⟨y5, rfl, sm, hpb⟩
            rw [List.length_map, List.take_of_length_le (Nat.le_refl _)] at hpb
            refine ⟨_, rfl, pb, _, rfl, .inl ⟨.inl (.inl hpb), fun pt2 npt2 => ?_⟩⟩
            have x1 := same_new (o := .tup ((prods ca cb).map V.int)) npt2
            have ppos := prods_pos cta.pos ctb.pos
            have psum := prods_sum ca cb
            have pslt : ca.sum * cb.sum ≤ 20 * 20 := Int.mul_le_mul sa sb (by omega) (by omega)
            have psgt : 0 < ca.sum * cb.sum := Int.mul_pos Na Nb
            have plen : (prods ca cb).length ≤ 5 * 5 := by rw [prods_len]; exact Nat.mul_le_mul (by omega) (by omega)
            have plne : 0 < (prods ca cb).length := by rw [prods_len]; exact Nat.mul_pos cta.ne ctb.ne
            have ctp : Cts (prods ca cb) := ⟨ppos, plne, by omega, by rw [psum]; omega⟩
            refine ⟨pt2, prods ca cb, rfl, sqT_new, ctp, fun n hn => by have := mem_le_sum ppos hn; rw [psum] at this; omega, fun v10 d10 L10 HD x2 am10 st10 => ?_⟩
            have ok10 := (spr_bd ctp).ok st10
            obtain ⟨rx1, ry1, rb1, rc1, rd1, rf1, rg1⟩ := AmOk.rp ok10 am10
            refine ⟨rx1, _, by rw [ry1], rb1, rc1, rd1, rf1, rg1, ?_⟩
            have xs1 := sm.trans (x1.trans x2)
            refine ⟨_, rfl, ta, ca, rfl, SqT.same xs1 hTa2, cta, dna.hi, fun v11 d11 L11 HE x3 am11 st11 => ?_⟩
            refine ⟨_, rfl, tb, cb, rfl, SqT.same (xs1.trans x3) hTb, ctb, dnb.hi, fun v12 d12 L12 HF x4 am12 st12 => ?_⟩
            have b11 : Bd (ca.sum * cb.sum) (fun p => lg (sprM ca) p * cb.sum) := by
              have g := spr_bd cta
              refine ⟨psgt, by omega, fun p h => g.key p (fun z => h (by show lg (sprM ca) p * cb.sum = 0; rw [z]; simp)), fun p => ?_⟩
              have h1 := lg_abs (M := sprM ca) (p := p) (c := 9) fun q hq => ⟨(cta.pairs.num q hq).1, by have := (cta.pairs.num q hq).2; omega⟩
              rw [asz_spr cta] at h1
              show (lg (sprM ca) p * cb.sum).natAbs < _
              rw [Int.natAbs_mul]
              have h2 : (lg (sprM ca) p).natAbs * cb.sum.natAbs ≤ 360 * 20 := Nat.mul_le_mul (by omega) (by omega)
              omega
            have b12 : Bd (ca.sum * cb.sum) (fun p => lg (sprM cb) p * ca.sum) := by
              have g := spr_bd ctb
              refine ⟨psgt, by omega, fun p h => g.key p (fun z => h (by show lg (sprM cb) p * ca.sum = 0; rw [z]; simp)), fun p => ?_⟩
              have h1 := lg_abs (M := sprM cb) (p := p) (c := 9) fun q hq => ⟨(ctb.pairs.num q hq).1, by have := (ctb.pairs.num q hq).2; omega⟩
              rw [asz_spr ctb] at h1
              show (lg (sprM cb) p * ca.sum).natAbs < _
              rw [Int.natAbs_mul]
              have h2 : (lg (sprM cb) p).natAbs * ca.sum.natAbs ≤ 360 * 20 := Nat.mul_le_mul (by omega) (by omega)
              omega
            have V11 : Val K HF v11 (ca.sum * cb.sum) (fun p => lg (sprM ca) p * cb.sum) := by
              refine Val.congr (⟨d11, L11, am11.same x4, st11⟩ : Val K HF v11 ca.sum (lg (sprM ca))) Na fun p => ?_
              show lg (sprM ca) p * (ca.sum * cb.sum) = lg (sprM ca) p * cb.sum * ca.sum
              rw [Int.mul_assoc, Int.mul_comm cb.sum]
            have V12 : Val K HF v12 (ca.sum * cb.sum) (fun p => lg (sprM cb) p * ca.sum) := by
              refine Val.congr (⟨d12, L12, am12, st12⟩ : Val K HF v12 cb.sum (lg (sprM cb))) Nb fun p => ?_
              show lg (sprM cb) p * (ca.sum * cb.sum) = lg (sprM cb) p * ca.sum * cb.sum
              rw [Int.mul_assoc]
            refine ⟨v11, v12, ca.sum * cb.sum, _, _, rfl, V11, V12, b11, b12, fun v13 HG x5 V13 => ?_⟩
            obtain ⟨d13, L13, am13, st13⟩ := V13
            obtain ⟨g1, g2⟩ := St4.unique st13 st10 psgt ctp.sum_pos fun p => by
              rw [psum]
              congr 1
              rw [spr_prod cta.pos ctb.pos Na Nb, Int.one_mul]
            subst g1 g2
            obtain ⟨rx2, ry2, rb2, rc2, rd2, rf2, rg2⟩ := AmOk.rp ok10 am13
            refine ⟨rx2, _, by rw [ry2], rb2, rc2, rd2, rf2, rg2, ?_⟩
            refine ⟨rfl, _, rfl, ?_⟩
            rw [no_ne rfl]
            refine iteF ?_
            have daG := daC.same (xs1.trans ((x3.trans x4).trans x5))
            refine ⟨_, rfl, D, C, 50 + 50 + 1 + 1 + 1 + 50 + 50, 4, rfl, daG, by decide, by omega, by omega, fun z HH2 _ _ oH daH => ?_⟩
            refine ⟨_, _, rfl, rfl, _, rfl, ite2 (fun _ => q HH2) (fun _ => ?_)⟩
            refine ⟨_, rfl, D, C, 50 + 50 + 1 + 1 + 1 + 50 + 50 + 1, 1000, 40, rfl, daH, by decide, by omega, by omega, by omega, by omega, fun tc cc HI oI daI hTc dnc => ?_⟩
            have ctc := dnc.cts (by omega) (by omega)
            refine ⟨_, rfl, _, rfl, tc, cc, rfl, hTc, ctc, dnc.hi, fun v14 d14 L14 HJ x6 am14 st14 => ?_⟩
            exact ⟨tc, v14, cc, rfl, SqT.same x6 hTc, ctc, ⟨d14, L14, am14, st14⟩, fun HK2 _ => q HK2⟩
        · rw [ef]
          have hQ : SqT K (upd (upd H18 p1 (.tup [V.int 1])) p2 (.tup ((List.replicate many (1 : Int)).map V.int))) p2 ((List.replicate many (1 : Int)).map V.int) := sqT_new
          have sQ := u1.trans (same_new (o := .tup ((List.replicate many (1 : Int)).map V.int)) np2)
          refine ⟨p2, List.replicate many 1, rfl, hQ, cts1, fun n hn => by have := (List.mem_replicate.mp hn).2; omega, fun v7 d7 L7 H19 s20 am7 st7 => ?_⟩
          have z1 : 1 ≤ sizeLine := by rw [sizeLine_eq]; omega
          have z2 : 2 ≤ sizeLine := by rw [sizeLine_eq]; omega
          have cts2 : Cts [(many : Int)] := ⟨fun n hn => by rw [List.mem_singleton.mp hn]; omega, by show 0 < 1; omega, by show 1 ≤ 40; omega, by show (many : Int) + 0 ≤ 1000; omega⟩
          refine ⟨_, rfl, z1, fun p3 np3 => ⟨p3, [(many : Int)], rfl, sqT_new, cts2, fun n hn => by rw [List.mem_singleton.mp hn]; omega, fun v8 d8 L8 H20 s21 am8 st8 => ⟨z2, fun p4 np4 => ?_⟩⟩⟩
          have u3 := same_new (o := .tup [V.int (many : Int)]) np3
          have u4 := same_new (o := .tup [v7, v8]) np4
          have ok7 := (spr_bd cts1).ok st7
          have ok8 := (spr_bd cts2).ok st8
          obtain ⟨rb7, rc7, rd7, rf7, rg7⟩ := two_rp (K := K) ok7 ok8 (am7.same ((u3.trans s21).trans u4)) (am8.same u4) (sqT_new (p := p4))
          refine ⟨p4, _, rfl, rb7, rc7, rd7, rf7, rg7, ?_⟩
          have t1 := sQ.trans (s20.trans ((u3.trans s21).trans u4))
          refine ⟨_, rfl, many, rfl, mp, by omega, fun v9 d9 L9 H21 s22 am9' st9 => ?_⟩
          refine ⟨by show 0 ≤ sizeLine; omega, fun p5 np5 => ⟨z2, fun p6 np6 => ⟨z2, fun p7 np7 => ?_⟩⟩⟩
          have u5 := same_new (o := .tup []) np5
          have u6 := same_new (o := .tup [V.int 1, V.ref p5]) np6
          have u7 := same_new (o := .tup [v9, V.ref p6]) np7
          have st0 : St4 1 [] 1 (fun _ => 0) := ⟨⟨by omega, .nil, by simp, by simp, rfl⟩, fun p => by show (0 : Int) * 1 = 0 * 1; rfl⟩
          obtain ⟨g1, g2⟩ := St4.unique st7 st9 cts1.sum_pos (by omega) fun p => by rw [s1s]; exact spr_ones many p
          obtain ⟨g3, g4⟩ := St4.unique st8 st0 cts2.sum_pos (by omega) fun p => by rw [spr_lone]; simp
          subst g1 g2 g3 g4
          have am0 : AmtAt K (upd (upd (upd H21 p5 (.tup [])) p6 (.tup [V.int 1, V.ref p5])) p7 (.tup [v9, V.ref p6])) (.ref p6) 1 [] := ⟨p6, p5, [], rfl, SqT.same u7 sqT_new, SqT.same (u6.trans u7) sqT_new, .nil⟩
          obtain ⟨rb8, rc8, rd8, rf8, rg8⟩ := two_rp (K := K) ok7 ok8 (am9'.same ((u5.trans u6).trans u7)) am0 (sqT_new (p := p7))
          refine ⟨p7, _, rfl, rb8, rc8, rd8, rf8, rg8, ?_⟩
          refine ⟨rfl, _, rfl, ?_⟩
          rw [no_ne rfl]
          refine iteF ?_
          have t2 := t1.trans (s22.trans ((u5.trans u6).trans u7))
          have daA := da18.same t2
          generalize (upd (upd (upd H21 p5 (.tup [])) p6 (.tup [V.int 1, V.ref p5])) p7 (.tup [v9, V.ref p6])) = HA at *
          clear rb7 rc7 rd7 rf7 rg7 rb8 rc8 rd8 rf8 rg8 am0 t1 t2 u3 u4 u5 u6 u7 am7 am8 am9' st7 st8 st9
          refine ⟨_, rfl, D, C, 50 + 50 + 1 + 1 + 1, 20, 5, rfl, daA, by decide, by omega, by omega, by omega, by omega, fun ta ca HB oB daB hTa dna => ?_⟩
          refine ⟨_, rfl, D, C, 50 + 50 + 1 + 1 + 1 + 50, 20, 5, rfl, daB, by decide, by omega, by omega, by omega, by omega, fun tb cb HC oC daC hTb dnb => ?_⟩
          refine ⟨_, _, rfl, ?_⟩
          have hTa2 := SqT.kp (oC.kp daB) hTa
          have cta := dna.cts (by omega) (by omega)
          have ctb := dnb.cts (by omega) (by omega)
          have Na := cta.sum_pos
          have Nb := ctb.sum_pos
          have la := dna.len
          have lb := dnb.len
          have sa := dna.tot
          have sb := dnb.tot
          refine ⟨by show 0 ≤ sizeLine; omega, fun pb npb => ?_⟩
          refine ⟨_, rfl, ta, rfl, ⟨_, SqT.same (same_new npb) hTa2⟩, ?_⟩
          refine for_tup (xs := ca.map V.int) (fun i σ H' => ∃ y5, σ = [some (.ref a), some (.ref D), some (.ref t), some v, some (.int by1), y5, some (.int (at1 : Int)), some (.int (many : Int)), some (.ref ta), some (.ref tb), some (.ref pb), none, none] ∧ Same HC H' ∧ H' pb = some (.lst ((prods (ca.take i) cb).map V.int))) ⟨none, rfl, same_new npb, upd_same⟩ ?_ ?_ ?_
          · rintro i σ H' _ ⟨_, _, sm, _⟩; exact SqT.same sm hTa2
          · rintro i x σ H' hx ⟨y5, rfl, sm, hpb⟩
            obtain ⟨n, hn, rfl⟩ := map_at hx
            have nm := List.mem_of_getElem? hn
            have n0 := cta.pos n nm
            have n9 := dna.hi n nm
            refine ⟨_, rfl, .inl ⟨rfl, _, .inl (.inl hpb)⟩, _, rfl, tb, rfl, ⟨_, SqT.same sm hTb⟩, fun Dm nDm => ?_⟩
            refine lc_tup (xs := cb.map V.int) (fun j H2 => Same H' H2 ∧ H2 Dm = some (.lst (((cb.take j).map fun b => n * b).map V.int))) ?_ ?_ ?_ ?_
            · exact ⟨same_new nDm, upd_same⟩
            · rintro j H2 _ ⟨sm2, _⟩; exact SqT.same (sm.trans sm2) hTb
            · rintro j x H2 hx ⟨sm2, hDm⟩
              obtain ⟨m, hm, rfl⟩ := map_at hx
              have mm := List.mem_of_getElem? hm
              have m0 := ctb.pos m mm
              have m9 := dnb.hi m mm
              refine ⟨rfl, ?_⟩
              refine ⟨_, rfl, _, rfl, _, _, rfl, rfl, wide_mul (a := 20) (b := 20) (by omega) (by omega) (by omega) (by omega) (by omega), _, hDm, ?_, same_write nDm sm2, ?_⟩
              · rw [List.length_map, List.length_map, List.length_take]; exact small1000 (by omega)
              · rw [upd_same, take_snoc _ hm, List.map_append]; rfl
            · rintro H2 ⟨sm2, hDm⟩
              rw [List.length_map, List.take_of_length_le (Nat.le_refl _)] at hDm
              have pl : (prods (ca.take i) cb).length ≤ 5 * 5 := by
                rw [prods_len]
                exact Nat.mul_le_mul (by rw [List.length_take]; omega) (by omega)
              refine ⟨pb, Dm, _, _, rfl, rfl, sm2 _ _ hpb, hDm, by rw [List.length_map, List.length_map, List.length_map, sizeLine_eq]; omega, ?_⟩
              refine ⟨some (.int n), rfl, same_write npb (sm.trans sm2), ?_⟩
              rw [upd_same, show ca.take (i + 1) = ca.take i ++ [n] by rw [List.take_add_one, hn]; rfl, prods_snoc, List.map_append]
          · rintro σ H' ⟨y5, rfl, sm, hpb⟩
            rw [List.length_map, List.take_of_length_le (Nat.le_refl _)] at hpb
            refine ⟨_, rfl, pb, _, rfl, .inl ⟨.inl (.inl hpb), fun pt2 npt2 => ?_⟩⟩
            have x1 := same_new (o := .tup ((prods ca cb).map V.int)) npt2
            have ppos := prods_pos cta.pos ctb.pos
            have psum := prods_sum ca cb
            have pslt : ca.sum * cb.sum ≤ 20 * 20 := Int.mul_le_mul sa sb (by omega) (by omega)
            have psgt : 0 < ca.sum * cb.sum := Int.mul_pos Na Nb
            have plen : (prods ca cb).length ≤ 5 * 5 := by rw [prods_len]; exact Nat.mul_le_mul (by omega) (by omega)
            have plne : 0 < (prods ca cb).length := by rw [prods_len]; exact Nat.mul_pos cta.ne ctb.ne
            have ctp : Cts (prods ca cb) := ⟨ppos, plne, by omega, by rw [psum]; omega⟩
            refine ⟨pt2, prods ca cb, rfl, sqT_new, ctp, fun n hn => by have := mem_le_sum ppos hn; rw [psum] at this; omega, fun v10 d10 L10 HD x2 am10 st10 => ?_⟩
            have ok10 := (spr_bd ctp).ok st10
            obtain ⟨rx1, ry1, rb1, rc1, rd1, rf1, rg1⟩ := AmOk.rp ok10 am10
            refine ⟨rx1, _, by rw [ry1], rb1, rc1, rd1, rf1, rg1, ?_⟩
            have xs1 := sm.trans (x1.trans x2)
            refine ⟨_, rfl, ta, ca, rfl, SqT.same xs1 hTa2, cta, dna.hi, fun v11 d11 L11 HE x3 am11 st11 => ?_⟩
            refine ⟨_, rfl, tb, cb, rfl, SqT.same (xs1.trans x3) hTb, ctb, dnb.hi, fun v12 d12 L12 HF x4 am12 st12 => ?_⟩
            have b11 : Bd (ca.sum * cb.sum) (fun p => lg (sprM ca) p * cb.sum) := by
              have g := spr_bd cta
              refine ⟨psgt, by omega, fun p h => g.key p (fun z => h (by show lg (sprM ca) p * cb.sum = 0; rw [z]; simp)), fun p => ?_⟩
              have h1 := lg_abs (M := sprM ca) (p := p) (c := 9) fun q hq => ⟨(cta.pairs.num q hq).1, by have := (cta.pairs.num q hq).2; omega⟩
              rw [asz_spr cta] at h1
              show (lg (sprM ca) p * cb.sum).natAbs < _
              rw [Int.natAbs_mul]
              have h2 : (lg (sprM ca) p).natAbs * cb.sum.natAbs ≤ 360 * 20 := Nat.mul_le_mul (by omega) (by omega)
              omega
            have b12 : Bd (ca.sum * cb.sum) (fun p => lg (sprM cb) p * ca.sum) := by
              have g := spr_bd ctb
              refine ⟨psgt, by omega, fun p h => g.key p (fun z => h (by show lg (sprM cb) p * ca.sum = 0; rw [z]; simp)), fun p => ?_⟩
              have h1 := lg_abs (M := sprM cb) (p := p) (c := 9) fun q hq => ⟨(ctb.pairs.num q hq).1, by have := (ctb.pairs.num q hq).2; omega⟩
              rw [asz_spr ctb] at h1
              show (lg (sprM cb) p * ca.sum).natAbs < _
              rw [Int.natAbs_mul]
              have h2 : (lg (sprM cb) p).natAbs * ca.sum.natAbs ≤ 360 * 20 := Nat.mul_le_mul (by omega) (by omega)
              omega
            have V11 : Val K HF v11 (ca.sum * cb.sum) (fun p => lg (sprM ca) p * cb.sum) := by
              refine Val.congr (⟨d11, L11, am11.same x4, st11⟩ : Val K HF v11 ca.sum (lg (sprM ca))) Na fun p => ?_
              show lg (sprM ca) p * (ca.sum * cb.sum) = lg (sprM ca) p * cb.sum * ca.sum
              rw [Int.mul_assoc, Int.mul_comm cb.sum]
            have V12 : Val K HF v12 (ca.sum * cb.sum) (fun p => lg (sprM cb) p * ca.sum) := by
              refine Val.congr (⟨d12, L12, am12, st12⟩ : Val K HF v12 cb.sum (lg (sprM cb))) Nb fun p => ?_
              show lg (sprM cb) p * (ca.sum * cb.sum) = lg (sprM cb) p * ca.sum * cb.sum
              rw [Int.mul_assoc]
            refine ⟨v11, v12, ca.sum * cb.sum, _, _, rfl, V11, V12, b11, b12, fun v13 HG x5 V13 => ?_⟩
            obtain ⟨d13, L13, am13, st13⟩ := V13
            obtain ⟨g1, g2⟩ := St4.unique st13 st10 psgt ctp.sum_pos fun p => by
              rw [psum]
              congr 1
              rw [spr_prod cta.pos ctb.pos Na Nb, Int.one_mul]
            subst g1 g2
            obtain ⟨rx2, ry2, rb2, rc2, rd2, rf2, rg2⟩ := AmOk.rp ok10 am13
            refine ⟨rx2, _, by rw [ry2], rb2, rc2, rd2, rf2, rg2, ?_⟩
            refine ⟨rfl, _, rfl, ?_⟩
            rw [no_ne rfl]
            refine iteF ?_
            have daG := daC.same (xs1.trans ((x3.trans x4).trans x5))
            refine ⟨_, rfl, D, C, 50 + 50 + 1 + 1 + 1 + 50 + 50, 4, rfl, daG, by decide, by omega, by omega, fun z HH2 _ _ oH daH => ?_⟩
            refine ⟨_, _, rfl, rfl, _, rfl, ite2 (fun _ => q HH2) (fun _ => ?_)⟩
            refine ⟨_, rfl, D, C, 50 + 50 + 1 + 1 + 1 + 50 + 50 + 1, 1000, 40, rfl, daH, by decide, by omega, by omega, by omega, by omega, fun tc cc HI oI daI hTc dnc => ?_⟩
            have ctc := dnc.cts (by omega) (by omega)
            refine ⟨_, rfl, _, rfl, tc, cc, rfl, hTc, ctc, dnc.hi, fun v14 d14 L14 HJ x6 am14 st14 => ?_⟩
            exact ⟨tc, v14, cc, rfl, SqT.same x6 hTc, ctc, ⟨d14, L14, am14, st14⟩, fun HK2 _ => q HK2⟩
      · exact absurd (by rw [z]; rfl) e
    · refine ⟨_, rfl, _, rfl, (at1 : Int), rfl, t, _, rfl, hT15, fun hw => absurd (by rw [← sx1]; exact hw.1) z, fun hw p np => ?_⟩
      rw [cut_from cs (by omega)]
      have sP := same_new (o := .tup ((cs.drop at1).map V.int)) np
      have hp : SqT K (upd H15 p (.tup ((cs.drop at1).map V.int))) p ((cs.drop at1).map V.int) := sqT_new
      generalize upd H15 p (.tup ((cs.drop at1).map V.int)) = HP at *
      refine ⟨_, rfl, _, rfl, (at1 : Int), rfl, t, _, rfl, SqT.same sP hT15, fun hw => absurd hw nocut, fun hw p8 np8 => ?_⟩
      rw [cut_to cs (by omega)]
      have sP8 := same_new (o := .tup ((cs.take at1).map V.int)) np8
      have hp8 : SqT K (upd HP p8 (.tup ((cs.take at1).map V.int))) p8 ((cs.take at1).map V.int) := sqT_new
      generalize upd HP p8 (.tup ((cs.take at1).map V.int)) = HP8 at *
      refine ⟨p, p8, _, _, rfl, rfl, SqT.same sP8 hp, hp8, by rw [List.length_map, List.length_map, List.length_take, List.length_drop, sizeLine_eq]; omega, fun e => ?_, fun _ e => ?_, fun _ _ p9 np9 => ?_⟩
      · have := congrArg List.length e
        rw [List.length_map, List.length_drop] at this
        exact absurd this (by show cs.length - at1 ≠ 0; omega)
      · have := congrArg List.length e
        rw [List.length_map, List.length_take] at this
        exact absurd this (by show min at1 cs.length ≠ 0; omega)
      · have sR := (sP.trans sP8).trans (same_new (o := .tup ((cs.drop at1).map V.int ++ (cs.take at1).map V.int)) np9)
        have hR : SqT K (upd HP8 p9 (.tup ((cs.drop at1).map V.int ++ (cs.take at1).map V.int))) p9 ((cs.drop at1 ++ cs.take at1).map V.int) := by
          rw [List.map_append]; exact sqT_new
        clear hp hp8
        generalize upd HP8 p9 (.tup ((cs.drop at1).map V.int ++ (cs.take at1).map V.int)) = HH at *
        have crot := cperm prot
        refine ⟨p9, cs.drop at1 ++ cs.take at1, rfl, hR, crot.1, crot.2, fun v5 d5 L5 H16 s16 am5 st5 => ?_⟩
        obtain ⟨e5, e6⟩ := St4.unique st5 st crot.1.sum_pos N0 fun p => by rw [spr_perm prot, sum_perm prot]
        subst e5 e6
        have s1516 := sR.trans s16
        obtain ⟨ra3, re3, rb3, rc3, rd3, rf3, rg3⟩ := AmOk.rp ok am5
        obtain ⟨ra4, re4, rb4, rc4, rd4, rf4, rg4⟩ := AmOk.rp ok (am15.same s1516)
        refine ⟨ra3, _, by rw [re3], rb3, rc3, rd3, rf3, rg3, ?_⟩
        refine ⟨_, rfl, ra4, _, by rw [re4], rb4, rc4, rd4, rf4, rg4, ?_⟩
        refine ⟨rfl, _, rfl, ?_⟩
        rw [no_ne rfl]
        refine iteF ?_
        have hT16 := SqT.same s1516 hT15
        refine ⟨_, rfl, t, cs, rfl, hT16, fun cs2 ps pm2 _ nps => ?_⟩
        have s17 := same_new (o := .lst (cs2.map V.int)) nps
        refine ⟨ps, _, rfl, .inl ⟨sqL_new, fun pt npt => ?_⟩⟩
        have s18 := same_new (o := .tup (cs2.map V.int)) npt
        have csr := cperm pm2
        refine ⟨pt, cs2, rfl, sqT_new, csr.1, csr.2, fun v6 d6 L6 H17 s19 am6 st6 => ?_⟩
        obtain ⟨e7, e8⟩ := St4.unique st6 st csr.1.sum_pos N0 fun p => by rw [spr_perm pm2, sum_perm pm2]
        subst e7 e8
        have s1517 := ((s1516.trans s17).trans s18).trans s19
        obtain ⟨ra5, re5, rb5, rc5, rd5, rf5, rg5⟩ := AmOk.rp ok am6
        obtain ⟨ra6, re6, rb6, rc6, rd6, rf6, rg6⟩ := AmOk.rp ok (am15.same s1517)
        refine ⟨ra5, _, by rw [re5], rb5, rc5, rd5, rf5, rg5, ?_⟩
        refine ⟨_, rfl, ra6, _, by rw [re6], rb6, rc6, rd6, rf6, rg6, ?_⟩
        refine ⟨rfl, _, rfl, ?_⟩
        rw [no_ne rfl]
        refine iteF ?_
        have da17 := da15.same s1517
        -- many
        refine ⟨_, rfl, D, C, 50 + 50 + 1 + 1, 40, rfl, da17, by decide, by omega, by omega, fun mn H18 m0 m1 o18 da18 => ?_⟩
        refine ⟨_, _, rfl, rfl, ?_⟩
        dsimp only
        obtain ⟨many, em⟩ : ∃ many : Nat, (1 : Int) + mn = many := ⟨(1 + mn).toNat, by omega⟩
        have mp : 0 < many := by omega
        have mf : many ≤ 40 := by omega
        rw [em]
        clear em m0 m1 o18 da17 re3 rb3 re4 rb4 re5 rb5 re6 rb6 rc3 rd3 rf3 rg3 rc4 rd4 rf4 rg4 rc5 rd5 rf5 rg5 rc6 rd6 rf6 rg6
        refine ⟨by show 1 ≤ sizeLine; rw [sizeLine_eq]; omega, fun p1 np1 => ?_⟩
        have u1 := same_new (o := .tup [V.int 1]) np1
        have ef : (List.replicate (many : Int).toNat [V.int 1]).flatten = (List.replicate many (1 : Int)).map V.int := by
          rw [Int.toNat_natCast, List.map_replicate]; simp
        have cts1 : Cts (List.replicate many (1 : Int)) := ⟨fun n hn => by have := (List.mem_replicate.mp hn).2; omega, by rw [List.length_replicate]; exact mp, by rw [List.length_replicate]; exact mf, by rw [sumI_rep]; omega⟩
        have s1s : (List.replicate many (1 : Int)).sum = many := by rw [sumI_rep]; omega
        refine ⟨_, rfl, p1, many, [V.int 1], rfl, rfl, sqT_new, by simp, by omega, by omega, by show 1 ≤ 1000; omega, fun k1 => ?_, fun k1 p2 np2 => ?_⟩
        · have hQ : SqT K (upd H18 p1 (.tup [V.int 1])) p1 ((List.replicate many (1 : Int)).map V.int) := by
            have : many = 1 := by omega
            rw [this]; exact sqT_new
          have sQ := u1
          refine ⟨p1, List.replicate many 1, rfl, hQ, cts1, fun n hn => by have := (List.mem_replicate.mp hn).2; omega, fun v7 d7 L7 H19 s20 am7 st7 => ?_⟩
          have z1 : 1 ≤ sizeLine := by rw [sizeLine_eq]; omega
          have z2 : 2 ≤ sizeLine := by rw [sizeLine_eq]; omega
          have cts2 : Cts [(many : Int)] := ⟨fun n hn => by rw [List.mem_singleton.mp hn]; omega, by show 0 < 1; omega, by show 1 ≤ 40; omega, by show (many : Int) + 0 ≤ 1000; omega⟩
          refine ⟨_, rfl, z1, fun p3 np3 => ⟨p3, [(many : Int)], rfl, sqT_new, cts2, fun n hn => by rw [List.mem_singleton.mp hn]; omega, fun v8 d8 L8 H20 s21 am8 st8 => ⟨z2, fun p4 np4 => ?_⟩⟩⟩
          have u3 := same_new (o := .tup [V.int (many : Int)]) np3
          have u4 := same_new (o := .tup [v7, v8]) np4
          have ok7 := (spr_bd cts1).ok st7
          have ok8 := (spr_bd cts2).ok st8
          obtain ⟨rb7, rc7, rd7, rf7, rg7⟩ := two_rp (K := K) ok7 ok8 (am7.same ((u3.trans s21).trans u4)) (am8.same u4) (sqT_new (p := p4))
          refine ⟨p4, _, rfl, rb7, rc7, rd7, rf7, rg7, ?_⟩
          have t1 := sQ.trans (s20.trans ((u3.trans s21).trans u4))
          refine ⟨_, rfl, many, rfl, mp, by omega, fun v9 d9 L9 H21 s22 am9' st9 => ?_⟩
          refine ⟨by show 0 ≤ sizeLine; omega, fun p5 np5 => ⟨z2, fun p6 np6 => ⟨z2, fun p7 np7 => ?_⟩⟩⟩
          have u5 := same_new (o := .tup []) np5
          have u6 := same_new (o := .tup [V.int 1, V.ref p5]) np6
          have u7 := same_new (o := .tup [v9, V.ref p6]) np7
          have st0 : St4 1 [] 1 (fun _ => 0) := ⟨⟨by omega, .nil, by simp, by simp, rfl⟩, fun p => by show (0 : Int) * 1 = 0 * 1; rfl⟩
          obtain ⟨g1, g2⟩ := St4.unique st7 st9 cts1.sum_pos (by omega) fun p => by rw [s1s]; exact spr_ones many p
          obtain ⟨g3, g4⟩ := St4.unique st8 st0 cts2.sum_pos (by omega) fun p => by rw [spr_lone]; simp
          subst g1 g2 g3 g4
          have am0 : AmtAt K (upd (upd (upd H21 p5 (.tup [])) p6 (.tup [V.int 1, V.ref p5])) p7 (.tup [v9, V.ref p6])) (.ref p6) 1 [] := ⟨p6, p5, [], rfl, SqT.same u7 sqT_new, SqT.same (u6.trans u7) sqT_new, .nil⟩
          obtain ⟨rb8, rc8, rd8, rf8, rg8⟩ := two_rp (K := K) ok7 ok8 (am9'.same ((u5.trans u6).trans u7)) am0 (sqT_new (p := p7))
          refine ⟨p7, _, rfl, rb8, rc8, rd8, rf8, rg8, ?_⟩
          refine ⟨rfl, _, rfl, ?_⟩
          rw [no_ne rfl]
          refine iteF ?_
          have t2 := t1.trans (s22.trans ((u5.trans u6).trans u7))
          have daA := da18.same t2
          generalize (upd (upd (upd H21 p5 (.tup [])) p6 (.tup [V.int 1, V.ref p5])) p7 (.tup [v9, V.ref p6])) = HA at *
          clear rb7 rc7 rd7 rf7 rg7 rb8 rc8 rd8 rf8 rg8 am0 t1 t2 u3 u4 u5 u6 u7 am7 am8 am9' st7 st8 st9
          refine ⟨_, rfl, D, C, 50 + 50 + 1 + 1 + 1, 20, 5, rfl, daA, by decide, by omega, by omega, by omega, by omega, fun ta ca HB oB daB hTa dna => ?_⟩
          refine ⟨_, rfl, D, C, 50 + 50 + 1 + 1 + 1 + 50, 20, 5, rfl, daB, by decide, by omega, by omega, by omega, by omega, fun tb cb HC oC daC hTb dnb => ?_⟩
          refine ⟨_, _, rfl, ?_⟩
          have hTa2 := SqT.kp (oC.kp daB) hTa
          have cta := dna.cts (by omega) (by omega)
          have ctb := dnb.cts (by omega) (by omega)
          have Na := cta.sum_pos
          have Nb := ctb.sum_pos
          have la := dna.len
          have lb := dnb.len
          have sa := dna.tot
          have sb := dnb.tot
          refine ⟨by show 0 ≤ sizeLine; omega, fun pb npb => ?_⟩
          refine ⟨_, rfl, ta, rfl, ⟨_, SqT.same (same_new npb) hTa2⟩, ?_⟩
          refine for_tup (xs := ca.map V.int) (fun i σ H' => ∃ y5, σ = [some (.ref a), some (.ref D), some (.ref t), some v, some (.int by1), y5, some (.int (at1 : Int)), some (.int (many : Int)), some (.ref ta), some (.ref tb), some (.ref pb), none, none] ∧ Same HC H' ∧ H' pb = some (.lst ((prods (ca.take i) cb).map V.int))) ⟨none, rfl, same_new npb, upd_same⟩ ?_ ?_ ?_
          · rintro i σ H' _ ⟨_, _, sm, _⟩; exact SqT.same sm hTa2
          · rintro i x σ H' hx ⟨y5, rfl, sm, hpb⟩
            obtain ⟨n, hn, rfl⟩ := map_at hx
            have nm := List.mem_of_getElem? hn
            have n0 := cta.pos n nm
            have n9 := dna.hi n nm
            refine ⟨_, rfl, .inl ⟨rfl, _, .inl (.inl hpb)⟩, _, rfl, tb, rfl, ⟨_, SqT.same sm hTb⟩, fun Dm nDm => ?_⟩
            refine lc_tup (xs := cb.map V.int) (fun j H2 => Same H' H2 ∧ H2 Dm = some (.lst (((cb.take j).map fun b => n * b).map V.int))) ?_ ?_ ?_ ?_
            · exact ⟨same_new nDm, upd_same⟩
            · rintro j H2 _ ⟨sm2, _⟩; exact SqT.same (sm.trans sm2) hTb
            · rintro j x H2 hx ⟨sm2, hDm⟩
              obtain ⟨m, hm, rfl⟩ := map_at hx
              have mm := List.mem_of_getElem? hm
              have m0 := ctb.pos m mm
              have m9 := dnb.hi m mm
              refine ⟨rfl, ?_⟩
              refine ⟨_, rfl, _, rfl, _, _, rfl, rfl, wide_mul (a := 20) (b := 20) (by omega) (by omega) (by omega) (by omega) (by omega), _, hDm, ?_, same_write nDm sm2, ?_⟩
              · rw [List.length_map, List.length_map, List.length_take]; exact small1000 (by omega)
              · rw [upd_same, take_snoc _ hm, List.map_append]; rfl
            · rintro H2 ⟨sm2, hDm⟩
              rw [List.length_map, List.take_of_length_le (Nat.le_refl _)] at hDm
              have pl : (prods (ca.take i) cb).length ≤ 5 * 5 := by
                rw [prods_len]
                exact Nat.mul_le_mul (by rw [List.length_take]; omega) (by omega)
              refine ⟨pb, Dm, _, _, rfl, rfl, sm2 _ _ hpb, hDm, by rw [List.length_map, List.length_map, List.length_map, sizeLine_eq]; omega, ?_⟩
              refine ⟨some (.int n), rfl, same_write npb (sm.trans sm2), ?_⟩
              rw [upd_same, show ca.take (i + 1) = ca.take i ++ [n] by rw [List.take_add_one, hn]; rfl, prods_snoc, List.map_append]
          · rintro σ H' ⟨y5, rfl, sm, hpb⟩
            rw [List.length_map, List.take_of_length_le (Nat.le_refl _)] at hpb
            refine ⟨_, rfl, pb, _, rfl, .inl ⟨.inl (.inl hpb), fun pt2 npt2 => ?_⟩⟩
            have x1 := same_new (o := .tup ((prods ca cb).map V.int)) npt2
            have ppos := prods_pos cta.pos ctb.pos
            have psum := prods_sum ca cb
            have pslt : ca.sum * cb.sum ≤ 20 * 20 := Int.mul_le_mul sa sb (by omega) (by omega)
            have psgt : 0 < ca.sum * cb.sum := Int.mul_pos Na Nb
            have plen : (prods ca cb).length ≤ 5 * 5 := by rw [prods_len]; exact Nat.mul_le_mul (by omega) (by omega)
            have plne : 0 < (prods ca cb).length := by rw [prods_len]; exact Nat.mul_pos cta.ne ctb.ne
            have ctp : Cts (prods ca cb) := ⟨ppos, plne, by omega, by rw [psum]; omega⟩
            refine ⟨pt2, prods ca cb, rfl, sqT_new, ctp, fun n hn => by have := mem_le_sum ppos hn; rw [psum] at this; omega, fun v10 d10 L10 HD x2 am10 st10 => ?_⟩
            have ok10 := (spr_bd ctp).ok st10
            obtain ⟨rx1, ry1, rb1, rc1, rd1, rf1, rg1⟩ := AmOk.rp ok10 am10
            refine ⟨rx1, _, by rw [ry1], rb1, rc1, rd1, rf1, rg1, ?_⟩
            have xs1 := sm.trans (x1.trans x2)
            refine ⟨_, rfl, ta, ca, rfl, SqT.same xs1 hTa2, cta, dna.hi, fun v11 d11 L11 HE x3 am11 st11 => ?_⟩
            refine ⟨_, rfl, tb, cb, rfl, SqT.same (xs1.trans x3) hTb, ctb, dnb.hi, fun v12 d12 L12 HF x4 am12 st12 => ?_⟩
            have b11 : Bd (ca.sum * cb.sum) (fun p => lg (sprM ca) p * cb.sum) := by
              have g := spr_bd cta
              refine ⟨psgt, by omega, fun p h => g.key p (fun z => h (by show lg (sprM ca) p * cb.sum = 0; rw [z]; simp)), fun p => ?_⟩
              have h1 := lg_abs (M := sprM ca) (p := p) (c := 9) fun q hq => ⟨(cta.pairs.num q hq).1, by have := (cta.pairs.num q hq).2; omega⟩
              rw [asz_spr cta] at h1
              show (lg (sprM ca) p * cb.sum).natAbs < _
              rw [Int.natAbs_mul]
              have h2 : (lg (sprM ca) p).natAbs * cb.sum.natAbs ≤ 360 * 20 := Nat.mul_le_mul (by omega) (by omega)
              omega
            have b12 : Bd (ca.sum * cb.sum) (fun p => lg (sprM cb) p * ca.sum) := by
              have g := spr_bd ctb
              refine ⟨psgt, by omega, fun p h => g.key p (fun z => h (by show lg (sprM cb) p * ca.sum = 0; rw [z]; simp)), fun p => ?_⟩
              have h1 := lg_abs (M := sprM cb) (p := p) (c := 9) fun q hq => ⟨(ctb.pairs.num q hq).1, by have := (ctb.pairs.num q hq).2; omega⟩
              rw [asz_spr ctb] at h1
              show (lg (sprM cb) p * ca.sum).natAbs < _
              rw [Int.natAbs_mul]
              have h2 : (lg (sprM cb) p).natAbs * ca.sum.natAbs ≤ 360 * 20 := Nat.mul_le_mul (by omega) (by omega)
              omega
            have V11 : Val K HF v11 (ca.sum * cb.sum) (fun p => lg (sprM ca) p * cb.sum) := by
              refine Val.congr (⟨d11, L11, am11.same x4, st11⟩ : Val K HF v11 ca.sum (lg (sprM ca))) Na fun p => ?_
              show lg (sprM ca) p * (ca.sum * cb.sum) = lg (sprM ca) p * cb.sum * ca.sum
              rw [Int.mul_assoc, Int.mul_comm cb.sum]
            have V12 : Val K HF v12 (ca.sum * cb.sum) (fun p => lg (sprM cb) p * ca.sum) := by
              refine Val.congr (⟨d12, L12, am12, st12⟩ : Val K HF v12 cb.sum (lg (sprM cb))) Nb fun p => ?_
              show lg (sprM cb) p * (ca.sum * cb.sum) = lg (sprM cb) p * ca.sum * cb.sum
              rw [Int.mul_assoc]
            refine ⟨v11, v12, ca.sum * cb.sum, _, _, rfl, V11, V12, b11, b12, fun v13 HG x5 V13 => ?_⟩
            obtain ⟨d13, L13, am13, st13⟩ := V13
            obtain ⟨g1, g2⟩ := St4.unique st13 st10 psgt ctp.sum_pos fun p => by
              rw [psum]
              congr 1
              rw [spr_prod cta.pos ctb.pos Na Nb, Int.one_mul]
            subst g1 g2
            obtain ⟨rx2, ry2, rb2, rc2, rd2, rf2, rg2⟩ := AmOk.rp ok10 am13
            refine ⟨rx2, _, by rw [ry2], rb2, rc2, rd2, rf2, rg2, ?_⟩
            refine ⟨rfl, _, rfl, ?_⟩
            rw [no_ne rfl]
            refine iteF ?_
            have daG := daC.same (xs1.trans ((x3.trans x4).trans x5))
            refine ⟨_, rfl, D, C, 50 + 50 + 1 + 1 + 1 + 50 + 50, 4, rfl, daG, by decide, by omega, by omega, fun z HH2 _ _ oH daH => ?_⟩
            refine ⟨_, _, rfl, rfl, _, rfl, ite2 (fun _ => q HH2) (fun _ => ?_)⟩
            refine ⟨_, rfl, D, C, 50 + 50 + 1 + 1 + 1 + 50 + 50 + 1, 1000, 40, rfl, daH, by decide, by omega, by omega, by omega, by omega, fun tc cc HI oI daI hTc dnc => ?_⟩
            have ctc := dnc.cts (by omega) (by omega)
            refine ⟨_, rfl, _, rfl, tc, cc, rfl, hTc, ctc, dnc.hi, fun v14 d14 L14 HJ x6 am14 st14 => ?_⟩
            exact ⟨tc, v14, cc, rfl, SqT.same x6 hTc, ctc, ⟨d14, L14, am14, st14⟩, fun HK2 _ => q HK2⟩
        · rw [ef]
          have hQ : SqT K (upd (upd H18 p1 (.tup [V.int 1])) p2 (.tup ((List.replicate many (1 : Int)).map V.int))) p2 ((List.replicate many (1 : Int)).map V.int) := sqT_new
          have sQ := u1.trans (same_new (o := .tup ((List.replicate many (1 : Int)).map V.int)) np2)
          refine ⟨p2, List.replicate many 1, rfl, hQ, cts1, fun n hn => by have := (List.mem_replicate.mp hn).2; omega, fun v7 d7 L7 H19 s20 am7 st7 => ?_⟩
          have z1 : 1 ≤ sizeLine := by rw [sizeLine_eq]; omega
          have z2 : 2 ≤ sizeLine := by rw [sizeLine_eq]; omega
          have cts2 : Cts [(many : Int)] := ⟨fun n hn => by rw [List.mem_singleton.mp hn]; omega, by show 0 < 1; omega, by show 1 ≤ 40; omega, by show (many : Int) + 0 ≤ 1000; omega⟩
          refine ⟨_, rfl, z1, fun p3 np3 => ⟨p3, [(many : Int)], rfl, sqT_new, cts2, fun n hn => by rw [List.mem_singleton.mp hn]; omega, fun v8 d8 L8 H20 s21 am8 st8 => ⟨z2, fun p4 np4 => ?_⟩⟩⟩
          have u3 := same_new (o := .tup [V.int (many : Int)]) np3
          have u4 := same_new (o := .tup [v7, v8]) np4
          have ok7 := (spr_bd cts1).ok st7
          have ok8 := (spr_bd cts2).ok st8
          obtain ⟨rb7, rc7, rd7, rf7, rg7⟩ := two_rp (K := K) ok7 ok8 (am7.same ((u3.trans s21).trans u4)) (am8.same u4) (sqT_new (p := p4))
          refine ⟨p4, _, rfl, rb7, rc7, rd7, rf7, rg7, ?_⟩
          have t1 := sQ.trans (s20.trans ((u3.trans s21).trans u4))
          refine ⟨_, rfl, many, rfl, mp, by omega, fun v9 d9 L9 H21 s22 am9' st9 => ?_⟩
          refine ⟨by show 0 ≤ sizeLine; omega, fun p5 np5 => ⟨z2, fun p6 np6 => ⟨z2, fun p7 np7 => ?_⟩⟩⟩
          have u5 := same_new (o := .tup []) np5
          have u6 := same_new (o := .tup [V.int 1, V.ref p5]) np6
          have u7 := same_new (o := .tup [v9, V.ref p6]) np7
          have st0 : St4 1 [] 1 (fun _ => 0) := ⟨⟨by omega, .nil, by simp, by simp, rfl⟩, fun p => by show (0 : Int) * 1 = 0 * 1; rfl⟩
          obtain ⟨g1, g2⟩ := St4.unique st7 st9 cts1.sum_pos (by omega) fun p => by rw [s1s]; exact spr_ones many p
          obtain ⟨g3, g4⟩ := St4.unique st8 st0 cts2.sum_pos (by omega) fun p => by rw [spr_lone]; simp
          subst g1 g2 g3 g4
          have am0 : AmtAt K (upd (upd (upd H21 p5 (.tup [])) p6 (.tup [V.int 1, V.ref p5])) p7 (.tup [v9, V.ref p6])) (.ref p6) 1 [] := ⟨p6, p5, [], rfl, SqT.same u7 sqT_new, SqT.same (u6.trans u7) sqT_new, .nil⟩
          obtain ⟨rb8, rc8, rd8, rf8, rg8⟩ := two_rp (K := K) ok7 ok8 (am9'.same ((u5.trans u6).trans u7)) am0 (sqT_new (p := p7))
          refine ⟨p7, _, rfl, rb8, rc8, rd8, rf8, rg8, ?_⟩
          refine ⟨rfl, _, rfl, ?_⟩
          rw [no_ne rfl]
          refine iteF ?_
          have t2 := t1.trans (s22.trans ((u5.trans u6).trans u7))
          have daA := da18.same t2
          generalize (upd (upd (upd H21 p5 (.tup [])) p6 (.tup [V.int 1, V.ref p5])) p7 (.tup [v9, V.ref p6])) = HA at *
          clear rb7 rc7 rd7 rf7 rg7 rb8 rc8 rd8 rf8 rg8 am0 t1 t2 u3 u4 u5 u6 u7 am7 am8 am9' st7 st8 st9
          refine ⟨_, rfl, D, C, 50 + 50 + 1 + 1 + 1, 20, 5, rfl, daA, by decide, by omega, by omega, by omega, by omega, fun ta ca HB oB daB hTa dna => ?_⟩
          refine ⟨_, rfl, D, C, 50 + 50 + 1 + 1 + 1 + 50, 20, 5, rfl, daB, by decide, by omega, by omega, by omega, by omega, fun tb cb HC oC daC hTb dnb => ?_⟩
          refine ⟨_, _, rfl, ?_⟩
          have hTa2 := SqT.kp (oC.kp daB) hTa
          have cta := dna.cts (by omega) (by omega)
          have ctb := dnb.cts (by omega) (by omega)
          have Na := cta.sum_pos
          have Nb := ctb.sum_pos
          have la := dna.len
          have lb := dnb.len
          have sa := dna.tot
          have sb := dnb.tot
          refine ⟨by show 0 ≤ sizeLine; omega, fun pb npb => ?_⟩
          refine ⟨_, rfl, ta, rfl, ⟨_, SqT.same (same_new npb) hTa2⟩, ?_⟩
          refine for_tup (xs := ca.map V.int) (fun i σ H' => ∃ y5, σ = [some (.ref a), some (.ref D), some (.ref t), some v, some (.int by1), y5, some (.int (at1 : Int)), some (.int (many : Int)), some (.ref ta), some (.ref tb), some (.ref pb), none, none] ∧ Same HC H' ∧ H' pb = some (.lst ((prods (ca.take i) cb).map V.int))) ⟨none, rfl, same_new npb, upd_same⟩ ?_ ?_ ?_
          · rintro i σ H' _ ⟨_, _, sm, _⟩; exact SqT.same sm hTa2
          · rintro i x σ H' hx ⟨y5, rfl, sm, hpb⟩
            obtain ⟨n, hn, rfl⟩ := map_at hx
            have nm := List.mem_of_getElem? hn
            have n0 := cta.pos n nm
            have n9 := dna.hi n nm
            refine ⟨_, rfl, .inl ⟨rfl, _, .inl (.inl hpb)⟩, _, rfl, tb, rfl, ⟨_, SqT.same sm hTb⟩, fun Dm nDm => ?_⟩
            refine lc_tup (xs := cb.map V.int) (fun j H2 => Same H' H2 ∧ H2 Dm = some (.lst (((cb.take j).map fun b => n * b).map V.int))) ?_ ?_ ?_ ?_
            · exact ⟨same_new nDm, upd_same⟩
            · rintro j H2 _ ⟨sm2, _⟩; exact SqT.same (sm.trans sm2) hTb
            · rintro j x H2 hx ⟨sm2, hDm⟩
              obtain ⟨m, hm, rfl⟩ := map_at hx
              have mm := List.mem_of_getElem? hm
              have m0 := ctb.pos m mm
              have m9 := dnb.hi m mm
              refine ⟨rfl, ?_⟩
              refine ⟨_, rfl, _, rfl, _, _, rfl, rfl, wide_mul (a := 20) (b := 20) (by omega) (by omega) (by omega) (by omega) (by omega), _, hDm, ?_, same_write nDm sm2, ?_⟩
              · rw [List.length_map, List.length_map, List.length_take]; exact small1000 (by omega)
              · rw [upd_same, take_snoc _ hm, List.map_append]; rfl
            · rintro H2 ⟨sm2, hDm⟩
              rw [List.length_map, List.take_of_length_le (Nat.le_refl _)] at hDm
              have pl : (prods (ca.take i) cb).length ≤ 5 * 5 := by
                rw [prods_len]
                exact Nat.mul_le_mul (by rw [List.length_take]; omega) (by omega)
              refine ⟨pb, Dm, _, _, rfl, rfl, sm2 _ _ hpb, hDm, by rw [List.length_map, List.length_map, List.length_map, sizeLine_eq]; omega, ?_⟩
              refine ⟨some (.int n), rfl, same_write npb (sm.trans sm2), ?_⟩
              rw [upd_same, show ca.take (i + 1) = ca.take i ++ [n] by rw [List.take_add_one, hn]; rfl, prods_snoc, List.map_append]
          · rintro σ H' ⟨y5, rfl, sm, hpb⟩
            rw [List.length_map, List.take_of_length_le (Nat.le_refl _)] at hpb
            refine ⟨_, rfl, pb, _, rfl, .inl ⟨.inl (.inl hpb), fun pt2 npt2 => ?_⟩⟩
            have x1 := same_new (o := .tup ((prods ca cb).map V.int)) npt2
            have ppos := prods_pos cta.pos ctb.pos
            have psum := prods_sum ca cb
            have pslt : ca.sum * cb.sum ≤ 20 * 20 := Int.mul_le_mul sa sb (by omega) (by omega)
            have psgt : 0 < ca.sum * cb.sum := Int.mul_pos Na Nb
            have plen : (prods ca cb).length ≤ 5 * 5 := by rw [prods_len]; exact Nat.mul_le_mul (by omega) (by omega)
            have plne : 0 < (prods ca cb).length := by rw [prods_len]; exact Nat.mul_pos cta.ne ctb.ne
            have ctp : Cts (prods ca cb) := ⟨ppos, plne, by omega, by rw [psum]; omega⟩
            refine ⟨pt2, prods ca cb, rfl, sqT_new, ctp, fun n hn => by have := mem_le_sum ppos hn; rw [psum] at this; omega, fun v10 d10 L10 HD x2 am10 st10 => ?_⟩
            have ok10 := (spr_bd ctp).ok st10
            obtain ⟨rx1, ry1, rb1, rc1, rd1, rf1, rg1⟩ := AmOk.rp ok10 am10
            refine ⟨rx1, _, by rw [ry1], rb1, rc1, rd1, rf1, rg1, ?_⟩
            have xs1 := sm.trans (x1.trans x2)
            refine ⟨_, rfl, ta, ca, rfl, SqT.same xs1 hTa2, cta, dna.hi, fun v11 d11 L11 HE x3 am11 st11 => ?_⟩
            refine ⟨_, rfl, tb, cb, rfl, SqT.same (xs1.trans x3) hTb, ctb, dnb.hi, fun v12 d12 L12 HF x4 am12 st12 => ?_⟩
            have b11 : Bd (ca.sum * cb.sum) (fun p => lg (sprM ca) p * cb.sum) := by
              have g := spr_bd cta
              refine ⟨psgt, by omega, fun p h => g.key p (fun z => h (by show lg (sprM ca) p * cb.sum = 0; rw [z]; simp)), fun p => ?_⟩
              have h1 := lg_abs (M := sprM ca) (p := p) (c := 9) fun q hq => ⟨(cta.pairs.num q hq).1, by have := (cta.pairs.num q hq).2; omega⟩
              rw [asz_spr cta] at h1
              show (lg (sprM ca) p * cb.sum).natAbs < _
              rw [Int.natAbs_mul]
              have h2 : (lg (sprM ca) p).natAbs * cb.sum.natAbs ≤ 360 * 20 := Nat.mul_le_mul (by omega) (by omega)
              omega
            have b12 : Bd (ca.sum * cb.sum) (fun p => lg (sprM cb) p * ca.sum) := by
              have g := spr_bd ctb
              refine ⟨psgt, by omega, fun p h => g.key p (fun z => h (by show lg (sprM cb) p * ca.sum = 0; rw [z]; simp)), fun p => ?_⟩
              have h1 := lg_abs (M := sprM cb) (p := p) (c := 9) fun q hq => ⟨(ctb.pairs.num q hq).1, by have := (ctb.pairs.num q hq).2; omega⟩
              rw [asz_spr ctb] at h1
              show (lg (sprM cb) p * ca.sum).natAbs < _
              rw [Int.natAbs_mul]
              have h2 : (lg (sprM cb) p).natAbs * ca.sum.natAbs ≤ 360 * 20 := Nat.mul_le_mul (by omega) (by omega)
              omega
            have V11 : Val K HF v11 (ca.sum * cb.sum) (fun p => lg (sprM ca) p * cb.sum) := by
              refine Val.congr (⟨d11, L11, am11.same x4, st11⟩ : Val K HF v11 ca.sum (lg (sprM ca))) Na fun p => ?_
              show lg (sprM ca) p * (ca.sum * cb.sum) = lg (sprM ca) p * cb.sum * ca.sum
              rw [Int.mul_assoc, Int.mul_comm cb.sum]
            have V12 : Val K HF v12 (ca.sum * cb.sum) (fun p => lg (sprM cb) p * ca.sum) := by
              refine Val.congr (⟨d12, L12, am12, st12⟩ : Val K HF v12 cb.sum (lg (sprM cb))) Nb fun p => ?_
              show lg (sprM cb) p * (ca.sum * cb.sum) = lg (sprM cb) p * ca.sum * cb.sum
              rw [Int.mul_assoc]
            refine ⟨v11, v12, ca.sum * cb.sum, _, _, rfl, V11, V12, b11, b12, fun v13 HG x5 V13 => ?_⟩
            obtain ⟨d13, L13, am13, st13⟩ := V13
            obtain ⟨g1, g2⟩ := St4.unique st13 st10 psgt ctp.sum_pos fun p => by
              rw [psum]
              congr 1
              rw [spr_prod cta.pos ctb.pos Na Nb, Int.one_mul]
            subst g1 g2
            obtain ⟨rx2, ry2, rb2, rc2, rd2, rf2, rg2⟩ := AmOk.rp ok10 am13
            refine ⟨rx2, _, by rw [ry2], rb2, rc2, rd2, rf2, rg2, ?_⟩
            refine ⟨rfl, _, rfl, ?_⟩
            rw [no_ne rfl]
            refine iteF ?_
            have daG := daC.same (xs1.trans ((x3.trans x4).trans x5))
            refine ⟨_, rfl, D, C, 50 + 50 + 1 + 1 + 1 + 50 + 50, 4, rfl, daG, by decide, by omega, by omega, fun z HH2 _ _ oH daH => ?_⟩
            refine ⟨_, _, rfl, rfl, _, rfl, ite2 (fun _ => q HH2) (fun _ => ?_)⟩
            refine ⟨_, rfl, D, C, 50 + 50 + 1 + 1 + 1 + 50 + 50 + 1, 1000, 40, rfl, daH, by decide, by omega, by omega, by omega, by omega, fun tc cc HI oI daI hTc dnc => ?_⟩
            have ctc := dnc.cts (by omega) (by omega)
            refine ⟨_, rfl, _, rfl, tc, cc, rfl, hTc, ctc, dnc.hi, fun v14 d14 L14 HJ x6 am14 st14 => ?_⟩
            exact ⟨tc, v14, cc, rfl, SqT.same x6 hTc, ctc, ⟨d14, L14, am14, st14⟩, fun HK2 _ => q HK2⟩
end
end K06

namespace K06
open PySem PySem.Spec PyProof.Rows L2 Ly
abbrev lv : Nat := 10
theorem fin {P : Program} {w : World} {mg : Str → Option Value} {fa_ : Addr} {h hh : Heap} {K : PySem.W.Frag} (KX : K.In h) (G : h.Ns mainGlobals mg) (c : He.SaysX fa fn [] [] ex w hh K) (hmg : mg ("law" : Str) = some (.ref fa_)) :
    ∃ (K : PySem.W.Frag) (fd : FuncData) (sp : Sp), K.In h ∧ (∀ (s : Shared) (u : Value), BindsTo s fd ⟨[u], []⟩ [("_law_script", u)]) ∧
      (∀ (H : Hp) (a : Addr) (ns : List Int), ns.length ≤ 63 → Only H → SqL K H a (ns.map V.int) → sp [.ref a] H (fun v _ => v = .bl true) fun _ _ _ => False) ∧
      ∀ base : Heap, K.In base → base.Ns mainGlobals mg → FnG P w K mg base CX0 lv fa_ fd ["_law_script"] sp := by
  have T := Tx.mk_of KX G c
  obtain ⟨f, fd, F, B, B2, g⟩ := fd_law T
  have e : f = fa_ := by
    rw [hmg] at g
    have := Option.some.inj g
    cases this; rfl
  subst e
  refine ⟨K, fd, spLaw K, KX, fun s u => B2 s [u] rfl, fun H a ns hl _ hS => ⟨a, ns, rfl, hS, hl, fun _ => rfl⟩, fun base _ _ => law_fn T F⟩
end K06
namespace K06
open PySem PySem.Spec PyProof.Rows L2 Ly
abbrev R : PySem.W.OpenRow := PySem.W.OpenLaw.row PySem.Challenge.rw_toldamounts_k06_whole_spreads_of_counts
abbrev hk : PySem.W.Hook := He.hookX 4 fa fn [] [] ex
def ob (s : PySem.W.SharedT) : He.AlX := He.obsX 4 fa fn [] [] ex (HandSHeadRun.getT s)
theorem ob_eq (s : PySem.W.SharedT) : ob s = hk.obs s.abs := He.obsX_eq (HandSHeadRun.getT_eq s)
abbrev lz0 : List Str := ["gcd", "isqrt", "lcm", "AmountError", "BadAmount", "BadNumber", "BadCounts", "is_integer", "is_integer_in", "is_tuple_of", "are_integers_in", "is_ascending"]
abbrev lz1 : List Str := ["is_prime", "prime_powers", "amount_from", "logs_added", "spread_of", "combined", "power", "products_of", "ABOVE_PRIMES", "MOST_COUNTS", "MOST_COUNT", "MOST_TOP"]
abbrev lz2 : List Str := ["is_part", "is_amount", "require_amount", "require_number", "amount_of", "spread", "plus", "minus", "is_below", "times", "sign_of", "_law_deck"]
abbrev lz3 : List Str := ["_law_draw", "_law_gcd", "_law_is_integer", "_law_is_prime", "_law_is_own_amount", "_law_drawn", "_law_stands_for", "_law_is_bounded", "_law_is_put_together"]
abbrev lo : List Str := lz0 ++ lz1 ++ lz2 ++ lz3
theorem run (w : World) : HandSHeadRun.RunEqI R (PySem.W.view R.prog [0, 49]) hk ob 6000 lo w := by
  unfold HandSHeadRun.RunEqI
  kernel_rfl
end K06
open PySem PySem.W PySem.Calls PyProof.Rows
theorem PySem.Challenge.cw_toldamounts_k06_whole_spreads_of_counts_holds : PySem.Challenge.rw_toldamounts_k06_whole_spreads_of_counts.Holds := by
  w_on; o_law
  refine HandSHeadRun.head_imp (r := OpenLaw.row PySem.Challenge.rw_toldamounts_k06_whole_spreads_of_counts) (q := view (OpenLaw.row PySem.Challenge.rw_toldamounts_k06_whole_spreads_of_counts).prog [0, 49]) (H := K06.hk) (ob := K06.ob) (M := 6000) (loose := K06.lo) (d := HandSHeadRun.topDef (OpenLaw.row PySem.Challenge.rw_toldamounts_k06_whole_spreads_of_counts).prog 49) (kwd := []) K06.ob_eq
    K06.run (by kernel_rfl) (by kernel_rfl) (by kernel_rfl) (by rfl) (by first | assumption | decide +kernel) (by decide +kernel) ⟨rfl, rfl, rfl, rfl, rfl, by decide +kernel⟩ ?hw ?hc
  case hw => w_witness2
  case hc =>
    refine Ly.walk_ofG (l := PySem.Challenge.rw_toldamounts_k06_whole_spreads_of_counts) (n := 63) (k := K06.lv) (x := "_law_script") rfl (by decide) (by kernel_rfl) ⟨rfl, by decide, by decide⟩ ?_
    intro w mg fa h Y G hmg0
    obtain ⟨K, KX, c⟩ := Y
    have hmg : mg ("law" : PySem.Str) = some (.ref fa) := by
      have e : (HandSHeadRun.topDef (OpenLaw.row PySem.Challenge.rw_toldamounts_k06_whole_spreads_of_counts).prog 49).name = ("law" : PySem.Str) := by kernel_rfl
      rw [← e]
      exact hmg0
    exact K06.fin KX G c hmg

