import PyProof.Rows.All
import Wide.All
import OpenK.AllK
import Wide.FinOn
import HandS.ForMost
import HandS.Wide
import HandS.IsInst
import HandS.Zip
import HandS.Walk
import HandS.Flow
import HandS.Evl
import HandS.Defaults
import HandS.NoneIn
import HandS.SortRule
import HandS.TupAny
import HandS.WideBits
import HandS.Deep
import HandS.Lambda
import KE.SortKeyHeap
import HandS.EndOwn
import HandS.TupSets
import HandS.Strs
import HandS.MakeKwOnly
import HandS.OwnEq
import HandS.Exc
import HandS.ExcCtx
import HandS.ExcInitHot
import HandS.ExcInit
import HandS.ExcField
import HandS.HotCalls
import HandS.WordsExc
import HandS.EndTab
import KE.KTryMore
import HandS.Hot
import KE.KNestM
import KE.HD2
import HandS.Style
import PyProof.ZipIter
import KE.KItemsList
import HandS.Words
import KE.KDflt
import KE.GoesRaise
import HandS.More
import PySem.Challenge.RW_evenpace_k08_valid_gates
set_option Elab.async false
set_option linter.all false
set_option maxRecDepth 100000
set_option autoImplicit false
namespace EP
open PySem PySem.Spec PyProof.Rows L2
/-! ### wide floor division by a divisor of either sign -/
def CDivZ (_ j : Int) : Prop := j ≠ 0 ∧ j.natAbs.log2 < 9000
theorem op_fdivZ {X : Cx} : OpR X (binaryOp .FloorDiv) (rI CDivZ fun i j => .int (i.fdiv j)) := opI fun _ _ _ _ _ _ _ hc q => floordiv_int hc.1 q (.inl (PyProof.noPylong_of_log2 hc.2))
/-! ### heaps -/
def Gw (r : Addr) (H H' : Hp) : Prop := ∀ a o, a ≠ r → H a = some o → H' a = some o
def RngL (L : Addr) (H : Hp) (r : Addr) : Prop := ∃ (ns : List Int) (i c s : Int), H r = some (.lst [.ref L, .int i, .int c, .int s]) ∧ H L = some (.lst (ns.map V.int)) ∧ L ≠ r ∧ 0 ≤ i ∧ ns.length < 100 ∧ 0 ≤ c ∧ 0 ≤ s ∧ s < 2147483563
def Rng (H : Hp) (r : Addr) : Prop := ∃ L, RngL L H r
/-- from H to H' only the generator at r changed; new things may have come -/
structure Mo (r : Addr) (H H' : Hp) : Prop where
  g : Gw r H H'
  a : Rng H r
  l : ∀ L, RngL L H r → RngL L H' r
theorem Mo.b {r : Addr} {H H' : Hp} (m : Mo r H H') : Rng H' r := by
  obtain ⟨L, h⟩ := m.a
  exact ⟨L, m.l L h⟩
theorem RngL.same {L : Addr} {H H' : Hp} {r : Addr} (h : RngL L H r) (s : Same H H') : RngL L H' r := by
  obtain ⟨ns, i, c, sd, h1, h2, h3⟩ := h
  exact ⟨ns, i, c, sd, s _ _ h1, s _ _ h2, h3⟩
theorem Rng.same {H H' : Hp} {r : Addr} (h : Rng H r) (s : Same H H') : Rng H' r := by
  obtain ⟨L, h⟩ := h
  exact ⟨L, h.same s⟩
theorem Mo.same {H H' : Hp} {r : Addr} (h : Rng H r) (s : Same H H') : Mo r H H' := ⟨fun a o _ e => s a o e, h, fun _ h => h.same s⟩
theorem Mo.refl {H : Hp} {r : Addr} (h : Rng H r) : Mo r H H := ⟨fun a o _ e => e, h, fun _ h => h⟩
theorem Mo.trans {H H1 H2 : Hp} {r : Addr} (x : Mo r H H1) (y : Mo r H1 H2) : Mo r H H2 := ⟨fun a o n e => y.g a o n (x.g a o n e), x.a, fun L h => y.l L (x.l L h)⟩
/-- what is new since H may change -/
theorem Mo.mut {r D : Addr} {H H' : Hp} {o : HO} (m : Mo r H H') (n : H D = none) : Mo r H (upd H' D o) := by
  refine ⟨fun a u ha e => ?_, m.a, fun L h => ?_⟩
  · rw [upd_ne (ne_of_none e n)]; exact m.g a u ha e
  · obtain ⟨_, _, _, _, e1, e2, _⟩ := id h
    obtain ⟨ns, i, c, sd, h1, h2, h3⟩ := m.l L h
    refine ⟨ns, i, c, sd, ?_, ?_, h3⟩
    · rw [upd_ne (ne_of_none e1 n)]; exact h1
    · rw [upd_ne (ne_of_none e2 n)]; exact h2
theorem same_upd {H : Hp} {p : Addr} {o : HO} (h : H p = none) : Same H (upd H p o) := fun b x e => by
  rw [upd_ne (ne_of_none e h)]
  exact e
theorem Mo.new {H : Hp} {r p : Addr} {o : HO} (h : Rng H r) (n : H p = none) : Mo r H (upd H p o) := .same h (same_upd n)
theorem sqt_mo {K : PySem.W.Frag} {H H' : Hp} {r a : Addr} {xs : List V} (m : Mo r H H') (h : SqT K H a xs) : SqT K H' a xs := by
  rcases h with h | h
  · left
    obtain ⟨L, ns, i, c, sd, h1, _⟩ := m.a
    rcases h with h | ⟨o, h⟩
    · refine .inl (m.g a _ (fun e => ?_) h)
      subst e; rw [h1] at h; cases h
    · refine .inr ⟨o, m.g a _ (fun e => ?_) h⟩
      subst e; rw [h1] at h; cases h
  · exact .inr h
theorem sql_mo {K : PySem.W.Frag} {H H' : Hp} {r a : Addr} {xs : List V} (m : Mo r H H') (n : a ≠ r) (h : SqL K H a xs) : SqL K H' a xs := by
  rcases h with h | h
  · left
    rcases h with h | ⟨o, h⟩
    · exact .inl (m.g a _ n h)
    · exact .inr ⟨o, m.g a _ n h⟩
  · exact .inr h
/-! ### fractions -/
def Fr (K : PySem.W.Frag) (H : Hp) (v : V) (a b : Int) : Prop := ∃ p, v = .ref p ∧ SqT K H p [.int a, .int b]
theorem Fr.mo {K : PySem.W.Frag} {H H' : Hp} {r : Addr} {v : V} {a b : Int} (h : Fr K H v a b) (m : Mo r H H') : Fr K H' v a b := by
  obtain ⟨p, e, h⟩ := h
  exact ⟨p, e, sqt_mo m h⟩
theorem Fr.same {K : PySem.W.Frag} {H H' : Hp} {v : V} {a b : Int} (h : Fr K H v a b) (m : Same H H') : Fr K H' v a b := by
  obtain ⟨p, e, h⟩ := h
  exact ⟨p, e, Evl.ex_t m h⟩
theorem sizeLine2 {n : Nat} (h : n ≤ 1000) : n ≤ sizeLine := Nat.le_trans h (by decide)
end EP
namespace EP
open PySem PySem.Spec PyProof.Rows L2
/-! ### tests -/
theorem brI {p A B : Prop} [Decidable p] (h1 : p → A) (h2 : ¬ p → B) : if decide p = true then A else B := by
  by_cases h : p
  · rw [if_pos (decide_eq_true h)]; exact h1 h
  · rw [if_neg (by simpa using h)]; exact h2 h
theorem brEq {i j : Int} {A B : Prop} (h1 : i = j → A) (h2 : i ≠ j → B) : if decide (V.int i = V.int j) = true then A else B :=
  brI (fun h => h1 (V.int.inj h)) (fun h => h2 fun e => h (by rw [e]))
theorem brNe {i j : Int} {A B : Prop} (h1 : i ≠ j → A) (h2 : i = j → B) : if (!decide (V.int i = V.int j)) = true then A else B := by
  by_cases h : i = j
  · subst h; rw [if_neg (by simp)]; exact h2 rfl
  · rw [if_pos (by simpa using h)]; exact h1 h
/-! ### items -/
theorem ix0 {x : V} {xs : List V} : atI (x :: xs) 0 = some x := atI_nat (j := 0) rfl
theorem ix1 {x y : V} {xs : List V} : atI (x :: y :: xs) 1 = some y := atI_nat (j := 1) rfl
theorem ix2 {x y z : V} {xs : List V} : atI (x :: y :: z :: xs) 2 = some z := atI_nat (j := 2) rfl
theorem ix3 {x y z u : V} {xs : List V} : atI (x :: y :: z :: u :: xs) 3 = some u := atI_nat (j := 3) rfl
/-! ### sizes -/
def B (n : Nat) (x : Int) : Prop := x.natAbs < 2 ^ n
theorem B.one : B 1 1 := by unfold B; decide
theorem B.mono {n m : Nat} {x : Int} (h : B n x) (l : n ≤ m := by decide) : B m x := Nat.lt_of_lt_of_le h (Nat.pow_le_pow_right (by decide) l)
theorem B.mul {n m : Nat} {x y : Int} (h : B n x) (k : B m y) : B (n + m) (x * y) := wide_lt h k
theorem B.add {n : Nat} {x y : Int} (h : B n x) (k : B n y) : B (n + 1) (x + y) := by
  unfold B at *
  rw [Nat.pow_succ]; omega
theorem B.sub {n : Nat} {x y : Int} (h : B n x) (k : B n y) : B (n + 1) (x - y) := by
  unfold B at *
  rw [Nat.pow_succ]; omega
theorem B.neg {n : Nat} {x : Int} (h : B n x) : B n (-x) := by unfold B at *; omega
theorem B.le {n : Nat} {x y : Int} (h : B n y) (k : x.natAbs ≤ y.natAbs) : B n x := Nat.lt_of_le_of_lt k h
theorem B.log {n : Nat} {x : Int} (h : B n x) (h0 : 0 < n := by decide) : x.natAbs.log2 < n := PySem.Flt.log2_lt_of h0 h
theorem cm {n m : Nat} {x y : Int} (h : B n x) (k : B m y) (h0 : 0 < n := by decide) (h1 : 0 < m := by decide) (l : n + m ≤ 1000000 := by decide) : CMulW x y := wide_mul h k h0 h1 l
theorem cdW {x y : Int} {n : Nat} (h : 0 < y) (k : B n y) (h0 : 0 < n := by decide) (l : n ≤ 9000 := by decide) : CDivW x y := wide_div h k h0 l
end EP

namespace EP
/-! ### the mathematics of fractions in lowest terms -/
def rn (n d : Int) : Int := (if d < 0 then -n else n) / (Int.gcd n d : Int)
def rd (n d : Int) : Int := (d.natAbs : Int) / (Int.gcd n d : Int)
theorem gcd_pos {n d : Int} (h : d ≠ 0) : 0 < Int.gcd n d := Int.gcd_pos_of_ne_zero_right n h
theorem rn_mul {n d : Int} : rn n d * (Int.gcd n d : Int) = if d < 0 then -n else n := by
  unfold rn
  refine Int.ediv_mul_cancel ?_
  split
  · exact Int.dvd_neg.mpr (Int.gcd_dvd_left ..)
  · exact Int.gcd_dvd_left ..
theorem rd_mul {n d : Int} : rd n d * (Int.gcd n d : Int) = (d.natAbs : Int) := by
  unfold rd
  exact Int.ediv_mul_cancel (Int.natCast_dvd_natCast.mpr (Nat.gcd_dvd_right ..))
theorem rd_pos {n d : Int} (h : d ≠ 0) : 0 < rd n d := by
  have h1 := rd_mul (n := n) (d := d)
  have h2 : 0 < (Int.gcd n d : Int) := by have := gcd_pos (n := n) h; omega
  have h3 : 0 < rd n d * (Int.gcd n d : Int) := by rw [h1]; omega
  exact Int.pos_of_mul_pos_left h3 h2
/-- the value is kept -/
theorem rn_rd {n d : Int} (h : d ≠ 0) : rn n d * d = n * rd n d := by
  have h1 := rn_mul (n := n) (d := d)
  have h2 := rd_mul (n := n) (d := d)
  have h3 : (Int.gcd n d : Int) ≠ 0 := by have := gcd_pos (n := n) h; omega
  refine Int.eq_of_mul_eq_mul_right h3 ?_
  rw [Int.mul_right_comm, h1, Int.mul_assoc, h2]
  split
  · rw [show (d.natAbs : Int) = -d by omega]; rw [Int.mul_neg, Int.neg_mul]
  · rw [show (d.natAbs : Int) = d by omega]
theorem gcd_le {n d : Int} (h : d ≠ 0) : (Int.gcd n d : Int).natAbs ≤ d.natAbs := by
  rw [Int.natAbs_natCast]
  exact Nat.le_of_dvd (by omega) (Nat.gcd_dvd_right ..)
theorem rn_abs {n d : Int} (h : d ≠ 0) : (rn n d).natAbs ≤ n.natAbs := by
  have h1 := congrArg Int.natAbs (rn_mul (n := n) (d := d))
  rw [Int.natAbs_mul, Int.natAbs_natCast] at h1
  have h2 := gcd_pos (n := n) h
  have h3 : (if d < 0 then -n else n).natAbs = n.natAbs := by split <;> omega
  rw [h3] at h1; rw [← h1]
  exact Nat.le_mul_of_pos_right _ h2
theorem rd_abs {n d : Int} (h : d ≠ 0) : (rd n d).natAbs ≤ d.natAbs := by
  have h1 := congrArg Int.natAbs (rd_mul (n := n) (d := d))
  rw [Int.natAbs_mul, Int.natAbs_natCast, Int.natAbs_natCast] at h1
  have h2 := gcd_pos (n := n) h
  rw [← h1]
  exact Nat.le_mul_of_pos_right _ h2
theorem B.rn {k : Nat} {n d : Int} (h : d ≠ 0) (b : B k n) : B k (rn n d) := b.le (rn_abs h)
theorem B.rd {k : Nat} {n d : Int} (h : d ≠ 0) (b : B k d) : B k (rd n d) := b.le (rd_abs h)
theorem fdiv_neg_exact {n g : Int} (hg : g ≠ 0) (h : g ∣ n) : n.fdiv (-g) = -n / g := by
  obtain ⟨c, rfl⟩ := h
  rw [show g * c = (-g) * (-c) by rw [Int.neg_mul_neg], Int.mul_fdiv_cancel_left _ (by omega), Int.neg_mul, Int.neg_neg, Int.mul_ediv_cancel_left _ hg]
theorem fdiv_exact {n g : Int} (hg : g ≠ 0) (h : g ∣ n) : n.fdiv g = n / g := by
  obtain ⟨c, rfl⟩ := h
  rw [Int.mul_fdiv_cancel_left _ hg, Int.mul_ediv_cancel_left _ hg]
end EP
namespace EP
open PySem PySem.Spec PyProof.Rows L2
theorem abs_nat (a : Int) : (if a < 0 then -a else a) = (a.natAbs : Int) := by split <;> omega
theorem gcd_step {x y : Int} (hx : 0 ≤ x) (hy : 0 < y) : Int.gcd y (x % y) = Int.gcd x y := by
  obtain ⟨a, rfl⟩ := Int.eq_ofNat_of_zero_le hx
  obtain ⟨b, rfl⟩ := Int.eq_ofNat_of_zero_le (Int.le_of_lt hy)
  show Nat.gcd (Int.natAbs (b : Int)) (Int.natAbs ((a : Int) % (b : Int))) = Nat.gcd (Int.natAbs (a : Int)) (Int.natAbs (b : Int))
  rw [← Int.natCast_emod]
  simp only [Int.natAbs_natCast]
  rw [Nat.gcd_comm a b, Nat.gcd_rec b a, Nat.gcd_comm]
theorem div_abs {x y : Int} (h : 0 < y) : (x / y).natAbs ≤ x.natAbs := by
  by_cases h0 : 0 ≤ x
  · have h1 := Int.ediv_nonneg h0 (Int.le_of_lt h)
    have h2 := Int.ediv_le_self y h0
    omega
  · have h1 : x ≤ x / y := by
      refine Int.le_ediv_of_mul_le h ?_
      have := Int.mul_le_mul_of_nonpos_left (a := x) (b := y) (c := 1) (by omega) (by omega)
      omega
    have h5 : x / y < 0 := Int.ediv_neg_of_neg_of_pos (by omega) h
    omega
/-! ### promises -/
def spGcd : Sp := fun vs H Q _ => ∃ a b : Int, vs = [.int a, .int b] ∧ Q (.int (Int.gcd a b)) H
def spRed (K : PySem.W.Frag) : Sp := fun vs H Q _ => ∃ n d : Int, vs = [.int n, .int d] ∧ d ≠ 0 ∧ B 8000 n ∧ B 8000 d ∧ ∀ v H', Same H H' → Fr K H' v (rn n d) (rd n d) → Q v H'
def spFF (K : PySem.W.Frag) (g : Int → Int → Int → Int → Int × Int) : Sp := fun vs H Q _ => ∃ (x y : V) (a b c d : Int), vs = [x, y] ∧ Fr K H x a b ∧ Fr K H y c d ∧ b ≠ 0 ∧ d ≠ 0 ∧ B 3990 a ∧ B 3990 b ∧ B 3990 c ∧ B 3990 d ∧ ∀ v H', Same H H' → Fr K H' v (g a b c d).1 (g a b c d).2 → Q v H'
def spFD (K : PySem.W.Frag) (g : Int → Int → Int → Int → Int × Int) : Sp := fun vs H Q _ => ∃ (x y : V) (a b c d : Int), vs = [x, y] ∧ Fr K H x a b ∧ Fr K H y c d ∧ b ≠ 0 ∧ c ≠ 0 ∧ B 3990 a ∧ B 3990 b ∧ B 3990 c ∧ B 3990 d ∧ ∀ v H', Same H H' → Fr K H' v (g a b c d).1 (g a b c d).2 → Q v H'
def spLess (K : PySem.W.Frag) : Sp := fun vs H Q _ => ∃ (x y : V) (a b c d : Int), vs = [x, y] ∧ Fr K H x a b ∧ Fr K H y c d ∧ B 3990 a ∧ B 3990 b ∧ B 3990 c ∧ B 3990 d ∧ Q (.bl (decide (a * d < c * b))) H
def spFloor (K : PySem.W.Frag) : Sp := fun vs H Q _ => ∃ (x : V) (a b : Int), vs = [x] ∧ Fr K H x a b ∧ 0 < b ∧ B 8000 b ∧ Q (.int (a / b)) H
def spCeil (K : PySem.W.Frag) : Sp := fun vs H Q _ => ∃ (x : V) (a b : Int), vs = [x] ∧ Fr K H x a b ∧ 0 < b ∧ B 8000 b ∧ Q (.int (-(-a / b))) H
def spTimes (K : PySem.W.Frag) : Sp := fun vs H Q _ => ∃ (n : Int) (x : V) (a b : Int), vs = [.int n, x] ∧ Fr K H x a b ∧ b ≠ 0 ∧ B 3990 n ∧ B 3990 a ∧ B 3990 b ∧ ∀ v H', Same H H' → Fr K H' v (rn (n * a) b) (rd (n * a) b) → Q v H'
/-- one minus the floor of one / period times the period -/
def remN (a b c d : Int) : Int × Int :=
  let t := rn (a * d) (b * c) / rd (a * d) (b * c)
  let n := rn (t * c) d
  let m := rd (t * c) d
  (rn (a * m - n * b) (b * m), rd (a * m - n * b) (b * m))
def spRem (K : PySem.W.Frag) : Sp := fun vs H Q _ => ∃ (x y : V) (a b c d : Int), vs = [x, y] ∧ Fr K H x a b ∧ Fr K H y c d ∧ 0 < b ∧ 0 < c ∧ 0 < d ∧ B 500 a ∧ B 500 b ∧ B 500 c ∧ B 500 d ∧ ∀ v H', Same H H' → Fr K H' v (remN a b c d).1 (remN a b c d).2 → Q v H'
end EP
namespace EP
open PySem PySem.Spec PyProof.Rows L2
def spSource (K : PySem.W.Frag) : Sp := fun vs H Q _ => ∃ (a : Addr) (ns : List Int), vs = [.ref a] ∧ SqL K H a (ns.map V.int) ∧ ns.length ≤ 63 ∧ ∀ r H', Same H H' → Rng H' r → Q (.ref r) H'
def spDraw : Sp := fun vs H Q _ => ∃ (r : Addr) (m : Int), vs = [.ref r, .int m] ∧ 0 < m ∧ B 2000 m ∧ Rng H r ∧ ∀ x H', 0 ≤ x → x < m → Mo r H H' → Q (.int x) H'
def spChoice (K : PySem.W.Frag) : Sp := fun vs H Q _ => ∃ (r l : Addr) (xs : List V), vs = [.ref r, .ref l] ∧ SqL K H l xs ∧ l ≠ r ∧ 0 < xs.length ∧ xs.length < 1000 ∧ Rng H r ∧ ∀ x H', x ∈ xs → Mo r H H' → Q x H'
end EP
namespace EP
open PySem PySem.Spec PyProof.Rows L2
theorem seq_by {t u : TS} {D : Ends} {σ : L2.St} {H : Hp} (C : L2.St → Hp → Prop) (h2 : ∀ σ' H', C σ' H' → u D σ' H') (h1 : (∀ σ' H', C σ' H' → u D σ' H') → t { D with nx := u D } σ H) : tSeq t u D σ H := h1 h2
end EP
namespace EP
open PySem PySem.Spec PyProof.Rows L2
mutual
def dep : PyData → Nat
  | .list xs => deps xs + 1
  | .tuple xs => deps xs + 1
  | _ => 0
def deps : List PyData → Nat
  | [] => 0
  | x :: xs => max (dep x) (deps xs)
end
mutual
def wd : PyData → Nat
  | .list xs => max xs.length (wds xs)
  | .tuple xs => max xs.length (wds xs)
  | _ => 0
def wds : List PyData → Nat
  | [] => 0
  | x :: xs => max (wd x) (wds xs)
end
theorem wds_get : ∀ {ds : List PyData} {i : Nat} {d : PyData}, ds[i]? = some d → wd d ≤ wds ds
  | [], i, _, e => by simp at e
  | x :: xs, 0, _, e => by cases Option.some.inj e; unfold wds; omega
  | x :: xs, i + 1, d, e => by have := wds_get (ds := xs) (i := i) e; unfold wds; omega
def spEqual (K : PySem.W.Frag) (n : Nat) : Sp := fun vs H Q _ => ∃ (x y : V) (d : PyData), vs = [x, y] ∧ Dp K H x d ∧ Dp K H y d ∧ dep d < n ∧ wd d < 1000000 ∧ ∀ H', Same H H' → Q (.bl true) H'
end EP
namespace EP
open PySem PySem.Spec PyProof.Rows L2
theorem kt_bool_bool {K : PySem.W.Frag} : PySem.W.kitOne K (.type "bool") (.type "bool") = some true := kit_ty (by decide +kernel)
theorem kt_bool_int {K : PySem.W.Frag} : PySem.W.kitOne K (.type "bool") (.type "int") = some true := kit_ty (by decide +kernel)
theorem kt_bool_str {K : PySem.W.Frag} : PySem.W.kitOne K (.type "bool") (.type "str") = some false := kit_ty (by decide +kernel)
theorem kt_bool_list {K : PySem.W.Frag} : PySem.W.kitOne K (.type "bool") (.type "list") = some false := kit_ty (by decide +kernel)
theorem kt_bool_tuple {K : PySem.W.Frag} : PySem.W.kitOne K (.type "bool") (.type "tuple") = some false := kit_ty (by decide +kernel)
theorem kt_int_bool {K : PySem.W.Frag} : PySem.W.kitOne K (.type "int") (.type "bool") = some false := kit_ty (by decide +kernel)
theorem kt_int_int {K : PySem.W.Frag} : PySem.W.kitOne K (.type "int") (.type "int") = some true := kit_ty (by decide +kernel)
theorem kt_int_str {K : PySem.W.Frag} : PySem.W.kitOne K (.type "int") (.type "str") = some false := kit_ty (by decide +kernel)
theorem kt_int_list {K : PySem.W.Frag} : PySem.W.kitOne K (.type "int") (.type "list") = some false := kit_ty (by decide +kernel)
theorem kt_int_tuple {K : PySem.W.Frag} : PySem.W.kitOne K (.type "int") (.type "tuple") = some false := kit_ty (by decide +kernel)
theorem kt_str_bool {K : PySem.W.Frag} : PySem.W.kitOne K (.type "str") (.type "bool") = some false := kit_ty (by decide +kernel)
theorem kt_str_int {K : PySem.W.Frag} : PySem.W.kitOne K (.type "str") (.type "int") = some false := kit_ty (by decide +kernel)
theorem kt_str_str {K : PySem.W.Frag} : PySem.W.kitOne K (.type "str") (.type "str") = some true := kit_ty (by decide +kernel)
theorem kt_str_list {K : PySem.W.Frag} : PySem.W.kitOne K (.type "str") (.type "list") = some false := kit_ty (by decide +kernel)
theorem kt_str_tuple {K : PySem.W.Frag} : PySem.W.kitOne K (.type "str") (.type "tuple") = some false := kit_ty (by decide +kernel)
theorem kt_list_bool {K : PySem.W.Frag} : PySem.W.kitOne K (.type "list") (.type "bool") = some false := kit_ty (by decide +kernel)
theorem kt_list_int {K : PySem.W.Frag} : PySem.W.kitOne K (.type "list") (.type "int") = some false := kit_ty (by decide +kernel)
theorem kt_list_str {K : PySem.W.Frag} : PySem.W.kitOne K (.type "list") (.type "str") = some false := kit_ty (by decide +kernel)
theorem kt_list_list {K : PySem.W.Frag} : PySem.W.kitOne K (.type "list") (.type "list") = some true := kit_ty (by decide +kernel)
theorem kt_list_tuple {K : PySem.W.Frag} : PySem.W.kitOne K (.type "list") (.type "tuple") = some false := kit_ty (by decide +kernel)
theorem kt_tuple_bool {K : PySem.W.Frag} : PySem.W.kitOne K (.type "tuple") (.type "bool") = some false := kit_ty (by decide +kernel)
theorem kt_tuple_int {K : PySem.W.Frag} : PySem.W.kitOne K (.type "tuple") (.type "int") = some false := kit_ty (by decide +kernel)
theorem kt_tuple_str {K : PySem.W.Frag} : PySem.W.kitOne K (.type "tuple") (.type "str") = some false := kit_ty (by decide +kernel)
theorem kt_tuple_list {K : PySem.W.Frag} : PySem.W.kitOne K (.type "tuple") (.type "list") = some false := kit_ty (by decide +kernel)
theorem kt_tuple_tuple {K : PySem.W.Frag} : PySem.W.kitOne K (.type "tuple") (.type "tuple") = some true := kit_ty (by decide +kernel)
theorem kt_NoneType_bool {K : PySem.W.Frag} : PySem.W.kitOne K (.type "NoneType") (.type "bool") = some false := kit_ty (by decide +kernel)
theorem kt_NoneType_int {K : PySem.W.Frag} : PySem.W.kitOne K (.type "NoneType") (.type "int") = some false := kit_ty (by decide +kernel)
theorem kt_NoneType_str {K : PySem.W.Frag} : PySem.W.kitOne K (.type "NoneType") (.type "str") = some false := kit_ty (by decide +kernel)
theorem kt_NoneType_list {K : PySem.W.Frag} : PySem.W.kitOne K (.type "NoneType") (.type "list") = some false := kit_ty (by decide +kernel)
theorem kt_NoneType_tuple {K : PySem.W.Frag} : PySem.W.kitOne K (.type "NoneType") (.type "tuple") = some false := kit_ty (by decide +kernel)
end EP
namespace EP
open PySem PySem.Spec PyProof.Rows L2
mutual
theorem Dp_same {K : PySem.W.Frag} {H H' : Hp} (s : Same H H') : ∀ {v : V} {d : PyData}, Dp K H v d → Dp K H' v d
  | _, _, .non => .non
  | _, _, .bl b => .bl b
  | _, _, .int i => .int i
  | _, _, .str x => .str x
  | _, _, .lst h a => .lst (Evl.ex_l s h) (DpAll_same s a)
  | _, _, .tup h a => .tup (Evl.ex_t s h) (DpAll_same s a)
theorem DpAll_same {K : PySem.W.Frag} {H H' : Hp} (s : Same H H') : ∀ {v : List V} {d : List PyData}, DpAll K H v d → DpAll K H' v d
  | _, _, .nil => .nil
  | _, _, .cons h a => .cons (Dp_same s h) (DpAll_same s a)
end
theorem DpAll_len {K : PySem.W.Frag} {H : Hp} : ∀ {v : List V} {d : List PyData}, DpAll K H v d → v.length = d.length
  | _, _, .nil => rfl
  | _, _, .cons _ a => congrArg Nat.succ (DpAll_len a)
theorem DpAll_get {K : PySem.W.Frag} {H : Hp} : ∀ {v : List V} {ds : List PyData} {i : Nat} {x : V}, DpAll K H v ds → v[i]? = some x → ∃ d, ds[i]? = some d ∧ Dp K H x d
  | _, _, i, _, .nil, e => by simp at e
  | _, _, 0, _, .cons h a, e => ⟨_, rfl, by cases Option.some.inj e; exact h⟩
  | _, _, i + 1, _, .cons h a, e => DpAll_get (i := i) a e
theorem deps_get : ∀ {ds : List PyData} {i : Nat} {d : PyData}, ds[i]? = some d → dep d ≤ deps ds
  | [], i, _, e => by simp at e
  | x :: xs, 0, _, e => by cases Option.some.inj e; unfold deps; omega
  | x :: xs, i + 1, d, e => by have := deps_get (ds := xs) (i := i) e; unfold deps; omega
theorem all_true (n : Nat) : (List.replicate n true).all id = true := by
  induction n with
  | zero => rfl
  | succ n ih => rw [List.replicate_succ, List.all_cons, ih]; rfl
theorem walk_zipT {K : PySem.W.Frag} {a b : Addr} {xs ys : List V} {n : Nat} (hn : n = min xs.length ys.length) : Walk (RZ.ItzT K a b) n (fun H => SqT K H a xs ∧ SqT K H b ys) (YPair (fun i => xs[i]?) (fun i => ys[i]?)) := by
  subst hn
  refine ⟨fun i _ hi q => ?_, fun _ q => ⟨xs, ys, q.1, q.2, by omega⟩, fun i H v H' _ q y => ?_⟩
  · have h1 : i < xs.length := by omega
    have h2 : i < ys.length := by omega
    exact ⟨xs, ys, xs[i], ys[i], q.1, q.2, by simp [h1], by simp [h2]⟩
  · obtain ⟨T, x, z, h1, h2, h3, h4, h5⟩ := y
    exact ⟨T, x, z, h1, h2, h3, h4 xs q.1, h5 ys q.2⟩
end EP
namespace EP
open PySem PySem.Spec PyProof.Rows L2
theorem ty_list {K : PySem.W.Frag} {H : Hp} {a : Addr} {xs : List V} (h : SqL K H a xs) : TyX K H (.ref a) (.type "list") := by
  rcases h with (h | ⟨o, h⟩) | ⟨o, its, n, h1, h2, _⟩
  · exact .base (.lst h)
  · exact .base (.frz h)
  · exact .kList h1 h2
theorem ty_tuple {K : PySem.W.Frag} {H : Hp} {a : Addr} {xs : List V} (h : SqT K H a xs) : TyX K H (.ref a) (.type "tuple") := by
  rcases h with (h | ⟨o, h⟩) | ⟨o, its, n, h1, h2, _⟩
  · exact .base (.tup h)
  · exact .fTuple h
  · exact .kTuple h1 h2
end EP
namespace EP
open PySem PySem.Spec PyProof.Rows L2
theorem gcd_red {n d : Int} (h : d ≠ 0) : Int.gcd (rn n d) (rd n d) = 1 := by
  have hg := gcd_pos (n := n) h
  have h1 := congrArg Int.natAbs (rn_mul (n := n) (d := d))
  have h2 := congrArg Int.natAbs (rd_mul (n := n) (d := d))
  rw [Int.natAbs_mul, Int.natAbs_natCast] at h1 h2
  have h3 : (if d < 0 then -n else n).natAbs = n.natAbs := by split <;> omega
  rw [h3] at h1
  rw [Int.natAbs_natCast] at h2
  have h4 : Nat.gcd (rn n d).natAbs (rd n d).natAbs * Int.gcd n d = Int.gcd n d := by
    rw [← Nat.gcd_mul_right, h1, h2]; rfl
  have h5 : Nat.gcd (rn n d).natAbs (rd n d).natAbs * Int.gcd n d = 1 * Int.gcd n d := by rw [h4, Nat.one_mul]
  exact Nat.eq_of_mul_eq_mul_right hg h5
/-- a fraction in lowest terms, below 2 ^ n -/
structure Fq (K : PySem.W.Frag) (H : Hp) (n : Nat) (v : V) (a b : Int) : Prop where
  f : Fr K H v a b
  p : 0 < b
  ba : B n a
  bb : B n b
  g : Int.gcd a b = 1
theorem Fq.mo {K : PySem.W.Frag} {H H' : Hp} {r : Addr} {v : V} {a b : Int} {n : Nat} (h : Fq K H n v a b) (m : Mo r H H') : Fq K H' n v a b := ⟨h.f.mo m, h.p, h.ba, h.bb, h.g⟩
theorem Fq.same {K : PySem.W.Frag} {H H' : Hp} {v : V} {a b : Int} {n : Nat} (h : Fq K H n v a b) (m : Same H H') : Fq K H' n v a b := ⟨h.f.same m, h.p, h.ba, h.bb, h.g⟩
theorem Fq.mono {K : PySem.W.Frag} {H : Hp} {v : V} {a b : Int} {n m : Nat} (h : Fq K H n v a b) (l : n ≤ m := by decide) : Fq K H m v a b := ⟨h.f, h.p, h.ba.mono l, h.bb.mono l, h.g⟩
theorem Fq.red {K : PySem.W.Frag} {H : Hp} {v : V} {n d : Int} {k : Nat} (h : d ≠ 0) (f : Fr K H v (rn n d) (rd n d)) (bn : B k n) (bd : B k d) : Fq K H k v (rn n d) (rd n d) := ⟨f, rd_pos h, bn.rn h, bd.rd h, gcd_red h⟩
theorem Fq.lit {K : PySem.W.Frag} {H : Hp} {p : Addr} {a b : Int} {k : Nat} (h : H p = some (.tup [.int a, .int b])) (hb : 0 < b) (ba : B k a) (bb : B k b) (g : Int.gcd a b = 1) : Fq K H k (.ref p) a b := ⟨⟨p, rfl, .inl (.inl h)⟩, hb, ba, bb, g⟩
/-- a drawn fraction -/
def spDrawn (K : PySem.W.Frag) (n : Nat) : Sp := fun vs H Q _ => ∃ (r : Addr), vs = [.ref r] ∧ Rng H r ∧ ∀ v a b H', Mo r H H' → Fq K H' n v a b → Q v H'
/-- the same, positive -/
def spDrawnP (K : PySem.W.Frag) (n : Nat) : Sp := fun vs H Q _ => ∃ (r : Addr), vs = [.ref r] ∧ Rng H r ∧ ∀ v a b H', Mo r H H' → Fq K H' n v a b → 0 < a → Q v H'
theorem Rng.ne {H : Hp} {r l : Addr} (h : Rng H r) (n : H l = none) : l ≠ r := fun e => by
  obtain ⟨L, ns, i, c, s, h1, _⟩ := h
  subst e; rw [n] at h1; cases h1
theorem B.of {x : Int} {n : Nat} (h : x.natAbs < 2 ^ n) : B n x := h
end EP
namespace EP
theorem rn_pos {n d : Int} (hn : 0 < n) (hd : 0 < d) : 0 < rn n d := by
  have h1 := rn_rd (n := n) (d := d) (by omega)
  have h2 := rd_pos (n := n) (d := d) (by omega)
  have h3 : 0 < rn n d * d := by rw [h1]; exact Int.mul_pos hn h2
  exact Int.pos_of_mul_pos_left h3 hd
end EP
namespace EP
open PySem PySem.Spec PyProof.Rows L2
/-- fractions, one behind another -/
inductive Frs (K : PySem.W.Frag) (H : Hp) : List V → List (Int × Int) → Prop
  | nil : Frs K H [] []
  | cons {v : V} {a b : Int} {vs : List V} {qs : List (Int × Int)} : Fr K H v a b → 0 < b → Frs K H vs qs → Frs K H (v :: vs) ((a, b) :: qs)
theorem Frs.same {K : PySem.W.Frag} {H H' : Hp} (s : Same H H') : ∀ {vs : List V} {qs : List (Int × Int)}, Frs K H vs qs → Frs K H' vs qs
  | _, _, .nil => .nil
  | _, _, .cons f p r => .cons (f.same s) p (r.same s)
theorem Frs.mo {K : PySem.W.Frag} {H H' : Hp} {g : Addr} (s : Mo g H H') : ∀ {vs : List V} {qs : List (Int × Int)}, Frs K H vs qs → Frs K H' vs qs
  | _, _, .nil => .nil
  | _, _, .cons f p r => .cons (f.mo s) p (r.mo s)
theorem Frs.len {K : PySem.W.Frag} {H : Hp} : ∀ {vs : List V} {qs : List (Int × Int)}, Frs K H vs qs → vs.length = qs.length
  | _, _, .nil => rfl
  | _, _, .cons _ _ r => congrArg Nat.succ r.len
theorem Frs.pos {K : PySem.W.Frag} {H : Hp} : ∀ {vs : List V} {qs : List (Int × Int)}, Frs K H vs qs → ∀ q ∈ qs, 0 < q.2
  | _, _, .cons _ p r, q, h => by
    rcases List.mem_cons.mp h with e | e
    · rw [e]; exact p
    · exact r.pos q e
theorem Frs.get {K : PySem.W.Frag} {H : Hp} : ∀ {vs : List V} {qs : List (Int × Int)} {i : Nat} {v : V}, Frs K H vs qs → vs[i]? = some v → ∃ a b, qs[i]? = some (a, b) ∧ Fr K H v a b ∧ 0 < b
  | _, _, _, _, .nil, e => by simp at e
  | _, _, 0, _, .cons f p _, e => ⟨_, _, rfl, by cases Option.some.inj e; exact f, p⟩
  | _, _, i + 1, _, .cons _ _ r, e => Frs.get (i := i) r e
end EP
namespace EP
open PySem PySem.Spec PyProof.Rows L2
theorem sqt_mut {K : PySem.W.Frag} {H : Hp} {D a : Addr} {o : HO} {xs ys : List V} (hD : H D = some (.lst ys)) (h : SqT K H a xs) : SqT K (upd H D o) a xs := by
  rcases h with (h | ⟨u, h⟩) | h
  · refine .inl (.inl ?_)
    rw [upd_ne (fun e => by subst e; rw [hD] at h; cases h)]; exact h
  · refine .inl (.inr ⟨u, ?_⟩)
    rw [upd_ne (fun e => by subst e; rw [hD] at h; cases h)]; exact h
  · exact .inr h
theorem Fr.mut {K : PySem.W.Frag} {H : Hp} {D : Addr} {o : HO} {v : V} {a b : Int} {ys : List V} (h : Fr K H v a b) (hD : H D = some (.lst ys)) : Fr K (upd H D o) v a b := by
  obtain ⟨p, e, h⟩ := h
  exact ⟨p, e, sqt_mut hD h⟩
theorem Fq.mut {K : PySem.W.Frag} {H : Hp} {D : Addr} {o : HO} {v : V} {a b : Int} {n : Nat} {ys : List V} (h : Fq K H n v a b) (hD : H D = some (.lst ys)) : Fq K (upd H D o) n v a b := ⟨h.f.mut hD, h.p, h.ba, h.bb, h.g⟩
/-- drawn fractions, one behind another -/
inductive Fqs (K : PySem.W.Frag) (H : Hp) (n : Nat) : List V → List (Int × Int) → Prop
  | nil : Fqs K H n [] []
  | snoc {v : V} {a b : Int} {vs : List V} {qs : List (Int × Int)} : Fqs K H n vs qs → Fq K H n v a b → Fqs K H n (vs ++ [v]) (qs ++ [(a, b)])
theorem Fqs.mo {K : PySem.W.Frag} {H H' : Hp} {g : Addr} {n : Nat} (s : Mo g H H') : ∀ {vs : List V} {qs : List (Int × Int)}, Fqs K H n vs qs → Fqs K H' n vs qs
  | _, _, .nil => .nil
  | _, _, .snoc r f => .snoc (r.mo s) (f.mo s)
theorem Fqs.same {K : PySem.W.Frag} {H H' : Hp} {n : Nat} (s : Same H H') : ∀ {vs : List V} {qs : List (Int × Int)}, Fqs K H n vs qs → Fqs K H' n vs qs
  | _, _, .nil => .nil
  | _, _, .snoc r f => .snoc (r.same s) (f.same s)
theorem Fqs.mut {K : PySem.W.Frag} {H : Hp} {D : Addr} {o : HO} {n : Nat} {ys : List V} (hD : H D = some (.lst ys)) : ∀ {vs : List V} {qs : List (Int × Int)}, Fqs K H n vs qs → Fqs K (upd H D o) n vs qs
  | _, _, .nil => .nil
  | _, _, .snoc r f => .snoc (r.mut hD) (f.mut hD)
theorem Fqs.len {K : PySem.W.Frag} {H : Hp} {n : Nat} : ∀ {vs : List V} {qs : List (Int × Int)}, Fqs K H n vs qs → vs.length = qs.length
  | _, _, .nil => rfl
  | _, _, .snoc r _ => by rw [List.length_append, List.length_append, r.len]; rfl
theorem Frs.app {K : PySem.W.Frag} {H : Hp} {v : V} {a b : Int} (f : Fr K H v a b) (p : 0 < b) : ∀ {vs : List V} {qs : List (Int × Int)}, Frs K H vs qs → Frs K H (vs ++ [v]) (qs ++ [(a, b)])
  | _, _, .nil => .cons f p .nil
  | _, _, .cons g q r => .cons g q (r.app f p)
theorem Fqs.frs {K : PySem.W.Frag} {H : Hp} {n : Nat} : ∀ {vs : List V} {qs : List (Int × Int)}, Fqs K H n vs qs → Frs K H vs qs
  | _, _, .nil => .nil
  | _, _, .snoc r f => r.frs.app f.f f.p
theorem Fqs.bd {K : PySem.W.Frag} {H : Hp} {n : Nat} : ∀ {vs : List V} {qs : List (Int × Int)}, Fqs K H n vs qs → ∀ q ∈ qs, B n q.1 ∧ B n q.2 ∧ Int.gcd q.1 q.2 = 1
  | _, _, .nil, q, h => by cases h
  | _, _, .snoc r f, q, h => by
    rcases List.mem_append.mp h with e | e
    · exact r.bd q e
    · rw [List.mem_singleton.mp e]; exact ⟨f.ba, f.bb, f.g⟩
theorem Fqs.two {K : PySem.W.Frag} {H : Hp} {n : Nat} {vs : List V} {qs : List (Int × Int)} (h : Fqs K H n vs qs) (e : vs.length = 2) : ∃ v1 v2 a1 b1 a2 b2, vs = [v1, v2] ∧ Fq K H n v1 a1 b1 ∧ Fq K H n v2 a2 b2 := by
  cases h with
  | nil => cases e
  | @snoc v a b vs1 qs1 r f =>
    cases r with
    | nil => cases e
    | @snoc v' a' b' vs2 qs2 r2 f2 =>
      have : vs2 = [] := by cases vs2 with
        | nil => rfl
        | cons x xs => simp at e
      subst this
      exact ⟨v', v, a', b', a, b, rfl, f2, f⟩
end EP
namespace EP
theorem rd_one {n m : Int} (hm : m ≠ 0) (h : m ∣ n) : rd n m = 1 := by
  unfold rd
  have : Int.gcd n m = m.natAbs := by
    unfold Int.gcd
    exact Nat.gcd_eq_right (Int.natAbs_dvd_natAbs.mpr h)
  rw [this]
  exact Int.ediv_self (by omega)
end EP
namespace EP
/-! ### fractions are rational numbers -/
theorem rat_of {n d : Int} (hd : d ≠ 0) {q : Rat} (h : q * (d : Rat) = (n : Rat)) : rn n d = q.num ∧ rd n d = (q.den : Int) := by
  have hp := rd_pos (n := n) hd
  have e1 : (rd n d).toNat ≠ 0 := by omega
  have e2 : ((rd n d).toNat : Int) = rd n d := by omega
  have cop : (rn n d).natAbs.Coprime (rd n d).toNat := by
    have := gcd_red (n := n) hd
    unfold Int.gcd at this
    have e3 : (rd n d).natAbs = (rd n d).toNat := by omega
    rw [e3] at this; exact this
  have hq : q.num * d = n * q.den := by
    have h0 := Rat.num_divInt_den q
    rw [Rat.divInt_eq_div] at h0
    have hden : ((q.den : Int) : Rat) ≠ 0 := by
      have := q.den_nz
      intro e; exact this (by have := Rat.intCast_eq_zero_iff.mp e; omega)
    have h1 : (q.num : Rat) = q * ((q.den : Int) : Rat) := by rw [← Rat.div_mul_cancel (a := (q.num : Rat)) hden, h0]
    have h2 : ((q.num * d : Int) : Rat) = ((n * (q.den : Int) : Int) : Rat) := by
      rw [Rat.intCast_mul, Rat.intCast_mul, h1, ← h]; grind
    exact Rat.intCast_inj.mp h2
  have key : rn n d * q.den = q.num * rd n d := by
    refine Int.eq_of_mul_eq_mul_right hd ?_
    have h3 := rn_rd (n := n) hd
    have : rn n d * (q.den : Int) * d = (rn n d * d) * q.den := by grind
    rw [this, h3]
    have : q.num * rd n d * d = (q.num * d) * rd n d := by grind
    rw [this, hq]; grind
  have e : (⟨rn n d, (rd n d).toNat, e1, cop⟩ : Rat) = q := by
    refine Rat.eq_iff_mul_eq_mul.mpr ?_
    show rn n d * (q.den : Int) = q.num * ((rd n d).toNat : Int)
    rw [e2]; exact key
  constructor
  · rw [← e]
  · rw [← e]; exact e2.symm
theorem num_den (q : Rat) : q * ((q.den : Int) : Rat) = (q.num : Rat) := by
  have h0 := Rat.num_divInt_den q
  rw [Rat.divInt_eq_div] at h0
  have hden : ((q.den : Int) : Rat) ≠ 0 := by
    have := q.den_nz
    intro e; exact this (by have := Rat.intCast_eq_zero_iff.mp e; omega)
  rw [← Rat.div_mul_cancel (a := (q.num : Rat)) hden, h0]
theorem den_pos (q : Rat) : (0 : Int) < q.den := by have := q.den_nz; omega
theorem den_ne (q : Rat) : (q.den : Int) ≠ 0 := by have := q.den_nz; omega
theorem den_neQ (q : Rat) : ((q.den : Int) : Rat) ≠ 0 := fun e => den_ne q (Rat.intCast_eq_zero_iff.mp e)
/-- below 2 ^ n -/
structure Bq (n : Nat) (q : Rat) : Prop where
  a : B n q.num
  b : B n (q.den : Int)
theorem Bq.mono {n m : Nat} {q : Rat} (h : Bq n q) (l : n ≤ m := by decide) : Bq m q := ⟨h.a.mono l, h.b.mono l⟩
theorem Bq.of {k : Nat} {n d : Int} {q : Rat} (hd : d ≠ 0) (h : q * (d : Rat) = (n : Rat)) (bn : B k n) (bd : B k d) : Bq k q := by
  obtain ⟨e1, e2⟩ := rat_of hd h
  exact ⟨by rw [← e1]; exact bn.rn hd, by rw [← e2]; exact bd.rd hd⟩
theorem Bq.int {k : Nat} {n : Int} (h : B k n) (hk : 0 < k := by decide) : Bq k (n : Rat) := ⟨h, B.one.mono hk⟩
theorem q_add (p q : Rat) : (p + q) * ((p.den * q.den : Int) : Rat) = ((p.num * q.den + q.num * p.den : Int) : Rat) := by
  have h1 := num_den p; have h2 := num_den q
  simp only [Rat.intCast_mul, Rat.intCast_add, Rat.intCast_sub, Rat.intCast_one]
  rw [← h1, ← h2]; grind
theorem q_sub (p q : Rat) : (p - q) * ((p.den * q.den : Int) : Rat) = ((p.num * q.den - q.num * p.den : Int) : Rat) := by
  have h1 := num_den p; have h2 := num_den q
  simp only [Rat.intCast_mul, Rat.intCast_add, Rat.intCast_sub, Rat.intCast_one]
  rw [← h1, ← h2]; grind
theorem q_mul (p q : Rat) : (p * q) * ((p.den * q.den : Int) : Rat) = ((p.num * q.num : Int) : Rat) := by
  have h1 := num_den p; have h2 := num_den q
  simp only [Rat.intCast_mul, Rat.intCast_add, Rat.intCast_sub, Rat.intCast_one]
  rw [← h1, ← h2]; grind
theorem num_ne {q : Rat} (h : q ≠ 0) : q.num ≠ 0 := fun e => h (Rat.num_eq_zero.mp e)
theorem q_div (p : Rat) {q : Rat} (h : q ≠ 0) : (p / q) * ((p.den * q.num : Int) : Rat) = ((p.num * q.den : Int) : Rat) := by
  have h1 := num_den p; have h2 := num_den q
  have h3 : p / q * q = p := Rat.div_mul_cancel h
  simp only [Rat.intCast_mul, Rat.intCast_add, Rat.intCast_sub, Rat.intCast_one]
  rw [← h1, ← h2]; grind
theorem q_times (n : Int) (q : Rat) : ((n : Rat) * q) * ((q.den : Int) : Rat) = ((n * q.num : Int) : Rat) := by
  have h2 := num_den q
  simp only [Rat.intCast_mul, Rat.intCast_add, Rat.intCast_sub, Rat.intCast_one]
  rw [← h2]; grind
theorem Bq.add {n m : Nat} {p q : Rat} (h : Bq n p) (k : Bq m q) : Bq (n + m + 1) (p + q) :=
  .of (Int.mul_ne_zero (den_ne p) (den_ne q)) (q_add p q) ((h.a.mul k.b).add ((Nat.add_comm m n) ▸ k.a.mul h.b)) ((h.b.mul k.b).mono (by omega))
theorem Bq.sub {n m : Nat} {p q : Rat} (h : Bq n p) (k : Bq m q) : Bq (n + m + 1) (p - q) :=
  .of (Int.mul_ne_zero (den_ne p) (den_ne q)) (q_sub p q) ((h.a.mul k.b).sub ((Nat.add_comm m n) ▸ k.a.mul h.b)) ((h.b.mul k.b).mono (by omega))
theorem Bq.mul {n m : Nat} {p q : Rat} (h : Bq n p) (k : Bq m q) : Bq (n + m) (p * q) :=
  .of (Int.mul_ne_zero (den_ne p) (den_ne q)) (q_mul p q) (h.a.mul k.a) (h.b.mul k.b)
theorem Bq.div {n m : Nat} {p q : Rat} (z : q ≠ 0) (h : Bq n p) (k : Bq m q) : Bq (n + m) (p / q) :=
  .of (Int.mul_ne_zero (den_ne p) (num_ne z)) (q_div p z) (h.a.mul k.b) (h.b.mul k.a)
theorem Bq.times {n m : Nat} {k : Int} {q : Rat} (h : B n k) (b : Bq m q) : Bq (n + m) ((k : Rat) * q) :=
  .of (den_ne q) (q_times k q) (h.mul b.a) (b.b.mono (by omega))
theorem Bq.floor {n : Nat} {q : Rat} (h : Bq n q) : B n q.floor := by
  rw [Rat.floor_def]; exact h.a.le (div_abs (den_pos q))
/-! ### remainders -/
def remQ (p P : Rat) : Rat := p - ((p / P).floor : Rat) * P
theorem remQ_nn {p P : Rat} (h : 0 < P) : 0 ≤ remQ p P := by
  unfold remQ
  have h1 := Rat.floor_le (p / P)
  have h2 := Rat.mul_le_mul_of_nonneg_right h1 (Rat.le_of_lt h)
  rw [Rat.div_mul_cancel (by grind)] at h2
  grind
theorem remQ_lt {p P : Rat} (h : 0 < P) : remQ p P < P := by
  unfold remQ
  have h1 := Rat.lt_floor_add_one (p / P)
  have h2 := Rat.mul_lt_mul_of_pos_right h1 h
  rw [Rat.div_mul_cancel (by grind)] at h2
  simp only [Rat.intCast_mul, Rat.intCast_add, Rat.intCast_sub, Rat.intCast_one] at h2
  grind
theorem remQ_eq (p P : Rat) : p = ((p / P).floor : Rat) * P + remQ p P := by unfold remQ; grind
theorem remQ_of {p P t : Rat} (h : 0 < P) (k : Int) (e : p = (k : Rat) * P + t) (h0 : 0 ≤ t) (h1 : t < P) : remQ p P = t := by
  have hne : P ≠ 0 := by grind
  have hf : (p / P).floor = k := by
    have hd : p / P * P = p := Rat.div_mul_cancel hne
    have a1 : k ≤ (p / P).floor := by
      rw [Rat.le_floor_iff]
      refine Rat.le_of_mul_le_mul_right (c := P) ?_ h
      rw [hd]; grind
    have a2 : (p / P).floor < k + 1 := by
      rw [Rat.floor_lt_iff]
      refine Rat.lt_of_mul_lt_mul_right (c := P) ?_ (Rat.le_of_lt h)
      rw [hd]; simp only [Rat.intCast_mul, Rat.intCast_add, Rat.intCast_sub, Rat.intCast_one]; grind
    omega
  unfold remQ; rw [hf, e]; grind
theorem remQ_mul {p P : Rat} (h : 0 < P) (k : Int) : remQ (p + (k : Rat) * P) P = remQ p P := by
  refine remQ_of h ((p / P).floor + k) ?_ (remQ_nn h) (remQ_lt h)
  have := remQ_eq p P
  simp only [Rat.intCast_mul, Rat.intCast_add, Rat.intCast_sub, Rat.intCast_one]; grind
theorem Bq.rem {n m : Nat} {p P : Rat} (h : 0 < P) (b : Bq n p) (k : Bq m P) : Bq (n + m) (remQ p P) := by
  have hd : (p.den * P.den : Int) ≠ 0 := Int.mul_ne_zero (den_ne p) (den_ne P)
  have hdp : (0 : Int) < p.den * P.den := Int.mul_pos (den_pos p) (den_pos P)
  have e : remQ p P * ((p.den * P.den : Int) : Rat) = ((p.num * P.den - (p / P).floor * P.num * p.den : Int) : Rat) := by
    have h1 := num_den p; have h2 := num_den P
    unfold remQ
    simp only [Rat.intCast_mul, Rat.intCast_add, Rat.intCast_sub, Rat.intCast_one]
    rw [← h1, ← h2]; grind
  refine .of hd e ?_ (b.b.mul k.b)
  have h0 := remQ_nn (p := p) h
  have h1 := remQ_lt (p := p) h
  have hdq : (0 : Rat) < ((p.den * P.den : Int) : Rat) := Rat.intCast_pos.mpr hdp
  have c0 : (0 : Rat) ≤ ((p.num * P.den - (p / P).floor * P.num * p.den : Int) : Rat) := by
    rw [← e]; exact Rat.mul_nonneg h0 (Rat.le_of_lt hdq)
  have c1 : ((p.num * P.den - (p / P).floor * P.num * p.den : Int) : Rat) < ((P.num * p.den : Int) : Rat) := by
    rw [← e]
    have := Rat.mul_lt_mul_of_pos_right h1 hdq
    have h2 := num_den P
    have e2 : P * ((p.den * P.den : Int) : Rat) = ((P.num * p.den : Int) : Rat) := by simp only [Rat.intCast_mul, Rat.intCast_add, Rat.intCast_sub, Rat.intCast_one]; rw [← h2]; grind
    rw [← e2]; exact this
  have d0 := Rat.intCast_nonneg.mp c0
  have d1 := Rat.intCast_lt_intCast.mp c1
  have := (Nat.add_comm m n) ▸ k.a.mul b.b
  exact this.le (by omega)
end EP
namespace EP
open PySem PySem.Spec PyProof.Rows L2
/-! ### data without lists -/
mutual
def noL : PyData → Bool
  | .list _ => false
  | .tuple xs => noLs xs
  | _ => true
def noLs : List PyData → Bool
  | [] => true
  | x :: xs => noL x && noLs xs
end
theorem noLs_all : ∀ {ds : List PyData}, (∀ d ∈ ds, noL d = true) → noLs ds = true
  | [], _ => by simp [noLs]
  | x :: xs, h => by simp only [noLs, Bool.and_eq_true]; exact ⟨h x (by simp), noLs_all fun d hd => h d (by simp [hd])⟩
mutual
theorem Dp_mo {K : PySem.W.Frag} {H H' : Hp} {r : Addr} (m : Mo r H H') : ∀ {v : V} {d : PyData}, Dp K H v d → noL d = true → Dp K H' v d
  | _, _, .non, _ => .non
  | _, _, .bl b, _ => .bl b
  | _, _, .int i, _ => .int i
  | _, _, .str x, _ => .str x
  | _, _, .lst h a, e => by simp [noL] at e
  | _, _, .tup h a, e => .tup (sqt_mo m h) (DpAll_mo m a (by simpa only [noL] using e))
theorem DpAll_mo {K : PySem.W.Frag} {H H' : Hp} {r : Addr} (m : Mo r H H') : ∀ {v : List V} {d : List PyData}, DpAll K H v d → noLs d = true → DpAll K H' v d
  | _, _, .nil, _ => .nil
  | _, _, .cons h a, e => by
    simp only [noLs, Bool.and_eq_true] at e
    exact .cons (Dp_mo m h e.1) (DpAll_mo m a e.2)
end
mutual
theorem Dp_mut {K : PySem.W.Frag} {H : Hp} {D : Addr} {o : HO} {ys : List V} (hD : H D = some (.lst ys)) : ∀ {v : V} {d : PyData}, Dp K H v d → noL d = true → Dp K (upd H D o) v d
  | _, _, .non, _ => .non
  | _, _, .bl b, _ => .bl b
  | _, _, .int i, _ => .int i
  | _, _, .str x, _ => .str x
  | _, _, .lst h a, e => by simp [noL] at e
  | _, _, .tup h a, e => .tup (sqt_mut hD h) (DpAll_mut hD a (by simpa only [noL] using e))
theorem DpAll_mut {K : PySem.W.Frag} {H : Hp} {D : Addr} {o : HO} {ys : List V} (hD : H D = some (.lst ys)) : ∀ {v : List V} {d : List PyData}, DpAll K H v d → noLs d = true → DpAll K (upd H D o) v d
  | _, _, .nil, _ => .nil
  | _, _, .cons h a, e => by
    simp only [noLs, Bool.and_eq_true] at e
    exact .cons (Dp_mut hD h e.1) (DpAll_mut hD a e.2)
end
theorem DpAll_snoc {K : PySem.W.Frag} {H : Hp} {v : V} {d : PyData} (h : Dp K H v d) : ∀ {vs : List V} {ds : List PyData}, DpAll K H vs ds → DpAll K H (vs ++ [v]) (ds ++ [d])
  | _, _, .nil => .cons h .nil
  | _, _, .cons x a => .cons x (DpAll_snoc h a)
theorem DpAll_append {K : PySem.W.Frag} {H : Hp} {us : List V} {es : List PyData} (h : DpAll K H us es) : ∀ {vs : List V} {ds : List PyData}, DpAll K H vs ds → DpAll K H (vs ++ us) (ds ++ es)
  | _, _, .nil => h
  | _, _, .cons x a => .cons x (DpAll_append h a)
theorem DpAll_take {K : PySem.W.Frag} {H : Hp} (n : Nat) : ∀ {vs : List V} {ds : List PyData}, DpAll K H vs ds → DpAll K H (vs.take n) (ds.take n) := by
  induction n with
  | zero => intro vs ds h; simp only [List.take_zero]; exact .nil
  | succ n ih =>
    intro vs ds h
    cases h with
    | nil => exact .nil
    | cons x a => exact .cons x (ih a)
theorem DpAll_drop {K : PySem.W.Frag} {H : Hp} (n : Nat) : ∀ {vs : List V} {ds : List PyData}, DpAll K H vs ds → DpAll K H (vs.drop n) (ds.drop n) := by
  induction n with
  | zero => intro vs ds h; exact h
  | succ n ih =>
    intro vs ds h
    cases h with
    | nil => exact .nil
    | cons x a => exact ih a
theorem DpAll_bl {K : PySem.W.Frag} {H : Hp} : ∀ {vs : List V} {bs : List Bool}, DpAll K H vs (bs.map PyData.bool) → vs = bs.map V.bl
  | _, [], .nil => rfl
  | _, b :: bs, .cons x a => by cases x; rw [List.map_cons, DpAll_bl a]
/-! ### fractions and spans as data -/
def dq (q : Rat) : PyData := .tuple [.int q.num, .int q.den]
def dsp (x : Rat × Rat) : PyData := .tuple [dq x.1, dq x.2]
def dG (pl P : Rat) (xs : List (Rat × Rat)) : PyData := .tuple [dq pl, dq P, .tuple (xs.map dsp)]
theorem noL_dq (q : Rat) : noL (dq q) = true := by simp [dq, noL, noLs]
theorem noL_dsp (x : Rat × Rat) : noL (dsp x) = true := by simp [dsp, noL, noLs, noL_dq]
theorem noLs_dsp (xs : List (Rat × Rat)) : noLs (xs.map dsp) = true := noLs_all fun d h => by
  obtain ⟨x, _, rfl⟩ := List.mem_map.mp h; exact noL_dsp x
theorem noL_dG (pl P : Rat) (xs : List (Rat × Rat)) : noL (dG pl P xs) = true := by simp [dG, noL, noLs, noL_dq, noLs_dsp]
theorem dq_inj {p q : Rat} (h : dq p = dq q) : p = q := by
  unfold dq at h
  injection h with h; injection h with h1 h2; injection h1 with h1; injection h2 with h2 _; injection h2 with h2
  exact Rat.ext h1 (by omega)
theorem dsp_inj {x y : Rat × Rat} (h : dsp x = dsp y) : x = y := by
  unfold dsp at h
  injection h with h; injection h with h1 h2; injection h2 with h2 _
  exact Prod.ext (dq_inj h1) (dq_inj h2)
section
variable {K : PySem.W.Frag} {H H' : Hp} {v : V}
theorem dq_fr {q : Rat} (h : Dp K H v (dq q)) : Fr K H v q.num q.den := by
  unfold dq at h
  cases h with
  | tup h a =>
    cases a with | cons x a => cases x; cases a with | cons x a => cases x; cases a; exact ⟨_, rfl, h⟩
theorem fr_dq {q : Rat} (h : Fr K H v q.num q.den) : Dp K H v (dq q) := by
  obtain ⟨p, rfl, h⟩ := h
  exact .tup h (.cons (.int _) (.cons (.int _) .nil))
theorem dp_two {d e : PyData} (h : Dp K H v (.tuple [d, e])) : ∃ p x y, v = .ref p ∧ SqT K H p [x, y] ∧ Dp K H x d ∧ Dp K H y e := by
  cases h with
  | tup h a =>
    cases a with | cons x a => cases a with | cons y a => cases a; exact ⟨_, _, _, rfl, h, x, y⟩
theorem dp_three {d e f : PyData} (h : Dp K H v (.tuple [d, e, f])) : ∃ p x y z, v = .ref p ∧ SqT K H p [x, y, z] ∧ Dp K H x d ∧ Dp K H y e ∧ Dp K H z f := by
  cases h with
  | tup h a =>
    cases a with | cons x a => cases a with | cons y a => cases a with | cons z a => cases a; exact ⟨_, _, _, _, rfl, h, x, y, z⟩
theorem dp_tup {ds : List PyData} (h : Dp K H v (.tuple ds)) : ∃ p vs, v = .ref p ∧ SqT K H p vs ∧ DpAll K H vs ds := by
  cases h with
  | tup h a => exact ⟨_, _, rfl, h, a⟩
theorem dp_lst {ds : List PyData} (h : Dp K H v (.list ds)) : ∃ p vs, v = .ref p ∧ SqL K H p vs ∧ DpAll K H vs ds := by
  cases h with
  | lst h a => exact ⟨_, _, rfl, h, a⟩
theorem dp_new {p : Addr} {vs : List V} {ds : List PyData} (n : H p = none) (a : DpAll K H vs ds) : Dp K (upd H p (.tup vs)) (.ref p) (.tuple ds) :=
  .tup (.inl (.inl upd_same)) (DpAll_same (same_upd n) a)
theorem dp_newL {p : Addr} {vs : List V} {ds : List PyData} (n : H p = none) (a : DpAll K H vs ds) : Dp K (upd H p (.lst vs)) (.ref p) (.list ds) :=
  .lst (.inl (.inl upd_same)) (DpAll_same (same_upd n) a)
theorem dq_lit {p : Addr} {a b : Int} {q : Rat} (n : H p = none) (ha : a = q.num) (hb : b = q.den) : Dp K (upd H p (.tup [.int a, .int b])) (.ref p) (dq q) := by
  subst ha hb
  exact dp_new n (.cons (.int _) (.cons (.int _) .nil))
/-! ### the promises of the fractions, by rational numbers -/
end
section
variable {K : PySem.W.Frag} {H : Hp} {x y : V} {p q : Rat} {Q : V → Hp → Prop}
theorem u_add (hx : Dp K H x (dq p)) (hy : Dp K H y (dq q)) (bp : Bq 3990 p) (bq : Bq 3990 q) (k : ∀ v H', Same H H' → Dp K H' v (dq (p + q)) → Q v H') :
    spFF K (fun a b c d => (rn (a * d + c * b) (b * d), rd (a * d + c * b) (b * d))) [x, y] H Q E0 := by
  obtain ⟨e1, e2⟩ := rat_of (Int.mul_ne_zero (den_ne p) (den_ne q)) (q_add p q)
  refine ⟨x, y, _, _, _, _, rfl, dq_fr hx, dq_fr hy, den_ne p, den_ne q, bp.a, bp.b, bq.a, bq.b, fun v H' s f => k v H' s (fr_dq ?_)⟩
  rw [← e1, ← e2]; exact f
theorem u_sub (hx : Dp K H x (dq p)) (hy : Dp K H y (dq q)) (bp : Bq 3990 p) (bq : Bq 3990 q) (k : ∀ v H', Same H H' → Dp K H' v (dq (p - q)) → Q v H') :
    spFF K (fun a b c d => (rn (a * d - c * b) (b * d), rd (a * d - c * b) (b * d))) [x, y] H Q E0 := by
  obtain ⟨e1, e2⟩ := rat_of (Int.mul_ne_zero (den_ne p) (den_ne q)) (q_sub p q)
  refine ⟨x, y, _, _, _, _, rfl, dq_fr hx, dq_fr hy, den_ne p, den_ne q, bp.a, bp.b, bq.a, bq.b, fun v H' s f => k v H' s (fr_dq ?_)⟩
  rw [← e1, ← e2]; exact f
theorem u_mul (hx : Dp K H x (dq p)) (hy : Dp K H y (dq q)) (bp : Bq 3990 p) (bq : Bq 3990 q) (k : ∀ v H', Same H H' → Dp K H' v (dq (p * q)) → Q v H') :
    spFF K (fun a b c d => (rn (a * c) (b * d), rd (a * c) (b * d))) [x, y] H Q E0 := by
  obtain ⟨e1, e2⟩ := rat_of (Int.mul_ne_zero (den_ne p) (den_ne q)) (q_mul p q)
  refine ⟨x, y, _, _, _, _, rfl, dq_fr hx, dq_fr hy, den_ne p, den_ne q, bp.a, bp.b, bq.a, bq.b, fun v H' s f => k v H' s (fr_dq ?_)⟩
  rw [← e1, ← e2]; exact f
theorem u_div (hx : Dp K H x (dq p)) (hy : Dp K H y (dq q)) (z : q ≠ 0) (bp : Bq 3990 p) (bq : Bq 3990 q) (k : ∀ v H', Same H H' → Dp K H' v (dq (p / q)) → Q v H') :
    spFD K (fun a b c d => (rn (a * d) (b * c), rd (a * d) (b * c))) [x, y] H Q E0 := by
  obtain ⟨e1, e2⟩ := rat_of (Int.mul_ne_zero (den_ne p) (num_ne z)) (q_div p z)
  refine ⟨x, y, _, _, _, _, rfl, dq_fr hx, dq_fr hy, den_ne p, num_ne z, bp.a, bp.b, bq.a, bq.b, fun v H' s f => k v H' s (fr_dq ?_)⟩
  rw [← e1, ← e2]; exact f
theorem u_times {n : Int} (hx : Dp K H x (dq p)) (bn : B 3990 n) (bp : Bq 3990 p) (k : ∀ v H', Same H H' → Dp K H' v (dq ((n : Rat) * p)) → Q v H') :
    spTimes K [.int n, x] H Q E0 := by
  obtain ⟨e1, e2⟩ := rat_of (den_ne p) (q_times n p)
  refine ⟨n, x, _, _, rfl, dq_fr hx, den_ne p, bn, bp.a, bp.b, fun v H' s f => k v H' s (fr_dq ?_)⟩
  rw [← e1, ← e2]; exact f
theorem u_red {n d : Int} (hd : d ≠ 0) (bn : B 8000 n) (bd : B 8000 d) (k : ∀ v H', Same H H' → Dp K H' v (dq ((n : Rat) / (d : Rat))) → Q v H') :
    spRed K [.int n, .int d] H Q E0 := by
  have hd' : (d : Rat) ≠ 0 := fun e => hd (Rat.intCast_eq_zero_iff.mp e)
  obtain ⟨e1, e2⟩ := rat_of hd (Rat.div_mul_cancel (a := (n : Rat)) hd')
  refine ⟨n, d, rfl, hd, bn, bd, fun v H' s f => k v H' s (fr_dq ?_)⟩
  rw [← e1, ← e2]; exact f
theorem u_less (hx : Dp K H x (dq p)) (hy : Dp K H y (dq q)) (bp : Bq 3990 p) (bq : Bq 3990 q) (k : ∀ v H', v = .bl (decide (p < q)) → H' = H → Q v H') : spLess K [x, y] H Q E0 := by
  refine ⟨x, y, _, _, _, _, rfl, dq_fr hx, dq_fr hy, bp.a, bp.b, bq.a, bq.b, ?_⟩
  have : decide (p.num * (q.den : Int) < q.num * (p.den : Int)) = decide (p < q) := decide_eq_decide.mpr (Rat.lt_iff p q).symm
  rw [this]; exact k _ _ rfl rfl
theorem u_floor (hx : Dp K H x (dq p)) (bp : Bq 8000 p) (k : ∀ v H', v = .int p.floor → H' = H → Q v H') : spFloor K [x] H Q E0 := by
  refine ⟨x, _, _, rfl, dq_fr hx, den_pos p, bp.b, ?_⟩
  rw [← Rat.floor_def]; exact k _ _ rfl rfl
end
/-- a slice of a tuple: the whole of it is the tuple itself -/
def rSlQ (K : PySem.W.Frag) : V → Option Int → Option Int → Hp → VK → Prop := fun x lo hi H Q => ∃ a xs, x = .ref a ∧ SqT K H a xs ∧ ∀ p H', Same H H' → SqT K H' p (cutV xs lo hi) → Q (.ref p) H'
theorem sl_tupB {X : Cx} : SlR X (rSlQ X.K) := fun pins s σ H x v vl vu lo hi sl Q I rx hs pl pu h => by
  obtain ⟨a, xs, rfl, ha, q⟩ := h
  refine sl_tupA pins s σ H _ v vl vu lo hi sl Q I rx hs pl pu ⟨a, xs, rfl, ha, fun e => q a H (Same.refl _) ?_, fun _ p np => q p _ (same_upd np) (.inl (.inl upd_same))⟩
  have : cutV xs lo hi = xs := by
    unfold cutV; rw [e.1, e.2, List.drop_zero, Nat.sub_zero, List.take_length]
  rw [this]; exact ha
theorem nilI {σ : L2.St} {H : Hp} {k : List V → Hp → Prop} (h : k [] H) : tNil σ H k := h
def spLessQ (K : PySem.W.Frag) : Sp := fun vs H Q _ => ∃ (x y : V) (p q : Rat), vs = [x, y] ∧ Dp K H x (dq p) ∧ Dp K H y (dq q) ∧ Bq 3990 p ∧ Bq 3990 q ∧ ∀ v H', v = .bl (decide (p < q)) → H' = H → Q v H'
def spFloorQ (K : PySem.W.Frag) : Sp := fun vs H Q _ => ∃ (x : V) (p : Rat), vs = [x] ∧ Dp K H x (dq p) ∧ Bq 8000 p ∧ ∀ v H', v = .int p.floor → H' = H → Q v H'
/-- one minus the floor of one / period times the period -/
def spRemQ (K : PySem.W.Frag) : Sp := fun vs H Q _ => ∃ (x y : V) (p P : Rat), vs = [x, y] ∧ Dp K H x (dq p) ∧ Dp K H y (dq P) ∧ 0 < P ∧ Bq 1300 p ∧ Bq 300 P ∧ ∀ v H', Same H H' → Dp K H' v (dq (remQ p P)) → Q v H'
/-! ### comprehensions: one value for each item -/
theorem lc_map {K : PySem.W.Frag} {J : It} {n : Nat} {G : Hp → Prop} {Y : Nat → Hp → V → Hp → Prop} (w : Walk J n G Y) {g : TG} {te : TE} {vs : List Nat} {σ : L2.St} {H : Hp} {D : Addr} {Qd : Hp → Prop} (ds : List PyData) (nD : H D = none) (hn : ds.length = n) (hl : n < 1000)
    (hno : noLs ds = true) (hG : ∀ H', Same H H' → G H')
    (hs : ∀ i x d H' H2, i < n → ds[i]? = some d → Same H H' → Y i H' x H2 → ∀ R : V → Hp → Prop, (∀ y H4, Same H' H4 → Dp K H4 y d → R y H4) → g x (wipe σ vs) H2 fun σ2 H3 => wipe σ2 vs = wipe σ vs ∧ te σ2 H3 R)
    (q : ∀ H' us, Same H H' → H' D = some (.lst us) → DpAll K H' us ds → Qd H') :
    ∃ W : Nat → Nat → Hp → Prop, (∃ m, W 0 m (upd H D (.lst []))) ∧ ∀ i m H, W i m H →
      (J.stop i H ∧ Qd H) ∨ (J.go i H ∧ ∃ Nx : Hp → Prop, (∀ H', Nx H' → ∃ m', m' < m ∧ W (i + 1) m' H') ∧ ∀ x H', J.yld i H x H' → g x (wipe σ vs) H' fun σ2 H2 => wipe σ2 vs = wipe σ vs ∧ tYes σ2 H2 fun b H3 =>
        if b = true then te σ2 H3 fun y H4 => ∃ acc, H4 D = some (.lst acc) ∧ acc.length < sizeLine ∧ Nx (upd H4 D (.lst (acc ++ [y]))) else Nx H3) := by
  refine lc_it w (fun i H' => Same H H' ∧ ∃ us, H' D = some (.lst us) ∧ DpAll K H' us (ds.take i)) ⟨same_upd nD, [], upd_same, .nil⟩ (fun i H' _ h => hG H' h.1) ?_ ?_
  · rintro i x H1 H2 hi ⟨sH, us, hD, hu⟩ hy
    have hi' : i < ds.length := by omega
    refine hs i x ds[i] H1 H2 hi (List.getElem?_eq_getElem hi') sH hy _ (fun y H4 s4 dy => ?_)
    have hD4 := s4 _ _ hD
    have hlen := DpAll_len hu
    rw [List.length_take] at hlen
    refine ⟨us, hD4, Nat.lt_of_lt_of_le (show us.length < 1000 by omega) (by decide), ?_, us ++ [y], upd_same, ?_⟩
    · intro b o e; rw [upd_ne (ne_of_none e nD)]; exact s4 _ _ (sH _ _ e)
    · have e : ds.take (i + 1) = ds.take i ++ [ds[i]] := by rw [List.take_add_one, List.getElem?_eq_getElem hi']; rfl
      rw [e]
      refine DpAll_mut hD4 (DpAll_snoc dy (DpAll_same s4 hu)) ?_
      rw [← e]
      have : ∀ (n : Nat) (l : List PyData), noLs l = true → noLs (l.take n) = true := by
        intro n; induction n with
        | zero => intro l _; simp [noLs]
        | succ n ih => intro l h; cases l with
          | nil => simp [noLs]
          | cons a l => simp only [noLs, Bool.and_eq_true, List.take_succ_cons] at h ⊢; exact ⟨h.1, ih l h.2⟩
      exact this _ _ hno
  · rintro H1 ⟨sH, us, hD, hu⟩
    rw [← hn, List.take_length] at hu
    exact q H1 us sH hD hu
theorem eqv_dq (p q : Rat) : PyData.eqv (dq p) (dq q) = decide (p = q) := by
  have : PyData.eqv (dq p) (dq q) = (decide (p.num = q.num) && decide ((p.den : Int) = q.den)) := by
    simp [dq, PyData.eqv, PyData.eqvAll]; rfl
  rw [this]
  by_cases h : p = q
  · subst h; simp
  · rw [decide_eq_false h]
    by_cases h1 : p.num = q.num
    · by_cases h2 : (p.den : Int) = q.den
      · exact absurd (Rat.ext h1 (by omega)) h
      · rw [decide_eq_false h2, Bool.and_false]
    · rw [decide_eq_false h1, Bool.false_and]
theorem eqv_dsp (x y : Rat × Rat) : PyData.eqv (dsp x) (dsp y) = decide (x = y) := by
  have : PyData.eqv (dsp x) (dsp y) = (PyData.eqv (dq x.1) (dq y.1) && PyData.eqv (dq x.2) (dq y.2)) := by
    simp [dsp, PyData.eqv, PyData.eqvAll]
  rw [this, eqv_dq, eqv_dq]
  by_cases h : x = y
  · subst h; simp
  · rw [decide_eq_false h]
    by_cases h1 : x.1 = y.1
    · by_cases h2 : x.2 = y.2
      · exact absurd (Prod.ext h1 h2) h
      · rw [decide_eq_false h2, Bool.and_false]
    · rw [decide_eq_false h1, Bool.false_and]
theorem eqvAll_dsp : ∀ xs ys : List (Rat × Rat), PyData.eqvAll (xs.map dsp) (ys.map dsp) = decide (xs = ys)
  | [], [] => by simp [PyData.eqvAll]
  | [], y :: ys => by simp [PyData.eqvAll]
  | x :: xs, [] => by simp [PyData.eqvAll]
  | x :: xs, y :: ys => by
    simp only [List.map_cons, PyData.eqvAll, eqv_dsp, eqvAll_dsp xs ys]
    by_cases h : x = y <;> by_cases h2 : xs = ys <;> simp [h, h2]
theorem lay_dq (q : Rat) : PyData.canLay0 (dq q) = true := by simp [dq, PyData.canLay0, PyData.canLayAll0]
theorem lay_dsp (x : Rat × Rat) : PyData.canLay0 (dsp x) = true := by simp [dsp, PyData.canLay0, PyData.canLayAll0, lay_dq]
theorem lays_of : ∀ {ds : List PyData}, (∀ d ∈ ds, PyData.canLay0 d = true) → PyData.canLayAll0 ds = true
  | [], _ => by simp [PyData.canLayAll0]
  | x :: xs, h => by simp only [PyData.canLayAll0, Bool.and_eq_true]; exact ⟨h x (by simp), lays_of fun d hd => h d (by simp [hd])⟩
theorem lays_dsp (xs : List (Rat × Rat)) : PyData.canLayAll0 (xs.map dsp) = true := lays_of fun d h => by
  obtain ⟨x, _, rfl⟩ := List.mem_map.mp h; exact lay_dsp x
theorem dep_dq (q : Rat) : PyData.depth (dq q) ≤ 3 := by simp [dq, PyData.depth, PyData.depthAll]
theorem dep_dsp (x : Rat × Rat) : PyData.depth (dsp x) ≤ 5 := by
  have h1 := dep_dq x.1; have h2 := dep_dq x.2
  simp only [dsp, PyData.depth, PyData.depthAll]; omega
theorem deps_of {n : Nat} : ∀ {ds : List PyData}, (∀ d ∈ ds, PyData.depth d ≤ n) → PyData.depthAll ds ≤ n
  | [], _ => by simp [PyData.depthAll]
  | x :: xs, h => by
    have h1 := h x (by simp)
    have h2 := deps_of (n := n) (ds := xs) fun d hd => h d (by simp [hd])
    simp only [PyData.depthAll]; omega
theorem deps_dsp (xs : List (Rat × Rat)) : PyData.depthAll (xs.map dsp) ≤ 5 := deps_of fun d h => by
  obtain ⟨x, _, rfl⟩ := List.mem_map.mp h; exact dep_dsp x
theorem shaped_of {d : PyData} (h : PyData.canLay0 d = true) (k : PyData.depth d ≤ 64) : SeqAt.shaped d = true := by
  unfold SeqAt.shaped
  rw [Bool.and_eq_true]
  exact ⟨h, decide_eq_true k⟩
theorem sh_dq (q : Rat) : SeqAt.shaped (dq q) = true := shaped_of (lay_dq q) (by have := dep_dq q; omega)
theorem sh_dsp (x : Rat × Rat) : SeqAt.shaped (dsp x) = true := shaped_of (lay_dsp x) (by have := dep_dsp x; omega)
theorem sh_Ldsp (xs : List (Rat × Rat)) : SeqAt.shaped (.list (xs.map dsp)) = true :=
  shaped_of (by simp only [PyData.canLay0]; exact lays_dsp xs) (by have := deps_dsp xs; simp only [PyData.depth]; omega)
theorem eqv_Ldsp (xs ys : List (Rat × Rat)) : PyData.eqv (.list (xs.map dsp)) (.list (ys.map dsp)) = decide (xs = ys) := by
  simp only [PyData.eqv]; exact eqvAll_dsp xs ys
end EP
namespace EP
abbrev Sps := List (Rat × Rat)
def ends (xs : Sps) : List Rat := xs.map fun x => x.1 + x.2
def begs (xs : Sps) : List Rat := xs.map (·.1)
def nexts (P : Rat) (xs : Sps) : List Rat := (begs xs).drop 1 ++ ((begs xs).take 1).map (· + P)
def fitsB (P : Rat) (x : Rat × Rat) : Bool := if x.1 < 0 then false else if x.1 < P then (if 0 < x.2 then !decide (P < x.2) else false) else false
def lapB (P : Rat) (xs : Sps) : List Bool := List.zipWith (fun e a => decide (a < e)) (ends xs) (nexts P xs)
def gateB (P : Rat) (xs : Sps) : Bool := if 0 < P then (if xs.length ≤ 6 then (if (xs.map (fitsB P)).all id = true then !(lapB P xs).any id else false) else false) else false
/-- one span and a later one -/
def Rl (P : Rat) (x y : Rat × Rat) : Prop := x.1 + x.2 ≤ y.1 ∧ y.1 + y.2 ≤ x.1 + P
structure GV (P : Rat) (xs : Sps) : Prop where
  pos : 0 < P
  len : xs.length ≤ 6
  fit : ∀ x ∈ xs, 0 ≤ x.1 ∧ x.1 < P ∧ 0 < x.2 ∧ x.2 ≤ P
  pw : xs.Pairwise (Rl P)
theorem lap_ok (b : Rat) : ∀ xs : Sps, xs.Pairwise (fun x y => x.1 + x.2 ≤ y.1) → (∀ x ∈ xs, x.1 + x.2 ≤ b) → (List.zipWith (fun e a => decide (a < e)) (ends xs) ((begs xs).drop 1 ++ [b])).any id = false
  | [], _, _ => rfl
  | [x], _, h => by
    have := h x (by simp)
    simp only [ends, begs, List.map_cons, List.map_nil, List.drop_succ_cons, List.drop_nil, List.nil_append, List.zipWith_cons_cons, List.zipWith_nil_left, List.any_cons, List.any_nil, id, Bool.or_false]
    exact decide_eq_false (by grind)
  | x :: y :: r, p, h => by
    have ih := lap_ok b (y :: r) (List.pairwise_cons.mp p).2 (fun z hz => h z (by simp [hz]))
    have h1 := (List.pairwise_cons.mp p).1 y (by simp)
    simp only [ends, begs, List.map_cons, List.drop_succ_cons, List.drop_zero, List.cons_append, List.zipWith_cons_cons, List.any_cons, id] at ih ⊢
    rw [ih, Bool.or_false]
    exact decide_eq_false (by grind)
theorem GV.ok {P : Rat} {xs : Sps} (h : GV P xs) : gateB P xs = true := by
  unfold gateB
  rw [if_pos h.pos, if_pos h.len, if_pos]
  · have : (lapB P xs).any id = false := by
      cases xs with
      | nil => rfl
      | cons x r =>
        unfold lapB nexts
        refine lap_ok (x.1 + P) (x :: r) (h.pw.imp fun h => h.1) (fun z hz => ?_)
        rcases List.mem_cons.mp hz with e | e
        · subst e; have := h.fit z (by simp); grind
        · exact ((List.pairwise_cons.mp h.pw).1 z e).2
    rw [this]; rfl
  · rw [List.all_map, List.all_eq_true]
    intro x hx
    obtain ⟨a, b, c, d⟩ := h.fit x hx
    show fitsB P x = true
    unfold fitsB
    rw [if_neg (by grind), if_pos b, if_pos c]
    simp; grind
/-! ### which span shuts a moment -/
def lateB (P m : Rat) (x : Rat × Rat) : Bool := decide (remQ (m - x.1) P ≠ 0) && decide (remQ (m - x.1) P < x.2)
def till (P m : Rat) (x : Rat × Rat) : Rat := m + (x.2 - remQ (m - x.1) P)
def shutQ (P : Rat) (xs : Sps) (m : Rat) : Option Rat := (xs.find? (lateB P m)).map (till P m)
theorem late_iff {P m : Rat} {x : Rat × Rat} (h : 0 < P) : lateB P m x = true ↔ 0 < remQ (m - x.1) P ∧ remQ (m - x.1) P < x.2 := by
  have := remQ_nn (p := m - x.1) h
  unfold lateB
  simp only [Bool.and_eq_true, decide_eq_true_eq]
  constructor
  · rintro ⟨a, b⟩; exact ⟨by grind, b⟩
  · rintro ⟨a, b⟩; exact ⟨by grind, b⟩
/-- what lateness says, without remainders -/
def LateBy (P m : Rat) (x : Rat × Rat) (t : Rat) : Prop := ∃ k : Int, m - x.1 = (k : Rat) * P + t ∧ 0 < t ∧ t < x.2
theorem late_of {P m t : Rat} {x : Rat × Rat} (h : 0 < P) (l : x.2 ≤ P) (a : LateBy P m x t) : lateB P m x = true ∧ till P m x = m + (x.2 - t) := by
  obtain ⟨k, e, h0, h1⟩ := a
  have := remQ_of h k e (by grind) (by grind)
  refine ⟨(late_iff h).mpr ?_, ?_⟩
  · rw [this]; exact ⟨h0, h1⟩
  · unfold till; rw [this]
theorem late_by {P m : Rat} {x : Rat × Rat} (h : 0 < P) (a : lateB P m x = true) : LateBy P m x (remQ (m - x.1) P) := by
  obtain ⟨h0, h1⟩ := (late_iff h).mp a
  exact ⟨_, remQ_eq _ _, h0, h1⟩
theorem step_pos {P : Rat} (h : 0 < P) {k : Int} (e : 0 < (k : Rat) * P) : 1 ≤ k := by
  have := (Rat.mul_pos_iff_of_pos_right h).mp e
  have := Rat.intCast_pos.mp this
  omega
theorem step_ge {P : Rat} (h : 0 < P) {k : Int} (e : 1 ≤ k) : P ≤ (k : Rat) * P := by
  have h1 : ((1 : Int) : Rat) ≤ (k : Rat) := Rat.intCast_le_intCast.mpr e
  have := Rat.mul_le_mul_of_nonneg_right h1 (Rat.le_of_lt h)
  rw [Rat.intCast_one, Rat.one_mul] at this; exact this
theorem late_rl {P m t u : Rat} {x y : Rat × Rat} (h : 0 < P) (r : Rl P x y) (a : LateBy P m x t) (b : LateBy P m y u) : False := by
  obtain ⟨k, e, h0, h1⟩ := a
  obtain ⟨j, f, g0, g1⟩ := b
  obtain ⟨r1, r2⟩ := r
  have e2 : ((k - j : Int) : Rat) * P = y.1 - x.1 - t + u := by
    rw [Rat.intCast_sub]; grind
  have p1 : 1 ≤ k - j := step_pos h (by rw [e2]; grind)
  have p2 := step_ge h p1
  rw [e2] at p2; grind
theorem pw_get {α : Type} {R : α → α → Prop} {xs : List α} (h : xs.Pairwise R) {x y : α} (hx : x ∈ xs) (hy : y ∈ xs) : x = y ∨ R x y ∨ R y x := by
  induction xs with
  | nil => cases hx
  | cons z r ih =>
    obtain ⟨h1, h2⟩ := List.pairwise_cons.mp h
    rcases List.mem_cons.mp hx with e | e <;> rcases List.mem_cons.mp hy with f | f
    · left; rw [e, f]
    · subst e; right; left; exact h1 y f
    · subst f; right; right; exact h1 x e
    · exact ih h2 e f
theorem GV.uniq {P m t u : Rat} {xs : Sps} {x y : Rat × Rat} (g : GV P xs) (hx : x ∈ xs) (hy : y ∈ xs) (a : LateBy P m x t) (b : LateBy P m y u) : x = y := by
  rcases pw_get g.pw hx hy with e | e | e
  · exact e
  · exact (late_rl g.pos e a b).elim
  · exact (late_rl g.pos e b a).elim
theorem GV.shut {P m t : Rat} {xs : Sps} {x : Rat × Rat} (g : GV P xs) (hx : x ∈ xs) (a : LateBy P m x t) : shutQ P xs m = some (m + (x.2 - t)) := by
  obtain ⟨l1, l2⟩ := late_of g.pos (g.fit x hx).2.2.2 a
  unfold shutQ
  cases h : xs.find? (lateB P m) with
  | none => exact absurd l1 (List.find?_eq_none.mp h x hx)
  | some y =>
    have hy := List.find?_some h
    have e := g.uniq hx (List.mem_of_find?_eq_some h) a (late_by g.pos hy)
    subst e
    show some (till P m x) = _
    rw [l2]
theorem GV.open {P m : Rat} {xs : Sps} (g : GV P xs) (h : ∀ x ∈ xs, ∀ t, ¬ LateBy P m x t) : shutQ P xs m = none := by
  unfold shutQ
  rw [List.find?_eq_none.mpr]; · rfl
  intro x hx a
  exact h x hx _ (late_by g.pos a)
theorem GV.shut_iff {P m e : Rat} {xs : Sps} (g : GV P xs) : shutQ P xs m = some e ↔ ∃ x ∈ xs, ∃ t, LateBy P m x t ∧ e = m + (x.2 - t) := by
  constructor
  · intro h
    unfold shutQ at h
    cases hf : xs.find? (lateB P m) with
    | none => rw [hf] at h; cases h
    | some y =>
      rw [hf] at h
      refine ⟨y, List.mem_of_find?_eq_some hf, _, late_by g.pos (List.find?_some hf), ?_⟩
      exact (Option.some.inj h).symm
  · rintro ⟨x, hx, t, a, rfl⟩
    exact g.shut hx a
/-- two gates at which the same times shut the same moments -/
theorem shut_eq {P P' m : Rat} {xs ys : Sps} (g : GV P xs) (g' : GV P' ys) (h1 : ∀ x ∈ xs, ∀ t, LateBy P m x t → ∃ y ∈ ys, LateBy P' m y t ∧ y.2 = x.2) (h2 : ∀ y ∈ ys, ∀ t, LateBy P' m y t → ∃ x ∈ xs, LateBy P m x t ∧ x.2 = y.2) : shutQ P' ys m = shutQ P xs m := by
  cases h : shutQ P xs m with
  | some e =>
    obtain ⟨x, hx, t, a, rfl⟩ := g.shut_iff.mp h
    obtain ⟨y, hy, b, e⟩ := h1 x hx t a
    rw [g'.shut hy b, e]
  | none =>
    refine g'.open fun y hy t a => ?_
    obtain ⟨x, hx, b, _⟩ := h2 y hy t a
    rw [g.shut hx b] at h; cases h
/-! ### the normal form -/
def repB (xs : Sps) (d : Nat) (p : Rat) : Bool := decide ((xs.take (xs.length - d)).map (fun x => (x.1 + p, x.2)) = xs.drop d)
def partQ (P : Rat) (xs : Sps) (d : Nat) : Rat := P * (((d : Int) : Rat) / ((xs.length : Int) : Rat))
def hitB (P : Rat) (xs : Sps) (d : Nat) : Bool := decide (xs.length % d = 0) && repB xs d (partQ P xs d)
def lfQ (P : Rat) (xs : Sps) : Rat × Sps :=
  if xs.length = 0 then (1, []) else
  match (List.range' 1 (xs.length - 1)).find? (hitB P xs) with
  | some d => (partQ P xs d, xs.take d)
  | none => (P, xs)
def at0 (xs : Sps) (i : Nat) : Rat × Rat := xs.getD i (0, 0)
theorem at0_mem {xs : Sps} {i : Nat} (h : i < xs.length) : at0 xs i ∈ xs := by
  unfold at0; rw [List.getD_eq_getElem?_getD, List.getElem?_eq_getElem h]; exact List.getElem_mem h
theorem mem_at0 {xs : Sps} {x : Rat × Rat} (h : x ∈ xs) : ∃ i, i < xs.length ∧ x = at0 xs i := by
  obtain ⟨i, hi, e⟩ := List.getElem_of_mem h
  refine ⟨i, hi, ?_⟩
  unfold at0; rw [List.getD_eq_getElem?_getD, List.getElem?_eq_getElem hi]; exact e.symm
theorem pw_at0 {R : Rat × Rat → Rat × Rat → Prop} {xs : Sps} (h : xs.Pairwise R) {i j : Nat} (hij : i < j) (hj : j < xs.length) : R (at0 xs i) (at0 xs j) := by
  have := List.pairwise_iff_getElem.mp h i j (by omega) hj hij
  unfold at0; rw [List.getD_eq_getElem?_getD, List.getD_eq_getElem?_getD, List.getElem?_eq_getElem hj, List.getElem?_eq_getElem (by omega)]; exact this
/-- the spans repeat, d places further, a part later -/
structure Rep (P : Rat) (xs : Sps) (d c : Nat) (p : Rat) : Prop where
  hd : 0 < d
  hc : 2 ≤ c
  len : xs.length = d * c
  per : P = (c : Rat) * p
  pos : 0 < p
  nxt : ∀ i, i + d < xs.length → at0 xs (i + d) = ((at0 xs i).1 + p, (at0 xs i).2)
theorem Rep.far {P p : Rat} {xs : Sps} {d c : Nat} (R : Rep P xs d c p) (i : Nat) : ∀ j, i + d * j < xs.length → at0 xs (i + d * j) = ((at0 xs i).1 + (j : Rat) * p, (at0 xs i).2)
  | 0, _ => by
    rw [Nat.mul_zero, Nat.add_zero]
    refine Prod.ext ?_ rfl
    show _ = _ + ((0 : Nat) : Rat) * p
    have : ((0 : Nat) : Rat) = 0 := rfl
    rw [this]; grind
  | j + 1, h => by
    have e : i + d * (j + 1) = (i + d * j) + d := by rw [Nat.mul_succ]; omega
    rw [e] at h ⊢
    rw [R.nxt _ h, R.far i j (by omega)]
    refine Prod.ext ?_ rfl
    show (at0 xs i).1 + (j : Rat) * p + p = (at0 xs i).1 + ((j + 1 : Nat) : Rat) * p
    have : ((j + 1 : Nat) : Rat) = (j : Rat) + 1 := by rw [Rat.natCast_add]; rfl
    rw [this]; grind
theorem rep_of {P : Rat} {xs : Sps} {d : Nat} (hP : 0 < P) (h1 : 1 ≤ d) (h2 : d < xs.length) (h : hitB P xs d = true) : Rep P xs d (xs.length / d) (partQ P xs d) := by
  unfold hitB at h
  simp only [Bool.and_eq_true, decide_eq_true_eq] at h
  obtain ⟨m, r⟩ := h
  unfold repB at r
  have r := of_decide_eq_true r
  have hl : xs.length = d * (xs.length / d) := by have := Nat.div_add_mod xs.length d; rw [m, Nat.add_zero] at this; exact this.symm
  have hc : 2 ≤ xs.length / d := by
    rcases Nat.lt_or_ge (xs.length / d) 2 with q | q
    · have : xs.length / d = 0 ∨ xs.length / d = 1 := (show ∀ c : Nat, c < 2 → c = 0 ∨ c = 1 by omega) _ q
      rcases this with e | e
      · rw [e, Nat.mul_zero] at hl; omega
      · rw [e, Nat.mul_one] at hl; omega
    · exact q
  have hn : ((xs.length : Int) : Rat) ≠ 0 := fun e => by have := Rat.intCast_eq_zero_iff.mp e; omega
  have hn0 : (0 : Rat) < ((xs.length : Int) : Rat) := Rat.intCast_pos.mpr (by omega)
  have hd0 : (0 : Rat) < ((d : Int) : Rat) := Rat.intCast_pos.mpr (by omega)
  refine ⟨by omega, hc, hl, ?_, ?_, fun i hi => ?_⟩
  · unfold partQ
    have e1 : ((xs.length : Int) : Rat) = ((d : Int) : Rat) * ((xs.length / d : Nat) : Rat) := by
      have : ((xs.length : Nat) : Rat) = ((d * (xs.length / d) : Nat) : Rat) := congrArg _ hl
      rw [Rat.natCast_mul] at this; exact this
    have e2 := Rat.div_mul_cancel (a := ((d : Int) : Rat)) hn
    generalize ((d : Int) : Rat) / ((xs.length : Int) : Rat) = z at e2 ⊢
    generalize ((xs.length / d : Nat) : Rat) = c at e1 ⊢
    generalize ((xs.length : Int) : Rat) = n at *
    generalize ((d : Int) : Rat) = e at *
    subst e1
    have : e * (z * c) = e * 1 := by grind
    have h3 : z * c = 1 := by
      have hne : e ≠ 0 := by grind
      have := congrArg (e⁻¹ * ·) this
      simp only [← Rat.mul_assoc, Rat.inv_mul_cancel e hne, Rat.one_mul] at this
      exact this
    grind
  · unfold partQ
    refine Rat.mul_pos hP ?_
    rw [Rat.div_def]; exact Rat.mul_pos hd0 (Rat.inv_pos.mpr hn0)
  · have := congrArg (fun l : Sps => l[i]?) r
    simp only [List.getElem?_map, List.getElem?_drop] at this
    rw [List.getElem?_take_of_lt (by omega), List.getElem?_eq_getElem (by omega), List.getElem?_eq_getElem (by omega)] at this
    simp only [Option.map_some, Option.some.injEq] at this
    unfold at0
    rw [List.getD_eq_getElem?_getD, List.getD_eq_getElem?_getD, List.getElem?_eq_getElem hi, List.getElem?_eq_getElem (show i < xs.length by omega)]
    simp only [Option.getD_some]
    have e : d + i = i + d := Nat.add_comm ..
    simp only [e] at this
    exact this.symm
end EP
namespace EP
theorem take_at0 {xs : Sps} {d : Nat} {x : Rat × Rat} (hd : d ≤ xs.length) (h : x ∈ xs.take d) : ∃ i, i < d ∧ x = at0 xs i := by
  obtain ⟨i, hi, e⟩ := List.getElem_of_mem h
  rw [List.length_take] at hi
  refine ⟨i, by omega, ?_⟩
  rw [List.getElem_take] at e
  unfold at0; rw [List.getD_eq_getElem?_getD, List.getElem?_eq_getElem (show i < xs.length by omega)]; exact e.symm
theorem at0_take {xs : Sps} {d i : Nat} (hd : d ≤ xs.length) (h : i < d) : at0 xs i ∈ xs.take d := by
  have h1 : i < (xs.take d).length := by rw [List.length_take]; omega
  have : at0 xs i = (xs.take d)[i] := by
    unfold at0; rw [List.getD_eq_getElem?_getD, List.getElem?_eq_getElem (show i < xs.length by omega), List.getElem_take]; rfl
  rw [this]; exact List.getElem_mem h1
theorem Rep.dn {P p : Rat} {xs : Sps} {d c : Nat} (R : Rep P xs d c p) : d + d ≤ xs.length := by
  have := Nat.mul_le_mul_left d R.hc
  rw [R.len]; omega
theorem Rep.gv {P p : Rat} {xs : Sps} {d c : Nat} (g : GV P xs) (R : Rep P xs d c p) : GV p (xs.take d) := by
  have hn := R.dn
  have hd := R.hd
  refine ⟨R.pos, ?_, fun x hx => ?_, ?_⟩
  · have := g.len; rw [List.length_take]; omega
  · obtain ⟨i, hi, rfl⟩ := take_at0 (by omega) hx
    obtain ⟨f1, f2, f3, f4⟩ := g.fit _ (at0_mem (xs := xs) (i := i) (by omega))
    refine ⟨f1, ?_, f3, ?_⟩
    · have hc := R.hc
      have hlt : i + d * (c - 1) < xs.length := by
        rw [R.len]
        have : d * c = d * (c - 1) + d := by
          obtain ⟨e, rfl⟩ : ∃ e, c = e + 1 := ⟨c - 1, by omega⟩
          rw [Nat.add_sub_cancel, Nat.mul_succ]
        omega
      have e := R.far i (c - 1) hlt
      have f := (g.fit _ (at0_mem hlt)).2.1
      rw [e] at f
      have e2 : ((c - 1 : Nat) : Rat) + 1 = (c : Rat) := by
        have : ((c - 1 + 1 : Nat) : Rat) = ((c - 1 : Nat) : Rat) + 1 := by rw [Rat.natCast_add]; rfl
        rw [← this, show c - 1 + 1 = c by omega]
      have e3 := R.per
      rw [← e2] at e3
      simp only at f
      grind
    · have r := pw_at0 g.pw (i := i) (j := i + d) (by omega) (by omega)
      have e := R.nxt i (by omega)
      have := r.1
      rw [e] at this
      simp only at this
      grind
  · refine List.pairwise_iff_getElem.mpr fun i j hi hj hij => ?_
    rw [List.length_take] at hi hj
    have e1 : (xs.take d)[i] = at0 xs i := by
      unfold at0; rw [List.getD_eq_getElem?_getD, List.getElem?_eq_getElem (show i < xs.length by omega), List.getElem_take]; rfl
    have e2 : (xs.take d)[j] = at0 xs j := by
      unfold at0; rw [List.getD_eq_getElem?_getD, List.getElem?_eq_getElem (show j < xs.length by omega), List.getElem_take]; rfl
    rw [e1, e2]
    refine ⟨(pw_at0 g.pw hij (by omega)).1, ?_⟩
    have r := (pw_at0 g.pw (i := j) (j := i + d) (by omega) (by omega)).1
    rw [R.nxt i (by omega)] at r
    exact r
theorem Rep.shut {P p : Rat} {xs : Sps} {d c : Nat} (g : GV P xs) (R : Rep P xs d c p) (m : Rat) : shutQ p (xs.take d) m = shutQ P xs m := by
  have hn := R.dn
  have hd := R.hd
  have hc := R.hc
  have hper := R.per
  have cc : ((c : Int) : Rat) = (c : Rat) := rfl
  refine shut_eq g (R.gv g) (fun x hx t a => ?_) (fun y hy t a => ?_)
  · obtain ⟨i, hi, rfl⟩ := mem_at0 hx
    obtain ⟨k, e, h0, h1⟩ := a
    have hi2 : i % d + d * (i / d) = i := Nat.mod_add_div i d
    have hr : i % d < d := Nat.mod_lt _ hd
    have f := R.far (i % d) (i / d) (by rw [hi2]; exact hi)
    rw [hi2] at f
    refine ⟨at0 xs (i % d), at0_take (by omega) hr, ⟨k * c + (i / d : Nat), ?_, h0, ?_⟩, ?_⟩
    · rw [f] at e
      simp only at e
      rw [Rat.intCast_add, Rat.intCast_mul, cc]
      have : (((i / d : Nat) : Int) : Rat) = ((i / d : Nat) : Rat) := rfl
      rw [this]
      grind
    · rw [f] at h1; exact h1
    · rw [f]
  · obtain ⟨r, hr, rfl⟩ := take_at0 (by omega) hy
    obtain ⟨k, e, h0, h1⟩ := a
    have c0 : (0 : Int) < c := by omega
    have q1 := Int.emod_nonneg k (show (c : Int) ≠ 0 by omega)
    have q2 := Int.emod_lt_of_pos k c0
    obtain ⟨j, hj⟩ := Int.eq_ofNat_of_zero_le q1
    have hjc : j < c := by omega
    have hlt : r + d * j < xs.length := by
      rw [R.len]
      have := Nat.mul_le_mul_left d (show j + 1 ≤ c by omega)
      rw [Nat.mul_succ] at this; omega
    have f := R.far r j hlt
    refine ⟨at0 xs (r + d * j), at0_mem hlt, ⟨k / c, ?_, h0, ?_⟩, ?_⟩
    · rw [f]
      simp only
      have hk : (k : Rat) = (c : Rat) * ((k / c : Int) : Rat) + (j : Rat) := by
        have := Int.mul_ediv_add_emod k c
        rw [hj] at this
        have h2 : ((c * (k / c) + (j : Nat) : Int) : Rat) = (k : Rat) := congrArg _ this
        rw [Rat.intCast_add, Rat.intCast_mul, cc] at h2
        exact h2.symm
      rw [hk] at e
      grind
    · rw [f]; exact h1
    · rw [f]
theorem lf_ok {P : Rat} {xs : Sps} (g : GV P xs) : GV (lfQ P xs).1 (lfQ P xs).2 ∧ ∀ m, shutQ (lfQ P xs).1 (lfQ P xs).2 m = shutQ P xs m := by
  unfold lfQ
  by_cases h : xs.length = 0
  · rw [if_pos h]
    have : xs = [] := List.length_eq_zero_iff.mp h
    subst this
    exact ⟨⟨by decide, by simp, (fun x hx => by cases hx), List.Pairwise.nil⟩, fun m => rfl⟩
  · rw [if_neg h]
    cases hf : (List.range' 1 (xs.length - 1)).find? (hitB P xs) with
    | none => exact ⟨g, fun m => rfl⟩
    | some d =>
      have h1 := List.find?_some hf
      have h2 := List.mem_range'_1.mp (List.mem_of_find?_eq_some hf)
      have R := rep_of g.pos h2.1 (by omega) h1
      exact ⟨R.gv g, R.shut g⟩
/-! ### drawn gates: whole numbers -/
def RlI (P : Int) (x y : Int × Int) : Prop := x.1 + x.2 ≤ y.1 ∧ y.1 + y.2 ≤ x.1 + P
structure GI (P : Int) (xs : List (Int × Int)) : Prop where
  pos : 0 < P
  len : xs.length ≤ 6
  fit : ∀ x ∈ xs, 0 ≤ x.1 ∧ x.1 < P ∧ 0 < x.2 ∧ x.2 ≤ P
  pw : xs.Pairwise (RlI P)
def qsp (by_ : Int) (x : Int × Int) : Rat × Rat := ((x.1 : Rat) / (by_ : Rat), (x.2 : Rat) / (by_ : Rat))
theorem div_le {a b c : Rat} (h : 0 < c) : a / c ≤ b / c ↔ a ≤ b := by
  rw [← Rat.not_lt, ← Rat.not_lt, Rat.div_lt_iff h, Rat.div_mul_cancel (by grind)]
theorem div_lt {a b c : Rat} (h : 0 < c) : a / c < b / c ↔ a < b := by
  rw [Rat.div_lt_iff h, Rat.div_mul_cancel (by grind)]
theorem div_add {a b c : Rat} : a / c + b / c = (a + b) / c := by
  rw [Rat.div_def, Rat.div_def, Rat.div_def, Rat.add_mul]
theorem GI.gv {P by_ : Int} {xs : List (Int × Int)} (g : GI P xs) (h : 0 < by_) : GV ((P : Rat) / (by_ : Rat)) (xs.map (qsp by_)) := by
  have hb : (0 : Rat) < (by_ : Rat) := Rat.intCast_pos.mpr h
  have z : (0 : Rat) = ((0 : Int) : Rat) / (by_ : Rat) := by rw [Rat.intCast_zero, Rat.div_def, Rat.zero_mul]
  refine ⟨?_, by rw [List.length_map]; exact g.len, fun x hx => ?_, ?_⟩
  · rw [z, div_lt hb]; exact Rat.intCast_lt_intCast.mpr g.pos
  · obtain ⟨y, hy, rfl⟩ := List.mem_map.mp hx
    obtain ⟨a, b, c, d⟩ := g.fit y hy
    unfold qsp
    refine ⟨?_, ?_, ?_, ?_⟩
    · rw [z, div_le hb]; exact Rat.intCast_le_intCast.mpr a
    · rw [div_lt hb]; exact Rat.intCast_lt_intCast.mpr b
    · rw [z, div_lt hb]; exact Rat.intCast_lt_intCast.mpr c
    · rw [div_le hb]; exact Rat.intCast_le_intCast.mpr d
  · refine List.pairwise_map.mpr (g.pw.imp fun {x y} r => ?_)
    unfold qsp Rl
    simp only [div_add, div_le hb, ← Rat.intCast_add]
    exact ⟨Rat.intCast_le_intCast.mpr r.1, Rat.intCast_le_intCast.mpr r.2⟩
def RlC (P : Int) (x y : Int × Int) : Prop := RlI P x y ∨ RlI P y x
theorem turn_rl {P dl : Int} (hP : 0 < P) {x y : Int × Int} (r : RlI P x y) (hx : 0 < x.2) (hy : 0 < y.2) : RlC P ((x.1 + dl) % P, x.2) ((y.1 + dl) % P, y.2) := by
  obtain ⟨r1, r2⟩ := r
  have a := Int.mul_ediv_add_emod (x.1 + dl) P
  have b := Int.mul_ediv_add_emod (y.1 + dl) P
  have a1 := Int.emod_nonneg (x.1 + dl) (show P ≠ 0 by omega)
  have a2 := Int.emod_lt_of_pos (x.1 + dl) hP
  have b1 := Int.emod_nonneg (y.1 + dl) (show P ≠ 0 by omega)
  have b2 := Int.emod_lt_of_pos (y.1 + dl) hP
  generalize (x.1 + dl) % P = u at *
  generalize (y.1 + dl) % P = v at *
  generalize (x.1 + dl) / P = i at *
  generalize (y.1 + dl) / P = j at *
  have e : v - u = y.1 - x.1 - P * (j - i) := by rw [Int.mul_sub]; omega
  have h0 : 0 ≤ j - i := by
    rcases (show j - i < 0 ∨ 0 ≤ j - i by omega) with q | q
    · have : P * (j - i) ≤ P * (-1) := Int.mul_le_mul_of_nonneg_left (by omega) (by omega)
      omega
    · exact q
  have h1 : j - i ≤ 1 := by
    rcases (show 1 < j - i ∨ j - i ≤ 1 by omega) with q | q
    · have : P * 2 ≤ P * (j - i) := Int.mul_le_mul_of_nonneg_left (by omega) (by omega)
      omega
    · exact q
  have : j - i = 0 ∨ j - i = 1 := by omega
  rcases this with q | q
  · rw [q, Int.mul_zero] at e
    left; constructor
    · show u + x.2 ≤ v; omega
    · show v + y.2 ≤ u + P; omega
  · rw [q, Int.mul_one] at e
    right; constructor
    · show v + y.2 ≤ u; omega
    · show u + x.2 ≤ v + P; omega
theorem GI.turn {P dl : Int} {xs ys : List (Int × Int)} (g : GI P xs) (h : ys.Perm (xs.map fun x => ((x.1 + dl) % P, x.2))) (s : ys.Pairwise fun x y => x.1 ≤ y.1) : GI P ys := by
  have hP := g.pos
  have f : ∀ x ∈ ys, 0 ≤ x.1 ∧ x.1 < P ∧ 0 < x.2 ∧ x.2 ≤ P := fun x hx => by
    obtain ⟨y, hy, rfl⟩ := List.mem_map.mp (h.mem_iff.mp hx)
    obtain ⟨_, _, c, d⟩ := g.fit y hy
    exact ⟨Int.emod_nonneg _ (by omega), Int.emod_lt_of_pos _ hP, c, d⟩
  refine ⟨hP, by rw [h.length_eq, List.length_map]; exact g.len, f, ?_⟩
  have c : ys.Pairwise (RlC P) := by
    refine (List.Perm.pairwise_iff (fun {a b} (r : RlC P a b) => Or.symm r) h).mpr ?_
    refine List.pairwise_map.mpr ?_
    refine List.Pairwise.imp_of_mem (fun {x y} hx hy r => ?_) g.pw
    exact turn_rl hP r (g.fit x hx).2.2.1 (g.fit y hy).2.2.1
  refine List.Pairwise.imp_of_mem (fun {x y} hx hy r => ?_) (c.and s)
  rcases r with ⟨r | r, s⟩
  · exact r
  · have := (f y hy).2.2.1
    have := r.1
    omega
/-! ### copies -/
def cpQ (P : Rat) (xs : Sps) : Nat → Sps
  | 0 => []
  | k + 1 => cpQ P xs k ++ xs.map fun x => (x.1 + ((k : Int) : Rat) * P, x.2)
theorem cp_mem {P : Rat} {xs : Sps} {z : Rat × Rat} : ∀ {k : Nat}, z ∈ cpQ P xs k → ∃ x ∈ xs, ∃ j : Nat, j < k ∧ z = (x.1 + ((j : Int) : Rat) * P, x.2)
  | 0, h => by cases h
  | k + 1, h => by
    rcases List.mem_append.mp h with h | h
    · obtain ⟨x, hx, j, hj, e⟩ := cp_mem h
      exact ⟨x, hx, j, by omega, e⟩
    · obtain ⟨x, hx, e⟩ := List.mem_map.mp h
      exact ⟨x, hx, k, by omega, e.symm⟩
theorem cp_len {P : Rat} {xs : Sps} : ∀ k : Nat, (cpQ P xs k).length = k * xs.length
  | 0 => by simp [cpQ]
  | k + 1 => by
    rw [cpQ, List.length_append, List.length_map, cp_len k, Nat.succ_mul]
theorem cast_le {P : Rat} (h : 0 ≤ P) {i j : Int} (l : i ≤ j) : (i : Rat) * P ≤ (j : Rat) * P := Rat.mul_le_mul_of_nonneg_right (Rat.intCast_le_intCast.mpr l) h
theorem GV.any2 {P : Rat} {xs : Sps} (g : GV P xs) {x y : Rat × Rat} (hx : x ∈ xs) (hy : y ∈ xs) : x.1 + x.2 ≤ y.1 + P := by
  have := g.pos
  rcases pw_get g.pw hx hy with e | e | e
  · subst e; have := g.fit x hx; grind
  · have := e.1; grind
  · exact e.2
theorem GV.copies {P : Rat} {xs : Sps} (g : GV P xs) {c : Nat} (hc : 0 < c) (hl : c * xs.length ≤ 6) : GV (((c : Int) : Rat) * P) (cpQ P xs c) := by
  have hP := g.pos
  have hP0 := Rat.le_of_lt hP
  have c1 : P ≤ ((c : Int) : Rat) * P := step_ge hP (by omega)
  refine ⟨by grind, by rw [cp_len]; exact hl, fun z hz => ?_, ?_⟩
  · obtain ⟨x, hx, j, hj, rfl⟩ := cp_mem hz
    obtain ⟨f1, f2, f3, f4⟩ := g.fit x hx
    have q0 : (0 : Rat) ≤ ((j : Int) : Rat) * P := Rat.mul_nonneg (Rat.intCast_nonneg.mpr (by omega)) hP0
    have q1 := cast_le hP0 (show ((j : Int) + 1) ≤ c by omega)
    rw [Rat.intCast_add, Rat.intCast_one] at q1
    refine ⟨?_, ?_, f3, ?_⟩
    · show 0 ≤ x.1 + _; grind
    · show x.1 + _ < _; grind
    · show x.2 ≤ _; grind
  · have main : ∀ k : Nat, k ≤ c → (cpQ P xs k).Pairwise (Rl (((c : Int) : Rat) * P)) := by
      intro k
      induction k with
      | zero => intro _; exact List.Pairwise.nil
      | succ k ih =>
        intro hk
        refine List.pairwise_append.mpr ⟨ih (by omega), ?_, fun u hu v hv => ?_⟩
        · refine List.pairwise_map.mpr (g.pw.imp fun {x y} r => ?_)
          obtain ⟨r1, r2⟩ := r
          constructor
          · show x.1 + _ + x.2 ≤ y.1 + _; grind
          · show y.1 + _ + y.2 ≤ x.1 + _ + _; grind
        · obtain ⟨x, hx, j, hj, rfl⟩ := cp_mem hu
          obtain ⟨y, hy, rfl⟩ := List.mem_map.mp hv
          have a1 := g.any2 hx hy
          have a2 := g.any2 hy hx
          have q1 := cast_le hP0 (show ((j : Int) + 1) ≤ k by omega)
          have q2 := cast_le hP0 (show ((k : Int) + 1) ≤ (j : Int) + c by omega)
          rw [Rat.intCast_add, Rat.intCast_one] at q1
          rw [Rat.intCast_add, Rat.intCast_one, Rat.intCast_add] at q2
          constructor
          · show x.1 + _ + x.2 ≤ y.1 + _; grind
          · show y.1 + _ + y.2 ≤ x.1 + _ + _; grind
    exact main c (Nat.le_refl _)
end EP
namespace EP
open PySem PySem.Spec PyProof.Rows L2
/-! ### pairs of whole numbers -/
def IsP (H : Hp) (u : V) (x : Int × Int) : Prop := ∃ t, u = .ref t ∧ H t = some (.tup [.int x.1, .int x.2])
def pk (H : Hp) : V → Int × Int
  | .ref t => match H t with
    | some (.tup [.int a, .int b]) => (a, b)
    | _ => (0, 0)
  | _ => (0, 0)
theorem IsP.pk {H : Hp} {u : V} {x : Int × Int} (h : IsP H u x) : pk H u = x := by
  obtain ⟨t, rfl, e⟩ := h
  unfold EP.pk; simp only; rw [e]
inductive Prs (H : Hp) : List V → List (Int × Int) → Prop
  | nil : Prs H [] []
  | cons {u : V} {x : Int × Int} {us : List V} {xs : List (Int × Int)} : IsP H u x → Prs H us xs → Prs H (u :: us) (x :: xs)
theorem Prs.app {H : Hp} {u : V} {x : Int × Int} (p : IsP H u x) : ∀ {us : List V} {xs : List (Int × Int)}, Prs H us xs → Prs H (us ++ [u]) (xs ++ [x])
  | _, _, .nil => .cons p .nil
  | _, _, .cons a r => .cons a (r.app p)
theorem Prs.imp {H H' : Hp} (f : ∀ u x, IsP H u x → IsP H' u x) : ∀ {us : List V} {xs : List (Int × Int)}, Prs H us xs → Prs H' us xs
  | _, _, .nil => .nil
  | _, _, .cons a r => .cons (f _ _ a) (r.imp f)
theorem IsP.mo {H H' : Hp} {r : Addr} (m : Mo r H H') {u : V} {x : Int × Int} (h : IsP H u x) : IsP H' u x := by
  obtain ⟨t, rfl, e⟩ := h
  refine ⟨t, rfl, m.g _ _ (fun z => ?_) e⟩
  obtain ⟨L, ns, i, c, sd, h1, _⟩ := m.a
  subst z; rw [h1] at e; cases e
theorem IsP.same {H H' : Hp} (m : Same H H') {u : V} {x : Int × Int} (h : IsP H u x) : IsP H' u x := by
  obtain ⟨t, rfl, e⟩ := h
  exact ⟨t, rfl, m _ _ e⟩
theorem IsP.mut {H : Hp} {D : Addr} {o : HO} {ys : List V} (hD : H D = some (.lst ys)) {u : V} {x : Int × Int} (h : IsP H u x) : IsP (upd H D o) u x := by
  obtain ⟨t, rfl, e⟩ := h
  refine ⟨t, rfl, ?_⟩
  rw [upd_ne (fun z => by subst z; rw [hD] at e; cases e)]; exact e
theorem Prs.len {H : Hp} : ∀ {us : List V} {xs : List (Int × Int)}, Prs H us xs → us.length = xs.length
  | _, _, .nil => rfl
  | _, _, .cons a r => congrArg Nat.succ r.len
theorem Prs.keys {H : Hp} : ∀ {us : List V} {xs : List (Int × Int)}, Prs H us xs → us.map (pk H) = xs ∧ ∀ u ∈ us, IsP H u (pk H u)
  | _, _, .nil => ⟨rfl, fun u h => by cases h⟩
  | _, _, .cons a r => by
    obtain ⟨e, f⟩ := r.keys
    refine ⟨by rw [List.map_cons, e, a.pk], fun u h => ?_⟩
    rcases List.mem_cons.mp h with z | z
    · subst z; rw [a.pk]; exact a
    · exact f u z
theorem Prs.of {H : Hp} : ∀ {us : List V}, (∀ u ∈ us, IsP H u (pk H u)) → Prs H us (us.map (pk H))
  | [], _ => .nil
  | u :: us, h => .cons (h u (by simp)) (Prs.of fun v hv => h v (by simp [hv]))
theorem Prs.get {H : Hp} : ∀ {us : List V} {xs : List (Int × Int)} {i : Nat} {u : V}, Prs H us xs → us[i]? = some u → ∃ x, xs[i]? = some x ∧ IsP H u x
  | _, _, _, _, .nil, e => by simp at e
  | _, _, 0, _, .cons a r, e => ⟨_, rfl, by cases Option.some.inj e; exact a⟩
  | _, _, i + 1, _, .cons a r, e => Prs.get (i := i) r e
/-! ### drawn fractions -/
theorem Fq.q {K : PySem.W.Frag} {H : Hp} {n : Nat} {v : V} {a b : Int} (h : Fq K H n v a b) : ∃ q : Rat, Dp K H v (dq q) ∧ Bq n q ∧ (0 < a → 0 < q) := by
  have hb := h.p
  have e2 : ((b.toNat : Nat) : Int) = b := by omega
  have cop : a.natAbs.Coprime b.toNat := by
    have := h.g
    unfold Int.gcd at this
    rw [show b.natAbs = b.toNat by omega] at this; exact this
  refine ⟨⟨a, b.toNat, by omega, cop⟩, fr_dq ?_, ⟨h.ba, ?_⟩, fun z => ?_⟩
  · show Fr K H v a (b.toNat : Int)
    rw [e2]; exact h.f
  · show B n ((b.toNat : Nat) : Int)
    rw [e2]; exact h.bb
  · rw [Rat.lt_iff]
    show (0 : Int) * _ < a * _
    rw [Int.zero_mul]; simpa using z
def spDrawnQ (K : PySem.W.Frag) (n : Nat) : Sp := fun vs H Q _ => ∃ (r : Addr), vs = [.ref r] ∧ Rng H r ∧ ∀ v q H', Mo r H H' → Dp K H' v (dq q) → Bq n q → Q v H'
theorem Gd_mono : True := trivial
theorem b_qsp {n k : Nat} {by_ : Int} {x : Int} (h : by_ ≠ 0) (b : B n x) (c : B k by_) (hn : 0 < n) (hk : 0 < k) : Bq (n + k) ((x : Rat) / (by_ : Rat)) := by
  have hb : (by_ : Rat) ≠ 0 := fun e => h (Rat.intCast_eq_zero_iff.mp e)
  exact Bq.div hb (Bq.int b hn) (Bq.int c hk)
end EP
namespace EP
theorem step_neg {P : Rat} (h : 0 < P) {k : Int} (e : (k : Rat) * P < 0) : (k : Rat) * P ≤ - P := by
  have h1 : 1 ≤ -k := step_pos h (by rw [Rat.intCast_neg]; grind)
  have h2 := step_ge h h1
  rw [Rat.intCast_neg] at h2; grind
theorem step_up {P : Rat} (h : 0 < P) {k : Int} (e : 0 < (k : Rat) * P) : P ≤ (k : Rat) * P := step_ge h (step_pos h e)
theorem GV.at_begin {P : Rat} {xs : Sps} (g : GV P xs) {x : Rat × Rat} (hx : x ∈ xs) : shutQ P xs x.1 = none := by
  have hP := g.pos
  refine g.open fun y hy t a => ?_
  obtain ⟨k, e, h0, h1⟩ := a
  obtain ⟨_, _, fx, fx2⟩ := g.fit x hx
  obtain ⟨_, _, fy, fy2⟩ := g.fit y hy
  rcases pw_get g.pw hx hy with z | ⟨r1, r2⟩ | ⟨r1, r2⟩
  · subst z
    have := step_neg hP (k := k) (by grind); grind
  · have := step_neg hP (k := k) (by grind); grind
  · have := step_up hP (k := k) (by grind); grind
theorem GV.at_end {P : Rat} {xs : Sps} (g : GV P xs) {x : Rat × Rat} (hx : x ∈ xs) : shutQ P xs (x.1 + x.2) = none := by
  have hP := g.pos
  refine g.open fun y hy t a => ?_
  obtain ⟨k, e, h0, h1⟩ := a
  obtain ⟨_, _, fx, fx2⟩ := g.fit x hx
  obtain ⟨_, _, fy, fy2⟩ := g.fit y hy
  rcases pw_get g.pw hx hy with z | ⟨r1, r2⟩ | ⟨r1, r2⟩
  · subst z
    have := step_up hP (k := k) (by grind); grind
  · have := step_neg hP (k := k) (by grind); grind
  · have := step_up hP (k := k) (by grind); grind
theorem GV.within {P s : Rat} {xs : Sps} (g : GV P xs) {x : Rat × Rat} (hx : x ∈ xs) (h0 : 0 < s) (h1 : s < x.2) : shutQ P xs (x.1 + s) = some (x.1 + x.2) := by
  rw [g.shut hx (t := s) ⟨0, by rw [Rat.intCast_zero]; grind, h0, h1⟩]
  congr 1; grind
/-- the end of the span that shuts a moment is open -/
theorem GV.till_open {P m : Rat} {xs : Sps} (g : GV P xs) {x : Rat × Rat} (hx : x ∈ xs) (h : lateB P m x = true) : shutQ P xs (till P m x) = none := by
  obtain ⟨k, e, h0, h1⟩ := late_by g.pos h
  have e2 : till P m x = (x.1 + x.2) + (k : Rat) * P := by unfold till; grind
  rw [e2]
  have : ∀ (p : Rat), shutQ P xs (p + (k : Rat) * P) = none ↔ shutQ P xs p = none := fun p => by
    have hl : ∀ y, lateB P (p + (k : Rat) * P) y = lateB P p y := fun y => by
      unfold lateB
      have : p + (k : Rat) * P - y.1 = (p - y.1) + (k : Rat) * P := by grind
      rw [this, remQ_mul g.pos]
    unfold shutQ
    rw [funext hl]
    cases xs.find? (lateB P p) <;> simp
  rw [this]; exact g.at_end hx
/-- whole periods later -/
theorem GV.later {P m : Rat} {xs : Sps} (g : GV P xs) (k : Int) : shutQ P xs (m + (k : Rat) * P) = (shutQ P xs m).map (· + (k : Rat) * P) := by
  have hr : ∀ y : Rat × Rat, remQ (m + (k : Rat) * P - y.1) P = remQ (m - y.1) P := fun y => by
    have : m + (k : Rat) * P - y.1 = (m - y.1) + (k : Rat) * P := by grind
    rw [this, remQ_mul g.pos]
  have hl : ∀ y, lateB P (m + (k : Rat) * P) y = lateB P m y := fun y => by unfold lateB; rw [hr]
  unfold shutQ
  rw [funext hl]
  cases h : xs.find? (lateB P m) with
  | none => rfl
  | some y =>
    show some (till P (m + (k : Rat) * P) y) = some (till P m y + (k : Rat) * P)
    unfold till; rw [hr]; congr 1; grind
end EP
namespace EP
/-! ### the law's own way to a part: each span stands again, a part later, wherever -/
def laterQ (P p : Rat) (xs : Sps) : Sps := xs.map fun x => (remQ (x.1 + p) P, x.2)
def allIn (xs ys : Sps) : Bool := xs.all fun x => decide (x ∈ ys)
abbrev Inc (x y : Rat × Rat) : Prop := x.1 < y.1
theorem GV.inc {P : Rat} {xs : Sps} (g : GV P xs) : xs.Pairwise Inc := by
  refine List.Pairwise.imp_of_mem (fun {x y} hx hy r => ?_) g.pw
  have := (g.fit x hx).2.2.1
  have := r.1
  show x.1 < y.1
  grind
/-- two ascending rows with the same spans are one -/
theorem inc_ext : ∀ {xs ys : Sps}, xs.Pairwise Inc → ys.Pairwise Inc → (∀ x, x ∈ xs ↔ x ∈ ys) → xs = ys
  | [], [], _, _, _ => rfl
  | [], y :: ys, _, _, h => by have := (h y).mpr (by simp); cases this
  | x :: xs, [], _, _, h => by have := (h x).mp (by simp); cases this
  | x :: xs, y :: ys, hx, hy, h => by
    obtain ⟨a1, a2⟩ := List.pairwise_cons.mp hx
    obtain ⟨b1, b2⟩ := List.pairwise_cons.mp hy
    have e : x = y := by
      rcases List.mem_cons.mp ((h x).mp (by simp)) with e | e
      · exact e
      · rcases List.mem_cons.mp ((h y).mpr (by simp)) with f | f
        · exact f.symm
        · have := b1 x e; have := a1 y f; unfold Inc at *; grind
    subst e
    rw [inc_ext a2 b2 fun z => ?_]
    constructor
    · intro hz
      rcases List.mem_cons.mp ((h z).mp (by simp [hz])) with e | e
      · subst e; have := a1 z hz; unfold Inc at this; grind
      · exact e
    · intro hz
      rcases List.mem_cons.mp ((h z).mpr (by simp [hz])) with e | e
      · subst e; have := b1 z hz; unfold Inc at this; grind
      · exact e
theorem inc_sub : ∀ {xs ys : Sps}, xs.Pairwise Inc → ys.Pairwise Inc → (∀ x ∈ xs, x ∈ ys) → xs.Sublist ys
  | [], ys, _, _, _ => List.nil_sublist _
  | x :: xs, [], _, _, h => by have := h x (by simp); cases this
  | x :: xs, y :: ys, hx, hy, h => by
    obtain ⟨a1, a2⟩ := List.pairwise_cons.mp hx
    obtain ⟨b1, b2⟩ := List.pairwise_cons.mp hy
    rcases List.mem_cons.mp (h x (by simp)) with e | e
    · subst e
      refine List.Sublist.cons₂ _ (inc_sub a2 b2 fun z hz => ?_)
      rcases List.mem_cons.mp (h z (by simp [hz])) with f | f
      · subst f; have := a1 z hz; unfold Inc at this; grind
      · exact f
    · refine List.Sublist.cons _ (inc_sub hx b2 fun z hz => ?_)
      rcases List.mem_cons.mp (h z hz) with f | f
      · subst f
        have h1 := b1 x e
        rcases List.mem_cons.mp hz with k | k
        · subst k; unfold Inc at h1; grind
        · have h2 := a1 z k; unfold Inc at h1 h2; grind
      · exact f
/-- below a border, in an ascending row: the first ones -/
theorem inc_cut (t : Rat) : ∀ {xs : Sps}, xs.Pairwise Inc → ∃ a, a ≤ xs.length ∧ xs.filter (fun x => decide (x.1 < t)) = xs.take a ∧ xs.filter (fun x => decide (t ≤ x.1)) = xs.drop a
  | [], _ => ⟨0, by simp, rfl, rfl⟩
  | x :: xs, h => by
    obtain ⟨h1, h2⟩ := List.pairwise_cons.mp h
    by_cases c : x.1 < t
    · obtain ⟨a, l, e1, e2⟩ := inc_cut t h2
      refine ⟨a + 1, by simp; exact l, ?_, ?_⟩
      · rw [List.filter_cons_of_pos (by simpa using c), e1]; rfl
      · rw [List.filter_cons_of_neg (by simp; grind), e2]; rfl
    · refine ⟨0, by simp, ?_, ?_⟩
      · rw [List.take_zero, List.filter_eq_nil_iff]
        intro y hy
        rcases List.mem_cons.mp hy with e | e
        · subst e; simpa using c
        · have := h1 y e; unfold Inc at this; simp; grind
      · rw [List.drop_zero, List.filter_eq_self]
        intro y hy
        rcases List.mem_cons.mp hy with e | e
        · subst e; simp; grind
        · have := h1 y e; unfold Inc at this; simp; grind
theorem inc_map {xs : Sps} (h : xs.Pairwise Inc) (p : Rat) : (xs.map fun x => (x.1 + p, x.2)).Pairwise Inc :=
  List.pairwise_map.mpr (h.imp fun {x y} r => by show x.1 + p < y.1 + p; unfold Inc at r; grind)
theorem rem_add {P p b : Rat} (hP : 0 < P) (h0 : 0 ≤ b) (h1 : b < P) (p0 : 0 ≤ p) (p1 : p ≤ P) : remQ (b + p) P = if b + p < P then b + p else b + p - P := by
  by_cases c : b + p < P
  · rw [if_pos c]; exact remQ_of hP 0 (by rw [Rat.intCast_zero]; grind) (by grind) c
  · rw [if_neg c]; exact remQ_of hP 1 (by rw [Rat.intCast_one]; grind) (by grind) (by grind)
/-- the spans repeat, however many places further -/
structure Rp (P p : Rat) (xs : Sps) (a : Nat) : Prop where
  le : a ≤ xs.length
  low : xs.filter (fun x => decide (x.1 < p)) = xs.take a
  high : xs.filter (fun x => decide (p ≤ x.1)) = xs.drop a
  eq : (xs.take (xs.length - a)).map (fun x => (x.1 + p, x.2)) = xs.drop a
  wrap : ∀ x ∈ xs, x.1 < p → (x.1 + (P - p), x.2) ∈ xs
theorem rp_of {P p : Rat} {xs : Sps} (g : GV P xs) (p0 : 0 < p) (p1 : p ≤ P) (h : allIn xs (laterQ P p xs) = true) : ∃ a, Rp P p xs a := by
  have hP := g.pos
  have hi := g.inc
  have back : ∀ x ∈ xs, (p ≤ x.1 → (x.1 - p, x.2) ∈ xs) ∧ (x.1 < p → (x.1 + (P - p), x.2) ∈ xs) := fun x hx => by
    have h1 := List.all_eq_true.mp h x hx
    have h1 := of_decide_eq_true h1
    obtain ⟨y, hy, e⟩ := List.mem_map.mp h1
    obtain ⟨f1, f2, _, _⟩ := g.fit y hy
    obtain ⟨k1, k2, _, _⟩ := g.fit x hx
    rw [rem_add hP f1 f2 (Rat.le_of_lt p0) p1] at e
    have e1 := congrArg Prod.fst e
    have e2 := congrArg Prod.snd e
    simp only at e1 e2
    by_cases c : y.1 + p < P
    · rw [if_pos c] at e1
      have : (x.1 - p, x.2) = y := Prod.ext (by show x.1 - p = y.1; grind) e2.symm
      exact ⟨fun _ => this ▸ hy, fun z => by grind⟩
    · rw [if_neg c] at e1
      have : (x.1 + (P - p), x.2) = y := Prod.ext (by show x.1 + (P - p) = y.1; grind) e2.symm
      exact ⟨fun z => by grind, fun _ => this ▸ hy⟩
  obtain ⟨a, la, low, high⟩ := inc_cut p hi
  obtain ⟨b, lb, low2, high2⟩ := inc_cut (P - p) hi
  -- what lies beyond p, a part earlier, lies below P - p
  have inj : ∀ {l : Sps} (q : Rat), l.Pairwise Inc → (l.map fun x => (x.1 + q, x.2)).Pairwise Inc := fun q h => inc_map h q
  have sub1 : ∀ x ∈ (xs.drop a).map (fun x => (x.1 + (-p), x.2)), x ∈ xs.take b := fun x hx => by
    obtain ⟨y, hy, rfl⟩ := List.mem_map.mp hx
    rw [← high] at hy
    obtain ⟨hy, c⟩ := List.mem_filter.mp hy
    have c := of_decide_eq_true c
    rw [← low2]
    refine List.mem_filter.mpr ⟨?_, decide_eq_true ?_⟩
    · have := (back y hy).1 c
      have e : (y.1 + -p, y.2) = (y.1 - p, y.2) := Prod.ext (by show y.1 + -p = y.1 - p; grind) rfl
      rw [e]; exact this
    · have := (g.fit y hy).2.1; show y.1 + -p < P - p; grind
  have sub2 : ∀ x ∈ (xs.take a).map (fun x => (x.1 + (P - p), x.2)), x ∈ xs.drop b := fun x hx => by
    obtain ⟨y, hy, rfl⟩ := List.mem_map.mp hx
    rw [← low] at hy
    obtain ⟨hy, c⟩ := List.mem_filter.mp hy
    have c := of_decide_eq_true c
    rw [← high2]
    refine List.mem_filter.mpr ⟨(back y hy).2 c, decide_eq_true ?_⟩
    have := (g.fit y hy).1; show P - p ≤ y.1 + (P - p); grind
  have i1 := inc_sub (inj (-p) (hi.sublist (List.drop_sublist a xs))) (hi.sublist (List.take_sublist b xs)) sub1
  have i2 := inc_sub (inj (P - p) (hi.sublist (List.take_sublist a xs))) (hi.sublist (List.drop_sublist b xs)) sub2
  have c1 : xs.length - a ≤ b := by
    have := i1.length_le
    rw [List.length_map, List.length_drop, List.length_take] at this; omega
  have c2 : a ≤ xs.length - b := by
    have := i2.length_le
    rw [List.length_map, List.length_take, List.length_drop] at this; omega
  have cb : b = xs.length - a := by omega
  subst cb
  have e1 := i1.eq_of_length_le (by rw [List.length_map, List.length_drop, List.length_take]; omega)
  refine ⟨a, la, low, high, ?_, fun x hx c => (back x hx).2 c⟩
  rw [← e1, List.map_map]
  have : ((fun x : Rat × Rat => (x.1 + p, x.2)) ∘ fun x => (x.1 + (-p), x.2)) = id := funext fun x => Prod.ext (by show x.1 + -p + p = x.1; grind) rfl
  rw [this, List.map_id]
theorem at0_get {xs : Sps} {i : Nat} (h : i < xs.length) : at0 xs i = xs[i] := by
  unfold at0; rw [List.getD_eq_getElem?_getD, List.getElem?_eq_getElem h]; rfl
theorem at0_tk {xs : Sps} {d i : Nat} (h : i < d) (hd : d ≤ xs.length) : at0 (xs.take d) i = at0 xs i := by
  rw [at0_get (by rw [List.length_take]; omega), at0_get (by omega), List.getElem_take]
theorem nxt_of {xs : Sps} {a : Nat} {p : Rat} (e : (xs.take (xs.length - a)).map (fun x => (x.1 + p, x.2)) = xs.drop a) (i : Nat) (hi : i + a < xs.length) : at0 xs (i + a) = ((at0 xs i).1 + p, (at0 xs i).2) := by
  have := congrArg (fun l : Sps => l[i]?) e
  simp only [List.getElem?_map, List.getElem?_drop] at this
  rw [List.getElem?_take_of_lt (by omega), List.getElem?_eq_getElem (by omega), List.getElem?_eq_getElem (by omega)] at this
  simp only [Option.map_some, Option.some.injEq] at this
  rw [at0_get hi, at0_get (by omega)]
  have e : a + i = i + a := Nat.add_comm ..
  simp only [e] at this
  exact this.symm
theorem rep_nxt {xs : Sps} {a : Nat} {p : Rat} (ha : a ≤ xs.length) (h : ∀ i, i + a < xs.length → at0 xs (i + a) = ((at0 xs i).1 + p, (at0 xs i).2)) : repB xs a p = true := by
  unfold repB
  refine decide_eq_true (List.ext_getElem ?_ fun i h1 h2 => ?_)
  · rw [List.length_map, List.length_take, List.length_drop]; omega
  · rw [List.length_drop] at h2
    have := h i (by omega)
    rw [at0_get (by omega), at0_get (by omega)] at this
    rw [List.getElem_map, List.getElem_take, List.getElem_drop]
    have e : a + i = i + a := Nat.add_comm ..
    simp only [e]
    exact this.symm
theorem Rp.one {P p : Rat} {xs : Sps} {a : Nat} (R : Rp P p xs a) (p0 : 0 < p) (h : 0 < xs.length) : 0 < a := by
  rcases Nat.eq_zero_or_pos a with e | e
  · subst e
    have := nxt_of R.eq 0 h
    rw [Nat.add_zero] at this
    have := congrArg Prod.fst this
    simp only at this
    grind
  · exact e
theorem Rp.win {P p : Rat} {xs : Sps} {a : Nat} (g : GV P xs) (R : Rp P p xs a) (ha : 0 < a) : ∀ i, i < xs.length → ((i / a : Nat) : Rat) * p ≤ (at0 xs i).1 ∧ (at0 xs i).1 < ((i / a : Nat) : Rat) * p + p := by
  intro i
  induction i using Nat.strongRecOn with
  | _ i ih =>
    intro hi
    by_cases c : i < a
    · rw [Nat.div_eq_of_lt c]
      have hm : at0 xs i ∈ xs.filter (fun x => decide (x.1 < p)) := by rw [R.low]; exact at0_take R.le c
      have := of_decide_eq_true (List.mem_filter.mp hm).2
      have f := (g.fit _ (at0_mem hi)).1
      have z : ((0 : Nat) : Rat) = 0 := rfl
      rw [z]; constructor <;> grind
    · obtain ⟨k, rfl⟩ : ∃ k, i = k + a := ⟨i - a, by omega⟩
      obtain ⟨h1, h2⟩ := ih k (by omega) (by omega)
      rw [nxt_of R.eq k hi, Nat.add_div_right k ha]
      have e : ((k / a + 1 : Nat) : Rat) = ((k / a : Nat) : Rat) + 1 := by rw [Rat.natCast_add]; rfl
      rw [e]
      simp only
      constructor <;> grind
theorem Rp.all {P p : Rat} {xs : Sps} {a c : Nat} (g : GV P xs) (R : Rp P p xs a) (p0 : 0 < p) (hn : 0 < xs.length) (hc : 0 < c) (hP : P = (c : Rat) * p) : xs.length = c * a := by
  have ha := R.one p0 hn
  have cast_mono : ∀ {i j : Nat}, i ≤ j → (i : Rat) * p ≤ (j : Rat) * p := fun {i j} h => Rat.mul_le_mul_of_nonneg_right (Rat.natCast_le_natCast.mpr h) (Rat.le_of_lt p0)
  have up : xs.length ≤ c * a := by
    rcases Nat.lt_or_ge (c * a) xs.length with q | q
    · have h1 := (R.win g ha (c * a) q).1
      rw [Nat.mul_div_cancel _ ha, ← hP] at h1
      have := (g.fit _ (at0_mem q)).2.1
      grind
    · exact q
  have down : c * a ≤ xs.length := by
    have sub : ∀ x ∈ (xs.take a).map (fun x => (x.1 + (P - p), x.2)), x ∈ xs.drop ((c - 1) * a) := fun x hx => by
      obtain ⟨y, hy, rfl⟩ := List.mem_map.mp hx
      rw [← R.low] at hy
      obtain ⟨hy, cy⟩ := List.mem_filter.mp hy
      have cy := of_decide_eq_true cy
      have w := R.wrap y hy cy
      obtain ⟨i, hi, e⟩ := mem_at0 w
      have hic : (c - 1) * a ≤ i := by
        rcases Nat.lt_or_ge i ((c - 1) * a) with q | q
        · have h2 := (R.win g ha i hi).2
          rw [← e] at h2
          have h3 : i / a + 1 ≤ c - 1 := by
            have := (Nat.div_lt_iff_lt_mul ha).mpr q; omega
          have h4 := cast_mono h3
          have e1 : ((i / a + 1 : Nat) : Rat) = ((i / a : Nat) : Rat) + 1 := by rw [Rat.natCast_add]; rfl
          have e2 : ((c - 1 : Nat) : Rat) + 1 = (c : Rat) := by
            have : ((c - 1 + 1 : Nat) : Rat) = ((c - 1 : Nat) : Rat) + 1 := by rw [Rat.natCast_add]; rfl
            rw [← this, show c - 1 + 1 = c by omega]
          rw [e1] at h4
          rw [← e2] at hP
          have := (g.fit y hy).1
          simp only at h2
          grind
        · exact q
      rw [e, at0_get hi]
      have hk : i - (c - 1) * a < (xs.drop ((c - 1) * a)).length := by rw [List.length_drop]; omega
      have : xs[i] = (xs.drop ((c - 1) * a))[i - (c - 1) * a] := by
        rw [List.getElem_drop]
        have : (c - 1) * a + (i - (c - 1) * a) = i := by omega
        simp only [this]
      rw [this]; exact List.getElem_mem hk
    have := (inc_sub (inc_map (g.inc.sublist (List.take_sublist a xs)) (P - p)) (g.inc.sublist (List.drop_sublist _ xs)) sub).length_le
    rw [List.length_map, List.length_take, List.length_drop] at this
    have hle := R.le
    have : c * a = (c - 1) * a + a := by
      obtain ⟨e, rfl⟩ : ∃ e, c = e + 1 := ⟨c - 1, by omega⟩
      rw [Nat.add_sub_cancel, Nat.succ_mul]
    omega
  omega
theorem part_per {P : Rat} {xs : Sps} {d : Nat} (h1 : 1 ≤ d) (h2 : d < xs.length) (m : xs.length % d = 0) : P = ((xs.length / d : Nat) : Rat) * partQ P xs d ∧ xs.length = d * (xs.length / d) := by
  have hl : xs.length = d * (xs.length / d) := by have := Nat.div_add_mod xs.length d; rw [m, Nat.add_zero] at this; exact this.symm
  refine ⟨?_, hl⟩
  have hn : ((xs.length : Int) : Rat) ≠ 0 := fun e => by have := Rat.intCast_eq_zero_iff.mp e; omega
  have hd0 : (0 : Rat) < ((d : Int) : Rat) := Rat.intCast_pos.mpr (by omega)
  unfold partQ
  have e1 : ((xs.length : Int) : Rat) = ((d : Int) : Rat) * ((xs.length / d : Nat) : Rat) := by
    have : ((xs.length : Nat) : Rat) = ((d * (xs.length / d) : Nat) : Rat) := congrArg _ hl
    rw [Rat.natCast_mul] at this; exact this
  have e2 := Rat.div_mul_cancel (a := ((d : Int) : Rat)) hn
  generalize ((d : Int) : Rat) / ((xs.length : Int) : Rat) = z at e2 ⊢
  generalize ((xs.length / d : Nat) : Rat) = c at e1 ⊢
  generalize ((xs.length : Int) : Rat) = n at *
  generalize ((d : Int) : Rat) = e at *
  subst e1
  have : e * (z * c) = e * 1 := by grind
  have h3 : z * c = 1 := by
    have hne : e ≠ 0 := by grind
    have := congrArg (e⁻¹ * ·) this
    simp only [← Rat.mul_assoc, Rat.inv_mul_cancel e hne, Rat.one_mul] at this
    exact this
  grind
theorem part_pos {P : Rat} {xs : Sps} {d : Nat} (hP : 0 < P) (h1 : 1 ≤ d) (h2 : d < xs.length) : 0 < partQ P xs d := by
  have hn0 : (0 : Rat) < ((xs.length : Int) : Rat) := Rat.intCast_pos.mpr (by omega)
  have hd0 : (0 : Rat) < ((d : Int) : Rat) := Rat.intCast_pos.mpr (by omega)
  unfold partQ
  refine Rat.mul_pos hP ?_
  rw [Rat.div_def]; exact Rat.mul_pos hd0 (Rat.inv_pos.mpr hn0)
/-- both ways to a part agree -/
theorem law_part {P : Rat} {xs : Sps} {d : Nat} (g : GV P xs) (h1 : 1 ≤ d) (h2 : d < xs.length) (m : xs.length % d = 0) : allIn xs (laterQ P (partQ P xs d) xs) = repB xs d (partQ P xs d) := by
  obtain ⟨hper, hl⟩ := part_per (P := P) h1 h2 m
  have hp := part_pos g.pos h1 h2
  have hc : 2 ≤ xs.length / d := by
    rcases Nat.lt_or_ge (xs.length / d) 2 with q | q
    · rcases (show ∀ c : Nat, c < 2 → c = 0 ∨ c = 1 by omega) _ q with e | e
      · rw [e, Nat.mul_zero] at hl; omega
      · rw [e, Nat.mul_one] at hl; omega
    · exact q
  have hle : partQ P xs d ≤ P := by
    have := step_ge hp (k := ((xs.length / d : Nat) : Int)) (by omega)
    have e : (((xs.length / d : Nat) : Int) : Rat) = ((xs.length / d : Nat) : Rat) := rfl
    rw [e, ← hper] at this; exact this
  cases hr : repB xs d (partQ P xs d) with
  | true =>
    have hit : hitB P xs d = true := by unfold hitB; rw [hr, decide_eq_true m]; rfl
    have R := rep_of g.pos h1 h2 hit
    refine List.all_eq_true.mpr fun x hx => decide_eq_true ?_
    obtain ⟨j, hj, rfl⟩ := mem_at0 hx
    have fj := g.fit _ (at0_mem hj)
    by_cases c : d ≤ j
    · obtain ⟨k, rfl⟩ : ∃ k, j = k + d := ⟨j - d, by omega⟩
      have e := R.nxt k hj
      have fk := g.fit _ (at0_mem (xs := xs) (i := k) (by omega))
      refine List.mem_map.mpr ⟨at0 xs k, at0_mem (by omega), ?_⟩
      rw [e] at fj ⊢
      simp only at fj
      rw [rem_add g.pos fk.1 fk.2.1 (Rat.le_of_lt hp) hle, if_pos fj.2.1]
    · have hj2 : j + d * (xs.length / d - 1) < xs.length := by
        have : d * (xs.length / d) = d * (xs.length / d - 1) + d := by
          obtain ⟨e, he⟩ : ∃ e, xs.length / d = e + 1 := ⟨xs.length / d - 1, by omega⟩
          rw [he, Nat.add_sub_cancel, Nat.mul_succ]
        omega
      have e := R.far j (xs.length / d - 1) hj2
      have fk := g.fit _ (at0_mem hj2)
      refine List.mem_map.mpr ⟨at0 xs (j + d * (xs.length / d - 1)), at0_mem hj2, ?_⟩
      rw [rem_add g.pos fk.1 fk.2.1 (Rat.le_of_lt hp) hle]
      have e2 : ((xs.length / d - 1 : Nat) : Rat) + 1 = ((xs.length / d : Nat) : Rat) := by
        have : ((xs.length / d - 1 + 1 : Nat) : Rat) = ((xs.length / d - 1 : Nat) : Rat) + 1 := by rw [Rat.natCast_add]; rfl
        rw [← this, show xs.length / d - 1 + 1 = xs.length / d by omega]
      have e3 : (at0 xs (j + d * (xs.length / d - 1))).1 + partQ P xs d = (at0 xs j).1 + P := by
        rw [e]
        show (at0 xs j).1 + _ * _ + _ = _
        have h4 := hper
        rw [← e2] at h4
        grind
      rw [e3, if_neg (by grind)]
      refine Prod.ext ?_ ?_
      · show (at0 xs j).1 + P - P = _; grind
      · show (at0 xs (j + d * (xs.length / d - 1))).2 = _; rw [e]
  | false =>
    cases ha : allIn xs (laterQ P (partQ P xs d) xs) with
    | false => rfl
    | true =>
      obtain ⟨a, R⟩ := rp_of g hp hle ha
      have e := R.all g hp (by omega) (show 0 < xs.length / d by omega) hper
      have had : a = d := by
        have h3 : (xs.length / d) * a = (xs.length / d) * d := by rw [← e, Nat.mul_comm]; exact hl
        exact Nat.eq_of_mul_eq_mul_left (by omega) h3
      subst had
      have : repB xs a (partQ P xs a) = true := decide_eq_true R.eq
      rw [this] at hr; cases hr
end EP
namespace EP
theorem part_div {P : Rat} {xs : Sps} {d : Nat} (h1 : 1 ≤ d) (h2 : d < xs.length) (m : xs.length % d = 0) : partQ P xs d = P / (((xs.length / d : Nat) : Int) : Rat) := by
  obtain ⟨e, hl⟩ := part_per (P := P) h1 h2 m
  have hc : xs.length / d ≠ 0 := fun z => by rw [z, Nat.mul_zero] at hl; omega
  have hc' : ((((xs.length / d : Nat) : Int)) : Rat) ≠ 0 := fun z => by have := Rat.intCast_eq_zero_iff.mp z; omega
  have : P = partQ P xs d * (((xs.length / d : Nat) : Int) : Rat) := by
    have : (((xs.length / d : Nat) : Int) : Rat) = ((xs.length / d : Nat) : Rat) := rfl
    rw [this, Rat.mul_comm]; exact e
  generalize partQ P xs d = p at *
  rw [this, Rat.mul_div_cancel hc']
theorem lf_bits {n : Nat} {P : Rat} {xs : Sps} (hl : xs.length ≤ 6) (b : Bq n P) (hn : 0 < n) : Bq (n + 3) (lfQ P xs).1 := by
  unfold lfQ
  by_cases h : xs.length = 0
  · rw [if_pos h]; exact Bq.mono (n := 1) ⟨B.of (by decide), B.of (by decide)⟩ (by omega)
  · rw [if_neg h]
    cases hf : (List.range' 1 (xs.length - 1)).find? (hitB P xs) with
    | none => exact b.mono (by omega)
    | some d =>
      have h1 := List.find?_some hf
      have h2 := List.mem_range'_1.mp (List.mem_of_find?_eq_some hf)
      unfold hitB at h1
      simp only [Bool.and_eq_true, decide_eq_true_eq] at h1
      show Bq (n + 3) (partQ P xs d)
      rw [part_div h2.1 (by omega) h1.1]
      have hd : xs.length / d ≤ 6 := Nat.le_trans (Nat.div_le_self _ _) hl
      have hc : xs.length / d ≠ 0 := fun z => by
        have := Nat.div_add_mod xs.length d
        rw [z, Nat.mul_zero] at this; omega
      have hc' : ((((xs.length / d : Nat) : Int)) : Rat) ≠ 0 := fun z => by have := Rat.intCast_eq_zero_iff.mp z; omega
      generalize xs.length / d = c at *
      exact Bq.div hc' b (Bq.int (B.of (by omega)))
theorem hit_of {P : Rat} {xs : Sps} {d : Nat} (m : xs.length % d = 0) (r : repB xs d (partQ P xs d) = true) : hitB P xs d = true := by
  unfold hitB; rw [r, decide_eq_true m]; rfl
/-- a part of a part is a part -/
theorem hit_part {P : Rat} {xs : Sps} {d e : Nat} (g : GV P xs) (h1 : 1 ≤ d) (h2 : d < xs.length) (h : hitB P xs d = true) (e1 : 1 ≤ e) (e2 : e < d) (k : hitB (partQ P xs d) (xs.take d) e = true) : hitB P xs e = true := by
  have R := rep_of g.pos h1 h2 h
  have tl : (xs.take d).length = d := by rw [List.length_take]; omega
  have R' := rep_of (P := partQ P xs d) (xs := xs.take d) R.pos e1 (by rw [tl]; exact e2) k
  have m1 : xs.length % d = 0 := by unfold hitB at h; simp only [Bool.and_eq_true, decide_eq_true_eq] at h; exact h.1
  have m2 : d % e = 0 := by unfold hitB at k; simp only [Bool.and_eq_true, decide_eq_true_eq] at k; rw [tl] at k; exact k.1
  have m3 : xs.length % e = 0 := Nat.mod_eq_zero_of_dvd (Nat.dvd_trans (Nat.dvd_of_mod_eq_zero m2) (Nat.dvd_of_mod_eq_zero m1))
  have pe : partQ (partQ P xs d) (xs.take d) e = partQ P xs e := by
    have hn : ((xs.length : Int) : Rat) ≠ 0 := fun z => by have := Rat.intCast_eq_zero_iff.mp z; omega
    have hd : ((d : Int) : Rat) ≠ 0 := fun z => by have := Rat.intCast_eq_zero_iff.mp z; omega
    unfold partQ
    rw [tl]
    have q1 := Rat.div_mul_cancel (a := ((d : Int) : Rat)) hn
    have q2 := Rat.div_mul_cancel (a := ((e : Int) : Rat)) hd
    have q3 := Rat.div_mul_cancel (a := ((e : Int) : Rat)) hn
    generalize ((d : Int) : Rat) / ((xs.length : Int) : Rat) = u at *
    generalize ((e : Int) : Rat) / ((d : Int) : Rat) = v at *
    generalize ((e : Int) : Rat) / ((xs.length : Int) : Rat) = w at *
    generalize ((xs.length : Int) : Rat) = n at *
    have : (u * v) * n = w * n := by grind
    have := congrArg (· * n⁻¹) this
    simp only [Rat.mul_assoc, Rat.mul_inv_cancel n hn, Rat.mul_one] at this
    grind
  rw [pe] at R'
  have c2 := R'.hc
  have tl2 := R'.len
  rw [tl] at tl2 R' c2
  have per := R'.per
  generalize hc : d / e = c at *
  refine hit_of m3 (rep_nxt (by omega) fun i hi => ?_)
  have hi2 : i % d + d * (i / d) = i := Nat.mod_add_div i d
  have hq : i % d < d := Nat.mod_lt _ (by omega)
  have f1 := R.far (i % d) (i / d) (by rw [hi2]; omega)
  rw [hi2] at f1
  by_cases cs : i % d + e < d
  · have f2 := R.far (i % d + e) (i / d) (by omega)
    have f3 := R'.nxt (i % d) (by rw [tl]; exact cs)
    rw [at0_tk cs (by omega), at0_tk hq (by omega)] at f3
    rw [show i % d + e + d * (i / d) = i + e by omega] at f2
    rw [f2, f3, f1]
    refine Prod.ext ?_ rfl
    show (at0 xs (i % d)).1 + partQ P xs e + _ = (at0 xs (i % d)).1 + _ + partQ P xs e
    grind
  · obtain ⟨q0, hq0⟩ : ∃ q0, i % d + e = q0 + d := ⟨i % d + e - d, by omega⟩
    have ec : d = e * (c - 1) + e := by
      obtain ⟨z, rfl⟩ : ∃ z, c = z + 1 := ⟨c - 1, by omega⟩
      rw [Nat.add_sub_cancel, ← Nat.mul_succ]; exact tl2
    have hmul : d * (i / d + 1) = d * (i / d) + d := Nat.mul_succ ..
    have f2 := R.far q0 (i / d + 1) (by omega)
    have f3 := R'.far q0 (c - 1) (by rw [tl]; omega)
    rw [show q0 + e * (c - 1) = i % d by omega, at0_tk hq (by omega), at0_tk (show q0 < d by omega) (by omega)] at f3
    rw [show q0 + d * (i / d + 1) = i + e by omega] at f2
    rw [f2, f1, f3]
    refine Prod.ext ?_ rfl
    show (at0 xs q0).1 + ((i / d + 1 : Nat) : Rat) * partQ P xs d = (at0 xs q0).1 + ((c - 1 : Nat) : Rat) * partQ P xs e + _ + partQ P xs e
    have z1 : ((i / d + 1 : Nat) : Rat) = ((i / d : Nat) : Rat) + 1 := by rw [Rat.natCast_add]; rfl
    have z2 : ((c - 1 : Nat) : Rat) + 1 = (c : Rat) := by
      have : ((c - 1 + 1 : Nat) : Rat) = ((c - 1 : Nat) : Rat) + 1 := by rw [Rat.natCast_add]; rfl
      rw [← this, show c - 1 + 1 = c by omega]
    rw [z1]
    rw [← z2] at per
    grind
theorem lf_idem {P : Rat} {xs : Sps} (g : GV P xs) : lfQ (lfQ P xs).1 (lfQ P xs).2 = lfQ P xs := by
  by_cases h : xs.length = 0
  · have : lfQ P xs = (1, []) := by unfold lfQ; rw [if_pos h]
    rw [this]; rfl
  · cases hf : (List.range' 1 (xs.length - 1)).find? (hitB P xs) with
    | none =>
      have : lfQ P xs = (P, xs) := by unfold lfQ; rw [if_neg h, hf]
      rw [this]; exact this
    | some d =>
      have e : lfQ P xs = (partQ P xs d, xs.take d) := by unfold lfQ; rw [if_neg h, hf]
      rw [e]
      have h1 := List.find?_some hf
      have h2 := List.mem_range'_1.mp (List.mem_of_find?_eq_some hf)
      obtain ⟨_, as, bs, hl, has⟩ := List.find?_eq_some_iff_append.mp hf
      have tl : (xs.take d).length = d := by rw [List.length_take]; omega
      unfold lfQ
      rw [if_neg (by rw [tl]; omega)]
      have no : (List.range' 1 ((xs.take d).length - 1)).find? (hitB (partQ P xs d) (xs.take d)) = none := by
        refine List.find?_eq_none.mpr fun k hk hh => ?_
        have hk := List.mem_range'_1.mp hk
        rw [tl] at hk
        have hit := hit_part g h2.1 (by omega) h1 hk.1 (by omega) hh
        have mem : k ∈ as := by
          have hm : k ∈ List.range' 1 (xs.length - 1) := List.mem_range'_1.mpr ⟨hk.1, by omega⟩
          rw [hl] at hm
          rcases List.mem_append.mp hm with z | z
          · exact z
          · have pw : (List.range' 1 (xs.length - 1)).Pairwise (· < ·) := List.pairwise_lt_range'
            rw [hl] at pw
            have := (List.pairwise_append.mp pw).2.1
            rcases List.mem_cons.mp z with y | y
            · omega
            · have := (List.pairwise_cons.mp this).1 k y; omega
        have := has k mem
        rw [hit] at this; cases this
      rw [no]
end EP
namespace EP
open PySem PySem.Spec PyProof.Rows L2
theorem u65 {k : Nat} {A : Around} (r : Room k A) : A.units + 65 < cLine := by have := r.un; omega
theorem any_dsp (ys : Sps) (x : Rat × Rat) : ((ys.map dsp).any fun z => PyData.eqv z (dsp x)) = decide (x ∈ ys) := by
  induction ys with
  | nil => simp
  | cons y ys ih =>
    rw [List.map_cons, List.any_cons, ih, eqv_dsp]
    by_cases h : y = x
    · subst h; simp
    · rw [decide_eq_false h, Bool.false_or]
      refine decide_eq_decide.mpr ?_
      rw [List.mem_cons]
      exact ⟨fun z => .inr z, fun z => z.elim (fun e => absurd e.symm h) id⟩
end EP
namespace EP
/-! ### windows of a gate with spans -/
/-- where window k begins and ends, within the first period -/
def wB (xs : Sps) (k : Nat) : Rat := (at0 xs k).1 + (at0 xs k).2
def wE (P : Rat) (xs : Sps) (k : Nat) : Rat := if k + 1 < xs.length then (at0 xs (k + 1)).1 else (at0 xs 0).1 + P
/-- window k of period j has the moment m -/
structure Win (P : Rat) (xs : Sps) (m : Rat) (k : Nat) (j : Int) : Prop where
  lt : k < xs.length
  lo : wB xs k + (j : Rat) * P ≤ m
  hi : m ≤ wE P xs k + (j : Rat) * P
theorem GV.at {P : Rat} {xs : Sps} (g : GV P xs) {k : Nat} (h : k < xs.length) : 0 ≤ (at0 xs k).1 ∧ (at0 xs k).1 < P ∧ 0 < (at0 xs k).2 ∧ (at0 xs k).2 ≤ P := g.fit _ (at0_mem h)
theorem GV.up {P : Rat} {xs : Sps} (g : GV P xs) {i k : Nat} (h : i < k) (hk : k < xs.length) : wB xs i ≤ (at0 xs k).1 ∧ wB xs k ≤ (at0 xs i).1 + P := pw_at0 g.pw h hk
/-- the end of a window lies ahead of the spans that follow, and of the first one a period later -/
theorem GV.we {P : Rat} {xs : Sps} (g : GV P xs) {k : Nat} (hk : k < xs.length) : wB xs k ≤ wE P xs k ∧ wE P xs k ≤ (at0 xs 0).1 + P ∧ ∀ i, k < i → i < xs.length → wE P xs k ≤ (at0 xs i).1 := by
  have h0 := g.at (k := 0) (by omega)
  unfold wE
  by_cases c : k + 1 < xs.length
  · rw [if_pos c]
    refine ⟨(g.up (Nat.lt_succ_self k) c).1, ?_, fun i h1 h2 => ?_⟩
    · have := g.at c; grind
    · rcases Nat.lt_or_ge (k + 1) i with q | q
      · have := (g.up q h2).1; have := g.at c; unfold wB at *; grind
      · have : i = k + 1 := by omega
        subst this; exact Rat.le_refl
  · rw [if_neg c]
    refine ⟨?_, Rat.le_refl, fun i h1 h2 => by omega⟩
    rcases Nat.eq_zero_or_pos k with q | q
    · subst q; unfold wB; grind
    · exact (g.up q hk).2
theorem GV.bb {P : Rat} {xs : Sps} (g : GV P xs) {i k : Nat} (h : i ≤ k) (hk : k < xs.length) : (at0 xs i).1 ≤ (at0 xs k).1 ∧ wB xs i ≤ wB xs k := by
  rcases Nat.lt_or_ge i k with q | q
  · have := (g.up q hk).1; have a := g.at (k := i) (by omega); have b := g.at hk; unfold wB at *; constructor <;> grind
  · have : i = k := by omega
    subst this; exact ⟨Rat.le_refl, Rat.le_refl⟩
theorem Win.uniq0 {P m : Rat} {xs : Sps} (g : GV P xs) {i k : Nat} {a b : Int} (h : i < k) (x : Win P xs m i a) (y : Win P xs m k b) : False := by
  have hP := g.pos
  have h1 := (g.we x.lt).2.2 k h y.lt
  have h2 := (g.we y.lt).2.1
  have h3 := g.at y.lt
  have h4 := g.at x.lt
  have h5 := (g.bb (Nat.zero_le i) x.lt).1
  have x1 := x.lo; have x2 := x.hi; have y1 := y.lo; have y2 := y.hi
  have e : ((a - b : Int) : Rat) * P = (a : Rat) * P - (b : Rat) * P := by rw [Rat.intCast_sub]; grind
  have p1 : 0 < ((a - b : Int) : Rat) * P := by rw [e]; unfold wB at *; grind
  have p2 := step_up hP p1
  rw [e] at p2
  unfold wB at *
  grind
theorem Win.uniq {P m : Rat} {xs : Sps} (g : GV P xs) {i k : Nat} {a b : Int} (x : Win P xs m i a) (y : Win P xs m k b) : i = k ∧ a = b := by
  have hP := g.pos
  rcases Nat.lt_trichotomy i k with h | h | h
  · exact (Win.uniq0 g h x y).elim
  · subst h
    refine ⟨rfl, ?_⟩
    have hw := (g.we x.lt).2.1
    have h4 := g.at x.lt
    have h5 := (g.bb (Nat.zero_le i) x.lt).1
    have x1 := x.lo; have x2 := x.hi; have y1 := y.lo; have y2 := y.hi
    rcases (show a < b ∨ a = b ∨ b < a by omega) with c | c | c
    · have := step_ge hP (k := b - a) (by omega)
      rw [Rat.intCast_sub] at this
      unfold wB at *; grind
    · exact c
    · have := step_ge hP (k := a - b) (by omega)
      rw [Rat.intCast_sub] at this
      unfold wB at *; grind
  · exact (Win.uniq0 g h y x).elim
/-- a gate is open at the moments of its windows -/
theorem Win.open {P m : Rat} {xs : Sps} (g : GV P xs) {k : Nat} {j : Int} (w : Win P xs m k j) : shutQ P xs m = none := by
  have hP := g.pos
  refine g.open fun y hy t a => ?_
  obtain ⟨i, hi, rfl⟩ := mem_at0 hy
  obtain ⟨q, e, t0, t1⟩ := a
  have fi := g.at hi
  have w1 := w.lo; have w2 := w.hi
  have ee : ((q - j : Int) : Rat) * P = m - (j : Rat) * P - (at0 xs i).1 - t := by rw [Rat.intCast_sub]; grind
  have h5 := (g.bb (Nat.zero_le i) hi).1
  have h6 := (g.bb (Nat.zero_le k) w.lt).1
  have fk := g.at w.lt
  have we := g.we w.lt
  rcases Nat.lt_or_ge k i with c | c
  · have z := we.2.2 i c hi
    have n1 : ((q - j : Int) : Rat) * P < 0 := by rw [ee]; grind
    have n2 := step_neg hP n1
    have u := (g.up (show 0 < i by omega) hi).2
    rw [ee] at n2
    unfold wB at *; grind
  · have z := (g.bb c w.lt).2
    have n1 : 0 < ((q - j : Int) : Rat) * P := by rw [ee]; unfold wB at *; grind
    have n2 := step_up hP n1
    rw [ee] at n2
    unfold wB at *; grind
/-- an open moment has a window -/
theorem GV.win {P m : Rat} {xs : Sps} (g : GV P xs) (h0 : 0 < xs.length) (o : shutQ P xs m = none) : ∃ k j, Win P xs m k j := by
  have hP := g.pos
  have r0 := remQ_nn (p := m - (at0 xs 0).1) hP
  have r1 := remQ_lt (p := m - (at0 xs 0).1) hP
  have re := remQ_eq (m - (at0 xs 0).1) P
  generalize remQ (m - (at0 xs 0).1) P = s at *
  generalize ((m - (at0 xs 0).1) / P).floor = j at *
  have no : ∀ i, i < xs.length → ∀ t, ¬ LateBy P m (at0 xs i) t := fun i hi t a => by
    rw [g.shut (at0_mem hi) a] at o; cases o
  -- the last span that has begun
  have last : ∀ n, n < xs.length → ∃ k, k ≤ n ∧ (at0 xs k).1 ≤ (at0 xs 0).1 + s ∧ ∀ i, k < i → i ≤ n → (at0 xs 0).1 + s < (at0 xs i).1 := by
    intro n
    induction n with
    | zero => intro _; exact ⟨0, Nat.le_refl _, by grind, fun i h1 h2 => by omega⟩
    | succ n ih =>
      intro hn
      by_cases c : (at0 xs (n + 1)).1 ≤ (at0 xs 0).1 + s
      · exact ⟨n + 1, Nat.le_refl _, c, fun i h1 h2 => by omega⟩
      · obtain ⟨k, hk, k1, k2⟩ := ih (by omega)
        refine ⟨k, by omega, k1, fun i h1 h2 => ?_⟩
        rcases Nat.lt_or_ge n i with q | q
        · have : i = n + 1 := by omega
          subst this; grind
        · exact k2 i h1 q
  obtain ⟨k, hk, k1, k2⟩ := last (xs.length - 1) (by omega)
  have hkl : k < xs.length := by omega
  have fk := g.at hkl
  by_cases c : (at0 xs k).1 = (at0 xs 0).1 + s
  · -- at the begin of span k: the window ahead of it
    rcases Nat.eq_zero_or_pos k with q | q
    · subst q
      refine ⟨xs.length - 1, j - 1, by omega, ?_, ?_⟩
      · have u := (g.we (k := xs.length - 1) (by omega)).1
        have u2 := (g.we (k := xs.length - 1) (by omega)).2.1
        rw [Rat.intCast_sub, Rat.intCast_one]; grind
      · unfold wE
        rw [if_neg (by omega), Rat.intCast_sub, Rat.intCast_one]; grind
    · refine ⟨k - 1, j, by omega, ?_, ?_⟩
      · have u := (g.up (show k - 1 < k by omega) hkl).1; grind
      · unfold wE
        rw [if_pos (by omega), show k - 1 + 1 = k by omega]; grind
  · refine ⟨k, j, hkl, ?_, ?_⟩
    · have := no k hkl ((at0 xs 0).1 + s - (at0 xs k).1)
      unfold wB
      rcases (show (at0 xs 0).1 + s < (at0 xs k).1 + (at0 xs k).2 ∨ (at0 xs k).1 + (at0 xs k).2 ≤ (at0 xs 0).1 + s by grind) with z | z
      · exact absurd ⟨j, by grind, by grind, by grind⟩ this
      · grind
    · unfold wE
      by_cases c2 : k + 1 < xs.length
      · rw [if_pos c2]
        have := k2 (k + 1) (by omega) (by omega)
        grind
      · rw [if_neg c2]; grind
end EP
namespace EP
/-! ### windows by number -/
def wins (P : Rat) (xs : Sps) : Sps := (ends xs).zip (nexts P xs)
theorem wins_len (P : Rat) (xs : Sps) : (wins P xs).length = xs.length := by
  unfold wins ends nexts begs
  rw [List.length_zip, List.length_append, List.length_map, List.length_map, List.length_drop, List.length_take, List.length_map]; omega
theorem wins_at {P : Rat} {xs : Sps} {k : Nat} (h : k < xs.length) : (wins P xs)[k]? = some (wB xs k, wE P xs k) := by
  have hk : at0 xs k = xs[k] := by unfold at0; rw [List.getD_eq_getElem?_getD, List.getElem?_eq_getElem h]; rfl
  have e1 : (ends xs)[k]? = some (wB xs k) := by
    unfold ends wB; rw [List.getElem?_map, List.getElem?_eq_getElem h, hk]; rfl
  have e2 : (nexts P xs)[k]? = some (wE P xs k) := by
    unfold nexts wE begs
    by_cases c : k + 1 < xs.length
    · rw [if_pos c, List.getElem?_append_left (by rw [List.length_drop, List.length_map]; omega), List.getElem?_drop, List.getElem?_map, List.getElem?_eq_getElem (show 1 + k < xs.length by omega)]
      have : at0 xs (k + 1) = xs[1 + k] := by
        unfold at0; rw [List.getD_eq_getElem?_getD, List.getElem?_eq_getElem c]
        simp only [Option.getD_some]; congr 1; omega
      rw [this]; rfl
    · rw [if_neg c, List.getElem?_append_right (by rw [List.length_drop, List.length_map]; omega), List.length_drop, List.length_map, show k - (xs.length - 1) = 0 by omega]
      cases xs with
      | nil => simp at h
      | cons x r => rfl
  unfold wins
  exact (List.getElem?_zip_eq_some (z := (wB xs k, wE P xs k))).mpr ⟨e1, e2⟩
def wNo (xs : Sps) (n : Int) : Nat := (n % (xs.length : Int)).toNat
def wPer (xs : Sps) (n : Int) : Int := n / (xs.length : Int)
def winQ (P : Rat) (xs : Sps) (n : Int) : Rat × Rat := (wB xs (wNo xs n) + (wPer xs n : Rat) * P, wE P xs (wNo xs n) + (wPer xs n : Rat) * P)
theorem wNo_lt {xs : Sps} (h0 : 0 < xs.length) (n : Int) : wNo xs n < xs.length := by
  unfold wNo
  have h1 := Int.emod_nonneg n (show (xs.length : Int) ≠ 0 by omega)
  have h2 := Int.emod_lt_of_pos n (show (0 : Int) < xs.length by omega)
  omega
theorem wNo_eq {xs : Sps} (h0 : 0 < xs.length) (n : Int) : (wNo xs n : Int) + wPer xs n * (xs.length : Int) = n := by
  unfold wNo wPer
  have h1 := Int.emod_nonneg n (show (xs.length : Int) ≠ 0 by omega)
  have h2 := Int.mul_ediv_add_emod n (xs.length : Int)
  rw [Int.mul_comm] at h2
  omega
/-- what window_at answers -/
def WAns (P : Rat) (xs : Sps) (m : Rat) (o : Option Int) : Prop := (∃ k j, Win P xs m k j ∧ o = some ((k : Int) + j * (xs.length : Int))) ∨ (o = none ∧ shutQ P xs m ≠ none)
theorem WAns.of {P m : Rat} {xs : Sps} {o : Option Int} (g : GV P xs) (h0 : 0 < xs.length) {n : Int} (a : WAns P xs m o) (w : Win P xs m (wNo xs n) (wPer xs n)) : o = some n := by
  rcases a with ⟨k, j, x, e⟩ | ⟨_, e⟩
  · obtain ⟨e1, e2⟩ := Win.uniq g x w
    rw [e, e1, e2, wNo_eq h0]
  · exact absurd (w.open g) e
theorem WAns.shut {P m : Rat} {xs : Sps} {o : Option Int} (g : GV P xs) (a : WAns P xs m o) (h : shutQ P xs m ≠ none) : o = none := by
  rcases a with ⟨k, j, x, e⟩ | ⟨e, _⟩
  · exact absurd (x.open g) h
  · exact e
theorem WAns.none_iff {P m : Rat} {xs : Sps} {o : Option Int} (g : GV P xs) (a : WAns P xs m o) : o.isNone = !(shutQ P xs m).isNone := by
  rcases a with ⟨k, j, x, e⟩ | ⟨e, h⟩
  · rw [e, x.open g]; rfl
  · rw [e]
    cases hs : shutQ P xs m with
    | none => exact absurd hs h
    | some _ => rfl
theorem GV.le {P : Rat} {xs : Sps} (g : GV P xs) (h0 : 0 < xs.length) (n : Int) : (winQ P xs n).1 ≤ (winQ P xs n).2 := by
  have := (g.we (wNo_lt h0 n)).1
  unfold winQ; grind
theorem win_mid {P m : Rat} {xs : Sps} (h0 : 0 < xs.length) {n : Int} (h1 : (winQ P xs n).1 ≤ m) (h2 : m ≤ (winQ P xs n).2) : Win P xs m (wNo xs n) (wPer xs n) := ⟨wNo_lt h0 n, h1, h2⟩
theorem Win.num {P m : Rat} {xs : Sps} {k : Nat} {j : Int} (w : Win P xs m k j) : wNo xs ((k : Int) + j * (xs.length : Int)) = k ∧ wPer xs ((k : Int) + j * (xs.length : Int)) = j := by
  have h := w.lt
  unfold wNo wPer
  have e1 : ((k : Int) + j * (xs.length : Int)) % (xs.length : Int) = k := by
    rw [Int.add_mul_emod_self_right]; exact Int.emod_eq_of_lt (by omega) (by omega)
  have e2 : ((k : Int) + j * (xs.length : Int)) / (xs.length : Int) = j := by
    rw [Int.add_mul_ediv_right _ _ (by omega), Int.ediv_eq_zero_of_lt (by omega) (by omega), Int.zero_add]
  rw [e1, e2]; exact ⟨by omega, rfl⟩
/-- the next window begins behind a span that begins at the end of this one -/
theorem win_next {P : Rat} {xs : Sps} (g : GV P xs) (h0 : 0 < xs.length) (n : Int) : ∃ x ∈ xs, ∃ j : Int, (winQ P xs n).2 = x.1 + (j : Rat) * P ∧ (winQ P xs (n + 1)).1 = x.1 + x.2 + (j : Rat) * P := by
  have hn := wNo_lt h0 n
  have e := wNo_eq h0 n
  have e' := wNo_eq h0 (n + 1)
  have hn' := wNo_lt h0 (n + 1)
  by_cases c : wNo xs n + 1 < xs.length
  · have z : wNo xs (n + 1) = wNo xs n + 1 ∧ wPer xs (n + 1) = wPer xs n := by
      have w : Win P xs (wB xs (wNo xs n + 1) + (wPer xs n : Rat) * P) (wNo xs n + 1) (wPer xs n) := ⟨c, Rat.le_refl, by have := (g.we c).1; grind⟩
      have := w.num
      rw [show ((wNo xs n + 1 : Nat) : Int) + wPer xs n * (xs.length : Int) = n + 1 by omega] at this
      exact this
    refine ⟨at0 xs (wNo xs n + 1), at0_mem c, wPer xs n, ?_, ?_⟩
    · unfold winQ wE; rw [if_pos c]
    · unfold winQ; rw [z.1, z.2]; rfl
  · have z : wNo xs (n + 1) = 0 ∧ wPer xs (n + 1) = wPer xs n + 1 := by
      have w : Win P xs (wB xs 0 + ((wPer xs n + 1 : Int) : Rat) * P) 0 (wPer xs n + 1) := ⟨h0, Rat.le_refl, by have := (g.we h0).1; grind⟩
      have := w.num
      have e3 : ((0 : Nat) : Int) + (wPer xs n + 1) * (xs.length : Int) = n + 1 := by
        rw [Int.add_mul, Int.one_mul]; omega
      rw [e3] at this
      exact this
    refine ⟨at0 xs 0, at0_mem h0, wPer xs n + 1, ?_, ?_⟩
    · unfold winQ wE; rw [if_neg c, Rat.intCast_add, Rat.intCast_one]; grind
    · unfold winQ; rw [z.1, z.2]; rfl
theorem win_gap {P : Rat} {xs : Sps} (g : GV P xs) (h0 : 0 < xs.length) (n : Int) : shutQ P xs (((winQ P xs n).2 + (winQ P xs (n + 1)).1) * (1 / 2)) ≠ none := by
  obtain ⟨x, hx, j, e1, e2⟩ := win_next g h0 n
  have f := g.fit x hx
  rw [e1, e2, g.shut hx (t := x.2 * (1 / 2)) ⟨j, by grind, by grind, by grind⟩]
  exact fun z => nomatch z
end EP
namespace EP
/-! ### sums over the numbers below n -/
def Sm (f : Nat → Int) : Nat → Int
  | 0 => 0
  | n + 1 => Sm f n + f n
theorem Sm_congr {f g : Nat → Int} : ∀ {n : Nat}, (∀ k, k < n → f k = g k) → Sm f n = Sm g n
  | 0, _ => rfl
  | n + 1, h => by unfold Sm; rw [Sm_congr (n := n) fun k hk => h k (by omega), h n (by omega)]
theorem Sm_add {f g : Nat → Int} : ∀ n : Nat, Sm (fun k => f k + g k) n = Sm f n + Sm g n
  | 0 => rfl
  | n + 1 => by unfold Sm; rw [Sm_add n]; omega
theorem Sm_zero : ∀ n : Nat, Sm (fun _ => 0) n = 0
  | 0 => rfl
  | n + 1 => by unfold Sm; rw [Sm_zero n]; rfl
theorem Sm_split {f : Nat → Int} (n : Nat) : ∀ m : Nat, Sm f (n + m) = Sm f n + Sm (fun k => f (n + k)) m
  | 0 => by show Sm f n = Sm f n + 0; omega
  | m + 1 => by show Sm f (n + m) + f (n + m) = _; rw [Sm_split n m]; show _ = Sm f n + (Sm (fun k => f (n + k)) m + f (n + m)); omega
theorem Sm_first {f : Nat → Int} (n : Nat) : Sm f (n + 1) = f 0 + Sm (fun k => f (k + 1)) n := by
  rw [Nat.add_comm, Sm_split 1 n]
  have e : Sm (fun k => f (1 + k)) n = Sm (fun k => f (k + 1)) n := Sm_congr fun k _ => by rw [Nat.add_comm]
  rw [e]
  show 0 + f 0 + _ = _
  omega
theorem Sm_rev : ∀ (n : Nat) (f : Nat → Int), Sm (fun k => f (n - 1 - k)) n = Sm f n
  | 0, _ => rfl
  | n + 1, f => by
    rw [Sm_first]
    have e : Sm (fun k => f (n + 1 - 1 - (k + 1))) n = Sm (fun k => f (n - 1 - k)) n := Sm_congr fun k _ => by
      rw [show n + 1 - 1 - (k + 1) = n - 1 - k by omega]
    rw [e, Sm_rev n f]
    show f (n + 1 - 1 - 0) + Sm f n = Sm f n + f n
    rw [show n + 1 - 1 - 0 = n by omega]; omega
theorem Sm_swap (f : Nat → Nat → Int) (n : Nat) : ∀ m : Nat, Sm (fun k => Sm (fun j => f k j) m) n = Sm (fun j => Sm (fun k => f k j) n) m
  | 0 => Sm_zero n
  | m + 1 => by
    show Sm (fun k => Sm (fun j => f k j) m + f k m) n = Sm (fun j => Sm (fun k => f k j) n) m + Sm (fun k => f k m) n
    rw [Sm_add n, Sm_swap f n m]
/-! ### the sum of floors -/
def FS (n : Nat) (r b m : Int) : Int := Sm (fun k => (r * k + b) / m) n
theorem floor_congr {a b c d : Int} (hb : 0 < b) (hd : 0 < d) (h : a * d = c * b) : a / b = c / d := by
  have e1 : a / b = (a * d) / (b * d) := (Int.mul_ediv_mul_of_pos_left a b hd).symm
  have e2 : c / d = (c * b) / (d * b) := (Int.mul_ediv_mul_of_pos_left c d hb).symm
  rw [e1, e2, h, Int.mul_comm b d]
theorem FS_congr {n : Nat} {r b m r' b' m' : Int} (hm : 0 < m) (hm' : 0 < m') (h1 : r * m' = r' * m) (h2 : b * m' = b' * m) : FS n r b m = FS n r' b' m' :=
  Sm_congr fun k _ => floor_congr hm hm' (by rw [Int.add_mul, Int.add_mul, ← h2, Int.mul_right_comm, h1, Int.mul_right_comm])
theorem FS_split {n1 n2 : Nat} {r b m : Int} : FS (n1 + n2) r b m = FS n1 r b m + FS n2 r (b + n1 * r) m := by
  unfold FS
  rw [Sm_split]
  congr 1
  refine Sm_congr fun k _ => ?_
  congr 1
  have : ((n1 + k : Nat) : Int) = n1 + k := by omega
  rw [this]; grind
theorem FS_neg {n : Nat} {r b m : Int} (hm : 0 < m) : FS n (-r) (m - 1 - b) m + FS n r b m = 0 := by
  unfold FS
  rw [← Sm_add, ← Sm_zero n]
  refine Sm_congr fun k _ => ?_
  have e : -r * (k : Int) + (m - 1 - b) = -(r * k + b) + (m - 1) := by grind
  rw [e]
  generalize r * (k : Int) + b = x
  have h1 := Int.mul_ediv_add_emod x m
  have h2 := Int.emod_lt_of_pos x hm
  have h3 := Int.emod_nonneg x (show m ≠ 0 by omega)
  have h4 : (-x + (m - 1)) / m = -(x / m) := by
    have : -x + (m - 1) = (m - 1 - x % m) + m * (-(x / m)) := by rw [Int.mul_neg]; omega
    rw [this, Int.add_mul_ediv_left _ _ (show m ≠ 0 by omega), Int.ediv_eq_zero_of_lt (by omega) (by omega)]; omega
  omega
theorem FS_rev {n : Nat} {r b m : Int} : FS n (-r) (b + (n - 1) * r) m = FS n r b m := by
  unfold FS
  rw [← Sm_rev n]
  refine Sm_congr fun k hk => ?_
  congr 1
  have : ((n - 1 - k : Nat) : Int) = n - 1 - k := by omega
  rw [this]; grind
theorem tri {n : Nat} : (n : Int) * (n - 1) % 2 = 0 := by
  have : ∀ n : Nat, ∃ c : Int, (n : Int) * (n - 1) = 2 * c := by
    intro n
    induction n with
    | zero => exact ⟨0, rfl⟩
    | succ n ih =>
      obtain ⟨c, hc⟩ := ih
      refine ⟨c + n, ?_⟩
      have : ((n + 1 : Nat) : Int) = n + 1 := by omega
      rw [this]; grind
  obtain ⟨c, hc⟩ := this n
  rw [hc]; omega
theorem tri_succ {n : Nat} : ((n + 1 : Nat) : Int) * (((n + 1 : Nat) : Int) - 1) / 2 = (n : Int) * (n - 1) / 2 + n := by
  have h1 := tri (n := n)
  have e : ((n + 1 : Nat) : Int) = n + 1 := by omega
  have : ((n + 1 : Nat) : Int) * (((n + 1 : Nat) : Int) - 1) = n * (n - 1) + 2 * n := by rw [e]; grind
  rw [this]; omega
/-- whole numbers more in the slope and the offset -/
theorem FS_more {r b m : Int} {x y : Int} (hm : 0 < m) : ∀ n : Nat, FS n (r + x * m) (b + y * m) m = FS n r b m + x * ((n : Int) * (n - 1) / 2) + y * n
  | 0 => by
    show (0 : Int) = 0 + x * (((0 : Nat) : Int) * (((0 : Nat) : Int) - 1) / 2) + y * ((0 : Nat) : Int)
    simp
  | n + 1 => by
    have ih := FS_more (r := r) (b := b) (m := m) (x := x) (y := y) hm n
    unfold FS at *
    show Sm _ n + ((r + x * m) * (n : Int) + (b + y * m)) / m = Sm _ n + (r * (n : Int) + b) / m + _ + _
    rw [ih, tri_succ]
    have e : (r + x * m) * (n : Int) + (b + y * m) = (r * n + b) + m * (x * n + y) := by grind
    rw [e, Int.add_mul_ediv_left _ _ (show m ≠ 0 by omega)]
    have : ((n + 1 : Nat) : Int) = n + 1 := by omega
    rw [this]
    generalize (n : Int) * (n - 1) / 2 = t
    grind
/-! ### counting by rows instead of by columns -/
theorem cnt_le {m x : Int} (hm : 0 < m) (hx : 0 ≤ x) : ∀ y : Nat, Sm (fun i => if m * ((i : Int) + 1) ≤ x then 1 else 0) y = if x / m ≤ y then x / m else y
  | 0 => by
    have := Int.ediv_nonneg hx (Int.le_of_lt hm)
    show (0 : Int) = _
    split <;> omega
  | y + 1 => by
    show Sm _ y + (if m * ((y : Int) + 1) ≤ x then 1 else 0) = _
    rw [cnt_le hm hx y]
    have key : m * ((y : Int) + 1) ≤ x ↔ (y : Int) + 1 ≤ x / m := by
      rw [Int.le_ediv_iff_mul_le hm, Int.mul_comm]
    have : ((y + 1 : Nat) : Int) = y + 1 := by omega
    rw [this]
    by_cases h : m * ((y : Int) + 1) ≤ x
    · rw [if_pos h]; have := key.mp h
      rw [if_neg (by omega)]; split <;> omega
    · rw [if_neg h]; have : ¬ _ := fun z => h (key.mpr z)
      rw [if_pos (by omega), if_pos (by omega)]; omega
theorem cnt_ge {r c : Int} (hr : 0 < r) (hc : 0 < c) : ∀ n : Nat, Sm (fun k => if c ≤ r * (k : Int) then 1 else 0) n = if 0 ≤ (r * n - c) / r then (r * n - c) / r else 0
  | 0 => by
    have : (r * ((0 : Nat) : Int) - c) / r < 0 := Int.ediv_neg_of_neg_of_pos (by simp; omega) hr
    rw [if_neg (by omega)]; rfl
  | n + 1 => by
    show Sm _ n + (if c ≤ r * (n : Int) then 1 else 0) = _
    rw [cnt_ge hr hc n]
    have e : ((n + 1 : Nat) : Int) = n + 1 := by omega
    have e2 : (r * ((n + 1 : Nat) : Int) - c) / r = (r * n - c) / r + 1 := by
      rw [e, show r * ((n : Int) + 1) - c = (r * n - c) + r * 1 by grind, Int.add_mul_ediv_left _ _ (show r ≠ 0 by omega)]
    rw [e2]
    by_cases h : c ≤ r * (n : Int)
    · have := Int.ediv_nonneg (show 0 ≤ r * (n : Int) - c by omega) (Int.le_of_lt hr)
      rw [if_pos h, if_pos this, if_pos (by omega)]
    · have h1 : (r * (n : Int) - c) / r < 0 := Int.ediv_neg_of_neg_of_pos (by omega) hr
      rw [if_neg h, if_neg (by omega)]
      split <;> omega
theorem FS_flip {n : Nat} {r b m : Int} (hr : 0 < r) (hrm : r < m) (hb : 0 ≤ b) (hbm : b < m) :
    FS n r b m = FS ((r * n + b) / m).toNat m ((r * n + b) % m) r := by
  have hm : 0 < m := by omega
  have htop : 0 ≤ r * (n : Int) + b := by have := Int.mul_nonneg (Int.le_of_lt hr) (Int.natCast_nonneg n); omega
  have hy0 := Int.ediv_nonneg htop (Int.le_of_lt hm)
  obtain ⟨y, hy⟩ := Int.eq_ofNat_of_zero_le hy0
  have hdm := Int.mul_ediv_add_emod (r * (n : Int) + b) m
  have ht0 := Int.emod_nonneg (r * (n : Int) + b) (show m ≠ 0 by omega)
  rw [hy] at hdm ⊢
  generalize (r * (n : Int) + b) % m = t at *
  unfold FS
  have e1 : Sm (fun k => (r * (k : Int) + b) / m) n = Sm (fun k => Sm (fun i => if m * ((i : Int) + 1) ≤ r * k + b then 1 else 0) y) n := by
    refine Sm_congr fun k hk => ?_
    have h0 : 0 ≤ r * (k : Int) + b := by have := Int.mul_nonneg (Int.le_of_lt hr) (Int.natCast_nonneg k); omega
    rw [cnt_le hm h0 y, if_pos]
    have : r * (k : Int) + b ≤ r * (n : Int) + b := by
      have := Int.mul_le_mul_of_nonneg_left (show (k : Int) ≤ n by omega) (Int.le_of_lt hr); omega
    have := Int.ediv_le_ediv hm this
    rw [hy] at this; exact this
  rw [e1, Sm_swap, ← Sm_rev y]
  rw [show (y : Int).toNat = y from Int.toNat_natCast y]
  refine Sm_congr fun i hi => ?_
  have ei : ((y - 1 - i : Nat) : Int) = y - 1 - i := by omega
  have e2 : Sm (fun k => if m * (((y - 1 - i : Nat) : Int) + 1) ≤ r * (k : Int) + b then (1 : Int) else 0) n = Sm (fun k => if m * ((y : Int) - i) - b ≤ r * (k : Int) then 1 else 0) n := by
    refine Sm_congr fun k _ => ?_
    rw [ei, show ((y : Int) - 1 - i + 1) = y - i by omega]
    by_cases h : m * ((y : Int) - i) ≤ r * (k : Int) + b
    · rw [if_pos h, if_pos (by omega)]
    · rw [if_neg h, if_neg (by omega)]
  have hc : 0 < m * ((y : Int) - i) - b := by
    have : m * 1 ≤ m * ((y : Int) - i) := Int.mul_le_mul_of_nonneg_left (by omega) (Int.le_of_lt hm)
    omega
  rw [e2, cnt_ge hr hc n]
  have hdm' : m * (y : Int) + t = r * n + b := hdm
  have e3 : r * (n : Int) - (m * ((y : Int) - i) - b) = m * i + t := by
    rw [Int.mul_sub]; omega
  have e4 : 0 ≤ m * (i : Int) + t := by have := Int.mul_nonneg (Int.le_of_lt hm) (Int.natCast_nonneg i); omega
  rw [e3, if_pos (Int.ediv_nonneg e4 (Int.le_of_lt hr))]
end EP
namespace EP
theorem FS_small {n : Nat} {r b m : Int} (hr : 0 ≤ r) (hb : 0 ≤ b) (h : r * n + b < m) : FS n r b m = 0 := by
  unfold FS
  rw [← Sm_zero n]
  refine Sm_congr fun k hk => ?_
  have h1 := Int.mul_nonneg hr (Int.natCast_nonneg k)
  have h2 := Int.mul_le_mul_of_nonneg_left (show (k : Int) ≤ n by omega) hr
  exact Int.ediv_eq_zero_of_lt (by omega) (by omega)
/-- the least common multiple of the denominators, as it is reckoned -/
def lstep (r d : Int) : Int := r / (Int.gcd r d : Int) * d
def cden : List (Int × Int) → Int → Int
  | [], r => r
  | q :: qs, r => cden qs (lstep r q.2)
theorem gcd_posI {r d : Int} (h : 0 < d) : (0 : Int) < (Int.gcd r d : Int) := by have := gcd_pos (n := r) (d := d) (by omega); omega
theorem lstep_pos {r d : Int} (hr : 0 < r) (hd : 0 < d) : 0 < lstep r d := by
  unfold lstep
  have h1 : (Int.gcd r d : Int) ∣ r := Int.gcd_dvd_left ..
  have h2 : r / (Int.gcd r d : Int) * (Int.gcd r d : Int) = r := Int.ediv_mul_cancel h1
  refine Int.mul_pos ?_ hd
  refine Int.pos_of_mul_pos_left (b := (Int.gcd r d : Int)) ?_ (gcd_posI hd)
  rw [h2]; exact hr
theorem lstep_dvd_right {r d : Int} : d ∣ lstep r d := ⟨r / (Int.gcd r d : Int), by unfold lstep; rw [Int.mul_comm]⟩
theorem lstep_dvd_left {r d : Int} (hd : 0 < d) : r ∣ lstep r d := by
  obtain ⟨c, hc⟩ : (Int.gcd r d : Int) ∣ d := Int.gcd_dvd_right ..
  refine ⟨c, ?_⟩
  have h2 : r / (Int.gcd r d : Int) * (Int.gcd r d : Int) = r := Int.ediv_mul_cancel (Int.gcd_dvd_left ..)
  have e : lstep r d = r / (Int.gcd r d : Int) * (Int.gcd r d : Int) * c := by
    rw [Int.mul_assoc, ← hc]; rfl
  rw [e, h2]
theorem lstep_le {r d : Int} (hr : 0 < r) (hd : 0 < d) : (lstep r d).natAbs ≤ (r * d).natAbs := by
  unfold lstep
  rw [Int.natAbs_mul, Int.natAbs_mul]
  exact Nat.mul_le_mul_right _ (div_abs (gcd_posI hd))
theorem cden_pos : ∀ {qs : List (Int × Int)} {r : Int}, 0 < r → (∀ q ∈ qs, 0 < q.2) → 0 < cden qs r
  | [], _, h, _ => h
  | q :: qs, r, h, hq => cden_pos (qs := qs) (r := lstep r q.2) (lstep_pos h (hq q (List.mem_cons_self ..))) fun q' h' => hq q' (List.mem_cons_of_mem _ h')
theorem cden_dvd0 : ∀ {qs : List (Int × Int)} {r : Int}, (∀ q ∈ qs, 0 < q.2) → r ∣ cden qs r
  | [], r, _ => Int.dvd_refl r
  | q :: qs, r, hq => Int.dvd_trans (lstep_dvd_left (hq q (List.mem_cons_self ..))) (cden_dvd0 (qs := qs) fun q' h' => hq q' (List.mem_cons_of_mem _ h'))
theorem cden_dvd : ∀ {qs : List (Int × Int)} {r : Int}, (∀ q ∈ qs, 0 < q.2) → ∀ q ∈ qs, q.2 ∣ cden qs r
  | q :: qs, r, hq, q', h' => by
    have hq' : ∀ q ∈ qs, 0 < q.2 := fun q' h' => hq q' (List.mem_cons_of_mem _ h')
    rcases List.mem_cons.mp h' with e | e
    · rw [e]; exact Int.dvd_trans lstep_dvd_right (cden_dvd0 (qs := qs) hq')
    · exact cden_dvd (qs := qs) hq' q' e
end EP
namespace EP
open PySem PySem.Spec PyProof.Rows L2
theorem cden_take {qs : List (Int × Int)} {i : Nat} {q : Int × Int} : ∀ {r : Int}, qs[i]? = some q → cden (qs.take (i + 1)) r = lstep (cden (qs.take i) r) q.2 := by
  induction qs generalizing i with
  | nil => intro r h; simp at h
  | cons x xs ih =>
    intro r h
    cases i with
    | zero => cases Option.some.inj h; rfl
    | succ i => exact ih (i := i) h
def spCden (K : PySem.W.Frag) : Sp := fun vs H Q _ => ∃ (l : Addr) (xs : List V) (qs : List (Int × Int)) (k : Nat), vs = [.ref l] ∧ (SqL K H l xs ∨ SqT K H l xs) ∧ Frs K H xs qs ∧ (∀ q ∈ qs, B k q.2) ∧ 0 < k ∧ k * qs.length ≤ 8000 ∧ Q (.int (cden qs 1)) H
def spFloorSum (K : PySem.W.Frag) : Sp := fun vs H Q _ => ∃ (n : Nat) (x y : V) (a b c d : Int), vs = [.int n, x, y] ∧ Fr K H x a b ∧ Fr K H y c d ∧ 0 < b ∧ 0 < d ∧ B 1000 (n : Int) ∧ B 1000 a ∧ B 1000 b ∧ B 1000 c ∧ B 1000 d ∧
  ∀ z H', Same H H' → (∀ R b' M : Int, 0 < M → R * b = a * M → b' * d = c * M → z = FS n R b' M) → Q (.int z) H'
end EP
namespace EPS
open PySem PySem.Spec PyProof.Rows L2
/-- what the body of a lambda gives: nothing changes meanwhile -/
abbrev TK := L2.St → Hp → (V → Prop) → Prop
/-- no name of its own but the parameter a; captured ones and globals -/
structure LamP (sc scope : Scope) (a : Str) : Prop where
  kind : scope.kind = .function
  co : scope.isCoroutine = false
  gen : scope.isGenerator = false
  par : scope.names.lookup a = some .local
  own : ∀ y ∈ scope.names, y.2 ≠ .cell
  free : ∀ y ∈ scope.names, y.2 = .free → sc.names.lookup y.1 = some .cell ∨ sc.names.lookup y.1 = some .free
def lamPB (sc scope : Scope) (a : Str) : Bool :=
  decide (scope.kind = .function) && !scope.isCoroutine && !scope.isGenerator && decide (scope.names.lookup a = some .local) && scope.names.all fun y => !decide (y.2 = .cell) && (!decide (y.2 = .free) || decide (sc.names.lookup y.1 = some .cell) || decide (sc.names.lookup y.1 = some .free))
theorem lamP_by {sc scope : Scope} {a : Str} (h : lamPB sc scope a = true) : LamP sc scope a := by
  unfold lamPB at h
  simp only [Bool.and_eq_true, Bool.or_eq_true, Bool.not_eq_true', decide_eq_true_eq, decide_eq_false_iff_not, List.all_eq_true] at h
  obtain ⟨⟨⟨⟨h1, h2⟩, h3⟩, h4⟩, h5⟩ := h
  refine ⟨h1, h2, h3, h4, fun y hy => (h5 y hy).1, fun y hy e => ?_⟩
  rcases (h5 y hy).2 with (z | z) | z
  · exact absurd e z
  · exact .inl z
  · exact .inr z
abbrev Kp (h h' : Heap) : Prop := ∀ b o, h.get? b = some o → h'.get? b = some o
/-- env: the names N that are visible hold what σ says, in every heap over h -/
structure KAt (X : Cx) (pins : List (Addr × Obj)) (σ0 : L2.St) (H : Hp) (s : Shared) (N : List Str) (vis : Str → Bool) (env : Env) (σ : L2.St) (h : Heap) : Prop where
  I : Inv X pins σ0 H s
  up : Kp s.heap h
  kd : env.scope.kind = .function
  gl : env.globals = mainGlobals
  nm : ∀ (i : Nat) (x : Str) (v : V), N[i]? = some x → σ[i]? = some (some v) → vis x = true → ∃ u, RelV v u ∧ ∀ (A : Around) (s' : Shared) (pos : Pos) (W E : Value → Shared → Prop), Kp h s'.heap → W u s' → wpAny (model X.prog X.w) A (eval (.Name x pos) env) W E s'
/-- an expression that changes nothing; calls are at most k deep -/
structure PKy (X : Cx) (N : List Str) (vis : Str → Bool) (sc : Scope) (k : Nat) (e : Expr) (t : TK) : Prop where
  run : ∀ {pins : List (Addr × Obj)} {σ0 : L2.St} {H : Hp} {s : Shared} {env : Env} {σ : L2.St} {h : Heap}, KAt X pins σ0 H s N vis env σ h → env.scope = sc → ∀ (A : Around) (s' : Shared) (Q : V → Prop) (W E : Value → Shared → Prop), A.depth + k < recursionLimit → Kp h s'.heap → t σ H Q →
    (∀ v u tk h', Kp s'.heap h' → RelV v u → Q v → W u { s' with heap := h', toks := tk }) → wpAny (model X.prog X.w) A (eval e env) W E s'
section
variable {X : Cx} {N : List Str} {vis : Str → Bool} {sc : Scope} {k : Nat} {e e1 e2 : Expr} {t t1 t2 : TK} {pos : Pos}
theorem pk_nm {x : Str} {i : Nat} (hN : N[i]? = some x) (hv : vis x = true) : PKy X N vis sc k (.Name x pos) (fun σ H Q => ∃ v, σ[i]? = some (some v) ∧ Q v) := by
  refine ⟨fun {pins σ0 H s env σ h} K es A s' Q W E hd kp ht hW => ?_⟩
  obtain ⟨v, hv', q⟩ := ht
  obtain ⟨u, r, l⟩ := K.nm i x v hN hv' hv
  exact l A s' pos W E kp (hW v u s'.toks s'.heap (fun b o e => e) r q)
theorem pk_int {n : Int} {j : Nat} : PKy X N vis sc k (.Constant (.int n) j pos) (fun _ _ Q => Q (.int n)) :=
  ⟨fun K es A s' Q W E hd kp ht hW => wpAny_Constant_int (hW (.int n) _ _ _ (fun b o e => e) ⟨_, rfl⟩ ht)⟩
theorem pk_op {op : Operator} {C : Int → Int → Prop} {g : Int → Int → Int} (rule : ∀ (A : Around) (i j : Int) (t u : Tok) (s : Shared) (Q : Value → Shared → Prop) (E : Value → Shared → Prop), C i j → Q (.int (g i j) s.toks) { s with toks := s.toks + 1 } → wpAny (model X.prog X.w) A (binaryOp op (.int i t) (.int j u)) Q E s)
    (h1 : PKy X N vis sc k e1 t1) (h2 : PKy X N vis sc k e2 t2) : PKy X N vis sc k (.BinOp e1 op e2 pos) (fun σ H Q => t1 σ H fun x => t2 σ H fun y => ∃ n m, x = .int n ∧ y = .int m ∧ C n m ∧ Q (.int (g n m))) := by
  refine ⟨fun {pins σ0 H s env σ h} K es A s' Q W E hd kp ht hW => ?_⟩
  refine wpAny_BinOp (h1.run K es A s' _ _ E hd kp ht fun v u tk h1' k1 r q => ?_)
  refine h2.run K es A { s' with heap := h1', toks := tk } _ _ E hd (fun b o e => k1 _ _ (kp b o e)) q fun v2 u2 tk2 h2' k2 r2 q2 => ?_
  obtain ⟨n, m, rfl, rfl, hc, q3⟩ := q2
  obtain ⟨t, rfl⟩ := r
  obtain ⟨t', rfl⟩ := r2
  exact rule A n m t t' _ _ _ hc (hW (.int (g n m)) _ _ h2' (fun b o e => k2 _ _ (k1 b o e)) ⟨_, rfl⟩ q3)
theorem pk_mul (h1 : PKy X N vis sc k e1 t1) (h2 : PKy X N vis sc k e2 t2) : PKy X N vis sc k (.BinOp e1 .Mult e2 pos) (fun σ H Q => t1 σ H fun x => t2 σ H fun y => ∃ n m, x = .int n ∧ y = .int m ∧ CMulW n m ∧ Q (.int (n * m))) :=
  pk_op (fun _ _ _ _ _ _ _ _ hc q => mul_int q hc.ok) h1 h2
theorem pk_fdiv (h1 : PKy X N vis sc k e1 t1) (h2 : PKy X N vis sc k e2 t2) : PKy X N vis sc k (.BinOp e1 .FloorDiv e2 pos) (fun σ H Q => t1 σ H fun x => t2 σ H fun y => ∃ n m, x = .int n ∧ y = .int m ∧ CDivW n m ∧ Q (.int (n / m))) :=
  pk_op (fun _ n m _ _ _ _ _ hc q => by
    have h1 : (0 : Int) < m := hc.1
    exact floordiv_int (by omega) (by rw [Int.fdiv_eq_ediv_of_nonneg n (by omega)]; exact q) (.inl (PyProof.noPylong_of_log2 hc.2))) h1 h2
theorem pk_ix (h1 : PKy X N vis sc k e1 t1) (h2 : PKy X N vis sc k e2 t2) (hs : PlainIx e2) : PKy X N vis sc k (.Subscript e1 e2 pos) (fun σ H Q => t1 σ H fun x => t2 σ H fun y => ∃ p xs n z, x = .ref p ∧ y = .int n ∧ SqT X.K H p xs ∧ atI xs n = some z ∧ Q z) := by
  refine ⟨fun {pins σ0 H s env σ h} K es A s' Q W E hd kp ht hW => ?_⟩
  refine Subscript_ (h1.run K es A s' _ _ E hd kp ht fun v u tk h1' k1 r q => ?_)
  refine h2.run K es A { s' with heap := h1', toks := tk } _ _ E hd (fun b o e => k1 _ _ (kp b o e)) q fun v2 u2 tk2 h2' k2 r2 q2 => ?_
  obtain ⟨p, xs, n, z, rfl, rfl, hq, he, q3⟩ := q2
  cases r
  obtain ⟨t', rfl⟩ := r2
  obtain ⟨its, rv, ⟨o, ho, pl⟩, hz⟩ := K.I.tuple hq
  obtain ⟨j, g1, g2, g3, g4, g5⟩ := atI_get he
  obtain ⟨w', ew, rw'⟩ := rv.get g2
  have hl := rv.length
  have hn := line63
  have pl' : IsTup h2' p its.toArray := ⟨o, k2 _ _ (k1 _ _ (kp _ _ (K.up _ _ ho))), pl⟩
  refine subscriptTail_builtinR (x := w') (Q := W) (s := { s' with heap := h2', toks := tk2 }) (show Shared.TypeIs { s' with heap := h2', toks := tk2 } (.ref p) "tuple" from IsTup.typeIs pl') slot_tuple_getitem.lookup
    (getItem_tuple (j := j) (Q := fun r s'' => r = w' ∧ W r s'') pl' (by omega) (by omega) (by rw [List.size_toArray, ← hl]; exact g1) (by simpa using ew) ⟨rfl, hW _ _ tk2 h2' (fun b o e => k2 _ _ (k1 b o e)) rw' q3⟩) (hs _ _)
/-- a def of two parameters whose body is one return -/
theorem pk_call2 {x : Str} {q : Str} {f : Addr} {fd : FuncData} {st : Stmt} {ex : Expr} {rp p : Pos} {a1 a2 : Str} {tb : TK} (F : Fun X.K x q st f fd) (S : FnScope [a1, a2] [a1, a2] (defScope st)) (hb : Binds X.K fd [a1, a2] []) (hbody : defBody st = [.Return (some ex) rp])
    (hl1 : (defScope st).names.lookup a1 = some .local) (hl2 : (defScope st).names.lookup a2 = some .local) (hcell : ((defScope st).names.all fun y => !decide (y.2 = .cell)) = true) (hd1 : (a1 == ("__debug__" : Str)) = false) (hd2 : (a2 == ("__debug__" : Str)) = false) (hm : X.mg x = some (.ref f)) (hg : sc.names.lookup x = some .globalImplicit)
    (hB : PKy X [a1, a2] (fun y => y == a1 || y == a2) (defScope st) k ex tb) (h1 : PKy X N vis sc (k + 1) e1 t1) (h2 : PKy X N vis sc (k + 1) e2 t2)
    (hs1 : ∀ env, starEach [e1, e2] env = (false, eval e1 env) :: starEach [e2] env := by intros; rfl) (hs2 : ∀ env, starEach [e2] env = (false, eval e2 env) :: starEach [] env := by intros; rfl) (hpl : ∀ env, (backTo pos (starEach [e2] env)).any (·.1) = false := by intros; rfl) (hdb : (x == ("__debug__" : Str)) = false := by decide) :
    PKy X N vis sc (k + 1) (.Call (.Name x p) [e1, e2] [] pos) (fun σ H Q => t1 σ H fun v1 => t2 σ H fun v2 => tb [some v1, some v2] H Q) := by
  refine ⟨fun {pins σ0 H s env σ h} K es A s' Q W E hd kp ht hW => ?_⟩
  have hcell' : ∀ y ∈ (defScope st).names, y.2 ≠ .cell := fun y hy e => by
    have := List.all_eq_true.mp hcell y hy
    rw [e] at this; simp at this
  have kin : ∀ {h' : Heap}, Kp s'.heap h' → X.K.In h' := fun {h'} z => K.I.kIn.keeps fun b o e => z _ _ (kp _ _ (K.up b o e))
  refine wpAny_Call_Name_kw (Calls.Name_function_global K.kd (show env.kindOf x = _ from by show env.scope.names.lookup x = _; rw [es]; exact hg) (Calls.loadGlobal_global (by rw [K.gl]; exact (K.I.mod.glob.keeps K.I.bk).keeps fun b o e => kp _ _ (K.up b o e)) hm ?_) hdb)
  refine PySem.W.callWith_K (h₀ := X.base) K.I.ok.mod.kin F.kp ?_ (hs1 env) (hpl env)
  rw [hs1 env]
  show wpAny _ _ (spliced ((false, eval e1 env) :: backTo pos (starEach [e2] env))) _ _ s'
  refine Calls.spliced_cons (h1.run K es A s' _ _ E hd kp ht fun v1 u1 tk1 h1' k1 r1 q1 => ?_)
  rw [hs2 env]
  show wpAny _ _ (spliced ((false, eval e2 env) :: backTo pos (starEach [] env))) _ _ _
  refine Calls.spliced_cons (h2.run K es A { s' with heap := h1', toks := tk1 } _ _ E hd (fun b o e => k1 _ _ (kp b o e)) q1 fun v2 u2 tk2 h2' k2 r2 q2 => ?_)
  refine Calls.spliced_nil ?_
  have kk : Kp s'.heap h2' := fun b o e => k2 _ _ (k1 b o e)
  have KX := kin kk
  refine ⟨KX, ?_⟩
  obtain ⟨oc, od, kV, doc, pm, an, cdv, ct, osl, rfl, lk, hcd⟩ := F.ex
  have lim : h2'.NoLimit := K.I.nolimit.keeps fun b o e => kk _ _ (kp _ _ (K.up b o e))
  refine wpAny_call (codeAny_call_function (by omega) (KX _ _ lk) rfl S.co S.gen rfl (PySem.W.codeRec_of KX hcd) (hb { s' with heap := h2', toks := tk2 } [u1, u2] KX rfl _ _ _ _ ?_))
  refine wpAny_newFunctionEnv hcell' (fun y hy => ?_) (fun h3 hns hsb => ⟨lim.fresh _ hsb, codeAny_func ?_⟩) S.kind
  · rcases List.mem_cons.mp hy with z | z
    · rw [z]; exact hl1
    · rcases List.mem_cons.mp z with z | z
      · rw [z]; exact hl2
      · cases z
  have k3 : Kp h2' h3 := fun b o e => hsb.extBut b o (Nat.ne_of_lt (Heap.lt_size e)) (Heap.get?_push_of_some _ e)
  rw [hbody]
  refine wpAny_execs_cons (wpAny_Return_some ?_)
  have hne : a2 ≠ a1 := fun e => by have := S.nd; rw [e] at this; simp at this
  refine hB.run (H := H) (env := _) (σ := [some v1, some v2]) (h := h3) ⟨K.I, fun b o e => k3 _ _ (kk _ _ (kp _ _ (K.up b o e))), S.kind, rfl, fun i y v hN hσ hv => ?_⟩ rfl _ _ Q _ _ (by show A.depth + 1 + k < _; omega) (fun b o e => e) q2 fun v u tk h' k4 r q => hW v u tk h' (fun b o e => k4 _ _ (k3 _ _ (kk b o e))) r q
  match i, hN, hσ with
  | 0, hN, hσ =>
    cases Option.some.inj hN
    cases Option.some.inj (Option.some.inj hσ)
    refine ⟨u1, r1, fun A s2 ps W E kz w => wpAny_Name (wpAny_loadName_local S.kind hl1 (hns.keeps kz) ?_ w) hd1⟩
    show (List.zip [a1, a2] [u1, u2]).reverse.lookup a1 = some u1
    simp [List.lookup, hne, show (a1 == a2) = false from beq_eq_false_iff_ne.mpr fun e => hne e.symm]
  | 1, hN, hσ =>
    cases Option.some.inj hN
    cases Option.some.inj (Option.some.inj hσ)
    refine ⟨u2, r2, fun A s2 ps W E kz w => wpAny_Name (wpAny_loadName_local S.kind hl2 (hns.keeps kz) ?_ w) hd2⟩
    show (List.zip [a1, a2] [u1, u2]).reverse.lookup a2 = some u2
    simp [List.lookup]
  | n + 2, hN, hσ => exact absurd hN (by simp)
end
end EPS
namespace EPS
open PySem PySem.Spec PyProof.Rows L2 LamX
section
variable {X : Cx} {scope : Scope} {a : Str} {i k : Nat} {body : Expr} {t : TK} {params : Arguments} {pins : List (Addr × Obj)} {σ : L2.St} {H : Hp} {s : Shared}
theorem clo_at {pins : List (Addr × Obj)} {σ : L2.St} {H : Hp} {s : Shared} {y : Str} {c : Addr} (I : Inv X pins σ H s) (lam : LamP X.env.scope scope a) (hy : scope.names.lookup y = some .free) (hc : X.env.cells.lookup y = some c) : (cloFrom X.env.cells scope.names []).lookup y = some c := by
  obtain ⟨c2, h2⟩ := mem_lookup (cloFrom_has (cells := X.env.cells) (acc := []) (PySem.mem_of_lookup hy))
  rcases cloFrom_mem (PySem.mem_of_lookup h2) with hm | ⟨_, h3⟩
  · cases hm
  · rw [h2]
    have e2 : c2 = c := by
      rw [h3, hc] <;> rfl
    rw [e2]
/-- what the body of a lambda sees: its parameter, and the captured names -/
def visL (scope : Scope) (a : Str) (y : Str) : Bool := (y == a) || (decide (scope.names.lookup y = some .free) && !(y == ("__debug__" : Str)) && !(y == ("__classdict__" : Str)))
/-- the lambda called with one item: it gives the number n, and what was there stays -/
theorem key_call {f c' : Addr} {pm ctv v : Value} {x : V} {n : Int} {A : Around} {h : Heap} {tk : Nat} (I : Inv X pins σ H s) (lam : LamP X.env.scope scope a) (hN : X.N[i]? = some a) (nd : X.N.Nodup) (hda : (a == ("__debug__" : Str)) = false) (hB : PKy X X.N (visL scope a) scope k body t)
    (hf : s.heap.get? f = some (PySem.W.kla_obj "<lambda>" (X.env.qual ++ "<lambda>") params body scope (cloFrom X.env.cells scope.names []) pm c' ctv)) (hc : H c' = some (CodeO c' (X.env.qual ++ "<lambda>")))
    (hbind : bindArgs (PySem.W.kla_fn "<lambda>" (X.env.qual ++ "<lambda>") params body scope (cloFrom X.env.cells scope.names []) pm (.ref c') ctv) ⟨[v], []⟩ = pure [(a, v)])
    (hd : A.depth + 1 + k < recursionLimit) (up : ∀ b o, s.heap.get? b = some o → h.get? b = some o) (r : RelV x v) (ht : t (σ.set i (some x)) H fun y => y = .int n) :
    wpAny (model X.prog X.w) A (call (.ref f) [v]) (PySem.W.KeyPure (.int n) { s with heap := h, toks := tk }) (fun _ _ => False) { s with heap := h, toks := tk } := by
  obtain ⟨⟨oc, vs, t', hoc, hdc, hvc⟩, _, _⟩ := I.hok c' _ hc
  refine wpAny_call (PySem.W.kla_callFunE (by omega) (up _ _ hf) rfl lam.co lam.gen rfl ⟨c', oc, vs, t', rfl, up _ _ hoc, hdc, hvc⟩ ?_)
  rw [hbind]
  have lim : h.NoLimit := I.nolimit.keeps up
  refine wpAny_pure (wpAny_newFunctionEnv lam.own (fun y hy => by rw [List.mem_singleton.mp hy]; exact lam.par) (fun h1 hns hsb => ⟨lim.fresh _ hsb, ?_⟩) lam.kind)
  show codeAny _ _ (.expr body (lamEnv X scope h.objs.size f c')) _ _
  have kp : ∀ b o, h.get? b = some o → h1.get? b = some o := fun b o e => hsb.extBut b o (Nat.ne_of_lt (Heap.lt_size e)) (Heap.get?_push_of_some _ e)
  have hi : i < σ.length := by rw [I.len]; exact (List.getElem?_eq_some_iff.mp hN).1
  have ka : KAt X pins σ H s X.N (visL scope a) (lamEnv X scope h.objs.size f c') (σ.set i (some x)) h1 := by
    refine ⟨I, fun b o e => kp b o (up b o e), lam.kind, rfl, fun j y w hj hw hv => ?_⟩
    by_cases e : y = a
    · subst e
      have e2 : j = i := (List.getElem?_inj (List.getElem?_eq_some_iff.mp hj).1 nd).mp (hj.trans hN.symm)
      subst e2
      rw [List.getElem?_set_self hi] at hw
      cases Option.some.inj (Option.some.inj hw)
      refine ⟨v, r, fun A s' pos W E kz w => wpAny_Name (wpAny_loadName_local (env := lamEnv X scope h.objs.size f c') lam.kind lam.par (hns.keeps kz) ?_ w) hda⟩
      simp
    · have hij : i ≠ j := fun z => e (by rw [← z, hN] at hj; exact (Option.some.inj hj).symm)
      rw [List.getElem?_set_ne hij] at hw
      unfold visL at hv
      have e' : (y == a) = false := beq_eq_false_iff_ne.mpr e
      rw [e', Bool.false_or] at hv
      simp only [Bool.and_eq_true, decide_eq_true_eq, Bool.not_eq_true'] at hv
      obtain ⟨⟨hy, hd1⟩, hd2⟩ := hv
      obtain ⟨m, hn, hl⟩ := I.loc
      have vis : Vis X.env.scope y := (lam.free _ (PySem.mem_of_lookup hy) rfl).elim (fun z => .inr (.inl z)) (fun z => .inr (.inr z))
      obtain ⟨u, r', l⟩ := hl j y w hj hw vis
      rcases l with ⟨z, _⟩ | ⟨_, c, hc, o, ho, hd'⟩
      · have z : X.env.scope.names.lookup y = some .local := z
        rcases lam.free _ (PySem.mem_of_lookup hy) rfl with k2 | k2 <;> rw [show X.env.scope.names.lookup y = _ from k2] at z <;> cases z
      · exact ⟨u, r', fun A s' pos W E kz w => wpAny_Name (wpAny_loadName_free (env := lamEnv X scope h.objs.size f c') lam.kind hy (clo_at I lam hy hc) ⟨o, kz _ _ (kp _ _ (up _ _ ho)), hd'⟩ w hd2) hd1⟩
  refine PySem.W.kla_codeExpr (hB.run ka rfl _ _ _ _ _ (by show A.depth + 1 + k < _; omega) (fun b o e => e) ht fun y u tk' h' kz ry hy => ?_)
  subst hy
  obtain ⟨tt, rfl⟩ := ry
  exact ⟨h', tk', rfl, fun b o e => kz _ _ (kp b o e), .int n tt⟩
/-- the items, stably sorted by their keys -/
def byKeys (xs : List V) (ks : List Int) : List V := ((xs.zip ks).mergeSort fun a b => decide (a.2 ≤ b.2)).map Prod.fst
theorem each_keyed : ∀ {ys : List V} {us : List Value} {ks : List Int}, ks.length = ys.length → Vals ys us → PySem.W.EachIs (fun (v : Value) (x : V × Int) => RelV x.1 v) us (ys.zip ks)
  | _, _, [], _, .nil => .nil
  | _, _, k :: ks, h, .cons r e => .cons r (each_keyed (by simpa using h) e)
  | _, _, _ :: _, h, .nil => by simp at h
  | _, _, [], h, .cons r e => by simp at h
theorem keyed_vals : ∀ {zs : List (V × Int)} {us : List Value}, PySem.W.EachIs (fun (v : Value) (x : V × Int) => RelV x.1 v) us zs → Vals (zs.map Prod.fst) us
  | _, _, .nil => .nil
  | _, _, .cons r e => .cons r (keyed_vals e)
/-- nothing is there, but for a table of code objects -/
def Fz (H : Hp) (p : Addr) : Prop := ∀ o, H p = some o → ∃ ps, o = HO.tbl ps
/-- sorted(e, key=lambda a: body): Tt, the tables that may grow -/
def tSortLam (K : PySem.W.Frag) (Tt : List (Addr × Str)) (ta : TA) (i : Nat) (t : TK) : TE := fun σ H Q => ta σ H fun vs H1 => Tabs Tt H1 ∧ ∃ (l : Addr) (xs : List V) (ks : List Int), vs = [.ref l] ∧ SqL K H1 l xs ∧ ks.length = xs.length ∧ (∀ (j : Nat) (y : V) (n : Int), xs[j]? = some y → ks[j]? = some n → ∀ H2, ExtN H1 H2 → t (σ.set i (some y)) H2 fun z => z = .int n) ∧
  ∀ H2 p, ExtN H1 H2 → Tabs Tt H2 → Fz H1 p → H2 p = some (.lst (byKeys xs ks)) → Q (.ref p) H2
theorem pe_sortLam {Tt : List (Addr × Str)} {ta : TA} {e : Expr} {c P : Addr} {p lpos kpos pos : Pos} (hg : Gl X "sorted") (hm : X.mg "sorted" = none) (ha : PA X [e] ta)
    (TB : TabB X.base X.mg c P) (hcode : X.env.code = .ref c) (hmT : (P, X.env.qual ++ "<lambda>") ∈ Tt) (hu : ∀ p ∈ Tt, p.1 = P → p.2 = X.env.qual ++ "<lambda>") (hr : Room k X.A) (lam : LamP X.env.scope scope a) (hdef : defaultsOf params X.env = ([], []))
    (hbind : ∀ (q : Str) (cl : List (Str × Addr)) (pm cv ctv v : Value), bindArgs (PySem.W.kla_fn "<lambda>" q params body scope cl pm cv ctv) ⟨[v], []⟩ = pure [(a, v)]) (hN : X.N[i]? = some a) (nd : X.N.Nodup) (hda : (a == ("__debug__" : Str)) = false) (hB : PKy X X.N (visL scope a) scope (3 * k) body t)
    (hs : backTo pos (starEach [e] X.env) = (false, eval e X.env) :: backTo pos (starEach [] X.env) := by rfl) (hpl : (backTo pos (starEach [e] X.env)).any (·.1) = false := by rfl) :
    PE X (.Call (.Name "sorted" p) [e] [⟨some "key", .Lambda params body scope lpos, kpos⟩] pos) (tSortLam X.K Tt ta i t) := by
  refine ⟨fun pins s σ H Q I h => ?_⟩
  refine wpAny_Call_Name_kw (ld_blt I hg hm (show bootBuiltins "sorted" = some (.builtin "sorted") by decide +kernel) ?_)
  refine callWith_kw (thn (ha.run pos pins s σ H _ I h) fun us s1 ⟨vs, H1, I1, r1, q1⟩ => ?_) hs hpl
  obtain ⟨hT, l, xs, ks, ex, hq, hkl, hk, q⟩ := q1
  subst ex
  obtain rfl := Vals.ref1 r1
  have hfree : ∀ y ∈ scope.names, y.2 = .free → ∃ c, X.env.cells.lookup y.1 = some c := fun y hy e => by
    rcases lam.free y hy e with z | z
    · exact I1.ok.has _ (.inl z)
    · exact I1.ok.has _ (.inr z)
  show wpAny _ _ (evalAll ((do let v ← eval (.Lambda params body scope lpos) X.env; standAt pos; pure v) :: [])) _ _ _
  refine wpAny_evalAll_cons (wpAny_bind (lam_make2 I1 TB hcode hmT hu hT hdef hfree fun f c' pm ctv H2 s2 I2 eN T2 hf hfn hfr hco => wpAny_bind (wpAny_standAt (wpAny_pure (wpAny_evalAll_nil ?_)))))
  show wpAny _ _ (call (.builtin "sorted") [.ref l] [(Str.ofString "key", .ref f)]) _ _ _
  have hq2 : SqL X.K H2 l xs := by
    rcases hq with (z | ⟨o, z⟩) | z
    · exact .inl (.inl (eN _ _ z (fun ps y => by cases y)))
    · exact .inl (.inr ⟨o, eN _ _ z (fun ps y => by cases y)⟩)
    · exact .inr z
  obtain ⟨its, rv, pl, hz⟩ := I2.list hq2
  refine PySem.W.sorted_key_data (R := fun v x => RelV x.1 v) (bs := xs.zip ks) (k := fun x => .int x.2) (f := .ref f) (b := false) pl.isList (each_keyed hkl rv) (fun d hd d' hd' => ?_) (.inr fun d hd => ?_) (by rw [List.length_zip]; omega) (fun x _ => ?_) (ksk_s1 _ _) (fun _ => ksk_l1 _ _) (fun x => ksk_t1 f x)
    (fun v x r hx h tk up => ?_) fun out c h' tk keep _ hS hlen each => ?_
  · obtain ⟨x, _, rfl⟩ := List.mem_map.mp hd
    obtain ⟨y, _, rfl⟩ := List.mem_map.mp hd'
    rfl
  · obtain ⟨x, _, rfl⟩ := List.mem_map.mp hd
    exact ⟨(fun z => nomatch z), fun xs z => nomatch z⟩
  · have := hr.un
    simp only [PyData.depth]; omega
  · obtain ⟨j, hj⟩ := List.mem_iff_getElem?.mp hx
    obtain ⟨h1, h2⟩ := List.getElem?_zip_eq_some.mp hj
    exact key_call I2 lam hN nd hda hB hf hco (hbind _ _ _ _ _ _) (by have := hr.dp; show X.A.depth + 1 + 3 * k < _; omega) up r (hk j x.1 x.2 h1 h2 H2 eN)
  · rw [PySem.W.dataLe_int] at each
    have fr : H2 (s2.heap.objs.size + 1) = none := I2.hok.fresh (Nat.le_succ _)
    have en : ExtN H2 (upd H2 (s2.heap.objs.size + 1) (.lst (byKeys xs ks))) := .of (EP.same_upd fr)
    refine ⟨.ref _, upd H2 (s2.heap.objs.size + 1) (.lst (byKeys xs ks)), I2.laid (t' := tk) keep (Nat.le_succ _) ⟨?_, out, c, keyed_vals each, hS⟩, rfl, q _ _ (eN.trans en) (T2.ext (EP.same_upd fr)) (fun o e => Classical.byContradiction fun hn => by rw [eN _ _ e (fun ps z => hn ⟨ps, z⟩)] at fr; cases fr) upd_same⟩
    unfold byKeys
    rw [List.length_map, List.length_mergeSort, List.length_zip]; omega
end
end EPS
namespace EPS
open PySem PySem.Spec PyProof.Rows L2 LamX
/-- the end of a law where defs of the program make lambdas: their tables are empty at first -/
theorem walk_ofTabs {l : PySem.W.OpenLaw} {n k : Nat} {q : Program} {loose : List Str} {XP : (Str → Option Value) → Heap → Prop} {YP : World → Heap → Prop} {d : DefRec} {K : Params → PySem.W.Frag} {CX : World → CXT} {x : Str} {ns : List Str}
    (hn : l.most = some n) (hn2 : n ≤ sizeLine) (hdf : d.params.defaults = []) (hr : Room k callerA) (hrec : (ns.all fun m => (recsOf q).any fun e => e.name == m) = true) (hY : ∀ (w : World) (h : Heap), YP w h → (K w.params).In h)
    (F : ∀ (w : World) (mg : Str → Option Value) (fa : Addr) (h : Heap), YP w h → (K w.params).In h → h.Ns mainGlobals mg → mg d.name = some (.ref fa) → (∀ m ∈ ns, ∀ f, mg m = some (.ref f) → OwnTab (K w.params) f h) → LawAtS l w (K w.params) (CX w) k n x mg fa h)
    (hCX : ∀ (w : World) (H : Hp) (s : Shared) (e : Value) (s' : Shared), CX w [] H s (fun _ _ _ => False) e s' → False) :
    PySem.W.WalkO q loose XP YP l.row.toRowW d [] (fun f vs => PySem.call f vs) := by
  refine Att.attach_callB hn hdf fun w s₀ s₁ mg mb fa o pm cd doc a vs nz G Y ho hd hcd hmg hobj hints hlen hbits hg => ?_
  have KX := hY w _ Y
  have own : ∀ m ∈ ns, ∀ f, mg m = some (.ref f) → OwnTab (K w.params) f s₁.heap := fun m hm f hf c P o1 fd1 e dd us sl k1 k2 k3 k4 k5 => by
    obtain ⟨dL, hL, hn1⟩ := List.any_eq_true.mp (List.all_eq_true.mp hrec m hm)
    have hn2 : dL.name = m := beq_iff_eq.mp hn1
    obtain ⟨a1, o1', fd', c', P', h1, h2, h3, h4, h5, h6⟩ := G.T.tab dL hL
    rw [hn2, hf] at h1
    cases h1
    have g1 := KX _ _ k1
    rw [g1] at h2
    cases h2
    rw [k2] at h3
    cases h3
    rw [k3] at h4
    cases h4
    obtain ⟨⟨oc, vc, e1, _, e3, e4⟩, hP⟩ := h6
    have g2 := KX _ _ k4
    rw [g2] at e1
    cases e1
    cases e3
    rw [k5] at e4
    cases e4
    exact hP
  obtain ⟨fd, cs, sp, hT, nT, C, hb, hsp, hF⟩ := F w mg fa _ Y KX G.T.g hmg own
  exact law_callTs KX G.T.g G.T.b G.T.builtins G.T.nolimit hg hT nT C G.T.bmain hobj hints (Nat.le_trans hlen hn2) hr hF hb (fun H hH hS => hsp H a nz hlen hbits hH hS) fun H e s' => hCX w H s₁ e s'
end EPS
namespace EP
open PySem PySem.Spec PyProof.Rows L2
abbrev Xt (H H' : Hp) : Prop := LamX.ExtN H H'
theorem _root_.EPS.Fz.ne {H : Hp} {p D : Addr} {xs : List V} (h : EPS.Fz H p) (hD : H D = some (.lst xs)) : p ≠ D := fun e => by
  obtain ⟨ps, z⟩ := h _ (e ▸ hD)
  cases z
theorem _root_.EPS.Fz.xt {H H' : Hp} {p : Addr} (h : EPS.Fz H' p) (s : LamX.ExtN H H') : EPS.Fz H p := fun o e => Classical.byContradiction fun hn => hn (h o (s _ _ e fun ps z => hn ⟨ps, z⟩))
abbrev Tbs (TT : List (Addr × Str)) (H : Hp) : Prop := LamX.Tabs TT H
theorem _root_.L2.Same.xt {H H' : Hp} (s : Same H H') : Xt H H' := .of s
theorem Tbs.same {TT : List (Addr × Str)} {H H' : Hp} (t : Tbs TT H) (s : Same H H') : Tbs TT H' := fun p hp => (t p hp).ext fun b o e => s b o e
section
variable {K : PySem.W.Frag} {H H' : Hp}
theorem sqlX {a : Addr} {xs : List V} (h : SqL K H a xs) (e : Xt H H') : SqL K H' a xs := by
  rcases h with (h | ⟨o, h⟩) | h
  · exact .inl (.inl (e _ _ h fun ps z => by cases z))
  · exact .inl (.inr ⟨o, e _ _ h fun ps z => by cases z⟩)
  · exact .inr h
theorem sqtX {a : Addr} {xs : List V} (h : SqT K H a xs) (e : Xt H H') : SqT K H' a xs := by
  rcases h with (h | ⟨o, h⟩) | h
  · exact .inl (.inl (e _ _ h fun ps z => by cases z))
  · exact .inl (.inr ⟨o, e _ _ h fun ps z => by cases z⟩)
  · exact .inr h
end
mutual
theorem DpX {K : PySem.W.Frag} {H H' : Hp} (s : Xt H H') : ∀ {v : V} {d : PyData}, Dp K H v d → Dp K H' v d
  | _, _, .non => .non
  | _, _, .bl b => .bl b
  | _, _, .int i => .int i
  | _, _, .str x => .str x
  | _, _, .lst h a => .lst (sqlX h s) (DpAllX s a)
  | _, _, .tup h a => .tup (sqtX h s) (DpAllX s a)
theorem DpAllX {K : PySem.W.Frag} {H H' : Hp} (s : Xt H H') : ∀ {v : List V} {d : List PyData}, DpAll K H v d → DpAll K H' v d
  | _, _, .nil => .nil
  | _, _, .cons h a => .cons (DpX s h) (DpAllX s a)
end
theorem RngL.xt {L : Addr} {H H' : Hp} {r : Addr} (h : RngL L H r) (s : Xt H H') : RngL L H' r := by
  obtain ⟨ns, i, c, sd, h1, h2, h3⟩ := h
  exact ⟨ns, i, c, sd, s _ _ h1 (fun ps z => by cases z), s _ _ h2 (fun ps z => by cases z), h3⟩
theorem Rng.xt {H H' : Hp} {r : Addr} (h : Rng H r) (s : Xt H H') : Rng H' r := by
  obtain ⟨L, h⟩ := h
  exact ⟨L, h.xt s⟩
/-- draws leave the tables alone -/
theorem Tbs.mo {TT : List (Addr × Str)} {H H' : Hp} {r : Addr} (t : Tbs TT H) (m : Mo r H H') : Tbs TT H' := fun p hp => by
  obtain ⟨L, ns, i, c, sd, h1, _⟩ := m.a
  obtain ⟨ps, e1, e2, e3⟩ := t p hp
  refine ⟨ps, m.g _ _ (fun z => by rw [z, h1] at e1; cases e1) e1, e2, fun pos cv hc => ?_⟩
  obtain ⟨c0, f1, f2⟩ := e3 pos cv hc
  exact ⟨c0, f1, m.g _ _ (fun z => by rw [z, h1] at f2; unfold LamX.CodeO at f2; cases f2) f2⟩
/-- a store to a list leaves the tables alone -/
theorem Tbs.mut {TT : List (Addr × Str)} {H : Hp} {D : Addr} {o : HO} {ys : List V} (t : Tbs TT H) (hD : H D = some (.lst ys)) : Tbs TT (upd H D o) := fun p hp => by
  obtain ⟨ps, e1, e2, e3⟩ := t p hp
  refine ⟨ps, by rw [upd_ne (fun z => by rw [z, hD] at e1; cases e1)]; exact e1, e2, fun pos cv hc => ?_⟩
  obtain ⟨c0, f1, f2⟩ := e3 pos cv hc
  exact ⟨c0, f1, by rw [upd_ne (fun z => by rw [z, hD] at f2; unfold LamX.CodeO at f2; cases f2)]; exact f2⟩
/-! ### rows in order -/
theorem sorted_data {α : Type} {K : PySem.W.Frag} {H : Hp} {f : α → PyData} (key : α → Int) {us : List V} {rows : List α} (h : DpAll K H us (rows.map f)) : DpAll K H (EPS.byKeys us (rows.map key)) ((rows.mergeSort fun a b => decide (key a ≤ key b)).map f) := by
  have hl : us.length = rows.length := by rw [DpAll_len h, List.length_map]
  have e1 : (us.zip rows).map (fun p => (p.1, key p.2)) = us.zip (rows.map key) := by
    rw [List.zip_map_right]; rfl
  have e2 : (us.zip rows).map Prod.snd = rows := by
    rw [List.map_snd_zip]; omega
  have m1 : ((us.zip rows).mergeSort fun a b => decide (key a.2 ≤ key b.2)).map (fun p => (p.1, key p.2)) = (us.zip (rows.map key)).mergeSort fun a b => decide (a.2 ≤ b.2) := by
    rw [List.map_mergeSort (r := fun a b : V × α => decide (key a.2 ≤ key b.2)) (s := fun a b : V × Int => decide (a.2 ≤ b.2)) (f := fun p : V × α => (p.1, key p.2)) (fun a _ b _ => rfl), e1]
  have m2 : ((us.zip rows).mergeSort fun a b => decide (key a.2 ≤ key b.2)).map Prod.snd = rows.mergeSort fun a b => decide (key a ≤ key b) := by
    rw [List.map_mergeSort (r := fun a b : V × α => decide (key a.2 ≤ key b.2)) (s := fun a b : α => decide (key a ≤ key b)) (f := Prod.snd) (fun a _ b _ => rfl), e2]
  have all : ∀ p ∈ (us.zip rows).mergeSort fun a b => decide (key a.2 ≤ key b.2), Dp K H p.1 (f p.2) := fun p hp => by
    have hp := (List.mergeSort_perm _ _).mem_iff.mp hp
    obtain ⟨j, hj⟩ := List.mem_iff_getElem?.mp hp
    obtain ⟨h1, h2⟩ := List.getElem?_zip_eq_some.mp hj
    obtain ⟨d, g1, g2⟩ := DpAll_get h h1
    rw [List.getElem?_map, h2] at g1
    cases Option.some.inj g1
    exact g2
  unfold EPS.byKeys
  rw [← m1, ← m2, List.map_map, List.map_map]
  generalize (us.zip rows).mergeSort (fun a b => decide (key a.2 ≤ key b.2)) = l at all
  induction l with
  | nil => exact .nil
  | cons p l ih => exact .cons (all p (by simp)) (ih fun q hq => all q (by simp [hq]))
end EP
namespace EP
open PySem PySem.Spec PyProof.Rows L2
/-! ### fractions over a common denominator -/
def qkey (C : Int) (q : Rat) : Int := q.num * (C / (q.den : Int))
theorem qkey_eq {C : Int} {q : Rat} (h : (q.den : Int) ∣ C) : ((qkey C q : Int) : Rat) = q * (C : Rat) := by
  obtain ⟨k, rfl⟩ := h
  have hd := den_ne q
  unfold qkey
  rw [Int.mul_ediv_cancel_left _ hd, Rat.intCast_mul, Rat.intCast_mul, ← num_den q]; grind
theorem qkey_le {C : Int} {p q : Rat} (hC : 0 < C) (hp : (p.den : Int) ∣ C) (hq : (q.den : Int) ∣ C) : qkey C p ≤ qkey C q ↔ p ≤ q := by
  have c0 : (0 : Rat) < (C : Rat) := Rat.intCast_pos.mpr hC
  rw [← Rat.intCast_le_intCast, qkey_eq hp, qkey_eq hq]
  constructor
  · intro h; exact Rat.le_of_mul_le_mul_right h c0
  · intro h; exact Rat.mul_le_mul_of_nonneg_right h (Rat.le_of_lt c0)
theorem sort_congr {α : Type} {l : List α} {r s : α → α → Bool} (h : ∀ a ∈ l, ∀ b ∈ l, r a b = s a b) : l.mergeSort r = l.mergeSort s := by
  have := List.map_mergeSort (r := r) (s := s) (f := id) (l := l) h
  simpa using this
theorem frs_of {K : PySem.W.Frag} {H : Hp} : ∀ {us : List V} {qs : List Rat}, DpAll K H us (qs.map dq) → Frs K H us (qs.map fun q => (q.num, (q.den : Int)))
  | _, [], .nil => .nil
  | _, q :: qs, .cons h a => .cons (dq_fr h) (den_pos q) (frs_of a)
theorem dp_head {K : PySem.W.Frag} {H : Hp} {v : V} {d : PyData} {ds : List PyData} (h : Dp K H v (.tuple (d :: ds))) : ∃ p x xs, v = .ref p ∧ SqT K H p (x :: xs) ∧ Dp K H x d ∧ DpAll K H xs ds := by
  cases h with
  | tup h a => cases a with | cons x a => exact ⟨_, _, _, rfl, h, x, a⟩
/-- in ascending order -/
def ordQ {α : Type} (q : α → Rat) (rows : List α) : List α := rows.mergeSort fun a b => decide (q a ≤ q b)
theorem ordQ_perm {α : Type} (q : α → Rat) (rows : List α) : (ordQ q rows).Perm rows := List.mergeSort_perm _ _
theorem ordQ_sorted {α : Type} (q : α → Rat) (rows : List α) : (ordQ q rows).Pairwise fun a b => q a ≤ q b := by
  refine (List.pairwise_mergeSort (le := fun a b => decide (q a ≤ q b)) (fun a b c h1 h2 => ?_) (fun a b => ?_) rows).imp fun {a b} h => of_decide_eq_true h
  · have h1 := of_decide_eq_true h1; have h2 := of_decide_eq_true h2
    exact decide_eq_true (by grind)
  · by_cases h : q a ≤ q b
    · rw [decide_eq_true h]; rfl
    · rw [Bool.or_eq_true]; right; exact decide_eq_true (by grind)
end EP
namespace EP
/-! ### gates made later -/
def mvQ (P d : Rat) (x : Rat × Rat) : Rat × Rat := (remQ (x.1 + d) P, x.2)
def dlQ (P : Rat) (xs : Sps) (d : Rat) : Sps := ordQ (·.1) (xs.map (mvQ P d))
theorem dl_len (P : Rat) (xs : Sps) (d : Rat) : (dlQ P xs d).length = xs.length := by
  unfold dlQ; rw [(ordQ_perm _ _).length_eq, List.length_map]
theorem dl_mem {P : Rat} {xs : Sps} {d : Rat} {y : Rat × Rat} : y ∈ dlQ P xs d ↔ ∃ x ∈ xs, y = mvQ P d x := by
  unfold dlQ; rw [(ordQ_perm _ _).mem_iff, List.mem_map]
  constructor
  · rintro ⟨x, hx, e⟩; exact ⟨x, hx, e.symm⟩
  · rintro ⟨x, hx, e⟩; exact ⟨x, hx, e.symm⟩
theorem turn_rlQ {P d : Rat} (hP : 0 < P) {x y : Rat × Rat} (r : Rl P x y) (hx : 0 < x.2) (hy : 0 < y.2) : Rl P (mvQ P d x) (mvQ P d y) ∨ Rl P (mvQ P d y) (mvQ P d x) := by
  obtain ⟨r1, r2⟩ := r
  have a := remQ_eq (x.1 + d) P
  have b := remQ_eq (y.1 + d) P
  have a1 := remQ_nn (p := x.1 + d) hP
  have a2 := remQ_lt (p := x.1 + d) hP
  have b1 := remQ_nn (p := y.1 + d) hP
  have b2 := remQ_lt (p := y.1 + d) hP
  unfold mvQ Rl
  dsimp only
  generalize remQ (x.1 + d) P = u at *
  generalize remQ (y.1 + d) P = v at *
  generalize ((x.1 + d) / P).floor = i at *
  generalize ((y.1 + d) / P).floor = j at *
  have e : ((j - i : Int) : Rat) * P = y.1 - x.1 + u - v := by rw [Rat.intCast_sub]; grind
  have h0 : 0 ≤ j - i := by
    rcases (show j - i ≤ -1 ∨ 0 ≤ j - i by omega) with q | q
    · have := cast_le (Rat.le_of_lt hP) q
      rw [e, Rat.intCast_neg, Rat.intCast_one] at this
      grind
    · exact q
  have h1 : j - i ≤ 1 := by
    rcases (show 2 ≤ j - i ∨ j - i ≤ 1 by omega) with q | q
    · have := cast_le (Rat.le_of_lt hP) q
      have t : ((2 : Int) : Rat) = 2 := rfl
      rw [e, t] at this
      grind
    · exact q
  have : j - i = 0 ∨ j - i = 1 := by omega
  rcases this with q | q
  · rw [q, Rat.intCast_zero] at e
    left; constructor <;> grind
  · rw [q, Rat.intCast_one] at e
    right; constructor <;> grind
theorem GV.delay {P : Rat} {xs : Sps} (g : GV P xs) (d : Rat) : GV P (dlQ P xs d) := by
  have hP := g.pos
  have f : ∀ x ∈ dlQ P xs d, 0 ≤ x.1 ∧ x.1 < P ∧ 0 < x.2 ∧ x.2 ≤ P := fun x hx => by
    obtain ⟨y, hy, rfl⟩ := dl_mem.mp hx
    obtain ⟨_, _, c, e⟩ := g.fit y hy
    exact ⟨remQ_nn hP, remQ_lt hP, c, e⟩
  refine ⟨hP, by rw [dl_len]; exact g.len, f, ?_⟩
  have c : (dlQ P xs d).Pairwise fun x y => Rl P x y ∨ Rl P y x := by
    unfold dlQ
    refine (List.Perm.pairwise_iff (fun {a b} r => Or.symm r) (ordQ_perm _ _)).mpr ?_
    refine List.pairwise_map.mpr ?_
    refine List.Pairwise.imp_of_mem (fun {x y} hx hy r => ?_) g.pw
    exact turn_rlQ hP r (g.fit x hx).2.2.1 (g.fit y hy).2.2.1
  refine List.Pairwise.imp_of_mem (fun {x y} hx hy r => ?_) (c.and (ordQ_sorted (·.1) (xs.map (mvQ P d))))
  rcases r with ⟨r | r, s⟩
  · exact r
  · have := (f y hy).2.2.1
    have := r.1
    grind
theorem GV.asc {P : Rat} {xs : Sps} (g : GV P xs) : xs.Pairwise fun x y => x.1 < y.1 :=
  List.Pairwise.imp_of_mem (fun {x y} hx hy r => by have := (g.fit x hx).2.2.1; have := r.1; grind) g.pw
theorem asc_uniq {α : Type} {q : α → Rat} : ∀ {xs ys : List α}, xs.Perm ys → xs.Pairwise (fun x y => q x < q y) → ys.Pairwise (fun x y => q x < q y) → xs = ys
  | [], ys, p, _, _ => (List.nil_perm.mp p).symm
  | x :: xs, [], p, _, _ => absurd (List.perm_nil.mp p) (by simp)
  | x :: xs, y :: ys, p, h1, h2 => by
    obtain ⟨a1, a2⟩ := List.pairwise_cons.mp h1
    obtain ⟨b1, b2⟩ := List.pairwise_cons.mp h2
    have e : x = y := by
      rcases List.mem_cons.mp (p.mem_iff.mp (List.mem_cons_self (a := x) (l := xs))) with e | e
      · exact e
      · rcases List.mem_cons.mp (p.mem_iff.mpr (List.mem_cons_self (a := y) (l := ys))) with e' | e'
        · exact e'.symm
        · have := b1 x e; have := a1 y e'; grind
    subst e
    rw [asc_uniq ((List.perm_cons x).mp p) a2 b2]
/-- a gate's spans are known by what lies among them -/
theorem gv_uniq {P P' : Rat} {xs ys : Sps} (g : GV P xs) (g' : GV P' ys) (p : xs.Perm ys) : xs = ys := asc_uniq p g.asc g'.asc
theorem mv_add {P d e : Rat} (hP : 0 < P) (x : Rat × Rat) : mvQ P e (mvQ P d x) = mvQ P (d + e) x := by
  unfold mvQ
  refine Prod.ext ?_ rfl
  show remQ (remQ (x.1 + d) P + e) P = remQ (x.1 + (d + e)) P
  have := remQ_eq (x.1 + d) P
  have e1 : x.1 + (d + e) = (remQ (x.1 + d) P + e) + (((x.1 + d) / P).floor : Rat) * P := by grind
  rw [e1, remQ_mul hP]
theorem dl_add {P : Rat} {xs : Sps} (g : GV P xs) (d e : Rat) : dlQ P (dlQ P xs d) e = dlQ P xs (d + e) := by
  refine gv_uniq ((g.delay d).delay e) (g.delay (d + e)) ?_
  unfold dlQ
  refine (ordQ_perm _ _).trans (List.Perm.trans ?_ (ordQ_perm _ _).symm)
  refine ((ordQ_perm _ _).map _).trans ?_
  rw [List.map_map]
  exact List.Perm.of_eq (List.map_congr_left fun x _ => mv_add g.pos x)
theorem dl_mul {P : Rat} {xs : Sps} (hP : 0 < P) (d : Rat) (k : Int) : dlQ P xs (d + (k : Rat) * P) = dlQ P xs d := by
  unfold dlQ
  congr 1
  refine List.map_congr_left fun x _ => ?_
  unfold mvQ
  rw [show x.1 + (d + (k : Rat) * P) = (x.1 + d) + (k : Rat) * P by grind, remQ_mul hP]
theorem rem_id {P x : Rat} (h0 : 0 ≤ x) (h1 : x < P) : remQ x P = x := remQ_of (by grind) 0 (by rw [Rat.intCast_zero]; grind) h0 h1
theorem dl_zero {P : Rat} {xs : Sps} (g : GV P xs) : dlQ P xs 0 = xs := by
  refine gv_uniq (g.delay 0) g ?_
  unfold dlQ
  refine (ordQ_perm _ _).trans (List.Perm.of_eq ?_)
  have : xs.map (mvQ P 0) = xs.map id := List.map_congr_left fun x hx => by
    obtain ⟨h0, h1, _⟩ := g.fit x hx
    unfold mvQ
    rw [Rat.add_zero, rem_id h0 h1]; rfl
  rw [this, List.map_id]
/-- shut then and now -/
theorem late_mv {P d m t : Rat} {x : Rat × Rat} : LateBy P (m + d) (mvQ P d x) t ↔ LateBy P m x t := by
  have e := remQ_eq (x.1 + d) P
  unfold LateBy mvQ
  dsimp only
  generalize remQ (x.1 + d) P = u at *
  generalize ((x.1 + d) / P).floor = j at *
  constructor
  · rintro ⟨k, h, h0, h1⟩
    exact ⟨k - j, by rw [Rat.intCast_sub]; grind, h0, h1⟩
  · rintro ⟨k, h, h0, h1⟩
    exact ⟨k + j, by rw [Rat.intCast_add]; grind, h0, h1⟩
theorem dl_shut {P d m : Rat} {xs : Sps} (g : GV P xs) : shutQ P (dlQ P xs d) (m + d) = (shutQ P xs m).map (· + d) := by
  have g' := g.delay d
  cases h : shutQ P xs m with
  | some e =>
    obtain ⟨x, hx, t, a, rfl⟩ := g.shut_iff.mp h
    rw [g'.shut (dl_mem.mpr ⟨x, hx, rfl⟩) (late_mv.mpr a)]
    show some _ = some _
    congr 1
    show m + d + (x.2 - t) = _
    grind
  | none =>
    refine g'.open fun y hy t a => ?_
    obtain ⟨x, hx, rfl⟩ := dl_mem.mp hy
    rw [g.shut hx (late_mv.mp a)] at h; cases h
theorem hit_all {P : Rat} {xs : Sps} (g : GV P xs) {k : Nat} (h1 : 1 ≤ k) (h2 : k < xs.length) : hitB P xs k = (decide (xs.length % k = 0) && xs.all fun x => decide (x ∈ laterQ P (partQ P xs k) xs)) := by
  unfold hitB
  by_cases hm : xs.length % k = 0
  · rw [← law_part g h1 h2 hm]; rfl
  · rw [decide_eq_false hm]; rfl
theorem hit_dl {P : Rat} {xs : Sps} (g : GV P xs) (d : Rat) {k : Nat} (h1 : 1 ≤ k) (h2 : k < xs.length) : hitB P (dlQ P xs d) k = hitB P xs k := by
  have hP := g.pos
  rw [hit_all (g.delay d) h1 (by rw [dl_len]; exact h2), hit_all g h1 h2, dl_len]
  congr 1
  have ep : partQ P (dlQ P xs d) k = partQ P xs k := by unfold partQ; rw [dl_len]
  rw [ep]
  generalize partQ P xs k = p
  have lat : ∀ (zs : Sps) (y : Rat × Rat), y ∈ laterQ P p zs ↔ ∃ z ∈ zs, y = mvQ P p z := fun zs y => by
    unfold laterQ; rw [List.mem_map]
    constructor
    · rintro ⟨x, hx, e⟩; exact ⟨x, hx, e.symm⟩
    · rintro ⟨x, hx, e⟩; exact ⟨x, hx, e.symm⟩
  rw [Bool.eq_iff_iff, List.all_eq_true, List.all_eq_true]
  constructor
  · intro h x hx
    have := of_decide_eq_true (h _ (dl_mem.mpr ⟨x, hx, rfl⟩))
    obtain ⟨z, hz, e⟩ := (lat _ _).mp this
    obtain ⟨y, hy, rfl⟩ := dl_mem.mp hz
    refine decide_eq_true ((lat _ _).mpr ⟨y, hy, ?_⟩)
    rw [mv_add hP] at e
    have e2 := congrArg (mvQ P (-d)) e
    rw [mv_add hP, mv_add hP] at e2
    rw [show d + -d = 0 by grind, show d + p + -d = p by grind] at e2
    have : mvQ P 0 x = x := by
      obtain ⟨q0, q1, _⟩ := g.fit x hx
      unfold mvQ; rw [Rat.add_zero, rem_id q0 q1]
    rw [← this, e2]
  · intro h y hy
    obtain ⟨x, hx, rfl⟩ := dl_mem.mp hy
    obtain ⟨z, hz, e⟩ := (lat _ _).mp (of_decide_eq_true (h x hx))
    refine decide_eq_true ((lat _ _).mpr ⟨mvQ P d z, dl_mem.mpr ⟨z, hz, rfl⟩, ?_⟩)
    rw [e, mv_add hP, mv_add hP]
    congr 1; grind
/-- a gate in normal form, made later, is in normal form -/
theorem dl_norm {P : Rat} {xs : Sps} (g : GV P xs) (h : lfQ P xs = (P, xs)) (d : Rat) : lfQ P (dlQ P xs d) = (P, dlQ P xs d) := by
  by_cases h0 : xs.length = 0
  · have e : xs = [] := List.length_eq_zero_iff.mp h0
    subst e
    have : dlQ P [] d = [] := by unfold dlQ ordQ; simp
    rw [this]; exact h
  · have hf : (List.range' 1 (xs.length - 1)).find? (hitB P xs) = none := by
      unfold lfQ at h
      rw [if_neg h0] at h
      cases hf : (List.range' 1 (xs.length - 1)).find? (hitB P xs) with
      | none => rfl
      | some k =>
        rw [hf] at h
        have h2 := List.mem_range'_1.mp (List.mem_of_find?_eq_some hf)
        have := congrArg (fun p => (Prod.snd p).length) h
        simp only [List.length_take] at this
        omega
    unfold lfQ
    rw [dl_len, if_neg h0]
    have : (List.range' 1 (xs.length - 1)).find? (hitB P (dlQ P xs d)) = none := by
      rw [List.find?_eq_none] at hf ⊢
      intro k hk
      have h2 := List.mem_range'_1.mp hk
      rw [hit_dl g d h2.1 (by omega)]
      exact hf k hk
    rw [this]
/-- the period is a multiple of the least one -/
theorem lf_per {P : Rat} {xs : Sps} (g : GV P xs) (h0 : xs.length ≠ 0) : ∃ c : Int, P = (c : Rat) * (lfQ P xs).1 := by
  unfold lfQ
  rw [if_neg h0]
  cases hf : (List.range' 1 (xs.length - 1)).find? (hitB P xs) with
  | none => exact ⟨1, by rw [Rat.intCast_one]; grind⟩
  | some k =>
    have h1 := List.find?_some hf
    have h2 := List.mem_range'_1.mp (List.mem_of_find?_eq_some hf)
    have R := rep_of g.pos h2.1 (by omega) h1
    exact ⟨(xs.length / k : Nat), R.per⟩
end EP
namespace EP
open PySem PySem.Spec PyProof.Rows L2
/-! ### comprehensions with a test -/
theorem noLs_sub {ds es : List PyData} (h : ∀ d ∈ es, d ∈ ds) (n : noLs ds = true) : noLs es = true := by
  refine noLs_all fun d hd => ?_
  have : ∀ (l : List PyData), noLs l = true → ∀ d ∈ l, noL d = true := by
    intro l; induction l with
    | nil => intro _ d hd; cases hd
    | cons a l ih =>
      intro h d hd
      simp only [noLs, Bool.and_eq_true] at h
      rcases List.mem_cons.mp hd with e | e
      · rw [e]; exact h.1
      · exact ih h.2 d e
  exact this ds n d (h d hd)
theorem lc_flt {K : PySem.W.Frag} {J : It} {n : Nat} {G : Hp → Prop} {Y : Nat → Hp → V → Hp → Prop} (w : Walk J n G Y) {g : TG} {tt : TT} {te : TE} {vs : List Nat} {σ : L2.St} {H : Hp} {D : Addr} {Qd : Hp → Prop} (ps : List (Bool × PyData)) (nD : H D = none) (hn : ps.length = n) (hl : n < 1000)
    (hno : noLs (ps.map (·.2)) = true) (hG : ∀ H', Same H H' → G H')
    (hs : ∀ i x p H' H2, i < n → ps[i]? = some p → Same H H' → Y i H' x H2 → ∀ (R : V → Hp → Prop) (N : Hp → Prop), (p.1 = true → ∀ y H4, Same H' H4 → Dp K H4 y p.2 → R y H4) → (p.1 = false → ∀ H4, Same H' H4 → N H4) → g x (wipe σ vs) H2 fun σ2 H3 => wipe σ2 vs = wipe σ vs ∧ tt σ2 H3 fun b H4 => if b = true then te σ2 H4 R else N H4)
    (q : ∀ H' us, Same H H' → H' D = some (.lst us) → DpAll K H' us ((ps.filter (·.1)).map (·.2)) → Qd H') :
    ∃ W : Nat → Nat → Hp → Prop, (∃ m, W 0 m (upd H D (.lst []))) ∧ ∀ i m H, W i m H →
      (J.stop i H ∧ Qd H) ∨ (J.go i H ∧ ∃ Nx : Hp → Prop, (∀ H', Nx H' → ∃ m', m' < m ∧ W (i + 1) m' H') ∧ ∀ x H', J.yld i H x H' → g x (wipe σ vs) H' fun σ2 H2 => wipe σ2 vs = wipe σ vs ∧ tt σ2 H2 fun b H3 =>
        if b = true then te σ2 H3 fun y H4 => ∃ acc, H4 D = some (.lst acc) ∧ acc.length < sizeLine ∧ Nx (upd H4 D (.lst (acc ++ [y]))) else Nx H3) := by
  refine lc_it w (fun i H' => Same H H' ∧ ∃ us, H' D = some (.lst us) ∧ DpAll K H' us (((ps.take i).filter (·.1)).map (·.2))) ⟨same_upd nD, [], upd_same, .nil⟩ (fun i H' _ h => hG H' h.1) ?_ ?_
  · rintro i x H1 H2 hi ⟨sH, us, hD, hu⟩ hy
    have hi' : i < ps.length := by omega
    have tk : ps.take (i + 1) = ps.take i ++ [ps[i]] := by rw [List.take_add_one, List.getElem?_eq_getElem hi']; rfl
    refine hs i x ps[i] H1 H2 hi (List.getElem?_eq_getElem hi') sH hy _ _ (fun hp y H4 s4 dy => ?_) (fun hp H4 s4 => ?_)
    · have hD4 := s4 _ _ hD
      have hlen := DpAll_len hu
      have : ((ps.take i).filter (·.1)).length ≤ i := Nat.le_trans (List.length_filter_le _ _) (by rw [List.length_take]; omega)
      rw [List.length_map] at hlen
      refine ⟨us, hD4, Nat.lt_of_lt_of_le (show us.length < 1000 by omega) (by decide), ?_, us ++ [y], upd_same, ?_⟩
      · intro b o e; rw [upd_ne (ne_of_none e nD)]; exact s4 _ _ (sH _ _ e)
      · have e : ((ps.take (i + 1)).filter (·.1)).map (·.2) = ((ps.take i).filter (·.1)).map (·.2) ++ [ps[i].2] := by
          rw [tk, List.filter_append, List.map_append, List.filter_cons_of_pos hp]; rfl
        rw [e]
        refine DpAll_mut hD4 (DpAll_snoc dy (DpAll_same s4 hu)) ?_
        rw [← e]
        refine noLs_sub (fun d hd => ?_) hno
        obtain ⟨p, hp, rfl⟩ := List.mem_map.mp hd
        exact List.mem_map.mpr ⟨p, List.mem_of_mem_take (List.mem_filter.mp hp).1, rfl⟩
    · refine ⟨sH.trans s4, us, s4 _ _ hD, ?_⟩
      rw [tk, List.filter_append, List.filter_cons_of_neg (by rw [hp]; decide), List.filter_nil, List.append_nil]
      exact DpAll_same s4 hu
  · rintro H1 ⟨sH, us, hD, hu⟩
    rw [← hn, List.take_length] at hu
    exact q H1 us sH hD hu
/-! ### numbers over a common denominator -/
def Ov (D : Int) (n : Nat) (q : Rat) : Prop := ∃ z : Int, q * (D : Rat) = (z : Rat) ∧ B n z
theorem Ov.bq {D : Int} {n k : Nat} {q : Rat} (h : Ov D n q) (hD : D ≠ 0) (b : B k D) (hn : n ≤ k := by decide) : Bq k q := by
  obtain ⟨z, e, bz⟩ := h
  exact .of hD e (bz.mono hn) b
theorem Ov.mono {D : Int} {n m : Nat} {q : Rat} (h : Ov D n q) (l : n ≤ m := by decide) : Ov D m q := by
  obtain ⟨z, e, b⟩ := h; exact ⟨z, e, b.mono l⟩
theorem Ov.add {D : Int} {n : Nat} {p q : Rat} (h : Ov D n p) (k : Ov D n q) : Ov D (n + 1) (p + q) := by
  obtain ⟨z, e, b⟩ := h; obtain ⟨y, f, c⟩ := k
  exact ⟨z + y, by rw [Rat.intCast_add, ← e, ← f]; grind, b.add c⟩
theorem Ov.sub {D : Int} {n : Nat} {p q : Rat} (h : Ov D n p) (k : Ov D n q) : Ov D (n + 1) (p - q) := by
  obtain ⟨z, e, b⟩ := h; obtain ⟨y, f, c⟩ := k
  exact ⟨z - y, by rw [Rat.intCast_sub, ← e, ← f]; grind, b.sub c⟩
theorem Ov.times {D : Int} {n m : Nat} {q : Rat} {k : Int} (b : B n k) (h : Ov D m q) : Ov D (n + m) ((k : Rat) * q) := by
  obtain ⟨z, e, c⟩ := h
  exact ⟨k * z, by rw [Rat.intCast_mul, ← e]; grind, b.mul c⟩
theorem Ov.wide {D e : Int} {n m : Nat} {q : Rat} (h : Ov D n q) (b : B m e) : Ov (D * e) (n + m) q := by
  obtain ⟨z, f, c⟩ := h
  exact ⟨z * e, by rw [Rat.intCast_mul, Rat.intCast_mul, ← f]; grind, c.mul b⟩
theorem Ov.wideL {D e : Int} {n m : Nat} {q : Rat} (h : Ov e n q) (b : B m D) : Ov (D * e) (m + n) q := by
  obtain ⟨z, f, c⟩ := h
  exact ⟨D * z, by rw [Rat.intCast_mul, Rat.intCast_mul, ← f]; grind, b.mul c⟩
theorem ov_den {n : Nat} {q : Rat} (b : Bq n q) : Ov (q.den : Int) n q := ⟨q.num, num_den q, b.a⟩
/-- what lies below the period, over the same denominator -/
theorem Ov.rem {D : Int} {n m : Nat} {p P : Rat} (hP : 0 < P) (hD : 0 < D) (h : Ov D n p) (k : Ov D m P) : Ov D m (remQ p P) := by
  obtain ⟨z, e, b⟩ := h; obtain ⟨y, f, c⟩ := k
  have h0 := remQ_nn (p := p) hP
  have h1 := remQ_lt (p := p) hP
  have d0 : (0 : Rat) < (D : Rat) := Rat.intCast_pos.mpr hD
  have ez : remQ p P * (D : Rat) = ((z - (p / P).floor * y : Int) : Rat) := by
    have := remQ_eq p P
    rw [Rat.intCast_sub, Rat.intCast_mul, ← e, ← f]
    generalize remQ p P = r at *
    generalize ((p / P).floor : Rat) = t at *
    rw [this]; grind
  refine ⟨_, ez, ?_⟩
  have q0 : (0 : Rat) ≤ ((z - (p / P).floor * y : Int) : Rat) := by rw [← ez]; exact Rat.mul_nonneg h0 (Rat.le_of_lt d0)
  have q1 : ((z - (p / P).floor * y : Int) : Rat) < (y : Rat) := by rw [← ez, ← f]; exact Rat.mul_lt_mul_of_pos_right h1 d0
  have r0 := Rat.intCast_nonneg.mp q0
  have r1 := Rat.intCast_lt_intCast.mp q1
  exact c.le (by omega)
/-- a gate whose numbers lie over D -/
structure Gz (D : Int) (n : Nat) (P : Rat) (xs : Sps) : Prop where
  g : GV P xs
  d : 0 < D
  p : Ov D n P
  b : ∀ x ∈ xs, Ov D n x.1 ∧ Ov D n x.2
theorem Gz.lf {D : Int} {n : Nat} {P : Rat} {xs : Sps} (z : Gz D n P xs) (h0 : xs.length ≠ 0) : Gz D (n + 1) (lfQ P xs).1 (lfQ P xs).2 := by
  have g' := (lf_ok z.g).1
  refine ⟨g', z.d, ?_, ?_⟩
  · unfold lfQ
    rw [if_neg h0]
    cases hf : (List.range' 1 (xs.length - 1)).find? (hitB P xs) with
    | none => exact z.p.mono (by omega)
    | some k =>
      have h1 := List.find?_some hf
      have h2 := List.mem_range'_1.mp (List.mem_of_find?_eq_some hf)
      have R := rep_of z.g.pos h2.1 (by omega) h1
      have e := R.nxt 0 (by omega)
      have a := (z.b _ (at0_mem (xs := xs) (i := 0 + k) (by omega))).1
      have b := (z.b _ (at0_mem (xs := xs) (i := 0) (by omega))).1
      rw [e] at a
      have := a.sub b
      show Ov D (n + 1) (partQ P xs k)
      have e2 : (at0 xs 0).1 + partQ P xs k - (at0 xs 0).1 = partQ P xs k := by grind
      rw [e2] at this; exact this
  · intro x hx
    have : x ∈ xs := by
      unfold lfQ at hx
      rw [if_neg h0] at hx
      cases hf : (List.range' 1 (xs.length - 1)).find? (hitB P xs) with
      | none => rw [hf] at hx; exact hx
      | some d => rw [hf] at hx; exact List.mem_of_mem_take hx
    exact ⟨(z.b x this).1.mono (by omega), (z.b x this).2.mono (by omega)⟩
theorem Gz.delay {D e : Int} {n m k : Nat} {P d : Rat} {xs : Sps} (z : Gz D n P xs) (he : 0 < e) (be : B m e) (h : Ov (D * e) k d) (hk : n + m ≤ k) : Gz (D * e) (n + m) P (dlQ P xs d) := by
  have hD : 0 < D * e := Int.mul_pos z.d he
  refine ⟨z.g.delay d, hD, z.p.wide be, fun x hx => ?_⟩
  obtain ⟨y, hy, rfl⟩ := dl_mem.mp hx
  obtain ⟨b1, b2⟩ := z.b y hy
  exact ⟨Ov.rem z.g.pos hD ((b1.wide be).mono hk |>.add h) (z.p.wide be), b2.wide be⟩
end EP
namespace EP
/-! ### putting in at the right place -/
def spotQ (zs : List Rat) (a : Rat) : Nat := (zs.filter fun z => decide (z < a)).length
def insQ (zs : List Rat) (a : Rat) : List Rat := zs.take (spotQ zs a) ++ [a] ++ zs.drop (spotQ zs a)
theorem ins_perm (zs : List Rat) (a : Rat) : (insQ zs a).Perm (a :: zs) := by
  unfold insQ
  generalize spotQ zs a = k
  have e : zs = zs.take k ++ zs.drop k := (List.take_append_drop k zs).symm
  have h : (zs.take k ++ [a] ++ zs.drop k).Perm (a :: (zs.take k ++ zs.drop k)) := by
    rw [List.append_assoc]
    exact List.perm_middle
  rw [← e] at h; exact h
theorem ins_asc : ∀ {zs : List Rat} {a : Rat}, zs.Pairwise (· ≤ ·) → (insQ zs a).Pairwise (· ≤ ·)
  | [], a, _ => by unfold insQ; simp
  | z :: r, a, h => by
    obtain ⟨h1, h2⟩ := List.pairwise_cons.mp h
    by_cases c : z < a
    · have e : spotQ (z :: r) a = spotQ r a + 1 := by unfold spotQ; rw [List.filter_cons_of_pos (by simpa using c)]; rfl
      have e2 : insQ (z :: r) a = z :: insQ r a := by unfold insQ; rw [e]; rfl
      rw [e2]
      refine List.pairwise_cons.mpr ⟨fun y hy => ?_, ins_asc h2⟩
      rcases List.mem_cons.mp ((ins_perm r a).mem_iff.mp hy) with q | q
      · rw [q]; grind
      · exact h1 y q
    · have e : spotQ (z :: r) a = 0 := by
        unfold spotQ
        rw [List.filter_cons_of_neg (by simpa using c), List.filter_eq_nil_iff.mpr]; · rfl
        intro y hy
        have := h1 y hy
        simp; grind
      unfold insQ
      rw [e]
      show (a :: z :: r).Pairwise _
      refine List.pairwise_cons.mpr ⟨fun y hy => ?_, h⟩
      rcases List.mem_cons.mp hy with q | q
      · rw [q]; grind
      · have := h1 y q; grind
theorem GV.inj {P : Rat} {xs : Sps} (g : GV P xs) {x y : Rat × Rat} (hx : x ∈ xs) (hy : y ∈ xs) (e : x.1 = y.1) : x = y := by
  rcases pw_get g.asc hx hy with h | h | h
  · exact h
  · grind
  · grind
theorem le_lt {zs : List Rat} (h : zs.Pairwise (· ≤ ·)) (n : zs.Nodup) : zs.Pairwise (· < ·) := (h.and n).imp fun {a b} q => by
  obtain ⟨h1, h2⟩ := q
  grind
theorem dl_begins {P d : Rat} {xs : Sps} {zs : List Rat} (g : GV P xs) (p : zs.Perm ((xs.map (mvQ P d)).map (·.1))) (s : zs.Pairwise (· ≤ ·)) : zs = (dlQ P xs d).map (·.1) := by
  have a : ((dlQ P xs d).map (·.1)).Pairwise (· < ·) := List.pairwise_map.mpr (g.delay d).asc
  have p2 : zs.Perm ((dlQ P xs d).map (·.1)) := p.trans ((ordQ_perm (·.1) (xs.map (mvQ P d))).map _).symm
  have n : zs.Nodup := p2.nodup_iff.mpr (a.imp fun {x y} h => by grind)
  exact asc_uniq (q := id) p2 (le_lt s n) a
theorem flt_head {P d : Rat} {xs : Sps} (g : GV P xs) {x : Rat × Rat} (hx : x ∈ dlQ P xs d) : ∃ r, (xs.map (mvQ P d)).filter (fun y => decide (y.1 = x.1)) = x :: r := by
  have m : ∀ y, y ∈ xs.map (mvQ P d) ↔ y ∈ dlQ P xs d := fun y => (ordQ_perm (·.1) (xs.map (mvQ P d))).mem_iff.symm
  cases h : (xs.map (mvQ P d)).filter (fun y => decide (y.1 = x.1)) with
  | nil =>
    have := List.filter_eq_nil_iff.mp h x ((m x).mpr hx)
    simp at this
  | cons y r =>
    have hy : y ∈ (xs.map (mvQ P d)).filter (fun y => decide (y.1 = x.1)) := by rw [h]; simp
    obtain ⟨h1, h2⟩ := List.mem_filter.mp hy
    have e := (g.delay d).inj ((m y).mp h1) hx (of_decide_eq_true h2)
    exact ⟨r, by rw [e]⟩
end EP
namespace EP
open PySem PySem.Spec PyProof.Rows L2
/-! ### roads, as lists of gates -/
structure Gt where
  pl : Rat
  P : Rat
  xs : Sps
def dGt (g : Gt) : PyData := dG g.pl g.P g.xs
def nfG (g : Gt) : Gt := ⟨g.pl, (lfQ g.P g.xs).1, (lfQ g.P g.xs).2⟩
def dlG (x v : Rat) (g : Gt) : Gt := ⟨g.pl, (lfQ g.P g.xs).1, dlQ (lfQ g.P g.xs).1 (lfQ g.P g.xs).2 (x + v * g.pl)⟩
def rdG (gs : List Gt) : List Gt := ordQ Gt.pl (gs.map nfG)
structure NG (z : Gt) : Prop where
  g : GV z.P z.xs
  n : lfQ z.P z.xs = (z.P, z.xs)
structure RdOK (gs : List Gt) : Prop where
  a : gs.Pairwise fun x y => x.pl < y.pl
  n : ∀ g ∈ gs, NG g
  l : gs.length ≤ 8
theorem ordQ_map {α β : Type} {q : α → Rat} {q' : β → Rat} {f : α → β} (h : ∀ x, q' (f x) = q x) (l : List α) : ordQ q' (l.map f) = (ordQ q l).map f := by
  unfold ordQ
  exact (List.map_mergeSort (fun a _ b _ => by rw [h, h])).symm
theorem ordQ_id {α : Type} {q : α → Rat} {l : List α} (h : l.Pairwise fun a b => q a ≤ q b) : ordQ q l = l := by
  unfold ordQ
  exact List.mergeSort_of_pairwise (h.imp fun x => decide_eq_true x)
theorem nf_ng {g : Gt} (h : GV g.P g.xs) : NG (nfG g) := ⟨(lf_ok h).1, lf_idem h⟩
theorem NG.nf {g : Gt} (h : NG g) : nfG g = g := by
  unfold nfG; rw [h.n]
theorem NG.dlE {g : Gt} (h : NG g) (x v : Rat) : dlG x v g = ⟨g.pl, g.P, dlQ g.P g.xs (x + v * g.pl)⟩ := by
  unfold dlG; rw [h.n]
theorem NG.dl {g : Gt} (h : NG g) (x v : Rat) : NG (dlG x v g) := by
  rw [h.dlE]
  exact ⟨h.g.delay _, dl_norm h.g h.n _⟩
theorem dl_nf {g : Gt} (h : GV g.P g.xs) (x v : Rat) : dlG x v (nfG g) = dlG x v g := by
  unfold dlG nfG
  dsimp only
  rw [lf_idem h]
theorem dl_pl (x v : Rat) (g : Gt) : (dlG x v g).pl = g.pl := rfl
theorem rd_eq (gs : List Gt) : rdG gs = (ordQ Gt.pl gs).map nfG := ordQ_map (fun _ => rfl) gs
theorem rd_ok {gs : List Gt} (hv : ∀ g ∈ gs, GV g.P g.xs) (nd : (gs.map Gt.pl).Nodup) (hl : gs.length ≤ 8) : RdOK (rdG gs) := by
  have e := rd_eq gs
  have p := ordQ_perm Gt.pl gs
  refine ⟨?_, fun g hg => ?_, by rw [e, List.length_map, p.length_eq]; exact hl⟩
  · rw [e, List.pairwise_map]
    have s := ordQ_sorted Gt.pl gs
    have n2 : ((ordQ Gt.pl gs).map Gt.pl).Nodup := (p.map Gt.pl).nodup_iff.mpr nd
    have := le_lt (List.pairwise_map.mpr s) n2
    exact List.pairwise_map.mp this
  · rw [e] at hg
    obtain ⟨z, hz, rfl⟩ := List.mem_map.mp hg
    exact nf_ng (hv z (p.mem_iff.mp hz))
theorem RdOK.late {gs : List Gt} (h : RdOK gs) (x v : Rat) : RdOK (gs.map (dlG x v)) := by
  refine ⟨List.pairwise_map.mpr h.a, fun g hg => ?_, by rw [List.length_map]; exact h.l⟩
  obtain ⟨z, hz, rfl⟩ := List.mem_map.mp hg
  exact (h.n z hz).dl x v
theorem RdOK.id {gs : List Gt} (h : RdOK gs) : rdG gs = gs := by
  rw [rd_eq, ordQ_id (h.a.imp fun q => Rat.le_of_lt q)]
  conv => rhs; rw [← List.map_id gs]
  exact List.map_congr_left fun g hg => (h.n g hg).nf
theorem RdOK.nodup {gs : List Gt} (h : RdOK gs) : (gs.map Gt.pl).Nodup := by
  refine List.pairwise_map.mpr (h.a.imp fun {a b} q e => ?_)
  rw [e] at q; exact absurd q Rat.lt_irrefl
theorem late2 {gs : List Gt} (h : RdOK gs) (x v y w : Rat) : (gs.map (dlG x v)).map (dlG y w) = gs.map (dlG (x + y) (v + w)) := by
  rw [List.map_map]
  refine List.map_congr_left fun g hg => ?_
  have n := h.n g hg
  show dlG y w (dlG x v g) = _
  rw [(n.dl x v).dlE, n.dlE, n.dlE]
  dsimp only
  rw [dl_add n.g]
  congr 2
  grind
theorem late0 {gs : List Gt} (h : RdOK gs) : gs.map (dlG 0 0) = gs := by
  conv => rhs; rw [← List.map_id gs]
  refine List.map_congr_left fun g hg => ?_
  have n := h.n g hg
  rw [n.dlE, show (0 : Rat) + 0 * g.pl = 0 by grind, dl_zero n.g]
  rfl
theorem late_rd {gs : List Gt} (hv : ∀ g ∈ gs, GV g.P g.xs) (x v : Rat) : (rdG gs).map (dlG x v) = (ordQ Gt.pl gs).map (dlG x v) := by
  rw [rd_eq, List.map_map]
  exact List.map_congr_left fun g hg => dl_nf (hv g ((ordQ_perm _ _).mem_iff.mp hg)) x v
/-! ### walkers -/
def opG (s t : Rat) (g : Gt) : Bool := (shutQ g.P g.xs (s + t * g.pl)).isNone
def fsQ (s t : Rat) (gs : List Gt) : Option Rat := (gs.find? fun g => !opG s t g).map Gt.pl
theorem op_late {g : Gt} (n : NG g) (s t x v : Rat) : opG (s + x) (t + v) (dlG x v g) = opG s t g := by
  unfold opG
  rw [n.dlE]
  dsimp only
  rw [show s + x + (t + v) * g.pl = (s + t * g.pl) + (x + v * g.pl) by grind, dl_shut n.g]
  cases shutQ g.P g.xs (s + t * g.pl) <;> rfl
theorem op_nf {g : Gt} (h : GV g.P g.xs) (s t : Rat) : opG s t (nfG g) = opG s t g := by
  unfold opG nfG
  dsimp only
  rw [(lf_ok h).2]
theorem find_map {α β : Type} (f : α → β) (p : β → Bool) (q : α → Bool) : ∀ (l : List α), (∀ x ∈ l, p (f x) = q x) → (l.map f).find? p = (l.find? q).map f
  | [], _ => rfl
  | a :: l, h => by
    have ih := find_map f p q l fun x hx => h x (List.mem_cons_of_mem _ hx)
    rw [List.map_cons, List.find?_cons, List.find?_cons, h a (List.mem_cons_self ..)]
    cases q a
    · exact ih
    · rfl
theorem fs_late {gs : List Gt} (h : RdOK gs) (s t x v : Rat) : fsQ (s + x) (t + v) (gs.map (dlG x v)) = fsQ s t gs := by
  unfold fsQ
  rw [find_map (dlG x v) _ (fun g => !opG s t g) gs fun g hg => by rw [op_late (h.n g hg)], Option.map_map]
  rfl
theorem fs_none {s t : Rat} {gs : List Gt} : (fsQ s t gs).isNone = gs.all (opG s t) := by
  unfold fsQ
  rw [Option.isNone_map, Bool.eq_iff_iff, Option.isNone_iff_eq_none, List.find?_eq_none, List.all_eq_true]
  constructor
  · intro q x hx; have := q x hx; cases e : opG s t x <;> simp_all
  · intro q x hx; rw [q x hx]; decide
theorem all_perm {α : Type} {p : α → Bool} {l l' : List α} (h : l.Perm l') : l.all p = l'.all p := by
  rw [Bool.eq_iff_iff, List.all_eq_true, List.all_eq_true]
  exact ⟨fun q x hx => q x (h.mem_iff.mpr hx), fun q x hx => q x (h.mem_iff.mp hx)⟩
theorem fs_rd {gs : List Gt} (hv : ∀ g ∈ gs, GV g.P g.xs) (s t : Rat) : (fsQ s t (rdG gs)).isNone = gs.all (opG s t) := by
  rw [fs_none, rd_eq, List.all_map, all_perm (ordQ_perm Gt.pl gs)]
  rw [Bool.eq_iff_iff, List.all_eq_true, List.all_eq_true]
  constructor
  · intro q x hx; have := q x hx; rw [← op_nf (hv x hx)]; exact this
  · intro q x hx; show opG s t (nfG x) = true; rw [op_nf (hv x hx)]; exact q x hx
theorem noLs_dGt (gs : List Gt) : noLs (gs.map dGt) = true := noLs_all fun d hd => by
  obtain ⟨g, _, rfl⟩ := List.mem_map.mp hd
  exact noL_dG _ _ _
end EP
namespace EPU
open PySem PySem.Spec PyProof.Rows L2
section
variable {P : Program} {w : World} {A : Around} {E : Value → Shared → Prop} {s : Shared} {a : Addr} {L : List (Addr × List Int)} {es : Array (Int × Value)} {ep : Nat} {t : SetTable}
/-- where the search for the tuple k stands behind c steps -/
abbrev stp (P : Program) (w : World) (t : SetTable) (k : List Int) (c : Nat) : SetTable.Probe := nth t.mask (runAt t.mask (SetTable.bits (thash P w k) % (t.mask + 1)) (SetTable.bits (thash P w k))) c
theorem stp_dummy (k : List Int) (c : Nat) : (stp P w t k c).dummy = none := by
  have key : ∀ (n : Nat) (p : SetTable.Probe), p.dummy = none → (nth t.mask p n).dummy = none := by
    intro n; induction n with
    | zero => intro p h; exact h
    | succ n ih =>
      intro p h
      refine ih (adv t.mask p) ?_
      unfold adv
      split <;> exact h
  exact key c _ rfl
/-- a search that adds nothing -/
theorem look_from (R : SetTR P w s.heap a L es ep t) {x : Addr} {k : List Int} (hx : IsT P w s.heap k x) (hu : A.units < cLine) {K : Nat} (hKf : K < 10 * SetTable.turns t.mask)
    (hK : way t.mask (thash P w k) K ∉ t.place.toList) (hKb : ∀ c, c < K → way t.mask (thash P w k) c ∈ t.place.toList) {Q : SetFound → Shared → Prop}
    (hin : k ∈ L.map (·.2) → ∀ i, Q (.there (some i)) s) (hout : k ∉ L.map (·.2) → ∀ j, Q (.free j false) s) :
    ∀ (f c : Nat) (stand : Option SetTable.Probe), stand.getD (t.probeStart (thash P w k)) = stp P w t k c → c ≤ K → K - c < f →
      (∀ (i : Nat) p, L[i]? = some p → p.2 = k → ∃ c', c ≤ c' ∧ c' < K ∧ t.place.toList[i]? = some (way t.mask (thash P w k) c')) →
      wpAny (model P w) A (setSearchFrom a (.ref x) (thash P w k) false f stand) Q E s := by
  intro f
  induction f with
  | zero => intro c stand _ _ hf _; exact absurd hf (Nat.not_lt_zero _)
  | succ f ih =>
    intro c stand hst hc hf hre
    obtain ⟨o, ho, hex, hd⟩ := R.ob
    have way_at : ∀ q, (nth t.mask (stp P w t k c) q).j = way t.mask (thash P w k) (c + q) := fun q => congrArg SetTable.Probe.j (nth_add t.mask c _ q).symm
    have hash_at : ∀ (i : Nat) p, L[i]? = some p → (es[i]?.map (·.1)).getD 0 = thash P w p.2 := fun i p hp => by rw [R.entry hp]; rfl
    have sp := go_spec t R.tab.ris R.tab.dm (fun i => (es[i]?.map (·.1)).getD 0) (thash P w k) (10 * SetTable.turns t.mask) (K - c) (stp P w t k c) (stp_dummy k c) (by omega)
      (fun q hq => by rw [way_at]; exact hKb (c + q) (by omega)) (by rw [way_at, show c + (K - c) = K by omega]; exact hK)
    rw [setSearchFrom_succ]
    refine wpAny_bind (wpAny_setState_of ho hd R.fits ?_)
    dsimp only
    refine wp_if_neg R.gw ?_
    try refine wpAny_bind (wpAny_pure ?_)
    rcases sp with ⟨q, i, hq, hi, hh, hno, hpr⟩ | ⟨hno, hpr⟩
    · have pr : t.probe (fun i => (es[i]?.map (·.1)).getD 0) (thash P w k) (stand.getD (t.probeStart (thash P w k))) = some (.candidate (way t.mask (thash P w k) (c + q)) i (stp P w t k (c + (q + 1)))) := by
        rw [hst, ← way_at]
        have e9 : stp P w t k (c + (q + 1)) = nth t.mask (stp P w t k c) (q + 1) := nth_add t.mask c _ (q + 1)
        rw [e9]; exact hpr
      rw [pr]
      dsimp only
      rw [way_at] at hi
      have hil : i < L.length := by
        have h1 : i < t.place.toList.length := (List.getElem?_eq_some_iff.mp hi).1
        have h2 := R.tab.sz
        rw [List.length_map] at h2
        rw [Array.length_toList] at h1
        omega
      obtain ⟨p, hp⟩ : ∃ p, L[i]? = some p := ⟨L[i], List.getElem?_eq_getElem hil⟩
      have hm := List.mem_of_getElem? hp
      have live : t.slot (way t.mask (thash P w k) (c + q)) = .live i := slot_live R.tab.ris hi
      have rest : wpAny (model P w) A (searchRest a (.ref x) (thash P w k) false f es t (way t.mask (thash P w k) (c + q)) i (stp P w t k (c + (q + 1)))) Q E s := by
        unfold searchRest
        rw [R.entry hp]
        dsimp only
        refine wpAny_bind (wpAny_holding (wpAny_eqBool_tuple hu (R.tup p hm) hx ?_))
        refine wpAny_bind (wpAny_setState_of ho hd R.fits ?_)
        dsimp only
        refine wp_if_neg (by simp) ?_
        try refine wpAny_bind (wpAny_pure ?_)
        rw [sameMem]
        dsimp only
        simp only [if_true, live, R.entry hp]
        refine wpAny_bind (wpAny_isSame_ref_self (wpAny_bind (wpAny_pure ?_)))
        simp only [if_true]
        by_cases hkk : p.2 = k
        · refine wp_if_pos (by simp [hkk]) ?_
          exact wpAny_pure (hin (List.mem_map.mpr ⟨p, hm, hkk⟩) i)
        · refine wp_if_neg (by simp [hkk]) ?_
          refine ih (c + (q + 1)) _ rfl (by omega) (by omega) fun i0 p0 h0 hk0 => ?_
          obtain ⟨c', a1, a2, a3⟩ := hre i0 p0 h0 hk0
          refine ⟨c', ?_, a2, a3⟩
          rcases (show c' < c + q ∨ c' = c + q ∨ c + q < c' by omega) with z | z | z
          · exact absurd ((hash_at i0 p0 h0).trans (congrArg (thash P w) hk0)) (hno (c' - c) i0 (by omega) (by rw [way_at, show c + (c' - c) = c' by omega]; exact a3))
          · rw [z] at a3
            have s0 := slot_live R.tab.ris a3
            rw [live] at s0
            injection s0 with s0
            rw [← s0, hp] at h0
            exact absurd ((congrArg Prod.snd (Option.some.inj h0)).trans hk0) hkk
          · omega
      by_cases hl : t.led = true
      · refine wp_if_neg (by simp [hl]) ?_
        try refine wpAny_bind (wpAny_pure ?_)
        exact rest
      · refine wp_if_pos (by simp [hl]) ?_
        refine wpAny_bind (seen_tup hx (fun y hy => ?_) ?_)
        · obtain ⟨e, he, ee⟩ := List.mem_map.mp hy
          have he1 : e ∈ es ∧ e.1 = thash P w k := by simpa using he
          have he2 : e ∈ es.toList := by simpa using he1.1
          rw [R.rows] at he2
          obtain ⟨p2, hp2, e2⟩ := List.mem_map.mp he2
          exact ⟨p2.2, p2.1, by rw [← ee, ← e2], R.tup p2 hp2⟩
        · refine wp_if_neg (by decide) ?_
          try refine wpAny_bind (wpAny_pure ?_)
          exact rest
    · have pr : t.probe (fun i => (es[i]?.map (·.1)).getD 0) (thash P w k) (stand.getD (t.probeStart (thash P w k))) = some (.empty (way t.mask (thash P w k) K) none) := by
        have e2 : way t.mask (thash P w k) K = (nth t.mask (stp P w t k c) (K - c)).j := by rw [way_at, show c + (K - c) = K by omega]
        rw [hst, e2]; exact hpr
      rw [pr]
      dsimp only
      refine wpAny_pure (hout (fun hm => ?_) _)
      obtain ⟨p0, h0, hk0⟩ := List.mem_map.mp hm
      obtain ⟨i0, hi0⟩ := List.mem_iff_getElem?.mp h0
      obtain ⟨c', a1, a2, a3⟩ := hre i0 p0 hi0 hk0
      exact hno (c' - c) i0 (by omega) (by rw [way_at, show c + (c' - c) = c' by omega]; exact a3) ((hash_at i0 p0 hi0).trans (congrArg (thash P w) hk0))
theorem find_at (R : SetTR P w s.heap a L es ep t) {x : Addr} {k : List Int} (hx : IsT P w s.heap k x) (hu : A.units < cLine) {Q : Option Nat → Shared → Prop} (hQ : ∀ r : Option Nat, r.isSome = decide (k ∈ L.map (·.2)) → Q r s) :
    wpAny (model P w) A (setFind a (.ref x) (thash P w k)) Q E s := by
  obtain ⟨o, ho, hex, hd⟩ := R.ob
  have hroom := R.room
  obtain ⟨K, hKf, hK, hKb⟩ := R.tab.first (by rw [List.length_map]; omega) (thash P w k)
  have hbig : K < 100000 := by
    have : 10 * SetTable.turns t.mask ≤ 1420 := by
      unfold SetTable.turns
      rcases R.tab.mok with e | e | e <;> omega
    omega
  unfold setFind
  show wpAny _ _ (setFindIn a (.ref x) (thash P w k) (99999 + 1)) _ _ _
  unfold setFindIn
  refine wpAny_bind (wpAny_setState_of ho hd R.fits ?_)
  dsimp only
  refine wp_if_neg (by simp [byScan, Value.scannable]) ?_
  try refine wpAny_bind (wpAny_pure ?_)
  refine wpAny_bind ?_
  unfold setSearch
  refine look_from R hx hu hKf hK hKb (fun hm i => wpAny_pure (hQ _ (by rw [decide_eq_true hm]; rfl))) (fun hm j => wpAny_pure (hQ _ (by rw [decide_eq_false hm]; rfl))) 100000 0 none rfl (Nat.zero_le _) (by omega) fun i p hp hk => ?_
  have hi : (L.map fun p => thash P w p.2)[i]? = some (thash P w k) := by rw [List.getElem?_map, hp, ← hk]; rfl
  have hil : i < t.place.toList.length := by
    have h1 : i < L.length := (List.getElem?_eq_some_iff.mp hp).1
    have h2 := R.tab.sz
    rw [List.length_map] at h2
    rw [Array.length_toList]
    omega
  have hj := List.getElem?_eq_getElem hil
  obtain ⟨c, hc, e⟩ := R.tab.before hK hi hj
  exact ⟨c, Nat.zero_le _, hc, by rw [hj, e]⟩
theorem in_at (R : SetTR P w s.heap a L es ep t) {x : Addr} {k : List Int} (hx : IsT P w s.heap k x) (hu : A.units + 3 < cLine) {Q : Value → Shared → Prop} (h : ∀ tk, Q (.bool (decide (k ∈ L.map (·.2)))) { s with toks := tk }) :
    wpAny (model P w) A (compareOp .In (.ref x) (.ref a)) Q E s := by
  obtain ⟨o, ho, hex, hd⟩ := id R.ob
  have ty : s.TypeIs (.ref a) "set" := ⟨o, ho, hex.1⟩
  show wpAny _ _ (do return .bool (← contains (.ref a) (.ref x))) Q E s
  refine wpAny_bind ?_
  unfold contains
  try with_reducible refine wpAny_holding ?_
  refine wpAny_bind (wpAny_specialOf ty F.slot_set_contains.lookup ?_)
  show wpAny _ _ (if (some (Value.builtin "set.__contains__") == some Value.none) = true then _ else _) _ E s
  rw [if_neg (by rw [beq_builtin_none]; exact Bool.false_ne_true)]
  refine wpAny_bind (wpAny_callSpecialUnlessNone?_slot (name := Str.ofString "__contains__") ty F.slot_set_contains
    (wpAny_call_entry F.slot_set_contains ty entry_set_contains ?_ (F.args_set_contains_2 _ _)))
  unfold Builtin.«frozenset.__contains__» Builtin.Frozenset.oneOther
  simp only [List.isEmpty_nil, bind_assoc]
  unfold Builtin.Frozenset.addrOf Builtin.Frozenset.withSetAsKey setContains
  refine wpAny_bind (wpAny_pure ?_)
  try dsimp only
  refine wpAny_bind (wpAny_pure ?_)
  try dsimp only
  refine wpAny_bind (wpAny_tryCatch ?_)
  refine wpAny_holding ?_
  refine wpAny_bind (wpAny_pyHash_tuple (by show A.units + 1 < cLine; omega) hx ?_)
  refine wpAny_bind (find_at (s := { s with toks := s.toks + (k.length + 1) }) R hx (by show A.units + 1 < cLine; omega) fun r hr => ?_)
  refine wpAny_pure ?_
  show wpAny _ _ (ret (Value.bool r.isSome)) _ _ _
  rw [hr]
  exact wpAny_pure ⟨_, rfl, wpAny_truthy_bool (wpAny_pure (h _))⟩
end
end EPU
namespace EPU
open PySem PySem.Spec PyProof.Rows L2
section
variable {X : Cx} {pins : List (Addr × Obj)} {σ : L2.St} {H : Hp} {s : Shared}
theorem set_get {a : Addr} {L : List (Addr × List Int)} (I : Inv X pins σ H s) (ha : H a = some (SetTO X.prog X.w a L)) (hL : ∀ p ∈ L, SqT X.K H p.1 (p.2.map V.int)) : ∃ es ep t, SetTR X.prog X.w s.heap a L es ep t :=
  ((I.hok a _ ha).1 : SetT0 X.prog X.w s.heap a L).full fun p hp => I.isT (hL p hp)
theorem add_call {A : Around} {E : Value → Shared → Prop} {a x : Addr} {L : List (Addr × List Int)} {k : List Int} {es : Array (Int × Value)} {ep : Nat} {t : SetTable} {Q : Value → Shared → Prop} (R : SetTR X.prog X.w s.heap a L es ep t) (hx : IsT X.prog X.w s.heap k x) (hu : A.units + 3 < cLine) (hfew : L.length + 1 < 64)
    (hQ : ∀ h' tk L' es' ep' t', Heap.SameBut a s.heap h' → SetTR X.prog X.w h' a L' es' ep' t' → (k ∈ L.map (·.2) → L' = L) → (k ∉ L.map (·.2) → L'.Perm ((x, k) :: L)) → Q .none { s with heap := h', toks := tk }) :
    wpAny (model X.prog X.w) A (call (.builtin "set.add") [.ref a, .ref x]) Q E s := by
  obtain ⟨o, ho, hex, hd⟩ := id R.ob
  have ty : s.TypeIs (.ref a) "set" := ⟨o, ho, hex.1⟩
  refine wpAny_call_entry F.slot_set_add ty F.entry_set_add ?_ (F.args_set_add_2 _ _)
  unfold Builtin.«set.add» Builtin.Frozenset.oneOther
  simp only [List.isEmpty_nil, bind_assoc]
  unfold Builtin.Frozenset.addrOf setAdd
  refine wpAny_bind (wpAny_pure ?_)
  try dsimp only
  refine wpAny_bind (wpAny_pure ?_)
  try dsimp only
  refine wpAny_bind ?_
  refine wpAny_holding ?_
  refine wpAny_bind (wpAny_pyHash_tuple (by show A.units + 1 < cLine; omega) hx ?_)
  refine add_at (s := { s with toks := s.toks + (k.length + 1) }) R hx (by show A.units + 1 < cLine; omega) hfew fun b h' L' es' ep' t' sb R' c1 c2 => ?_
  show wpAny _ _ (ret Value.none) _ _ _
  exact wpAny_pure ⟨_, rfl, hQ h' _ L' es' ep' t' sb R' c1 c2⟩
/-- set() -/
def rSetN (P : Program) (w : World) : List V → Hp → VK → Prop := fun xs H Q => xs = [] ∧ ∀ p, H p = none → Q (.ref p) (upd H p (SetTO P w p []))
theorem cr_setN : CallR X (.type "set") (rSetN X.prog X.w) := by
  intro pins s σ H xs us Q I r h
  obtain ⟨rfl, q⟩ := h
  cases r
  refine setR_new fun _ => ?_
  have R := setTR_fresh (P := X.prog) (w := X.w) (h := s.heap.push { cls := .type "set", dict := none, data := .set #[] 0 (.fresh 0 0 (!X.w.params.followText "set-order")) }) (a := s.heap.objs.size) (Heap.get?_push_size _ rfl)
  exact ⟨.ref _, upd H s.heap.objs.size (SetTO X.prog X.w s.heap.objs.size []), I.laid (t' := s.toks) (fun b u e => Heap.get?_push_of_some _ e) (Nat.le_refl _) (setTO_new R.t0), rfl, q _ (I.hok.fresh (Nat.le_refl _))⟩
/-- t in seen -/
def rInT (K : PySem.W.Frag) (P : Program) (w : World) : V → V → Hp → VK → Prop := fun x y H Q => ∃ (t a : Addr) (k : List Int) (L : List (Addr × List Int)), x = V.ref t ∧ y = V.ref a ∧ SqT K H t (k.map V.int) ∧ H a = some (SetTO P w a L) ∧ (∀ p ∈ L, SqT K H p.1 (p.2.map V.int)) ∧ Q (.bl (decide (k ∈ L.map (·.2)))) H
theorem or_inT (hu : X.A.units + 3 < cLine) : OpR X (compareOp .In) (rInT X.K X.prog X.w) := by
  intro pins s σ H x y v u Q I rx ry h
  obtain ⟨t, a, k, L, rfl, rfl, ht, ha, hL, q⟩ := h
  cases rx
  cases ry
  obtain ⟨es, ep, tb, R⟩ := set_get I ha hL
  exact in_at R (I.isT ht) hu fun tk => ⟨.bl _, H, I.kept (fun b o e => e), rfl, q⟩
/-- seen.add(t) -/
def rAddT (K : PySem.W.Frag) (P : Program) (w : World) : V → List V → Hp → VK → Prop := fun x xs H Q => ∃ (t a : Addr) (k : List Int) (L : List (Addr × List Int)), x = V.ref a ∧ xs = [V.ref t] ∧ SqT K H t (k.map V.int) ∧ H a = some (SetTO P w a L) ∧ (∀ p ∈ L, SqT K H p.1 (p.2.map V.int)) ∧ L.length + 1 < 64 ∧ k ∉ L.map (·.2) ∧
  ∀ L', L'.Perm ((t, k) :: L) → Q .non (upd H a (SetTO P w a L'))
theorem mt_addT (hu : X.A.units + 3 < cLine) : MtR X "set.add" (rAddT X.K X.prog X.w) := by
  intro pins s σ H x xs v us Q I rx rxs h
  obtain ⟨t, a, k, L, rfl, rfl, ht, ha, hL, hfew, hk, q⟩ := h
  cases rx
  obtain rfl := Vals.ref1 rxs
  obtain ⟨es, ep, tb, R⟩ := set_get I ha hL
  refine add_call R (I.isT ht) hu hfew fun h' tk L' es' ep' t' sb R' c1 c2 => ?_
  obtain ⟨o', ho', _⟩ := R'.ob
  exact ⟨.non, upd H a (SetTO X.prog X.w a L'), I.write (e := a) (t' := tk) (by rw [ha]; trivial) (.inl rfl) (fun b u hb hu => (sb.2 b hb).trans hu) ⟨o', ho'⟩ (setTO_new R'.t0), rfl, q L' (c2 hk)⟩
def tAddT (K : PySem.W.Frag) (P : Program) (w : World) (to : TE) (t : TA) : TE := fun σ H Q => to σ H fun x H1 => (∃ a L, x = V.ref a ∧ H1 a = some (SetTO P w a L)) ∧ t σ H1 fun xs H2 => rAddT K P w x xs H2 Q
theorem pe_addT {o e : Expr} {es : List Expr} {to : TE} {t : TA} {apos cpos : Pos} (hu : X.A.units + 3 < cLine) (ho : PE X o to) (ha : PA X (e :: es) t)
    (hbase : attributeBase o "add" X.env (eval o X.env) = eval o X.env := by rfl)
    (hfew : ((backTo cpos (starEach (e :: es) X.env)).all (fun x => !x.1) && (backToKw cpos (keywordEach [] X.env)).all (fun x => x.1.isSome)
      && decide ((e :: es).length + ([] : List Keyword).length + (if ([] : List Keyword).isEmpty then 0 else 1) < 30)) = true := by rfl)
    (hline : (apos.endLine == cpos.line) = true := by rfl) (hs : starEach (e :: es) X.env = (false, eval e X.env) :: starEach es X.env := by rfl) (hplain : (backTo cpos (starEach es X.env)).any (·.1) = false := by rfl) :
    PE X (.Call (.Attribute o "add" apos) (e :: es) [] cpos) (tAddT X.K X.prog X.w to t) := by
  refine ⟨fun pins s σ H Q I h => ?_⟩
  refine wpAny_Call_method_late hbase hfew hline rfl (thn (ho.run pins s σ H _ I h) fun v s1 ⟨x, H1, I1, r1, ty, q1⟩ => ?_)
  obtain ⟨a, L, rfl, hka⟩ := ty
  cases r1
  obtain ⟨es', ep', t', ⟨ob, hob, hex, hdt⟩, _⟩ := ((I1.hok a _ hka).1 : SetT0 X.prog X.w s1.heap a L).ex
  refine ⟨"set", "set.add", F.plainAttrs_set, F.slot_set_add, F.type_set_add, ⟨ob, hob, hex.1⟩, ?_, ?_⟩
  · intro b e
    cases e
    exact ⟨ob, hob, hex.2.1⟩
  have hA := ha.run cpos pins s1 σ H1 _ I1 q1
  rw [hs] at hA ⊢
  refine Calls.callWith_builtin (by show (false || (backTo cpos (starEach es X.env)).any (·.1)) = false; rw [hplain] <;> rfl) (Calls.evalArgs_plain ?_)
  exact thn hA fun us s2 ⟨vs, H2, I2, r2, q2⟩ => mt_addT hu pins s2 σ H2 (.ref a) vs (.ref a) us Q I2 rfl r2 q2
end
end EPU
namespace EPU
open PySem PySem.Spec PyProof.Rows L2
/-- o.m(e, .., k = v, ..) -/
def tMethN (C : Addr) (m : Str) (n j : Nat) (sp : Sp) (gV : List V → List V → List V) (E : XK) (ta : TE) (t tk : TA) : TE := fun σ H Q => ta σ H fun x H1 => ∃ a dx fs, x = .ref a ∧ H1 a = some (.ins C dx fs) ∧ fs.lookup m = none ∧
  t σ H1 fun vs H2 => tk σ H2 fun zs H3 => (x :: vs).length = n ∧ zs.length = j ∧ sp (gV (x :: vs) zs) H3 Q E
theorem pe_methN {X : Cx} {CX : CXT} {k n : Nat} {f C : Addr} {fd : FuncData} {ps ks : List Str} {sp : Sp} {E : XK} {m : Str} {apos pos : Pos} {o e : Expr} {es : List Expr} {kws : List Keyword} {ta : TE} {t tk : TA} {g : List Value → List Value → List Value} {gV : List V → List V → List V} {pl : Sem Bool}
    (he : PE X o ta) (c : Cls X.K C) (hm : Meth X.K C m f) (F : FnOk X.prog X.w X.K X.mg X.base CX k f fd ps sp) (hr : Room k X.A) (hb : KBn X.K fd ps n ks g gV) (hx : Passes CX X E) (ha : PA X (e :: es) t) (hkw : PK X kws tk)
    (hall : (backToKw pos (keywordEach kws X.env)).all (·.1.isSome) = true := by rfl) (hks : (backToKw pos (keywordEach kws X.env)).filterMap (·.1) = ks := by rfl)
    (hst : starEach (e :: es) X.env = (false, eval e X.env) :: starEach es X.env := by rfl) (hpl : ((backTo pos (starEach (e :: es) X.env)).any (·.1) || (backToKw pos (keywordEach kws X.env)).any (·.1.isNone)) = false := by rfl)
    (ht : eval (.Call (.Attribute o m apos) (e :: es) kws pos) X.env = (do
      let ov ← eval o X.env
      standAt apos.atName
      let (f, first) ← holding [ov] (getMethod ov m pl)
      callWith pos f first (backTo pos (starEach (e :: es) X.env)) (backToKw pos (keywordEach kws X.env))) := by rfl) :
    PE X (.Call (.Attribute o m apos) (e :: es) kws pos) (tMethN C m n ks.length sp gV E ta t tk) := by
  refine ⟨fun pins s σ H Q I h => ?_⟩
  refine PySem.W.methodCall_KW (pl := pl) (thn (he.run pins s σ H _ I h) fun u s1 ⟨x, H1, I1, rx, a, dx, fs, ex, ea, l, q⟩ => ?_) ht
  subst ex
  obtain rfl : u = Value.ref a := rx
  refine getmeth_ok I1 ea c hm l ?_
  refine PySem.W.callWith_KW (first := [.ref a]) (h₀ := X.base) I.ok.mod.kin hm.kp hall (thn (ha.run pos pins s1 σ H1 _ I1 q) fun us s2 ⟨vs, H2, I2, r, q2⟩ => ?_) hpl hst
  refine thn (hkw.run pos pins s2 σ H2 _ I2 q2) fun ws s3 ⟨zs, H3, I3, rz, l1, l2, q3⟩ => ⟨I3.kIn, ?_⟩
  rw [hks]
  exact run_fnN (us := .ref a :: us) (vs := .ref a :: vs) F hr hb hx I3 (.cons rfl r) rz l1 l2 q3
end EPU
namespace EP
open PySem PySem.Spec PyProof.Rows L2
/-! ### a road in the heap -/
structure Rd (K : PySem.W.Frag) (C : Addr) (H : Hp) (a : Addr) (gs : List Gt) : Prop where
  ex : ∃ dx l ys, H a = some (.ins C dx [("kept", .ref l)]) ∧ H l = some (.lst ys) ∧ DpAll K H ys (gs.map dGt)
/-- a new road: its list is new, too -/
structure RdF (K : PySem.W.Frag) (C : Addr) (H H' : Hp) (a : Addr) (gs : List Gt) : Prop where
  ex : ∃ dx l ys, H' a = some (.ins C dx [("kept", .ref l)]) ∧ EPS.Fz H l ∧ H' l = some (.lst ys) ∧ DpAll K H' ys (gs.map dGt)
theorem RdF.rd {K : PySem.W.Frag} {C : Addr} {H H' : Hp} {a : Addr} {gs : List Gt} (h : RdF K C H H' a gs) : Rd K C H' a gs := by
  obtain ⟨dx, l, ys, h1, _, h2, h3⟩ := h.ex
  exact ⟨dx, l, ys, h1, h2, h3⟩
theorem RdF.xt {K : PySem.W.Frag} {C : Addr} {H0 H H' : Hp} {a : Addr} {gs : List Gt} (h : RdF K C H H' a gs) (s : LamX.ExtN H0 H) : RdF K C H0 H' a gs := by
  obtain ⟨dx, l, ys, h1, f, h2, h3⟩ := h.ex
  exact ⟨dx, l, ys, h1, f.xt s, h2, h3⟩
section
variable {K : PySem.W.Frag} {C : Addr} {H H' : Hp}
theorem Rd.xt {a : Addr} {gs : List Gt} (h : Rd K C H a gs) (s : Xt H H') : Rd K C H' a gs := by
  obtain ⟨dx, l, ys, h1, h2, h3⟩ := h.ex
  exact ⟨dx, l, ys, s _ _ h1 (fun ps z => by cases z), s _ _ h2 (fun ps z => by cases z), DpAllX s h3⟩
theorem Rd.same {a : Addr} {gs : List Gt} (h : Rd K C H a gs) (s : Same H H') : Rd K C H' a gs := h.xt s.xt
/-- a list of gates is not the generator -/
theorem gts_ne {r l : Addr} {ys : List V} {gs : List Gt} (R : Rng H r) (hl : H l = some (.lst ys)) (h : DpAll K H ys (gs.map dGt)) : l ≠ r := by
  rintro rfl
  obtain ⟨L, ns, i, c, s, h1, _⟩ := R
  rw [hl] at h1
  cases Option.some.inj h1
  obtain ⟨d, g1, g2⟩ := DpAll_get (i := 1) h rfl
  rw [List.getElem?_map] at g1
  cases e : gs[1]? with
  | none => rw [e] at g1; cases g1
  | some g => rw [e] at g1; cases Option.some.inj g1; cases g2
theorem Rd.mo {r a : Addr} {gs : List Gt} (h : Rd K C H a gs) (m : Mo r H H') : Rd K C H' a gs := by
  obtain ⟨dx, l, ys, h1, h2, h3⟩ := h.ex
  obtain ⟨L, ns, i, c, s, g1, _⟩ := id m.a
  refine ⟨dx, l, ys, m.g _ _ (fun z => ?_) h1, m.g _ _ (gts_ne m.a h2 h3) h2, DpAll_mo m h3 (noLs_dGt gs)⟩
  rw [z, g1] at h1; cases h1
theorem xt_new {H0 : Hp} {p : Addr} {o : HO} (n : H0 p = none) (s : Xt H0 H) : Xt H0 (upd H p o) := fun b u e nt => by
  rw [upd_ne (ne_of_none e n)]; exact s b u e nt
theorem same_new {H0 : Hp} {p : Addr} {o : HO} (n : H0 p = none) (s : Same H0 H) : Same H0 (upd H p o) := fun b u e => by
  rw [upd_ne (ne_of_none e n)]; exact s b u e
/-- what is no sequence may change -/
theorem sqt_ins {p q : Addr} {c dx : Addr} {fs : List (Str × V)} {o : HO} {xs : List V} (hp : H p = some (.ins c dx fs)) (h : SqT K H q xs) : SqT K (upd H p o) q xs := by
  rcases h with (h | ⟨u, h⟩) | h
  · exact .inl (.inl (by rw [upd_ne (fun z => by rw [z, hp] at h; cases h)]; exact h))
  · exact .inl (.inr ⟨u, by rw [upd_ne (fun z => by rw [z, hp] at h; cases h)]; exact h⟩)
  · exact .inr h
theorem sql_ins {p q : Addr} {c dx : Addr} {fs : List (Str × V)} {o : HO} {xs : List V} (hp : H p = some (.ins c dx fs)) (h : SqL K H q xs) : SqL K (upd H p o) q xs := by
  rcases h with (h | ⟨u, h⟩) | h
  · exact .inl (.inl (by rw [upd_ne (fun z => by rw [z, hp] at h; cases h)]; exact h))
  · exact .inl (.inr ⟨u, by rw [upd_ne (fun z => by rw [z, hp] at h; cases h)]; exact h⟩)
  · exact .inr h
end
mutual
theorem Dp_ins {K : PySem.W.Frag} {H : Hp} {p c dx : Addr} {fs : List (Str × V)} {o : HO} (hp : H p = some (.ins c dx fs)) : ∀ {v : V} {d : PyData}, Dp K H v d → Dp K (upd H p o) v d
  | _, _, .non => .non
  | _, _, .bl b => .bl b
  | _, _, .int i => .int i
  | _, _, .str x => .str x
  | _, _, .lst h a => .lst (sql_ins hp h) (DpAll_ins hp a)
  | _, _, .tup h a => .tup (sqt_ins hp h) (DpAll_ins hp a)
theorem DpAll_ins {K : PySem.W.Frag} {H : Hp} {p c dx : Addr} {fs : List (Str × V)} {o : HO} (hp : H p = some (.ins c dx fs)) : ∀ {v : List V} {d : List PyData}, DpAll K H v d → DpAll K (upd H p o) v d
  | _, _, .nil => .nil
  | _, _, .cons h a => .cons (Dp_ins hp h) (DpAll_ins hp a)
end
theorem Tbs.ins {TT : List (Addr × Str)} {H : Hp} {p c dx : Addr} {fs : List (Str × V)} {o : HO} (t : Tbs TT H) (hp : H p = some (.ins c dx fs)) : Tbs TT (upd H p o) := fun q hq => by
  obtain ⟨ps, e1, e2, e3⟩ := t q hq
  refine ⟨ps, by rw [upd_ne (fun z => by rw [z, hp] at e1; cases e1)]; exact e1, e2, fun pos cv hc => ?_⟩
  obtain ⟨c0, f1, f2⟩ := e3 pos cv hc
  exact ⟨c0, f1, by rw [upd_ne (fun z => by rw [z, hp] at f2; unfold LamX.CodeO at f2; cases f2)]; exact f2⟩
theorem lk_kept {v : V} : List.lookup ("kept" : Str) [(("kept" : Str), v)] = some v := by
  have e : (("kept" : Str) == ("kept" : Str)) = true := by decide +kernel
  simp only [List.lookup, e]
theorem dG_in {K : PySem.W.Frag} {H : Hp} {v : V} {g : Gt} (h : Dp K H v (dGt g)) : ∃ p x y z, v = .ref p ∧ SqT K H p [x, y, z] ∧ Dp K H x (dq g.pl) ∧ Dp K H y (dq g.P) ∧ Dp K H z (.tuple (g.xs.map dsp)) := dp_three h
theorem _root_.L2.Room.u3 {k : Nat} {A : Around} (r : Room k A) : A.units + 3 < cLine := by have := r.units; omega
end EP
namespace EP
open PySem PySem.Spec PyProof.Rows L2
theorem noLs_take : ∀ (n : Nat) (l : List PyData), noLs l = true → noLs (l.take n) = true := by
  intro n; induction n with
  | zero => intro l _; simp [noLs]
  | succ n ih => intro l h; cases l with
    | nil => simp [noLs]
    | cons a l => simp only [noLs, Bool.and_eq_true, List.take_succ_cons] at h ⊢; exact ⟨h.1, ih l h.2⟩
/-- one value for each item, by a def that makes lambdas -/
theorem lc_mapX {K : PySem.W.Frag} {TT' : List (Addr × Str)} {J : It} {n : Nat} {G : Hp → Prop} {Y : Nat → Hp → V → Hp → Prop} (w : Walk J n G Y) {g : TG} {te : TE} {vs : List Nat} {σ : L2.St} {H : Hp} {D : Addr} {Qd : Hp → Prop} (ds : List PyData) (nD : H D = none) (hn : ds.length = n) (hl : n < 1000)
    (hno : noLs ds = true) (hT : Tbs TT' H) (hG : ∀ H', Xt H H' → G H')
    (hs : ∀ i x d H' H2, i < n → ds[i]? = some d → Xt H H' → Tbs TT' H' → Y i H' x H2 → ∀ R : V → Hp → Prop, (∀ y H4, Xt H' H4 → Tbs TT' H4 → Dp K H4 y d → R y H4) → g x (wipe σ vs) H2 fun σ2 H3 => wipe σ2 vs = wipe σ vs ∧ te σ2 H3 R)
    (q : ∀ H' us, Xt H H' → Tbs TT' H' → H' D = some (.lst us) → DpAll K H' us ds → Qd H') :
    ∃ W : Nat → Nat → Hp → Prop, (∃ m, W 0 m (upd H D (.lst []))) ∧ ∀ i m H, W i m H →
      (J.stop i H ∧ Qd H) ∨ (J.go i H ∧ ∃ Nx : Hp → Prop, (∀ H', Nx H' → ∃ m', m' < m ∧ W (i + 1) m' H') ∧ ∀ x H', J.yld i H x H' → g x (wipe σ vs) H' fun σ2 H2 => wipe σ2 vs = wipe σ vs ∧ tYes σ2 H2 fun b H3 =>
        if b = true then te σ2 H3 fun y H4 => ∃ acc, H4 D = some (.lst acc) ∧ acc.length < sizeLine ∧ Nx (upd H4 D (.lst (acc ++ [y]))) else Nx H3) := by
  refine lc_it w (fun i H' => Xt H H' ∧ Tbs TT' H' ∧ ∃ us, H' D = some (.lst us) ∧ DpAll K H' us (ds.take i)) ⟨(same_upd nD).xt, hT.same (same_upd nD), [], upd_same, .nil⟩ (fun i H' _ h => hG H' h.1) ?_ ?_
  · rintro i x H1 H2 hi ⟨sH, tH, us, hD, hu⟩ hy
    have hi' : i < ds.length := by omega
    refine hs i x ds[i] H1 H2 hi (List.getElem?_eq_getElem hi') sH tH hy _ (fun y H4 s4 t4 dy => ?_)
    have hD4 := s4 _ _ hD (fun ps z => by cases z)
    have hlen := DpAll_len hu
    rw [List.length_take] at hlen
    refine ⟨us, hD4, Nat.lt_of_lt_of_le (show us.length < 1000 by omega) (by decide), ?_, t4.mut hD4, us ++ [y], upd_same, ?_⟩
    · exact xt_new nD (sH.trans s4)
    · have e : ds.take (i + 1) = ds.take i ++ [ds[i]] := by rw [List.take_add_one, List.getElem?_eq_getElem hi']; rfl
      rw [e]
      refine DpAll_mut hD4 (DpAll_snoc dy (DpAllX s4 hu)) ?_
      rw [← e]
      exact noLs_take _ _ hno
  · rintro H1 ⟨sH, tH, us, hD, hu⟩
    rw [← hn, List.take_length] at hu
    exact q H1 us sH tH hD hu
/-- one drawn value for each item -/
theorem lc_mo {α : Type} {K : PySem.W.Frag} {r : Addr} {J : It} {n : Nat} {G : Hp → Prop} {Y : Nat → Hp → V → Hp → Prop} (w : Walk J n G Y) {g : TG} {te : TE} {vs : List Nat} {σ : L2.St} {H : Hp} {D : Addr} {Qd : Hp → Prop} (f : α → PyData) (Rl : Nat → α → Prop) (nD : H D = none) (hl : n < 1000)
    (hno : ∀ z, noL (f z) = true) (hR : Rng H r) (hG : ∀ H', Mo r H H' → G H')
    (hs : ∀ i x H' H2, i < n → Mo r H H' → Y i H' x H2 → ∀ R : V → Hp → Prop, (∀ y z H4, Mo r H' H4 → Dp K H4 y (f z) → Rl i z → R y H4) → g x (wipe σ vs) H2 fun σ2 H3 => wipe σ2 vs = wipe σ vs ∧ te σ2 H3 R)
    (q : ∀ H' us (zs : List α), Mo r H H' → H' D = some (.lst us) → DpAll K H' us (zs.map f) → zs.length = n → (∀ (j : Nat) z, zs[j]? = some z → Rl j z) → Qd H') :
    ∃ W : Nat → Nat → Hp → Prop, (∃ m, W 0 m (upd H D (.lst []))) ∧ ∀ i m H, W i m H →
      (J.stop i H ∧ Qd H) ∨ (J.go i H ∧ ∃ Nx : Hp → Prop, (∀ H', Nx H' → ∃ m', m' < m ∧ W (i + 1) m' H') ∧ ∀ x H', J.yld i H x H' → g x (wipe σ vs) H' fun σ2 H2 => wipe σ2 vs = wipe σ vs ∧ tYes σ2 H2 fun b H3 =>
        if b = true then te σ2 H3 fun y H4 => ∃ acc, H4 D = some (.lst acc) ∧ acc.length < sizeLine ∧ Nx (upd H4 D (.lst (acc ++ [y]))) else Nx H3) := by
  have Dr : D ≠ r := fun z => by
    obtain ⟨L, ns, i, c, s, h1, _⟩ := hR
    rw [z] at nD; rw [nD] at h1; cases h1
  refine lc_it w (fun i H' => Mo r H H' ∧ ∃ us, ∃ zs : List α, H' D = some (.lst us) ∧ DpAll K H' us (zs.map f) ∧ zs.length = i ∧ ∀ (j : Nat) z, zs[j]? = some z → Rl j z) ⟨Mo.new hR nD, [], [], upd_same, .nil, rfl, fun j z h => by cases h⟩ (fun i H' _ h => hG H' h.1) ?_ ?_
  · rintro i x H1 H2 hi ⟨mH, us, zs, hD, hu, hz, hj⟩ hy
    refine hs i x H1 H2 hi mH hy _ (fun y z H4 m4 dy hr => ?_)
    have hD4 := m4.g _ _ Dr hD
    have hlen := DpAll_len hu
    rw [List.length_map] at hlen
    refine ⟨us, hD4, Nat.lt_of_lt_of_le (show us.length < 1000 by omega) (by decide), (mH.trans m4).mut nD, us ++ [y], zs ++ [z], upd_same, ?_, ?_, fun j u hu' => ?_⟩
    · rw [List.map_append]
      refine DpAll_mut hD4 (DpAll_snoc dy (DpAll_mo m4 hu (noLs_all fun d hd => ?_))) (noLs_all fun d hd => ?_)
      · obtain ⟨a, _, rfl⟩ := List.mem_map.mp hd; exact hno a
      · rw [← List.map_append] at hd
        obtain ⟨a, _, rfl⟩ := List.mem_map.mp hd; exact hno a
    · rw [List.length_append, hz]; rfl
    · by_cases h : j < zs.length
      · rw [List.getElem?_append_left h] at hu'; exact hj j u hu'
      · rw [List.getElem?_append_right (by omega)] at hu'
        have e0 : j - zs.length = 0 := by
          have := (List.getElem?_eq_some_iff.mp hu').1
          simp at this; omega
        rw [e0] at hu'
        cases Option.some.inj hu'
        rw [show j = i by omega]; exact hr
  · rintro H1 ⟨mH, us, zs, hD, hu, hz, hj⟩
    exact q H1 us zs mH hD hu hz hj
/-! ### lists of gates compared -/
theorem lay_dGt (g : Gt) : PyData.canLay0 (dGt g) = true := by
  simp only [dGt, dG, PyData.canLay0, PyData.canLayAll0, lay_dq, lays_dsp, Bool.and_self]
theorem dep_dGt (g : Gt) : PyData.depth (dGt g) ≤ 10 := by
  have h1 := dep_dq g.pl; have h2 := dep_dq g.P; have h3 := deps_dsp g.xs
  simp only [dGt, dG, PyData.depth, PyData.depthAll]; omega
theorem lay_Lg (gs : List Gt) : PyData.canLay0 (.list (gs.map dGt)) = true := by
  simp only [PyData.canLay0]
  exact lays_of fun d h => by obtain ⟨x, _, rfl⟩ := List.mem_map.mp h; exact lay_dGt x
theorem sh_Lg (gs : List Gt) : SeqAt.shaped (.list (gs.map dGt)) = true := by
  refine shaped_of (lay_Lg gs) ?_
  have := deps_of (n := 10) (ds := gs.map dGt) fun d h => by obtain ⟨x, _, rfl⟩ := List.mem_map.mp h; exact dep_dGt x
  simp only [PyData.depth]; omega
theorem eqv_Lg (gs : List Gt) : PyData.eqv (.list (gs.map dGt)) (.list (gs.map dGt)) = true := SeqAt.eqv_refl _ (lay_Lg gs)
/-- two roads with the same gates -/
def RdEq (K : PySem.W.Frag) (C : Addr) (a b : Addr) (H : Hp) : Prop := ∃ gs, Rd K C H a gs ∧ Rd K C H b gs
theorem RdEq.ins {K : PySem.W.Frag} {C a b : Addr} {H : Hp} {gs : List Gt} (h : Rd K C H a gs) (k : Rd K C H b gs) : DIns C (RdEq K C) (.ref a) (.ref b) H := by
  obtain ⟨dx, l, ys, h1, _⟩ := id h.ex
  obtain ⟨dy, l2, ys2, h2, _⟩ := id k.ex
  exact ⟨a, b, dx, dy, _, _, rfl, rfl, h1, h2, gs, h, k⟩
end EP
namespace EP
open PySem PySem.Spec PyProof.Rows L2
theorem Ov.mul {D E : Int} {n m : Nat} {p q : Rat} (h : Ov D n p) (k : Ov E m q) : Ov (D * E) (n + m) (p * q) := by
  obtain ⟨z, e, b⟩ := h; obtain ⟨y, f, c⟩ := k
  exact ⟨z * y, by rw [Rat.intCast_mul, Rat.intCast_mul, ← e, ← f]; grind, b.mul c⟩
theorem Ov.zero {D : Int} {n : Nat} : Ov D n 0 := ⟨0, by rw [Rat.intCast_zero]; grind, by unfold B; exact Nat.two_pow_pos n⟩
/-- sizes of a normal gate -/
structure Szd (D : Int) (n : Nat) (g : Gt) : Prop where
  d : 0 < D
  z : (g.xs = [] ∧ g.P = 1) ∨ Gz D n g.P g.xs
theorem lf_nil (P : Rat) : lfQ P [] = (1, []) := rfl
theorem Szd.nf {D : Int} {n : Nat} {g : Gt} (z : Gz D n g.P g.xs) : Szd D (n + 1) (nfG g) := by
  refine ⟨z.d, ?_⟩
  by_cases h : g.xs = []
  · left
    unfold nfG
    rw [h]
    exact ⟨rfl, rfl⟩
  · right
    exact z.lf (fun e => h (List.length_eq_zero_iff.mp e))
theorem dl_nil (P d : Rat) : dlQ P [] d = [] := by
  have := dl_len P [] d
  exact List.length_eq_zero_iff.mp this
theorem Szd.late {D e : Int} {n m k j : Nat} {g : Gt} {x v : Rat} (s : Szd D n g) (ng : NG g) (he : 0 < e) (be : B m e) (h : Ov e k (x + v * g.pl)) (bD : B j D) (hk : n + m ≤ j + k) : Szd (D * e) (n + m) (dlG x v g) := by
  refine ⟨Int.mul_pos s.d he, ?_⟩
  rw [ng.dlE]
  rcases s.z with ⟨h1, h2⟩ | z
  · left
    dsimp only
    rw [h1]
    exact ⟨dl_nil _ _, h2⟩
  · right
    exact z.delay he be (h.wideL bD) hk
end EP
namespace EP
theorem rd_asc {gs : List Gt} (nd : (gs.map Gt.pl).Nodup) : ((ordQ Gt.pl gs).map Gt.pl).Pairwise (· < ·) :=
  le_lt (List.pairwise_map.mpr (ordQ_sorted Gt.pl gs)) (((ordQ_perm Gt.pl gs).map Gt.pl).nodup_iff.mpr nd)
end EP
namespace EP
open PySem PySem.Spec PyProof.Rows L2
/-! ### what a law has at hand: data without lists, lists, roads -/
structure Ev (K : PySem.W.Frag) (TT : List (Addr × Str)) (C r0 : Addr) (ds : List (List V × List PyData)) (ls : List (Addr × List V)) (rs : List (Addr × List Gt)) (H : Hp) : Prop where
  r : Rng H r0
  t : Tbs TT H
  d : ∀ p ∈ ds, noLs p.2 = true ∧ DpAll K H p.1 p.2
  l : ∀ p ∈ ls, p.1 ≠ r0 ∧ H p.1 = some (.lst p.2)
  a : ∀ p ∈ rs, Rd K C H p.1 p.2
section
variable {K : PySem.W.Frag} {TT : List (Addr × Str)} {C r : Addr} {ds : List (List V × List PyData)} {ls : List (Addr × List V)} {rs : List (Addr × List Gt)} {H H' : Hp}
theorem Ev.mo (B : Ev K TT C r ds ls rs H) (m : Mo r H H') : Ev K TT C r ds ls rs H' :=
  ⟨m.b, B.t.mo m, fun p hp => ⟨(B.d p hp).1, DpAll_mo m (B.d p hp).2 (B.d p hp).1⟩, fun p hp => ⟨(B.l p hp).1, m.g _ _ (B.l p hp).1 (B.l p hp).2⟩, fun p hp => (B.a p hp).mo m⟩
theorem Ev.xt (B : Ev K TT C r ds ls rs H) (s : Xt H H') (t : Tbs TT H') : Ev K TT C r ds ls rs H' :=
  ⟨B.r.xt s, t, fun p hp => ⟨(B.d p hp).1, DpAllX s (B.d p hp).2⟩, fun p hp => ⟨(B.l p hp).1, s _ _ (B.l p hp).2 (fun ps z => by cases z)⟩, fun p hp => (B.a p hp).xt s⟩
theorem Ev.same (B : Ev K TT C r ds ls rs H) (s : Same H H') : Ev K TT C r ds ls rs H' := B.xt s.xt (B.t.same s)
theorem Ev.addD (B : Ev K TT C r ds ls rs H) {v : V} {d : PyData} (h : Dp K H v d) (n : noL d = true) : Ev K TT C r (([v], [d]) :: ds) ls rs H :=
  ⟨B.r, B.t, fun p hp => by
    rcases List.mem_cons.mp hp with rfl | hp
    · exact ⟨by simp only [noLs, n, Bool.and_self], .cons h .nil⟩
    · exact B.d p hp, B.l, B.a⟩
theorem Ev.addA (B : Ev K TT C r ds ls rs H) {v : List V} {d : List PyData} (h : DpAll K H v d) (n : noLs d = true) : Ev K TT C r ((v, d) :: ds) ls rs H :=
  ⟨B.r, B.t, fun p hp => by
    rcases List.mem_cons.mp hp with rfl | hp
    · exact ⟨n, h⟩
    · exact B.d p hp, B.l, B.a⟩
theorem Ev.addL (B : Ev K TT C r ds ls rs H) {a : Addr} {v : List V} (n : a ≠ r) (h : H a = some (.lst v)) : Ev K TT C r ds ((a, v) :: ls) rs H :=
  ⟨B.r, B.t, B.d, fun p hp => by
    rcases List.mem_cons.mp hp with rfl | hp
    · exact ⟨n, h⟩
    · exact B.l p hp, B.a⟩
theorem Ev.addR (B : Ev K TT C r ds ls rs H) {a : Addr} {hs : List Gt} (h : Rd K C H a hs) : Ev K TT C r ds ls ((a, hs) :: rs) H :=
  ⟨B.r, B.t, B.d, B.l, fun p hp => by
    rcases List.mem_cons.mp hp with rfl | hp
    · exact h
    · exact B.a p hp⟩
theorem Ev.dp (B : Ev K TT C r ds ls rs H) {v : V} {d : PyData} (h : ([v], [d]) ∈ ds) : Dp K H v d := by
  have := (B.d _ h).2
  cases this with
  | cons a _ => exact a
/-- a fresh object leaves everything -/
theorem Ev.new (B : Ev K TT C r ds ls rs H) {p : Addr} {o : HO} (n : H p = none) : Ev K TT C r ds ls rs (upd H p o) := B.same (same_upd n)
theorem Ev.ne (B : Ev K TT C r ds ls rs H) {p : Addr} (n : H p = none) : p ≠ r := B.r.ne n
/-- fewer things -/
theorem Ev.sub (B : Ev K TT C r ds ls rs H) {ds' : List (List V × List PyData)} {ls' : List (Addr × List V)} {rs' : List (Addr × List Gt)} (h1 : ∀ p ∈ ds', p ∈ ds) (h2 : ∀ p ∈ ls', p ∈ ls) (h3 : ∀ p ∈ rs', p ∈ rs) : Ev K TT C r ds' ls' rs' H :=
  ⟨B.r, B.t, fun p hp => B.d p (h1 p hp), fun p hp => B.l p (h2 p hp), fun p hp => B.a p (h3 p hp)⟩
end
theorem deps_dq : ∀ qs : List Rat, deps (qs.map dq) ≤ 1
  | [] => by simp [deps]
  | q :: qs => by have := deps_dq qs; simp only [List.map_cons, deps, dq, dep]; omega
theorem wds_dq : ∀ qs : List Rat, wds (qs.map dq) ≤ 2
  | [] => by simp [wds]
  | q :: qs => by have := wds_dq qs; simp only [List.map_cons, wds, dq, wd, List.length_cons, List.length_nil]; omega
/-- a road whose list is not D -/
structure RdN (K : PySem.W.Frag) (C : Addr) (H : Hp) (a D : Addr) (gs : List Gt) : Prop where
  ex : ∃ dx l ys, H a = some (.ins C dx [("kept", .ref l)]) ∧ l ≠ D ∧ H l = some (.lst ys) ∧ DpAll K H ys (gs.map dGt)
theorem RdN.rd {K : PySem.W.Frag} {C : Addr} {H : Hp} {a D : Addr} {gs : List Gt} (h : RdN K C H a D gs) : Rd K C H a gs := by
  obtain ⟨dx, l, ys, h1, _, h2, h3⟩ := h.ex
  exact ⟨dx, l, ys, h1, h2, h3⟩
theorem RdN.xt {K : PySem.W.Frag} {C : Addr} {H H' : Hp} {a D : Addr} {gs : List Gt} (h : RdN K C H a D gs) (s : Xt H H') : RdN K C H' a D gs := by
  obtain ⟨dx, l, ys, h1, n, h2, h3⟩ := h.ex
  exact ⟨dx, l, ys, s _ _ h1 (fun ps z => by cases z), n, s _ _ h2 (fun ps z => by cases z), DpAllX s h3⟩
theorem RdN.mut {K : PySem.W.Frag} {C : Addr} {H : Hp} {a D : Addr} {gs : List Gt} {o : HO} {xs : List V} (h : RdN K C H a D gs) (hD : H D = some (.lst xs)) : RdN K C (upd H D o) a D gs := by
  obtain ⟨dx, l, ys, h1, n, h2, h3⟩ := h.ex
  exact ⟨dx, l, ys, by rw [upd_ne (fun z => by rw [z, hD] at h1; cases h1)]; exact h1, n, by rw [upd_ne n]; exact h2, DpAll_mut hD h3 (noLs_dGt gs)⟩
theorem RdF.n {K : PySem.W.Frag} {C : Addr} {H H' : Hp} {a D : Addr} {gs : List Gt} {xs : List V} (h : RdF K C H H' a gs) (hD : H D = some (.lst xs)) : RdN K C H' a D gs := by
  obtain ⟨dx, l, ys, h1, f, h2, h3⟩ := h.ex
  exact ⟨dx, l, ys, h1, f.ne hD, h2, h3⟩
/-- a road for each item -/
theorem lc_rd {K : PySem.W.Frag} {TT' : List (Addr × Str)} {C : Addr} {J : It} {n : Nat} {G : Hp → Prop} {Y : Nat → Hp → V → Hp → Prop} (w : Walk J n G Y) {g : TG} {te : TE} {vs : List Nat} {σ : L2.St} {H : Hp} {D : Addr} {Qd : Hp → Prop} (gss : List (List Gt)) (nD : H D = none) (hn : gss.length = n) (hl : n < 1000)
    (hT : Tbs TT' H) (hG : ∀ H', Xt H H' → G H')
    (hs : ∀ i x gs H' H2, i < n → gss[i]? = some gs → Xt H H' → Tbs TT' H' → Y i H' x H2 → ∀ R : V → Hp → Prop, (∀ b H4, Xt H' H4 → Tbs TT' H4 → RdF K C H' H4 b gs → R (.ref b) H4) → g x (wipe σ vs) H2 fun σ2 H3 => wipe σ2 vs = wipe σ vs ∧ te σ2 H3 R)
    (q : ∀ H' (bs : List Addr), Xt H H' → Tbs TT' H' → H' D = some (.lst (bs.map V.ref)) → bs.length = n → (∀ (i : Nat) b gs, bs[i]? = some b → gss[i]? = some gs → Rd K C H' b gs) → Qd H') :
    ∃ W : Nat → Nat → Hp → Prop, (∃ m, W 0 m (upd H D (.lst []))) ∧ ∀ i m H, W i m H →
      (J.stop i H ∧ Qd H) ∨ (J.go i H ∧ ∃ Nx : Hp → Prop, (∀ H', Nx H' → ∃ m', m' < m ∧ W (i + 1) m' H') ∧ ∀ x H', J.yld i H x H' → g x (wipe σ vs) H' fun σ2 H2 => wipe σ2 vs = wipe σ vs ∧ tYes σ2 H2 fun b H3 =>
        if b = true then te σ2 H3 fun y H4 => ∃ acc, H4 D = some (.lst acc) ∧ acc.length < sizeLine ∧ Nx (upd H4 D (.lst (acc ++ [y]))) else Nx H3) := by
  refine lc_it w (fun i H' => Xt H H' ∧ Tbs TT' H' ∧ ∃ bs : List Addr, H' D = some (.lst (bs.map V.ref)) ∧ bs.length = i ∧ ∀ (j : Nat) b gs, bs[j]? = some b → gss[j]? = some gs → RdN K C H' b D gs) ⟨(same_upd nD).xt, hT.same (same_upd nD), [], upd_same, rfl, fun j b gs h => by simp at h⟩ (fun i H' _ h => hG H' h.1) ?_ ?_
  · rintro i x H1 H2 hi ⟨sH, tH, bs, hD, hbl, hb⟩ hy
    have hi' : i < gss.length := by omega
    refine hs i x gss[i] H1 H2 hi (List.getElem?_eq_getElem hi') sH tH hy _ (fun y H4 s4 t4 dy => ?_)
    have hD4 := s4 _ _ hD (fun ps z => by cases z)
    refine ⟨bs.map V.ref, hD4, Nat.lt_of_lt_of_le (show (bs.map V.ref).length < 1000 by rw [List.length_map]; omega) (by decide), xt_new nD (sH.trans s4), t4.mut hD4, bs ++ [y], by rw [upd_same, List.map_append]; rfl, by rw [List.length_append, hbl]; rfl, fun j b gs h1 h2 => ?_⟩
    by_cases hj : j < bs.length
    · rw [List.getElem?_append_left hj] at h1
      exact ((hb j b gs h1 h2).xt s4).mut hD4
    · rw [List.getElem?_append_right (by omega)] at h1
      have : j = bs.length := by
        have := (List.getElem?_eq_some_iff.mp h1).1
        simp at this; omega
      subst this
      rw [Nat.sub_self] at h1
      cases Option.some.inj h1
      rw [hbl, List.getElem?_eq_getElem hi'] at h2
      cases Option.some.inj h2
      exact (dy.n hD).mut hD4
  · rintro H1 ⟨sH, tH, bs, hD, hbl, hb⟩
    exact q H1 bs sH tH hD hbl fun i b gs h1 h2 => (hb i b gs h1 h2).rd
end EP
namespace EP
open PySem PySem.Spec PyProof.Rows L2
/-! ### classes of turns, found one by one -/
theorem rem1 (x : Rat) : remQ x 1 = x - (x.floor : Rat) := by
  unfold remQ
  rw [show x / 1 = x by grind, Rat.mul_one]
theorem fr_add (x y : Rat) : remQ (remQ x 1 + y) 1 = remQ (x + y) 1 := by
  rw [rem1 x, rem1, rem1]
  have e : x - (x.floor : Rat) + y = (x + y) + ((-x.floor : Int) : Rat) := by
    rw [Rat.intCast_neg]; grind
  rw [e, Rat.floor_add_intCast, Rat.intCast_add]
  grind
/-- the rows after i turns of the one kind and j of the other -/
def combR (ps : List (Rat × Rat)) (i j : Nat) : List Rat := ps.map fun p => remQ ((i : Rat) * p.1 + (j : Rat) * p.2) 1
def nextR (b a : List Rat) : List Rat := List.zipWith (fun x y => remQ (x + y) 1) a b
theorem zw_self {α β : Type} (f : α → α → β) : ∀ l : List α, List.zipWith f l l = l.map fun a => f a a
  | [] => rfl
  | a :: l => by simp [zw_self f l]
theorem next_one (ps : List (Rat × Rat)) (i j : Nat) : nextR (ps.map Prod.fst) (combR ps i j) = combR ps (i + 1) j := by
  unfold nextR combR
  rw [List.zipWith_map, zw_self]
  refine List.map_congr_left fun p _ => ?_
  rw [fr_add, show ((i + 1 : Nat) : Rat) = (i : Rat) + 1 by rw [Rat.natCast_add]; rfl]
  congr 1; grind
theorem next_two (ps : List (Rat × Rat)) (i j : Nat) : nextR (ps.map Prod.snd) (combR ps i j) = combR ps i (j + 1) := by
  unfold nextR combR
  rw [List.zipWith_map, zw_self]
  refine List.map_congr_left fun p _ => ?_
  rw [fr_add, show ((j + 1 : Nat) : Rat) = (j : Rat) + 1 by rw [Rat.natCast_add]; rfl]
  congr 1; grind
theorem comb_zero (ps : List (Rat × Rat)) : combR ps 0 0 = ps.map fun _ => 0 := by
  unfold combR
  refine List.map_congr_left fun p _ => ?_
  rw [show ((0 : Nat) : Rat) * p.1 + ((0 : Nat) : Rat) * p.2 = 0 by rw [show ((0 : Nat) : Rat) = 0 from rfl]; grind, rem1]
  decide +kernel
theorem comb_len (ps : List (Rat × Rat)) (i j : Nat) : (combR ps i j).length = ps.length := by unfold combR; rw [List.length_map]
def insR (known : List (List Rat)) (a : List Rat) : List (List Rat) := if a ∈ known then known else known ++ [a]
theorem ins_mem {known : List (List Rat)} {a b : List Rat} : b ∈ insR known a ↔ b ∈ known ∨ b = a := by
  unfold insR
  split
  · exact ⟨.inl, fun h => h.elim id fun e => e ▸ ‹_›⟩
  · rw [List.mem_append, List.mem_singleton]
theorem ins_get {known : List (List Rat)} {a b : List Rat} {i : Nat} (h : known[i]? = some b) : (insR known a)[i]? = some b := by
  unfold insR
  split
  · exact h
  · rw [List.getElem?_append_left (List.getElem?_eq_some_iff.mp h).1]; exact h
theorem ins_nd {known : List (List Rat)} {a : List Rat} (h : known.Nodup) : (insR known a).Nodup := by
  unfold insR
  split
  · exact h
  · rename_i z
    rw [List.nodup_append]
    refine ⟨h, by simp, fun x hx y hy e => ?_⟩
    rw [List.mem_singleton] at hy
    exact z (hy ▸ e ▸ hx)
theorem ins_len {known : List (List Rat)} {a : List Rat} : known.length ≤ (insR known a).length ∧ (insR known a).length ≤ known.length + 1 := by
  unfold insR
  split
  · omega
  · rw [List.length_append]; simp
structure Bfs (ps : List (Rat × Rat)) (known : List (List Rat)) (t : Nat) : Prop where
  nd : known.Nodup
  z : combR ps 0 0 ∈ known
  rch : ∀ a ∈ known, ∃ i j : Nat, a = combR ps i j
  cl : ∀ i, i < t → ∀ a, known[i]? = some a → nextR (ps.map Prod.fst) a ∈ known ∧ nextR (ps.map Prod.snd) a ∈ known
theorem Bfs.start (ps : List (Rat × Rat)) : Bfs ps [combR ps 0 0] 0 := ⟨by simp, by simp, fun a h => ⟨0, 0, List.mem_singleton.mp h⟩, fun i h => absurd h (by omega)⟩
theorem Bfs.ins {ps : List (Rat × Rat)} {known : List (List Rat)} {t : Nat} (b : Bfs ps known t) {a : List Rat} (h : ∃ i j : Nat, a = combR ps i j) (ht : t ≤ known.length) : Bfs ps (insR known a) t := by
  refine ⟨ins_nd b.nd, ins_mem.mpr (.inl b.z), fun c hc => ?_, fun i hi c hc => ?_⟩
  · rcases ins_mem.mp hc with k | k
    · exact b.rch c k
    · subst k; exact h
  · have hk : known[i]? = some c := by
      have e := List.getElem?_eq_getElem (show i < known.length by omega)
      rw [ins_get e] at hc; rw [← hc]; exact e
    exact ⟨ins_mem.mpr (.inl (b.cl i hi c hk).1), ins_mem.mpr (.inl (b.cl i hi c hk).2)⟩
theorem Bfs.next {ps : List (Rat × Rat)} {known : List (List Rat)} {t : Nat} (b : Bfs ps known t) {a : List Rat} (h : known[t]? = some a) :
    Bfs ps (insR (insR known (nextR (ps.map Prod.fst) a)) (nextR (ps.map Prod.snd) a)) (t + 1) := by
  obtain ⟨i, j, e⟩ := b.rch a (List.mem_of_getElem? h)
  have ht := (List.getElem?_eq_some_iff.mp h).1
  have b1 := b.ins (a := nextR (ps.map Prod.fst) a) ⟨i + 1, j, by rw [e, next_one]⟩ (by omega)
  have l1 := (ins_len (known := known) (a := nextR (ps.map Prod.fst) a)).1
  have b2 := b1.ins (a := nextR (ps.map Prod.snd) a) ⟨i, j + 1, by rw [e, next_two]⟩ (by omega)
  refine ⟨b2.nd, b2.z, b2.rch, fun k hk c hc => ?_⟩
  by_cases e2 : k < t
  · exact b2.cl k e2 c hc
  · have : k = t := by omega
    subst this
    rw [ins_get (ins_get h)] at hc
    cases Option.some.inj hc
    exact ⟨ins_mem.mpr (.inl (ins_mem.mpr (.inr rfl))), ins_mem.mpr (.inr rfl)⟩
/-- how many classes there are, as far as 25 -/
def IdxP (ps : List (Rat × Rat)) (n : Int) : Prop := ∃ known t, Bfs ps known t ∧ n = min 25 (known.length : Int) ∧ (known.length < 25 → known.length ≤ t)
/-- the numbers of a row -/
theorem comb_bq {n : Nat} {x y : Rat} (i j : Nat) (hx : Bq n x) (hy : Bq n y) : Bq (n + n) (remQ ((i : Rat) * x + (j : Rat) * y) 1) := by
  have hD : (0 : Int) < (x.den : Int) * (y.den : Int) := Int.mul_pos (den_pos x) (den_pos y)
  have hv : remQ ((i : Rat) * x + (j : Rat) * y) 1 * (((x.den : Int) * (y.den : Int) : Int) : Rat) = (((i : Int) * x.num * (y.den : Int) + (j : Int) * y.num * (x.den : Int) - ((i : Rat) * x + (j : Rat) * y).floor * ((x.den : Int) * (y.den : Int)) : Int) : Rat) := by
    rw [rem1]
    simp only [Rat.intCast_mul, Rat.intCast_add, Rat.intCast_sub]
    have h1 := num_den x
    have h2 := num_den y
    rw [← h1, ← h2]
    rw [show (((i : Int) : Rat)) = (i : Rat) from rfl, show (((j : Int) : Rat)) = (j : Rat) from rfl]
    grind
  have h0 : 0 ≤ remQ ((i : Rat) * x + (j : Rat) * y) 1 := remQ_nn (by decide +kernel)
  have h1 : remQ ((i : Rat) * x + (j : Rat) * y) 1 < 1 := remQ_lt (by decide +kernel)
  generalize remQ ((i : Rat) * x + (j : Rat) * y) 1 = q at *
  generalize (i : Int) * x.num * (y.den : Int) + (j : Int) * y.num * (x.den : Int) - ((i : Rat) * x + (j : Rat) * y).floor * ((x.den : Int) * (y.den : Int)) = z at *
  have bD : B (n + n) ((x.den : Int) * (y.den : Int)) := hx.b.mul hy.b
  generalize (x.den : Int) * (y.den : Int) = D at *
  have hDq : (0 : Rat) < (D : Rat) := by exact_mod_cast hD
  have z0 : (0 : Rat) ≤ (z : Rat) := by rw [← hv]; exact Rat.mul_nonneg h0 (Rat.le_of_lt hDq)
  have z1 : (z : Rat) < (D : Rat) := by
    rw [← hv]
    have := Rat.mul_lt_mul_of_pos_right h1 hDq
    rw [Rat.one_mul] at this; exact this
  have z0' : 0 ≤ z := by exact_mod_cast z0
  have z1' : z < D := by exact_mod_cast z1
  exact Bq.of (by omega) hv (bD.le (by omega)) bD
end EP
namespace EP
/-- a / b is x / M -/
def Rv (a b x M : Int) : Prop := a * M = x * b
theorem Rv.red {n d x M : Int} (hd : d ≠ 0) (h : n * M = x * d) : Rv (rn n d) (rd n d) x M := by
  have e := rn_rd (n := n) hd
  refine Int.eq_of_mul_eq_mul_right hd ?_
  have : rn n d * M * d = rn n d * d * M := by grind
  rw [this, e]
  have : n * rd n d * M = n * M * rd n d := by grind
  rw [this, h]; grind
theorem Rv.add {a b c d x y M : Int} (h1 : Rv a b x M) (h2 : Rv c d y M) : (a * d + c * b) * M = (x + y) * (b * d) := by
  unfold Rv at *
  have : (a * d + c * b) * M = a * M * d + c * M * b := by grind
  rw [this, h1, h2]; grind
theorem Rv.sub {a b c d x y M : Int} (h1 : Rv a b x M) (h2 : Rv c d y M) : (a * d - c * b) * M = (x - y) * (b * d) := by
  unfold Rv at *
  have : (a * d - c * b) * M = a * M * d - c * M * b := by grind
  rw [this, h1, h2]; grind
theorem Rv.times {n a b x M : Int} (h1 : Rv a b x M) : (n * a) * M = (n * x) * b := by
  unfold Rv at *
  rw [Int.mul_assoc, h1]; grind
theorem Rv.floor {a b x M : Int} (hb : 0 < b) (hM : 0 < M) (h : Rv a b x M) : a / b = x / M := floor_congr hb hM h
theorem Rv.fs {a b x M : Int} (h : Rv a b x M) : x * b = a * M := h.symm
end EP
namespace EP
open PySem PySem.Spec PyProof.Rows L2
theorem Sm_sum (f : Nat → Int) : ∀ n : Nat, ((List.range n).map f).sum = Sm f n
  | 0 => rfl
  | n + 1 => by
    rw [List.range_succ, List.map_append, List.sum_append, Sm_sum f n]
    simp [Sm]
end EP
namespace EP
/-! ### Bezout -/
theorem bz_dec {a b : Int} (h : ¬ b ≤ 0) : (a - a / b * b).toNat < b.toNat := by
  have e : a - a / b * b = a % b := by have := Int.mul_ediv_add_emod a b; rw [Int.mul_comm (a / b)]; omega
  rw [e]
  have := Int.emod_lt_of_pos a (show 0 < b by omega)
  omega
def bezR (a b u lu w lw : Int) : Int × Int × Int :=
  if h : b ≤ 0 then (a, u, w) else bezR b (a - a / b * b) lu (u - a / b * lu) lw (w - a / b * lw)
termination_by b.toNat
decreasing_by exact bz_dec h
theorem bezR_stop {a u lu w lw : Int} : bezR a 0 u lu w lw = (a, u, w) := by rw [bezR]; simp
theorem bezR_step {a b u lu w lw : Int} (h : 0 < b) : bezR a b u lu w lw = bezR b (a - a / b * b) lu (u - a / b * lu) lw (w - a / b * lw) := by
  rw [bezR]; rw [dif_neg (by omega)]
def SgnI (x lx a b c : Int) : Prop := (0 ≤ x ∧ lx ≤ 0 ∧ x * b - lx * a = c) ∨ (x ≤ 0 ∧ 0 ≤ lx ∧ lx * a - x * b = c)
theorem SgnI.step {x lx a b c : Int} (hb : 0 < b) (ha : 0 ≤ a) (h : SgnI x lx a b c) : SgnI lx (x - a / b * lx) b (a - a / b * b) c := by
  have hq := Int.ediv_nonneg ha (Int.le_of_lt hb)
  generalize a / b = q at *
  rcases h with ⟨h1, h2, h3⟩ | ⟨h1, h2, h3⟩
  · right
    have := Int.mul_nonneg hq (show 0 ≤ -lx by omega)
    have e : q * -lx = -(q * lx) := by grind
    refine ⟨h2, by omega, by grind⟩
  · left
    have := Int.mul_nonneg hq h2
    exact ⟨h2, by omega, by grind⟩
theorem abs_le_of {x y c : Int} (hy : 0 < y) (h : (x * y).natAbs ≤ c.natAbs) : x.natAbs ≤ c.natAbs := by
  rw [Int.natAbs_mul] at h
  exact Nat.le_trans (Nat.le_mul_of_pos_right _ (by omega)) h
theorem SgnI.low {x lx a b c : Int} (hb : 0 ≤ b) (ha : 0 < a) (hc : 0 ≤ c) (h : SgnI x lx a b c) : lx.natAbs ≤ c.natAbs := by
  refine abs_le_of ha ?_
  rcases h with ⟨h1, h2, h3⟩ | ⟨h1, h2, h3⟩
  · have := Int.mul_nonneg h1 hb
    have := Int.mul_nonneg (show 0 ≤ -lx by omega) (Int.le_of_lt ha)
    rw [Int.neg_mul] at this; omega
  · have := Int.mul_nonneg (show 0 ≤ -x by omega) hb
    have := Int.mul_nonneg h2 (Int.le_of_lt ha)
    have e : -x * b = -(x * b) := by grind
    omega
structure BzI (a0 b0 a b u lu w lw : Int) : Prop where
  ha : 0 ≤ a
  hb : 0 ≤ b
  g : Int.gcd a b = Int.gcd a0 b0
  e1 : a = u * a0 + w * b0
  e2 : b = lu * a0 + lw * b0
  s1 : SgnI u lu a b b0
  s2 : SgnI w lw a b a0
  bu : u.natAbs ≤ b0.natAbs + 1
  blu : lu.natAbs ≤ b0.natAbs + 1
  bw : w.natAbs ≤ a0.natAbs + 1
  blw : lw.natAbs ≤ a0.natAbs + 1
theorem BzI.start {a b : Int} (ha : 0 ≤ a) (hb : 0 ≤ b) : BzI a b a b 1 0 0 1 :=
  ⟨ha, hb, rfl, by omega, by omega, .inl ⟨by omega, by omega, by omega⟩, .inr ⟨by omega, by omega, by omega⟩, by omega, by omega, by omega, by omega⟩
theorem BzI.next {a0 b0 a b u lu w lw : Int} (h0 : 0 ≤ a0) (h1 : 0 ≤ b0) (hb : 0 < b) (h : BzI a0 b0 a b u lu w lw) : BzI a0 b0 b (a - a / b * b) lu (u - a / b * lu) lw (w - a / b * lw) := by
  have e : a - a / b * b = a % b := by have := Int.mul_ediv_add_emod a b; rw [Int.mul_comm (a / b)]; omega
  have hm := Int.emod_nonneg a (show b ≠ 0 by omega)
  have t1 := h.s1.step hb h.ha
  have t2 := h.s2.step hb h.ha
  refine ⟨h.hb, by omega, ?_, h.e2, ?_, t1, t2, h.blu, ?_, h.blw, ?_⟩
  · rw [e, gcd_step h.ha hb, h.g]
  · have e1 := h.e1; have e2 := h.e2
    generalize a / b = q at *
    grind
  · have := t1.low (by omega) hb h1; omega
  · have := t2.low (by omega) hb h0; omega
def bz (a b : Int) : Int × Int × Int := bezR a b 1 0 0 1
theorem bezR_spec {a0 b0 : Int} (h0 : 0 ≤ a0) (h1 : 0 ≤ b0) : ∀ (n : Nat) {a b u lu w lw : Int}, b.toNat = n → BzI a0 b0 a b u lu w lw →
    (bezR a b u lu w lw).1 = (Int.gcd a0 b0 : Int) ∧ (bezR a b u lu w lw).1 = (bezR a b u lu w lw).2.1 * a0 + (bezR a b u lu w lw).2.2 * b0 ∧ (bezR a b u lu w lw).2.1.natAbs ≤ b0.natAbs + 1 ∧ (bezR a b u lu w lw).2.2.natAbs ≤ a0.natAbs + 1 := by
  intro n
  induction n using Nat.strongRecOn with
  | ind n ih =>
    intro a b u lu w lw hn I
    by_cases hb : b = 0
    · subst hb
      rw [bezR_stop]
      refine ⟨?_, I.e1, I.bu, I.bw⟩
      have := I.g
      rw [← this]
      have ha := I.ha
      show a = (Int.gcd a 0 : Int)
      rw [Int.gcd_zero_right]; omega
    · have hb' : 0 < b := by have := I.hb; omega
      rw [bezR_step hb']
      have hlt := bz_dec (a := a) (b := b) (by omega)
      exact ih _ (by omega) rfl (I.next h0 h1 hb')
theorem bz_spec {a b : Int} (ha : 0 ≤ a) (hb : 0 ≤ b) : (bz a b).1 = (Int.gcd a b : Int) ∧ (bz a b).1 = (bz a b).2.1 * a + (bz a b).2.2 * b ∧ (bz a b).2.1.natAbs ≤ b.natAbs + 1 ∧ (bz a b).2.2.natAbs ≤ a.natAbs + 1 :=
  bezR_spec ha hb _ rfl (BzI.start ha hb)
/-! ### products of rows -/
def dot : List Int → List Int → Int
  | x :: xs, y :: ys => x * y + dot xs ys
  | _, _ => 0
theorem dot_map {m u : Int} (S : List Int) : ∀ row : List Int, ∃ c, dot (row.map fun e => u * e % m) S = u * dot row S + m * c := by
  induction S with
  | nil => intro row; cases row <;> exact ⟨0, by simp [dot]⟩
  | cons y ys ih =>
    intro row
    cases row with
    | nil => exact ⟨0, by simp [dot]⟩
    | cons x xs =>
      obtain ⟨c, hc⟩ := ih xs
      refine ⟨c - u * x / m * y, ?_⟩
      show u * x % m * y + dot (xs.map fun e => u * e % m) ys = u * (x * y + dot xs ys) + _
      have h := Int.mul_ediv_add_emod (u * x) m
      rw [hc]
      generalize u * x / m = q at *
      generalize u * x % m = t at *
      have : t = u * x - m * q := by omega
      rw [this]; grind
theorem dot_set {x s : Int} : ∀ {row S : List Int} {i : Nat}, row[i]? = some 0 → S[i]? = some s → dot (row.set i x) S = dot row S + x * s
  | [], _, _, h, _ => by simp at h
  | _ :: _, [], _, _, h => by simp at h
  | y :: ys, z :: zs, 0, h1, h2 => by
    have e1 : y = 0 := Option.some.inj h1
    have e2 : z = s := Option.some.inj h2
    rw [e1, e2]
    show x * s + dot ys zs = 0 * s + dot ys zs + x * s
    omega
  | y :: ys, z :: zs, i + 1, h1, h2 => by
    have := dot_set (x := x) (s := s) (row := ys) (S := zs) (i := i) h1 h2
    show y * z + dot (ys.set i x) zs = y * z + dot ys zs + x * s
    omega
theorem dot_zero (S : List Int) : ∀ n : Nat, dot (List.replicate n 0) S = 0 := by
  induction S with
  | nil => intro n; cases n <;> rfl
  | cons y ys ih =>
    intro n
    cases n with
    | zero => rfl
    | succ n => show 0 * y + dot (List.replicate n 0) ys = 0; rw [ih n]; omega
theorem dot_congr {m : Int} : ∀ {row A S : List Int}, A.length = S.length → (∀ (i : Nat) (a s : Int), A[i]? = some a → S[i]? = some s → s = a % m) → ∃ c, dot row A = dot row S + m * c
  | [], A, S, _, _ => ⟨0, by cases A <;> cases S <;> simp [dot]⟩
  | x :: xs, [], S, h, _ => ⟨0, by cases S with | nil => simp [dot] | cons a b => simp at h⟩
  | x :: xs, a :: A, [], h, _ => by simp at h
  | x :: xs, a :: A, s :: S, h, g => by
    obtain ⟨c, hc⟩ := dot_congr (row := xs) (A := A) (S := S) (by simpa using h) (fun i a' s' h1 h2 => g (i + 1) a' s' h1 h2)
    have e := g 0 a s rfl rfl
    refine ⟨c + x * (a / m), ?_⟩
    show x * a + dot xs A = x * s + dot xs S + _
    have h := Int.mul_ediv_add_emod a m
    rw [hc]
    generalize a / m = q at *
    have : a = m * q + s := by omega
    rw [this]; grind
/-! ### the reach -/
def nrow (m D s : Int) (at' : Nat) (row : List Int) : List Int := (row.map fun e => (bz D s).2.1 * e % m).set at' ((bz D s).2.2 % m)
def reach (m : Int) : List Int → Nat → Int → List Int → Int × List Int
  | [], _, D, row => (D, row)
  | s :: ss, i, D, row => reach m ss (i + 1) (bz D s).1 (nrow m D s i row)
structure RcI (m : Int) (S : List Int) (i : Nat) (D : Int) (row : List Int) : Prop where
  len : row.length = S.length
  hD : 0 ≤ D
  zero : ∀ j, i ≤ j → j < S.length → row[j]? = some 0
  fit : ∃ c, dot row S = D + m * c
  bnd : ∀ e ∈ row, 0 ≤ e ∧ e < m
theorem RcI.start {m : Int} {S : List Int} (hm : 0 < m) : RcI m S 0 m (List.replicate S.length 0) := by
  refine ⟨List.length_replicate, by omega, fun j _ hj => by rw [List.getElem?_replicate]; simp [hj], ⟨-1, ?_⟩, fun e he => ?_⟩
  · rw [dot_zero]; omega
  · have := List.eq_of_mem_replicate he; omega
theorem RcI.next {m : Int} {S : List Int} {i : Nat} {D s : Int} {row : List Int} (hm : 0 < m) (h : RcI m S i D row) (hs : S[i]? = some s) (hs0 : 0 ≤ s) : RcI m S (i + 1) (bz D s).1 (nrow m D s i row) := by
  have hi : i < S.length := (List.getElem?_eq_some_iff.mp hs).1
  obtain ⟨z1, z2, _, _⟩ := bz_spec h.hD hs0
  refine ⟨?_, by omega, fun j h1 h2 => ?_, ?_, fun e he => ?_⟩
  · unfold nrow; rw [List.length_set, List.length_map]; exact h.len
  · unfold nrow
    rw [List.getElem?_set_ne (by omega), List.getElem?_map, h.zero j (by omega) h2]
    show some ((bz D s).2.1 * 0 % m) = some 0
    rw [Int.mul_zero, Int.zero_emod]
  · unfold nrow
    have hz : (row.map fun e => (bz D s).2.1 * e % m)[i]? = some 0 := by
      rw [List.getElem?_map, h.zero i (Nat.le_refl _) hi]
      show some ((bz D s).2.1 * 0 % m) = some 0
      rw [Int.mul_zero, Int.zero_emod]
    rw [dot_set hz hs]
    obtain ⟨c1, e1⟩ := dot_map (m := m) (u := (bz D s).2.1) S row
    obtain ⟨c2, e2⟩ := h.fit
    rw [e1, e2, z2]
    have hw := Int.mul_ediv_add_emod (bz D s).2.2 m
    generalize (bz D s).2.1 = u at *
    generalize (bz D s).2.2 = w at *
    refine ⟨u * c2 + c1 - w / m * s, ?_⟩
    generalize w / m = q at *
    generalize w % m = t at *
    have : t = w - m * q := by omega
    rw [this]; grind
  · unfold nrow at he
    have key : ∀ x : Int, 0 ≤ x % m ∧ x % m < m := fun x => ⟨Int.emod_nonneg _ (by omega), Int.emod_lt_of_pos _ hm⟩
    rcases List.mem_or_eq_of_mem_set he with he | he
    · obtain ⟨y, _, rfl⟩ := List.mem_map.mp he; exact key _
    · rw [he]; exact key _
/-- the greatest common divisor of m and what is given -/
def gcds : Int → List Int → Int
  | D, [] => D
  | D, s :: ss => gcds (Int.gcd D s : Int) ss
theorem reach_spec {m : Int} (hm : 0 < m) {S : List Int} : ∀ {ss pre : List Int} {D : Int} {row : List Int}, S = pre ++ ss → (∀ s ∈ S, 0 ≤ s) → RcI m S pre.length D row →
    RcI m S S.length (reach m ss pre.length D row).1 (reach m ss pre.length D row).2 ∧ (reach m ss pre.length D row).1 = gcds D ss
  | [], pre, D, row, e, _, h => by
    rw [List.append_nil] at e; rw [e]; rw [e] at h; exact ⟨h, rfl⟩
  | s :: ss, pre, D, row, e, hS, h => by
    have hs : S[pre.length]? = some s := by rw [e, List.getElem?_append_right (Nat.le_refl _)]; simp
    have hs0 : 0 ≤ s := hS s (by rw [e]; simp)
    have n := h.next hm hs hs0
    have z := (bz_spec h.hD hs0).1
    have r := reach_spec (ss := ss) (pre := pre ++ [s]) hm (by rw [e]; simp) hS (by rw [List.length_append]; exact n)
    rw [List.length_append] at r
    show RcI m S S.length (reach m ss (pre.length + 1) (bz D s).1 (nrow m D s pre.length row)).1 (reach m ss (pre.length + 1) (bz D s).1 (nrow m D s pre.length row)).2 ∧ (reach m ss (pre.length + 1) (bz D s).1 (nrow m D s pre.length row)).1 = gcds (Int.gcd D s : Int) ss
    rw [← z]; exact r
end EP
namespace EP
theorem cden_snoc {q : Int × Int} : ∀ {qs : List (Int × Int)} {r : Int}, cden (qs ++ [q]) r = lstep (cden qs r) q.2
  | [], _ => rfl
  | _ :: qs, _ => cden_snoc (qs := qs)
/-- what divides c m and each c a (m / b) divides c -/
theorem reach_one : ∀ (n : Nat) (qs : List (Int × Int)), qs.length = n → (∀ q ∈ qs, 0 < q.2 ∧ Int.gcd q.1 q.2 = 1) → ∀ g c : Int, g ∣ c * cden qs 1 → (∀ q ∈ qs, g ∣ c * (q.1 * (cden qs 1 / q.2))) → g ∣ c := by
  intro n
  induction n with
  | zero =>
    intro qs hn _ g c h _
    have : qs = [] := List.length_eq_zero_iff.mp hn
    subst this
    rw [show cden [] 1 = 1 from rfl, Int.mul_one] at h
    exact h
  | succ n ih =>
    intro qs hn hq g c h hj
    obtain ⟨ps, q, rfl⟩ : ∃ ps q, qs = ps ++ [q] := by
      rcases List.eq_nil_or_concat qs with e | ⟨ps, q, e⟩
      · rw [e] at hn; simp at hn
      · exact ⟨ps, q, by rw [e]; simp⟩
    obtain ⟨a, b⟩ := q
    have hb := hq (a, b) (by simp)
    have hb1 : 0 < b := hb.1
    have hps : ∀ q ∈ ps, 0 < q.2 ∧ Int.gcd q.1 q.2 = 1 := fun q h => hq q (List.mem_append_left _ h)
    have hM := cden_pos (qs := ps) (r := 1) (by decide) (fun q h => (hps q h).1)
    rw [cden_snoc] at h hj
    have hdv := cden_dvd (qs := ps) (r := 1) (fun q h => (hps q h).1)
    have hlen : ps.length = n := by simpa using hn
    have ih' := ih ps hlen hps
    generalize cden ps 1 = M at *
    dsimp only at h hj
    have e1 := rn_mul (n := M) (d := b)
    have e2 := rd_mul (n := M) (d := b)
    rw [if_neg (by omega)] at e1
    rw [show (b.natAbs : Int) = b by omega] at e2
    have cop := gcd_red (n := M) (d := b) (by omega)
    have hgp := gcd_posI (r := M) hb1
    have hdiv : M / (Int.gcd M b : Int) = rn M b := by unfold rn; rw [if_neg (by omega)]
    have el : lstep M b = rn M b * b := by unfold lstep; rw [hdiv]
    generalize rn M b = e at *
    generalize rd M b = cc at *
    generalize (Int.gcd M b : Int) = d at *
    have el2 : lstep M b = M * cc := by rw [el, ← e1, ← e2]; grind
    have hc : g ∣ c * cc := by
      refine ih' g (c * cc) ?_ fun q hqm => ?_
      · have : c * cc * M = c * lstep M b := by rw [el2]; grind
        rw [this]; exact h
      · have hqp := (hps q hqm).1
        obtain ⟨k, hk⟩ := hdv q hqm
        have t := hj q (List.mem_append_left _ hqm)
        have d1 : M / q.2 = k := by rw [hk]; exact Int.mul_ediv_cancel_left _ (by omega)
        have d2 : lstep M b / q.2 = k * cc := by rw [el2, hk, Int.mul_assoc]; exact Int.mul_ediv_cancel_left _ (by omega)
        rw [d2] at t
        rw [d1]
        have : c * cc * (q.1 * k) = c * (q.1 * (k * cc)) := by grind
        rw [this]; exact t
    have ha : g ∣ c * (a * e) := by
      have t := hj (a, b) (by simp)
      have d2 : lstep M b / b = e := by rw [el]; exact Int.mul_ediv_cancel _ (by omega)
      dsimp only at t
      rw [d2] at t; exact t
    have g1 : Int.gcd cc (a * e) = 1 := by
      have h1 : Nat.Coprime cc.natAbs a.natAbs := by
        have : Nat.Coprime a.natAbs b.natAbs := hb.2
        refine (Nat.Coprime.coprime_dvd_right ?_ this).symm
        rw [← e2]; exact Int.natAbs_dvd_natAbs.mpr ⟨d, rfl⟩
      have h2 : Nat.Coprime cc.natAbs e.natAbs := Nat.Coprime.symm cop
      have := Nat.Coprime.mul_right h1 h2
      unfold Int.gcd
      rw [Int.natAbs_mul]; exact this
    have fin := Int.dvd_coe_gcd hc ha
    rw [Int.gcd_mul_left, g1, Nat.mul_one] at fin
    exact Int.dvd_natAbs.mp fin
theorem gcds_dvd : ∀ {S : List Int} {D : Int}, gcds D S ∣ D ∧ ∀ s ∈ S, gcds D S ∣ s
  | [], D => ⟨Int.dvd_refl D, fun s h => by cases h⟩
  | s :: ss, D => by
    obtain ⟨h1, h2⟩ := gcds_dvd (S := ss) (D := (Int.gcd D s : Int))
    refine ⟨Int.dvd_trans h1 (Int.gcd_dvd_left ..), fun x hx => ?_⟩
    rcases List.mem_cons.mp hx with e | e
    · rw [e]; exact Int.dvd_trans h1 (Int.gcd_dvd_right ..)
    · exact h2 x e
theorem gcds_nonneg : ∀ {S : List Int} {D : Int}, 0 ≤ D → 0 ≤ gcds D S
  | [], _, h => h
  | s :: ss, D, _ => gcds_nonneg (S := ss) (D := (Int.gcd D s : Int)) (by omega)
/-- the scaled values -/
def scl (qs : List (Int × Int)) (m : Int) : List Int := qs.map fun q => q.1 * (m / q.2) % m
theorem gcds_one {qs : List (Int × Int)} (hq : ∀ q ∈ qs, 0 < q.2 ∧ Int.gcd q.1 q.2 = 1) : gcds (cden qs 1) (scl qs (cden qs 1)) = 1 := by
  have hm := cden_pos (qs := qs) (r := 1) (by decide) (fun q h => (hq q h).1)
  obtain ⟨h1, h2⟩ := gcds_dvd (S := scl qs (cden qs 1)) (D := cden qs 1)
  have h3 := gcds_nonneg (S := scl qs (cden qs 1)) (D := cden qs 1) (by omega)
  have : gcds (cden qs 1) (scl qs (cden qs 1)) ∣ 1 := by
    refine reach_one _ qs rfl hq _ 1 (by rw [Int.one_mul]; exact h1) fun q h => ?_
    rw [Int.one_mul]
    have t := h2 _ (List.mem_map.mpr ⟨q, h, rfl⟩)
    have e := Int.mul_ediv_add_emod (q.1 * (cden qs 1 / q.2)) (cden qs 1)
    rw [← e]
    exact Int.dvd_add (Int.dvd_trans h1 ⟨_, rfl⟩) t
  exact Int.eq_one_of_dvd_one h3 this
/-- the program's answer -/
def sol (qs : List (Int × Int)) (t : Int × Int) : Option (List Int) :=
  if cden qs 1 % t.2 = 0 then some ((reach (cden qs 1) (scl qs (cden qs 1)) 0 (cden qs 1) (List.replicate qs.length 0)).2.map fun e => e * (t.1 * (cden qs 1 / t.2)) % cden qs 1) else none
theorem dot_scale {m T : Int} (S : List Int) : ∀ row : List Int, ∃ c, dot (row.map fun e => e * T % m) S = T * dot row S + m * c := by
  intro row
  obtain ⟨c, h⟩ := dot_map (m := m) (u := T) S row
  refine ⟨c, ?_⟩
  rw [← h]
  congr 1
  exact List.map_congr_left fun e _ => by rw [Int.mul_comm]
theorem sol_fit {qs : List (Int × Int)} {t : Int × Int} {row : List Int} (hq : ∀ q ∈ qs, 0 < q.2 ∧ Int.gcd q.1 q.2 = 1) (h : sol qs t = some row) :
    row.length = qs.length ∧ (∀ e ∈ row, 0 ≤ e ∧ e < cden qs 1) ∧ ∃ c, dot row (qs.map fun q => q.1 * (cden qs 1 / q.2)) = t.1 * (cden qs 1 / t.2) + cden qs 1 * c := by
  have hm := cden_pos (qs := qs) (r := 1) (by decide) (fun q h => (hq q h).1)
  have g1 := gcds_one hq
  unfold sol at h
  split at h
  · cases h
    generalize cden qs 1 = m at *
    have hS : ∀ s ∈ scl qs m, 0 ≤ s := fun s hs => by
      obtain ⟨q, _, rfl⟩ := List.mem_map.mp hs
      exact Int.emod_nonneg _ (by omega)
    have hl : (scl qs m).length = qs.length := by unfold scl; rw [List.length_map]
    have st := RcI.start (S := scl qs m) hm
    rw [hl] at st
    obtain ⟨I, e⟩ := reach_spec (S := scl qs m) (ss := scl qs m) (pre := []) hm rfl hS st
    have I : RcI m (scl qs m) (scl qs m).length (reach m (scl qs m) 0 m (List.replicate qs.length 0)).1 (reach m (scl qs m) 0 m (List.replicate qs.length 0)).2 := I
    have e : (reach m (scl qs m) 0 m (List.replicate qs.length 0)).1 = gcds m (scl qs m) := e
    rw [g1] at e
    generalize reach m (scl qs m) 0 m (List.replicate qs.length 0) = R at *
    obtain ⟨c0, f0⟩ := I.fit
    rw [e] at f0
    obtain ⟨c1, f1⟩ := dot_scale (m := m) (T := t.1 * (m / t.2)) (scl qs m) R.2
    obtain ⟨c2, f2⟩ := dot_congr (m := m) (row := R.2.map fun e => e * (t.1 * (m / t.2)) % m) (A := qs.map fun q => q.1 * (m / q.2)) (S := scl qs m) (by rw [hl, List.length_map]) (fun i a s ha hs => by
      unfold scl at hs
      rw [List.getElem?_map] at ha hs
      cases hq : qs[i]? with
      | none => rw [hq] at ha; cases ha
      | some q =>
        rw [hq] at ha hs
        have ea : q.1 * (m / q.2) = a := Option.some.inj ha
        have es : q.1 * (m / q.2) % m = s := Option.some.inj hs
        rw [← ea, ← es])
    refine ⟨by rw [List.length_map, I.len, hl], fun x hx => ?_, (t.1 * (m / t.2)) * c0 + c1 + c2, ?_⟩
    · obtain ⟨y, _, rfl⟩ := List.mem_map.mp hx
      exact ⟨Int.emod_nonneg _ (by omega), Int.emod_lt_of_pos _ hm⟩
    · rw [f2, f1, f0]; grind
  · cases h
end EP
namespace EP
open PySem PySem.Spec PyProof.Rows L2
def spBez (K : PySem.W.Frag) : Sp := fun vs H Q _ => ∃ a b : Int, vs = [.int a, .int b] ∧ 0 ≤ a ∧ 0 ≤ b ∧ B 4000 a ∧ B 4000 b ∧ ∀ p H', Same H H' → H' p = some (.tup [.int (bz a b).1, .int (bz a b).2.1, .int (bz a b).2.2]) → Q (.ref p) H'
def Seq (K : PySem.W.Frag) (H : Hp) (l : Addr) (xs : List V) : Prop := SqL K H l xs ∨ SqT K H l xs
theorem Seq.same {K : PySem.W.Frag} {H H' : Hp} {l : Addr} {xs : List V} (h : Seq K H l xs) (s : Same H H') : Seq K H' l xs := h.elim (fun h => .inl (Evl.ex_l s h)) (fun h => .inr (Evl.ex_t s h))
def spScaled (K : PySem.W.Frag) : Sp := fun vs H Q _ => ∃ (l : Addr) (m : Int) (xs : List V) (qs : List (Int × Int)), vs = [.ref l, .int m] ∧ Seq K H l xs ∧ Frs K H xs qs ∧ 0 < m ∧ B 4000 m ∧ (∀ q ∈ qs, B 4000 q.1 ∧ B 4000 q.2) ∧ xs.length < 1000 ∧ ∀ p H', Same H H' → H' p = some (.lst ((scl qs m).map V.int)) → Q (.ref p) H'
def spFirst (K : PySem.W.Frag) : Sp := fun vs H Q _ => ∃ (l : Addr) (m : Int) (xs : List V), vs = [.ref l, .int m] ∧ Seq K H l xs ∧ xs.length < 1000 ∧ ∀ p rl H', Same H H' → H' p = some (.tup [.int m, .ref rl]) → H' rl = some (.lst ((List.replicate xs.length (0 : Int)).map V.int)) → Q (.ref p) H'
def spNext (K : PySem.W.Frag) : Sp := fun vs H Q _ => ∃ (p : Addr) (i : Nat) (s m D : Int) (rl : Addr) (row : List Int), vs = [.ref p, .int i, .int s, .int m] ∧ H p = some (.tup [.int D, .ref rl]) ∧ H rl = some (.lst (row.map V.int)) ∧ 0 ≤ D ∧ 0 ≤ s ∧ 0 < m ∧ B 4000 D ∧ B 4000 s ∧ B 4000 m ∧ i < row.length ∧ row.length < 1000 ∧ (∀ e ∈ row, 0 ≤ e ∧ e < m) ∧
  ∀ p' rl' H', Same H H' → H' p' = some (.tup [.int (bz D s).1, .ref rl']) → H' rl' = some (.lst ((nrow m D s i row).map V.int)) → Q (.ref p') H'
def SolV (H : Hp) (v : V) : Option (List Int) → Prop
  | none => v = .non
  | some row => ∃ p, v = .ref p ∧ H p = some (.lst (row.map V.int))
def spSol (K : PySem.W.Frag) : Sp := fun vs H Q _ => ∃ (l : Addr) (t : V) (xs : List V) (qs : List (Int × Int)) (t0 t1 : Int) (k : Nat), vs = [.ref l, t] ∧ Seq K H l xs ∧ Frs K H xs qs ∧ Fr K H t t0 t1 ∧ 0 < t1 ∧ B 1000 t0 ∧ B 1000 t1 ∧ (∀ q ∈ qs, B k q.1 ∧ B k q.2) ∧ 0 < k ∧ k * qs.length ≤ 2000 ∧ xs.length < 1000 ∧
  ∀ v H', Same H H' → SolV H' v (sol qs (t0, t1)) → Q v H'
theorem cden_B {k : Nat} : ∀ {qs : List (Int × Int)} {r : Int} {n : Nat}, 0 < r → B n r → (∀ q ∈ qs, 0 < q.2 ∧ B k q.2) → B (n + k * qs.length) (cden qs r)
  | [], r, n, _, b, _ => b
  | q :: qs, r, n, h, b, hq => by
    obtain ⟨p, bq⟩ := hq q (List.mem_cons_self ..)
    have := cden_B (qs := qs) (n := n + k) (lstep_pos h p) ((b.mul bq).le (lstep_le h p)) fun q' h' => hq q' (List.mem_cons_of_mem _ h')
    rw [List.length_cons, Nat.mul_add, Nat.mul_one]
    rw [show n + (k * qs.length + k) = n + k + k * qs.length by omega]
    exact this
/-! sums of fractions -/
def radd (p q : Int × Int) : Int × Int := (rn (p.1 * q.2 + q.1 * p.2) (p.2 * q.2), rd (p.1 * q.2 + q.1 * p.2) (p.2 * q.2))
def spSum (K : PySem.W.Frag) : Sp := fun vs H Q _ => ∃ (l : Addr) (xs : List V) (qs : List (Int × Int)) (k : Nat), vs = [.ref l] ∧ SqL K H l xs ∧ Frs K H xs qs ∧ (∀ q ∈ qs, B k q.1 ∧ B k q.2) ∧ (k + 1) * (qs.length + 1) ≤ 1900 ∧ ∀ v H', Same H H' → Fr K H' v (qs.foldl radd (0, 1)).1 (qs.foldl radd (0, 1)).2 → Q v H'
theorem sum_ok {k : Nat} : ∀ {qs : List (Int × Int)} {p : Int × Int} {n : Nat}, 0 < p.2 → B n p.1 → B n p.2 → Int.gcd p.1 p.2 = 1 → (∀ q ∈ qs, 0 < q.2 ∧ B k q.1 ∧ B k q.2) → 0 < (qs.foldl radd p).2 ∧ B (n + (k + 1) * qs.length) (qs.foldl radd p).1 ∧ B (n + (k + 1) * qs.length) (qs.foldl radd p).2 ∧ Int.gcd (qs.foldl radd p).1 (qs.foldl radd p).2 = 1
  | [], p, n, h, b1, b2, g, _ => ⟨h, b1, b2, g⟩
  | q :: qs, p, n, h, b1, b2, _, hq => by
    obtain ⟨pq, c1, c2⟩ := hq q (List.mem_cons_self ..)
    have hne : p.2 * q.2 ≠ 0 := Int.ne_of_gt (Int.mul_pos h pq)
    have := sum_ok (qs := qs) (p := radd p q) (n := n + (k + 1)) (rd_pos hne) (((b1.mul c2).add ((c1.mul b2).mono (by omega))).rn hne) (((b2.mul c2).mono (by omega)).rd hne) (gcd_red hne) fun q' h' => hq q' (List.mem_cons_of_mem _ h')
    rw [List.length_cons, Nat.mul_add, Nat.mul_one]
    rw [show n + ((k + 1) * qs.length + (k + 1)) = n + (k + 1) + (k + 1) * qs.length by omega]
    exact this
theorem sum_rv {M : Int} : ∀ {qs : List (Int × Int)} {p : Int × Int} {x : Int} {ys : List Int}, p.2 ≠ 0 → (∀ q ∈ qs, 0 < q.2) → Rv p.1 p.2 x M → qs.length = ys.length → (∀ (i : Nat) (q : Int × Int) (y : Int), qs[i]? = some q → ys[i]? = some y → Rv q.1 q.2 y M) → Rv (qs.foldl radd p).1 (qs.foldl radd p).2 (x + ys.sum) M
  | [], p, x, [], _, _, h, _, _ => by rw [List.sum_nil, Int.add_zero]; exact h
  | [], p, x, y :: ys, _, _, _, e, _ => by simp at e
  | q :: qs, p, x, [], _, _, _, e, _ => by simp at e
  | q :: qs, p, x, y :: ys, hp, hq, h, e, hy => by
    have pq := hq q (List.mem_cons_self ..)
    have hne : p.2 * q.2 ≠ 0 := Int.mul_ne_zero hp (by omega)
    have h1 := hy 0 q y rfl rfl
    have h2 : Rv (radd p q).1 (radd p q).2 (x + y) M := Rv.red hne (h.add h1)
    have := sum_rv (qs := qs) (p := radd p q) (x := x + y) (ys := ys) (Int.ne_of_gt (rd_pos hne)) (fun q' h' => hq q' (List.mem_cons_of_mem _ h')) h2 (by simpa using e) (fun i q' y' a b => hy (i + 1) q' y' a b)
    rw [List.sum_cons, ← Int.add_assoc]; exact this
end EP
namespace EP
open PySem PySem.Spec PyProof.Rows L2
theorem flat_rep {v : V} : ∀ n : Nat, (List.replicate n [v]).flatten = List.replicate n v
  | 0 => rfl
  | n + 1 => by rw [List.replicate_succ, List.flatten_cons, flat_rep n]; rfl
end EP
namespace EP
open PySem PySem.Spec PyProof.Rows L2
/-! ### lattices of pairs -/
def IsZ (q : Rat) : Prop := ∃ z : Int, q = (z : Rat)
theorem IsZ.int (z : Int) : IsZ (z : Rat) := ⟨z, rfl⟩
theorem IsZ.add {p q : Rat} (h : IsZ p) (k : IsZ q) : IsZ (p + q) := by
  obtain ⟨a, rfl⟩ := h; obtain ⟨b, rfl⟩ := k; exact ⟨a + b, (Rat.intCast_add a b).symm⟩
theorem IsZ.sub {p q : Rat} (h : IsZ p) (k : IsZ q) : IsZ (p - q) := by
  obtain ⟨a, rfl⟩ := h; obtain ⟨b, rfl⟩ := k; exact ⟨a - b, (Rat.intCast_sub a b).symm⟩
theorem IsZ.mul {p : Rat} (z : Int) (h : IsZ p) : IsZ ((z : Rat) * p) := by
  obtain ⟨a, rfl⟩ := h; exact ⟨z * a, (Rat.intCast_mul z a).symm⟩
theorem isZ_den {q : Rat} : IsZ q ↔ q.den = 1 := by
  constructor
  · rintro ⟨z, rfl⟩; rfl
  · intro h; exact ⟨q.num, by have := num_den q; rw [h] at this; rw [← this]; show q = q * ((1 : Int) : Rat); rw [show ((1 : Int) : Rat) = 1 from rfl]; grind⟩
theorem pos_right {a b : Int} (h : 0 < a * b) (ha : 0 < a) : 0 < b := by
  refine Int.not_le.mp fun hb => ?_
  have := Int.mul_le_mul_of_nonneg_left hb (Int.le_of_lt ha)
  rw [Int.mul_zero] at this; omega
theorem cb_int {M s1 s2 e : Int} (hM : 0 < M) (he : M ∣ e * s1 - (Int.gcd M s1 : Int)) :
    0 < M / (Int.gcd M s1 : Int) ∧ 0 < (Int.gcd M s1 : Int) / (Int.gcd (Int.gcd M s1 : Int) s2 : Int) ∧
    M ∣ M / (Int.gcd M s1 : Int) * s1 ∧
    M ∣ (-(s2 / (Int.gcd (Int.gcd M s1 : Int) s2 : Int)) * e % M) * s1 + (Int.gcd M s1 : Int) / (Int.gcd (Int.gcd M s1 : Int) s2 : Int) * s2 ∧
    ∀ i j : Int, M ∣ i * s1 + j * s2 → ∃ k l : Int, i = k * (M / (Int.gcd M s1 : Int)) + l * (-(s2 / (Int.gcd (Int.gcd M s1 : Int) s2 : Int)) * e % M) ∧ j = l * ((Int.gcd M s1 : Int) / (Int.gcd (Int.gcd M s1 : Int) s2 : Int)) := by
  have hg0 : 0 < (Int.gcd M s1 : Int) := by have := Int.gcd_pos_of_ne_zero_left s1 (show M ≠ 0 by omega); omega
  have hgM := Int.gcd_dvd_left M s1
  have hgs := Int.gcd_dvd_right M s1
  have hgcd : ∀ x : Int, M ∣ x * (Int.gcd M s1 : Int) ↔ M ∣ x * s1 := fun x => Int.dvd_mul_gcd_iff_dvd_mul
  generalize (Int.gcd M s1 : Int) = g at *
  have hs0 : 0 < (Int.gcd g s2 : Int) := by have := Int.gcd_pos_of_ne_zero_left s2 (show g ≠ 0 by omega); omega
  have hsg := Int.gcd_dvd_left g s2
  have hss := Int.gcd_dvd_right g s2
  have hgcd2 : ∀ x : Int, g ∣ x * (Int.gcd g s2 : Int) ↔ g ∣ x * s2 := fun x => Int.dvd_mul_gcd_iff_dvd_mul
  generalize (Int.gcd g s2 : Int) = sh at *
  obtain ⟨m, rfl⟩ := hgM
  obtain ⟨t, rfl⟩ := hgs
  obtain ⟨ac, rfl⟩ := hsg
  obtain ⟨w, rfl⟩ := hss
  have e1 : sh * ac * m / (sh * ac) = m := Int.mul_ediv_cancel_left _ (by omega)
  have e2 : sh * ac / sh = ac := Int.mul_ediv_cancel_left _ (by omega)
  have e3 : sh * w / sh = w := Int.mul_ediv_cancel_left _ (by omega)
  rw [e1, e2, e3]
  have ac0 : 0 < ac := pos_right hg0 hs0
  have m0 : 0 < m := pos_right hM hg0
  have hal : ∃ c, -w * e % (sh * ac * m) = -w * e - (sh * ac * m) * c := ⟨-w * e / (sh * ac * m), by have := Int.mul_ediv_add_emod (-w * e) (sh * ac * m); omega⟩
  obtain ⟨c, hc⟩ := hal
  obtain ⟨d, hd⟩ := he
  have S2 : (sh * ac * m) ∣ (-w * e % (sh * ac * m)) * (sh * ac * t) + ac * (sh * w) := by
    rw [hc]
    refine ⟨-w * d - c * (sh * ac * t), ?_⟩
    have : e * (sh * ac * t) = sh * ac * m * d + sh * ac := by omega
    grind
  refine ⟨m0, ac0, ⟨t, by grind⟩, S2, fun i j hij => ?_⟩
  have hj : sh * ac ∣ j * (sh * w) := by
    have h1 : sh * ac ∣ i * (sh * ac * t) + j * (sh * w) := Int.dvd_trans ⟨m, rfl⟩ hij
    have h2 : sh * ac ∣ i * (sh * ac * t) := ⟨i * t, by grind⟩
    have := Int.dvd_sub h1 h2
    rwa [show i * (sh * ac * t) + j * (sh * w) - i * (sh * ac * t) = j * (sh * w) by omega] at this
  have hj2 := (hgcd2 j).mpr hj
  obtain ⟨l, hl⟩ : ac ∣ j := by
    obtain ⟨z, hz⟩ := hj2
    exact ⟨z, Int.eq_of_mul_eq_mul_right (show sh ≠ 0 by omega) (by rw [hz]; grind)⟩
  generalize -w * e % (sh * ac * m) = al at *
  have hi : (sh * ac * m) ∣ (i - l * al) * (sh * ac * t) := by
    have h3 := Int.dvd_sub hij (Int.dvd_mul_of_dvd_right S2 (b := l))
    have : i * (sh * ac * t) + j * (sh * w) - l * (al * (sh * ac * t) + ac * (sh * w)) = (i - l * al) * (sh * ac * t) := by rw [hl]; grind
    rwa [this] at h3
  obtain ⟨z, hz⟩ := (hgcd (i - l * al)).mpr hi
  have : i - l * al = m * z := Int.eq_of_mul_eq_mul_right (show sh * ac ≠ 0 by omega) (by rw [hz]; grind)
  exact ⟨z, l, by grind, by rw [hl]; grind⟩
/-- m, along and across: the rows of a basis for two values -/
structure Cb (v1 v2 : Rat) (m al ac : Int) : Prop where
  m0 : 0 < m
  a0 : 0 < ac
  s1 : IsZ ((m : Rat) * v1)
  s2 : IsZ ((al : Rat) * v1 + (ac : Rat) * v2)
  c : ∀ i j : Int, IsZ ((i : Rat) * v1 + (j : Rat) * v2) → ∃ k l : Int, i = k * m + l * al ∧ j = l * ac
theorem dvd_isZ {M n : Int} {v : Rat} (hM : 0 < M) (h : v * (M : Rat) = (n : Rat)) : M ∣ n ↔ IsZ v := by
  have hMq : (M : Rat) ≠ 0 := by
    intro e
    have : M = 0 := by exact_mod_cast e
    omega
  constructor
  · rintro ⟨c, rfl⟩
    refine ⟨c, ?_⟩
    rw [Rat.intCast_mul] at h
    have : v * (M : Rat) = (c : Rat) * (M : Rat) := by rw [h]; grind
    have h2 := congrArg (· / (M : Rat)) this
    rwa [Rat.mul_div_cancel hMq, Rat.mul_div_cancel hMq] at h2
  · rintro ⟨c, rfl⟩
    rw [← Rat.intCast_mul] at h
    exact ⟨c, by have := Rat.intCast_inj.mp h; rw [← this]; grind⟩
theorem cb_rat {v1 v2 : Rat} {M n1 n2 e : Int} (hM : 0 < M) (h1 : v1 * (M : Rat) = (n1 : Rat)) (h2 : v2 * (M : Rat) = (n2 : Rat)) (he : M ∣ e * (n1 % M) - (Int.gcd M (n1 % M) : Int)) :
    Cb v1 v2 (M / (Int.gcd M (n1 % M) : Int)) (-((n2 % M) / (Int.gcd (Int.gcd M (n1 % M) : Int) (n2 % M) : Int)) * e % M) ((Int.gcd M (n1 % M) : Int) / (Int.gcd (Int.gcd M (n1 % M) : Int) (n2 % M) : Int)) := by
  obtain ⟨a1, a2, a3, a4, a5⟩ := cb_int (s2 := n2 % M) hM he
  have m1 := Int.mul_ediv_add_emod n1 M
  have m2 := Int.mul_ediv_add_emod n2 M
  have key : ∀ i j : Int, M ∣ i * (n1 % M) + j * (n2 % M) ↔ IsZ ((i : Rat) * v1 + (j : Rat) * v2) := fun i j => by
    rw [← dvd_isZ (M := M) (n := i * n1 + j * n2) hM (by rw [Rat.intCast_add, Rat.intCast_mul, Rat.intCast_mul, ← h1, ← h2]; grind)]
    have e1 : i * n1 + j * n2 = i * (n1 % M) + j * (n2 % M) + M * (i * (n1 / M) + j * (n2 / M)) := by
      have x1 : n1 = M * (n1 / M) + n1 % M := m1.symm
      have x2 : n2 = M * (n2 / M) + n2 % M := m2.symm
      grind
    rw [e1]
    exact ⟨fun h => Int.dvd_add h ⟨_, rfl⟩, fun h => by have := Int.dvd_sub h (Int.dvd_mul_right M (i * (n1 / M) + j * (n2 / M))); rwa [Int.add_sub_cancel] at this⟩
  refine ⟨a1, a2, ?_, (key _ _).mp a4, fun i j h => a5 i j ((key i j).mpr h)⟩
  have := (key (M / (Int.gcd M (n1 % M) : Int)) 0).mp (by rw [Int.zero_mul, Int.add_zero]; exact a3)
  rw [show (((0 : Int) : Int) : Rat) = 0 from rfl] at this
  rwa [show ((M / (Int.gcd M (n1 % M) : Int) : Int) : Rat) * v1 + 0 * v2 = ((M / (Int.gcd M (n1 % M) : Int) : Int) : Rat) * v1 by grind] at this
/-- the pairs that a triple stands for -/
def InL (a b c x y : Rat) : Prop := ∃ i j : Int, x = (i : Rat) * a + (j : Rat) * b ∧ y = (j : Rat) * c
/-- where a form is an integer -/
theorem where_in {a b c f0 f1 : Rat} {m al ac : Int} (hb : Cb (f0 * a) (f0 * b + f1 * c) m al ac) {x y : Rat} (k : Int) :
    InL ((m : Rat) * a) ((al : Rat) * a + (ac : Rat) * b - (k : Rat) * ((m : Rat) * a)) ((ac : Rat) * c) x y ↔ InL a b c x y ∧ IsZ (f0 * x + f1 * y) := by
  constructor
  · rintro ⟨i, j, rfl, rfl⟩
    refine ⟨⟨i * m + j * al - j * k * m, j * ac, ?_, ?_⟩, ?_⟩
    · simp only [Rat.intCast_add, Rat.intCast_sub, Rat.intCast_mul]; grind
    · simp only [Rat.intCast_mul]; grind
    · have h1 := IsZ.mul (i - j * k) hb.s1
      have h2 := IsZ.mul j hb.s2
      have h3 := h1.add h2
      refine h3.elim fun z hz => ⟨z, ?_⟩
      rw [← hz]; simp only [Rat.intCast_add, Rat.intCast_sub, Rat.intCast_mul]; grind
  · rintro ⟨⟨i, j, rfl, rfl⟩, hz⟩
    have : IsZ ((i : Rat) * (f0 * a) + (j : Rat) * (f0 * b + f1 * c)) := by
      refine hz.elim fun z hz => ⟨z, ?_⟩
      rw [← hz]; grind
    obtain ⟨k', l, rfl, rfl⟩ := hb.c i j this
    refine ⟨k' + l * k, l, ?_, ?_⟩
    · simp only [Rat.intCast_add, Rat.intCast_sub, Rat.intCast_mul]; grind
    · simp only [Rat.intCast_mul]; grind
end EP
namespace EP
open PySem PySem.Spec PyProof.Rows L2
/-! ### how many classes of turns there are -/
theorem Bfs.all {ps : List (Rat × Rat)} {known : List (List Rat)} {t : Nat} (b : Bfs ps known t) (h : known.length ≤ t) : ∀ i j : Nat, combR ps i j ∈ known := by
  have s1 : ∀ a ∈ known, nextR (ps.map Prod.fst) a ∈ known ∧ nextR (ps.map Prod.snd) a ∈ known := fun a ha => by
    obtain ⟨k, hk⟩ := List.mem_iff_getElem?.mp ha
    exact b.cl k (by have := (List.getElem?_eq_some_iff.mp hk).1; omega) a hk
  intro i j
  induction i with
  | zero =>
    induction j with
    | zero => exact b.z
    | succ j ih => rw [← next_two]; exact (s1 _ ih).2
  | succ i ih => rw [← next_one]; exact (s1 _ ih).1
theorem sub_len {α : Type} [DecidableEq α] : ∀ {l l' : List α}, l.Nodup → (∀ x ∈ l, x ∈ l') → l.length ≤ l'.length
  | [], _, _, _ => by simp
  | x :: l, l', nd, h => by
    have hx := h x (by simp)
    have nd' := List.nodup_cons.mp nd
    have := sub_len (l' := l'.erase x) nd'.2 fun y hy => by
      have hne : y ≠ x := fun e => nd'.1 (e ▸ hy)
      exact (List.mem_erase_of_ne hne).mpr (h y (by simp [hy]))
    rw [List.length_erase_of_mem hx] at this
    have : 0 < l'.length := List.length_pos_of_mem hx
    simp only [List.length_cons]; omega
theorem idx_le {ps : List (Rat × Rat)} {k1 k2 : List (List Rat)} {t1 t2 : Nat} (b1 : Bfs ps k1 t1) (b2 : Bfs ps k2 t2) (h : k2.length ≤ t2) : k1.length ≤ k2.length :=
  sub_len b1.nd fun x hx => by
    obtain ⟨i, j, e⟩ := b1.rch x hx
    rw [e]; exact b2.all h i j
theorem idx_uniq {ps : List (Rat × Rat)} {n n' : Int} (h : IdxP ps n) (h' : IdxP ps n') : n = n' := by
  obtain ⟨k1, t1, b1, e1, c1⟩ := h
  obtain ⟨k2, t2, b2, e2, c2⟩ := h'
  by_cases l1 : k1.length < 25 <;> by_cases l2 : k2.length < 25
  · have a1 := idx_le b1 b2 (c2 l2)
    have a2 := idx_le b2 b1 (c1 l1)
    omega
  · have a2 := idx_le b2 b1 (c1 l1)
    omega
  · have a1 := idx_le b1 b2 (c2 l2)
    omega
  · omega
theorem idx_nil {n : Int} (h : IdxP [] n) : n = 1 := by
  obtain ⟨k, t, b, e, c⟩ := h
  have h1 : k.length ≤ 1 := by
    have : k.length ≤ ([[]] : List (List Rat)).length := sub_len b.nd fun x hx => by
      obtain ⟨i, j, e⟩ := b.rch x hx
      rw [e]; simp [combR]
    simpa using this
  have h2 : 0 < k.length := List.length_pos_of_mem b.z
  omega
theorem idx_pos {ps : List (Rat × Rat)} {n : Int} (h : IdxP ps n) : 1 ≤ n ∧ n ≤ 25 := by
  obtain ⟨k, t, b, e, c⟩ := h
  have h2 : 0 < k.length := List.length_pos_of_mem b.z
  omega
/-! ### the load of a road -/
/-- how far a gate lies, the first two being at 0 and 1 -/
def byQ (g0 g1 g : Gt) : Rat := (g.pl - g0.pl) / (g1.pl - g0.pl)
def oneQ (g0 g1 g : Gt) : Rat := g0.P * (1 - byQ g0 g1 g) / g.P
def twoQ (g0 g1 g : Gt) : Rat := g1.P * byQ g0 g1 g / g.P
def psQ (g0 g1 : Gt) (gs : List Gt) : List (Rat × Rat) := gs.map fun g => (oneQ g0 g1 g, twoQ g0 g1 g)
/-- the widths of the windows within one period -/
def wdsQ (P : Rat) (xs : Sps) : List Rat := (List.range xs.length).map fun k : Nat => (winQ P xs (k : Int)).2 - (winQ P xs (k : Int)).1
structure Wd (P : Rat) (xs : Sps) (w : Rat) : Prop where
  m : w ∈ wdsQ P xs
  g : ∀ q ∈ wdsQ P xs, q ≤ w
theorem max_ex : ∀ {l : List Rat}, l ≠ [] → ∃ m ∈ l, ∀ x ∈ l, x ≤ m
  | [a], _ => ⟨a, by simp, fun x hx => by rw [List.mem_singleton.mp hx]; exact Rat.le_refl⟩
  | a :: b :: l, _ => by
    obtain ⟨m, hm, h⟩ := max_ex (l := b :: l) (by simp)
    by_cases c : a ≤ m
    · exact ⟨m, by simp [hm], fun x hx => by
        rcases List.mem_cons.mp hx with rfl | hx
        · exact c
        · exact h x hx⟩
    · exact ⟨a, by simp, fun x hx => by
        rcases List.mem_cons.mp hx with rfl | hx
        · exact Rat.le_refl
        · have := h x hx; grind⟩
theorem wd_ex {P : Rat} {xs : Sps} (h : 0 < xs.length) : ∃ w, Wd P xs w := by
  obtain ⟨m, hm, hg⟩ := max_ex (l := wdsQ P xs) (by
    intro e
    have := congrArg List.length e
    unfold wdsQ at this
    rw [List.length_map, List.length_range] at this
    have : xs.length = 0 := this
    omega)
  exact ⟨m, hm, hg⟩
theorem wd_uniq {P : Rat} {xs : Sps} {w w' : Rat} (h : Wd P xs w) (h' : Wd P xs w') : w = w' := by
  have a := h.g _ h'.m
  have b := h'.g _ h.m
  grind
def ldStep (g0 g1 : Gt) (w0 w1 : Rat) (ld : Int) (g : Gt) : Int := ld * (g.xs.length : Int) * ((((byQ g0 g1 g - 1) * w0 + byQ g0 g1 g * w1) / g.P).floor + 2)
inductive LoadP : List Gt → Int → Prop
  | none {bs : List Gt} (h : bs.length < 2) : LoadP bs 0
  | many {g0 g1 : Gt} {rs : List Gt} {k : Int} (hk : IdxP (psQ g0 g1 rs) k) (h : 24 < k) : LoadP (g0 :: g1 :: rs) 1000
  | some {g0 g1 : Gt} {rs : List Gt} {k : Int} {w0 w1 : Rat} (hk : IdxP (psQ g0 g1 rs) k) (h : k ≤ 24) (h0 : Wd g0.P g0.xs w0) (h1 : Wd g1.P g1.xs w1) : LoadP (g0 :: g1 :: rs) (rs.foldl (ldStep g0 g1 w0 w1) (k * (g0.xs.length : Int) * (g1.xs.length : Int)))
theorem load_uniq {bs : List Gt} {n n' : Int} (h : LoadP bs n) (h' : LoadP bs n') : n = n' := by
  cases h with
  | none h => cases h' with
    | none _ => rfl
    | many _ _ => exact absurd h (by simp only [List.length_cons]; omega)
    | some _ _ _ _ => exact absurd h (by simp only [List.length_cons]; omega)
  | many hk h => cases h' with
    | none h => exact absurd h (by simp only [List.length_cons]; omega)
    | many _ _ => rfl
    | some hk' h' _ _ => have := idx_uniq hk hk'; omega
  | some hk h h0 h1 => cases h' with
    | none h => exact absurd h (by simp only [List.length_cons]; omega)
    | many hk' h' => have := idx_uniq hk hk'; omega
    | some hk' h' h0' h1' => rw [idx_uniq hk hk', wd_uniq h0 h0', wd_uniq h1 h1']
theorem load_two {g0 g1 : Gt} {n : Int} (h : LoadP [g0, g1] n) : n = (g0.xs.length : Int) * (g1.xs.length : Int) := by
  cases h with
  | none h => exact absurd h (by simp)
  | many hk h => have := idx_nil hk; omega
  | some hk h _ _ => have := idx_nil hk; subst this; simp
end EP
set_option maxHeartbeats 2000000
namespace EPX
open PySem PySem.Spec PyProof.Rows L2
/-! ### C.m(e, ..) where C is a class of the program's own and m a function in it -/
/-- what is asked of the class and the function -/
structure OwnFn (K : PySem.W.Frag) (C f : Addr) (m : Str) : Prop where
  ga : PySem.W.specialIn K (.ref C) "__getattribute__" = some (some (.builtin "type.__getattribute__"))
  ty : ∃ mc, PySem.W.typeIn K (.ref C) = some mc ∧ PySem.W.readsIn K C mc = true ∧ PySem.W.findCls K (.ref C) mc m = some (.val (.ref f))
  kp : PySem.W.keepIn K (.ref f) = true
section
variable {X : Cx} {CX : CXT} {k : Nat} {f C : Addr} {fd : FuncData} {ps : List Str} {sp : Sp} {E : XK} {x m : Str} {p1 p2 pos : Pos} {e : Expr} {es : List Expr} {t : TA}
theorem pe_ownfn {pl : Sem Bool} (F : FnOk X.prog X.w X.K X.mg X.base CX k f fd ps sp) (O : OwnFn X.K C f m) (hr : Room k X.A) (hg : Gl X x) (hm : X.mg x = some (.ref C)) (hb : Binds X.K fd ps []) (hx : Passes CX X E) (ha : PA X (e :: es) t)
    (hdb : (x == ("__debug__" : Str)) = false := by decide)
    (hc : eval (.Call (.Attribute (.Name x p1) m p2) (e :: es) [] pos) X.env = (do
      let who ← eval (.Name x p1) X.env
      standAt p2.atName
      let (fn, first) ← holding [who] (getMethod who m pl)
      callWith pos fn first (backTo pos (starEach (e :: es) X.env)) (backToKw pos (keywordEach [] X.env))) := by rfl)
    (he : starEach (e :: es) X.env = (false, eval e X.env) :: starEach es X.env := by rfl) (hpl : (backTo pos (starEach es X.env)).any (·.1) = false := by rfl) :
    PE X (.Call (.Attribute (.Name x p1) m p2) (e :: es) [] pos) (tCall sp [] E t) := by
  refine ⟨fun pins s σ H Q I h => ?_⟩
  obtain ⟨mc, y1, y2, y3⟩ := O.ty
  refine PySem.W.methodCall_KW (ld_glob I hg hm ?_ hdb) hc
  obtain ⟨m', fr⟩ := I.fr
  refine PySem.W.method_of_cls fr I.ok.mod.kin O.ga ?_
  refine PySem.W.cls_val fr I.ok.mod.kin y1 y2 y3 rfl ?_
  refine PySem.W.callWith_K (h₀ := X.base) I.ok.mod.kin O.kp ?_ he hpl
  refine thn (ha.run pos pins _ σ H _ (I.tok _) h) fun us s1 got => ?_
  obtain ⟨vs, H1, I1, r, q⟩ := got
  exact ⟨I1.kIn, run_fn F hr hb .nil hx I1 r q⟩
end
/-! ### except (A, B) as n -/
theorem fly_keeps {B h h' : Heap} {l : List Env} {a : Addr} {Z : Obj → Prop} (fl : HandSPX.FlyingZ B l a Z h) (kp : ∀ b o, h.get? b = some o → h'.get? b = some o) : HandSPX.FlyingZ B l a Z h' := by
  obtain ⟨f1, f2, f3, oe, vs, T, oT, ts, g1, g2, g3, g4, g5, g6, g7, g8⟩ := fl
  refine ⟨fun b o e => kp b o (f1 b o e), f2, f3.of_keeps fun b o e _ => ⟨o, kp b o e, rfl⟩, oe, vs, T, oT, ts, kp _ _ g1, g2, g3, g4, g5, g6, kp _ _ g7, g8⟩
/-- what follows a clause's suite: the name is gone -/
def unAs (i : Nat) (D : Ends) : Ends := { nx := fun σ H => D.nx (σ.set i none) H, rt := D.rt, bk := fun σ H => D.bk (σ.set i none) H, ct := fun σ H => D.ct (σ.set i none) H }
abbrev Suite := Addr → Value → Option Addr → TS
/-- the wish of one clause for two classes, and what is wished where it does not match -/
def wPair (K : PySem.W.Frag) (c1 c2 : Value) (i : Nat) (ts : Suite) (D : Ends) (W : WX) : WX := fun cls d σ H =>
  ∃ b, PySem.W.exmAny K cls [c1, c2] = some b ∧ (b = true → ∀ a, H a = none → ts a cls d (unAs i D) (σ.set i (some (.ref a))) H) ∧ (b = false → W cls d σ H)
section
variable {X : Cx} {x1 x2 n : Str} {c1 c2 : Value} {i : Nat} {suite : List Stmt} {b₀ : Stmt} {q1 q2 tp pos' : Pos} {kk : Nat} {ts : Suite} {rest : List ExceptHandler}
theorem clause_pair {pins : List (Addr × Obj)} {σ : L2.St} {H : Hp} {s' sI : Shared} {D : Ends} {W : WX} {B : Heap} {a : Addr} {cls : Value} {d : Option Addr}
    (hs : X.stack = X.env :: X.outer) (hf : X.env.frame = some X.env.locals) (hN : X.N.Nodup) (hi : X.N[i]? = some n) (hln : X.env.kindOf n = some .local) (n1 : Names X x1 c1) (n2 : Names X x2 c2)
    (hsu : ∀ (a : Addr) (oe : Obj) (cls : Value) (d : Option Addr) (pn : List (Addr × Obj)), L2N.Zn cls d oe → (∃ vs, oe.data = .fields vs) → PSs (X.suite a ((a, oe) :: pn)) (b₀ :: suite) (ts a cls d))
    (J : Inv X pins σ H sI) (nb : ∀ b o, sI.heap.get? b = some o → b ∉ frs X.stack → B.get? b = some o) (up : sI.heap.UpToSlots s'.heap) (fl : HandSPX.FlyingZ B (X.env :: X.outer) a (L2N.Zn cls d) s'.heap) (na : H a = none) (os : s'.os = sI.os) (ag : AllBare s'.gens)
    (w : wPair X.K c1 c2 i ts D W cls d σ H)
    (more : ∀ h', HandSPX.FlyingZ B (X.env :: X.outer) a (L2N.Zn cls d) h' → sI.heap.UpToSlots h' → W cls d σ H → wpAny (model X.prog X.w) X.A (handleBy (.ref a) X.env rest) (SP X pins D) X.xe { s' with heap := h' }) :
    wpAny (model X.prog X.w) X.A (handleBy (.ref a) X.env (.ExceptHandler (some (.Tuple [.Name x1 q1, .Name x2 q2] kk tp)) (some n) (b₀ :: suite) pos' :: rest)) (SP X pins D) X.xe s' := by
  have ok := J.ok
  obtain ⟨b, hb, yes, no⟩ := w
  -- the exception's own object
  have apart : ∀ {h : Heap}, HandSPX.FlyingZ B (X.env :: X.outer) a (L2N.Zn cls d) h → a ≠ X.env.locals ∧ a ∉ X.fs := fun {h} f => by
    obtain ⟨oe, vs, he, _, hd⟩ := f.there
    have out : a ∉ frs (X.env :: X.outer) := fun hm => by
      obtain ⟨_, o', e', hnf⟩ := f.2.2.1.mem hm
      rw [he] at e'
      cases e'
      exact hnf _ hd
    exact ⟨fun z => out (List.mem_filterMap.mpr ⟨X.env, List.mem_cons_self, by rw [hf, z]⟩), fun hm => out (by
      obtain ⟨v, hv, q⟩ := List.mem_filterMap.mp hm
      exact List.mem_filterMap.mpr ⟨v, List.mem_cons_of_mem _ hv, q⟩)⟩
  obtain ⟨nL, nF⟩ := apart fl
  obtain ⟨oe, vs, he, hz, hd⟩ := fl.there
  have J1 : Inv X pins σ H s' := J.landed nb fl.1 up os ag
  have S1 := J1.suite he hd na nL nF
  have name : ∀ {x : Str} {c : Value} {np : Pos} {Q : Value → Shared → Prop} {E : Value → Shared → Prop}, Names X x c → Q c s' → wpAny (model X.prog X.w) (X.A.mark (some (.ref a))) (eval (.Name x np) X.env) Q E s' := fun {x c np Q E} hc q => by
    obtain ⟨hg, hdbg, hm | ⟨hm, hv, hnn⟩⟩ := hc
    · exact ld_glob (X := X.suite a ((a, oe) :: (X.pn ++ pins))) S1 hg hm q hdbg
    · exact ld_blt (X := X.suite a ((a, oe) :: (X.pn ++ pins))) S1 hg hm hv q hnn hdbg
  refine wpAny_handleBy_cons (codeAny_handlers_test ?_) (fun z => nomatch z)
  refine wpAny_Tuple (wpAny_items_cons (name n1 (wpAny_items_cons (name n2 (wpAny_items_nil ⟨by size_fits, ?_⟩)))))
  have kp : ∀ q o, s'.heap.get? q = some o → (s'.heap.push { cls := .type "tuple", data := .seq [c1, c2].toArray }).get? q = some o := fun _ _ z => Heap.get?_push_of_some _ z
  have fl2 := fly_keeps fl kp
  have up2 := up.trans (Heap.UpToSlots.of_keeps kp)
  obtain ⟨oe2, vs2, he2, hz2, hd2⟩ := fl2.there
  have LT : PySem.W.Looks (model X.prog X.w) (s'.heap.push { cls := .type "tuple", data := .seq [c1, c2].toArray }) (typeOf (.ref a)) cls := fun A Q E s k q => wpAny_typeOf_ref (k _ _ he2) (by rw [hz2.1]; exact q)
  have J2 : Inv X pins σ H { s' with heap := s'.heap.push { cls := .type "tuple", data := .seq [c1, c2].toArray } } := J.landed nb fl2.1 up2 os ag
  refine (PySem.W.exm_tup2 (M := model X.prog X.w) J2.kIn LT (Heap.get?_push_size s'.heap rfl) hb).here ?_
  cases b with
  | false => exact more _ fl2 up2 (no rfl)
  | true =>
    refine codeAny_handlers_suite_as (HandSPX.lands_againZ fl2 fun h4 fl4 up4 => ?_)
    obtain ⟨oe4, vs4, he4, hz4, hd4⟩ := fl4.there
    have J4 : Inv X pins σ H { s' with heap := h4 } := J.landed nb fl4.1 (up2.trans up4) os ag
    obtain ⟨nL4, nF4⟩ := apart fl4
    refine store_ok (X := X.suite a ((a, oe4) :: (X.pn ++ pins))) (v := .ref a) (J4.suite he4 hd4 na nL4 nF4) hN hi (.inl hln) rfl (fun s5 S5 => ?_) (.inr hln)
    refine wpAny_mono ((hsu a oe4 cls d (X.pn ++ pins) hz4 ⟨_, hd4⟩).run [] s5 _ H _ S5 (yes rfl a na)) (fun fw s6 got => ?_) (fun _ _ z => z.elim)
    cases fw with
    | next => obtain ⟨σ6, H6, S6, q6⟩ := got; exact gone_ok (S6.unsuite ok) hN hi hln fun s7 J7 => ⟨_, _, J7, q6⟩
    | brk => obtain ⟨σ6, H6, S6, q6⟩ := got; exact gone_ok (S6.unsuite ok) hN hi hln fun s7 J7 => ⟨_, _, J7, q6⟩
    | cont => obtain ⟨σ6, H6, S6, q6⟩ := got; exact gone_ok (S6.unsuite ok) hN hi hln fun s7 J7 => ⟨_, _, J7, q6⟩
    | ret u => obtain ⟨v6, σ6, H6, S6, r6, q6⟩ := got; exact gone_ok (S6.unsuite ok) hN hi hln fun s7 J7 => ⟨_, _, _, J7, r6, q6⟩
end
section
variable {X : Cx} {x1 x2 x3 x4 n : Str} {c1 c2 c3 c4 : Value} {i : Nat} {body suite suite' : List Stmt} {b₀ b₁ : Stmt} {q1 q2 q3 q4 tp tp' pos pos' pos'' : Pos} {kk kk' : Nat} {tb : WX → TS} {ts ts' : Suite}
/-- try: body except (x1, x2) as n: suite except (x3, x4) as n: suite'; each exception of the body is caught -/
theorem ps_try_pairs (hs : X.stack = X.env :: X.outer) (hf : X.env.frame = some X.env.locals) (hN : X.N.Nodup) (hi : X.N[i]? = some n) (hln : X.env.kindOf n = some .local) (n1 : Names X x1 c1) (n2 : Names X x2 c2) (n3 : Names X x3 c3) (n4 : Names X x4 c4)
    (hb : ∀ (W : WX) (pn : List (Addr × Obj)) (xe : Value → Shared → Prop), L2N.Takes (X.tr pn xe) W → PassesOwn (model X.prog X.w) X.A X.env xe → PSs (X.tr pn xe) body (tb W))
    (hsu : ∀ (a : Addr) (oe : Obj) (cls : Value) (d : Option Addr) (pn : List (Addr × Obj)), L2N.Zn cls d oe → (∃ vs, oe.data = .fields vs) → PSs (X.suite a ((a, oe) :: pn)) (b₀ :: suite) (ts a cls d))
    (hsu' : ∀ (a : Addr) (oe : Obj) (cls : Value) (d : Option Addr) (pn : List (Addr × Obj)), L2N.Zn cls d oe → (∃ vs, oe.data = .fields vs) → PSs (X.suite a ((a, oe) :: pn)) (b₁ :: suite') (ts' a cls d)) :
    PS X (.Try body [.ExceptHandler (some (.Tuple [.Name x1 q1, .Name x2 q2] kk tp)) (some n) (b₀ :: suite) pos', .ExceptHandler (some (.Tuple [.Name x3 q3, .Name x4 q4] kk' tp')) (some n) (b₁ :: suite') pos''] [] [] pos)
      (fun D σ H => tb (wPair X.K c1 c2 i ts D (wPair X.K c3 c4 i ts' D fun _ _ _ _ => False)) D σ H) := by
  refine ⟨fun pins s σ H D I h => ?_⟩
  have ok := I.ok
  have hfr : X.A.frames = some (X.env :: X.outer) := by rw [ok.frames, hs]
  refine wpAny_Try_except ?_
  refine wpAny_mono ((hb _ (X.pn ++ pins) _ (fun u s' air => ?_) PassesOwn.looking).run [] s σ H D (I.toTry _) h) (fun fw s1 got => ?_) (fun _ _ z => z)
  · obtain ⟨a, B, sI, pins', σ', H', cls, d, rfl, J', nb, up, sky, na, os, ag, w⟩ := air
    have J : Inv X pins σ' H' sI := J'.ofTry ok
    have sky' : Sky B (X.env :: X.outer) a (L2N.Zn cls d) X.env.locals s'.heap := by rw [← hs]; exact sky
    refine L2N.Sky.land L2N.Zn.steady hfr hf sky' fun h3 fl3 up3 => ?_
    refine clause_pair (s' := { s' with heap := h3 }) hs hf hN hi hln n1 n2 hsu J nb (up.trans up3) fl3 na os ag w fun h4 fl4 up4 w2 => ?_
    exact clause_pair (s' := { s' with heap := h4 }) hs hf hN hi hln n3 n4 hsu' J nb up4 fl4 na os ag w2 fun h5 fl5 up5 z => z.elim
  · cases fw with
    | next => obtain ⟨σ', H', J', q⟩ := got; exact wpAny_execs_nil ⟨σ', H', J'.ofTry ok, q⟩
    | brk => obtain ⟨σ', H', J', q⟩ := got; exact ⟨σ', H', J'.ofTry ok, q⟩
    | cont => obtain ⟨σ', H', J', q⟩ := got; exact ⟨σ', H', J'.ofTry ok, q⟩
    | ret u => obtain ⟨v, σ', H', J', r, q⟩ := got; exact ⟨v, σ', H', J'.ofTry ok, r, q⟩
end
end EPX
set_option maxHeartbeats 2000000
namespace EPX
open PySem PySem.Spec PyProof.Rows L2 L2H
section
variable {prog : Program} {w : World} {A : Around} {E : Value → Shared → Prop} {s : Shared}
/-- a tuple's iterator at its end while an exception is handled -/
theorem tuple_end_hot {it t x1 : Addr} {i : Nat} {items : Array Value} {Q : Option Value → Shared → Prop} (hot : HotX.HotAt A x1 s.heap) (hne : x1 ≠ it)
    (hit : IsTupIter s.heap it t i) (ht : IsTup s.heap t items) (hx : items[i]? = none)
    (hQ : ∀ h', Heap.ExtBut it s.heap h' → Q none { s with heap := h' }) : wpAny (model prog w) A (pyNext (.ref it)) Q E s := by
  obtain ⟨hh, o1, vs1, g1, d1, k1⟩ := hot
  obtain ⟨o, ho, hc, hd⟩ := id hit
  obtain ⟨ol, hol, _, nl, hdl⟩ := ht
  unfold pyNext
  refine wpAny_bind (wpAny_attempt ?_)
  refine wpAny_callSpecial?_slot (name := Str.ofString "__next__") hit.typeIs slot_tupleiter_next ?_
  refine wpAny_call_entry slot_tupleiter_next hit.typeIs entry_tupleiter_next ?_ (args_tupleiter_next _)
  show wpAny _ _ (field (.ref it) 0 >>= _) _ _ s
  refine wpAny_bind (wpAny_field ho hd (x := .ref t) rfl ?_)
  show wpAny _ _ (if (Value.ref t == Value.none) = true then _ else _) _ _ s
  rw [if_neg (show ¬ ((Value.ref t == Value.none) = true) from Bool.false_ne_true)]
  show wpAny _ _ (field (.ref it) 1 >>= _) _ _ s
  refine wpAny_bind (wpAny_field ho hd (x := .int i 0) rfl ?_)
  show wpAny _ _ (seqItems? (.ref t) >>= _) _ _ s
  refine wpAny_bind (wpAny_seqItems hol hdl ?_)
  simp only [Int.toNat_natCast, hx]
  refine wpAny_bind (wpAny_rule (wpAny_bind (wpAny_setField ho hd (by simp) ?_)))
  show wpAny _ _ (newExc (.type "StopIteration") [] >>= _) _ _ _
  refine wpAny_bind ?_
  simp only [newExc, newTuple]
  refine wpAny_bind (wpAny_newObj_type ?_ (by size_fits))
  refine wpAny_bind (m := firstArgMember _ _) (wpAny_of_eq (a := Value.none) (by first | rfl | (simp only [firstArgMember]; rfl)) ?_)
  refine wpAny_newObj_type ?_ (by size_fits)
  have old : ∀ {f : Obj → Obj} {b : Addr} {u : Obj}, b ≠ it → s.heap.get? b = some u → (s.heap.update it f).get? b = some u := fun hb e => (Heap.get?_update_other _ _ (Ne.symm hb)).trans e
  refine HotX.raiseNew_hot ⟨hh, o1, vs1, Heap.get?_push_of_some _ (Heap.get?_push_of_some _ (old hne g1)), d1, k1⟩ (Nat.ne_of_lt (Heap.lt_size (Heap.get?_push_of_some _ (old hne g1)))) (Heap.get?_push_size _ rfl) rfl (by first | (simp; done) | (simp; omega)) ?_
  refine wpAny_bind (wpAny_isInstance (T := "StopIteration") (b := true) ⟨_, Heap.get?_update_self _ (Heap.get?_push_size _ rfl) rfl, rfl⟩ isSubtype_stop ?_)
  refine wpAny_pure (hQ _ fun b u hb e => ?_)
  rw [Heap.get?_update_other _ _ (Nat.ne_of_gt (Heap.lt_size (Heap.get?_push_of_some _ (old hb e))))]
  exact Heap.get?_push_of_some _ (Heap.get?_push_of_some _ (old hb e))
theorem unpack_hot {t x1 : Addr} {items : Array Value} {Q : List Value → Shared → Prop} (hot : HotX.HotAt A x1 s.heap) (ht : IsTup s.heap t items)
    (hQ : ∀ h', Heap.ExtBut s.heap.objs.size s.heap h' → Q items.toList { s with heap := h' }) : wpAny (model prog w) A (unpackItems (.ref t) items.size none) Q E s := by
  have tn : t ≠ s.heap.objs.size := by obtain ⟨o, ho, _⟩ := ht; exact Nat.ne_of_lt (Heap.lt_size ho)
  obtain ⟨hh, o1, vs1, g1, d1, k1⟩ := hot
  have xn : x1 ≠ s.heap.objs.size := Nat.ne_of_lt (Heap.lt_size g1)
  unfold unpackItems
  refine wpAny_bind ?_
  unfold notIterableAtAll
  refine wpAny_bind (wpAny_specialOf ht.typeIs slot_tuple_iter.lookup (wpAny_pure ?_))
  simp only [Bool.false_eq_true, if_false]
  refine wpAny_bind (wpAny_holding (iter_tuple ht ?_))
  refine wpAny_bind (wpAny_holding (draw_tuple tn items.size 0 _ _ ⟨_, Heap.get?_push_size _ rfl, rfl, rfl⟩ (ht.push _) (by omega) fun h1 it1 sb1 => ?_))
  rw [show List.take items.size (List.drop 0 items.toList) = items.toList by rw [List.drop_zero]; exact List.take_of_length_le (by simp)]
  rw [if_neg (by simp)]
  have g2 : h1.get? x1 = some o1 := sb1.extBut x1 o1 xn (Heap.get?_push_of_some _ g1)
  refine wpAny_bind (wpAny_holding (tuple_end_hot ⟨hh, o1, vs1, g2, d1, k1⟩ xn it1 ((ht.push _).extBut sb1.extBut tn) (by simp) fun h2 he2 => ?_))
  simp only [Option.isSome_none, Bool.false_eq_true, if_false]
  exact wpAny_pure (hQ h2 fun b o hb e => he2 b o hb (sb1.extBut b o hb (Heap.get?_push_of_some _ e)))
end
section
variable {X : Cx}
/-- a, b = x, y while an exception (whose context is None) is handled -/
theorem ps_parH {i j : Nat} {x y : Str} {a b : Expr} {ta : TA} {px py pt pos : Pos} {kt k2 : Nat} {pt2 : Pos} (hc : HotC X) (hN : X.N.Nodup) (hi : X.N[i]? = some x) (hj : X.N[j]? = some y) (hij : i ≠ j)
    (hx : X.env.scope.names.lookup x = some .local) (hy : X.env.scope.names.lookup y = some .local) (ha : PA X [a, b] ta)
    (hw : swappedStores [.Tuple [.Name x px, .Name y py] kt pt] (.Tuple [a, b] k2 pt2) X.env = pure (some [x, y]))
    (hs : swapsWithSole [.Tuple [.Name x px, .Name y py] kt pt] (.Tuple [a, b] k2 pt2) pos.line X.env = pure false := by rfl) :
    PS X (.Assign [.Tuple [.Name x px, .Name y py] kt pt] (.Tuple [a, b] k2 pt2) pos) (tPar i j ta) := by
  refine ⟨fun pins s σ H D I h => ?_⟩
  rw [exec_Assign_arm]
  refine wpAny_bind (wpAny_standAt ?_)
  rw [hs]
  refine wpAny_bind (wpAny_pure ?_)
  rw [if_neg (by decide)]
  refine wpAny_bind (Tuple_ (thn (ha.run _ pins s σ H _ I h) fun us s1 got => ?_))
  obtain ⟨vs, H1, I1, r1, v, z, rfl, q1⟩ := got
  obtain ⟨u1, u2, rfl, rv, rz⟩ := vals2 r1
  refine wpAny_newObj_type ?_ (by show 2 ≤ sizeLine; decide)
  have I2 : Inv X pins σ H1 { s1 with heap := s1.heap.push { cls := .type "tuple", data := .seq [u1, u2].toArray } } := I1.kept (t' := s1.toks) fun b o e => Heap.get?_push_of_some _ e
  rw [hw]
  refine wpAny_bind (wpAny_pure ?_)
  show wpAny (model X.prog X.w) X.A (do rule "assign.swapped-stores"; let items ← unpackItems (.ref s1.heap.objs.size) 2 none; assignInOrder [fun v => bindName X.env y v, fun v => bindName X.env x v] items.reverse; pure Flow.next) _ _ _
  obtain ⟨x1, hot⟩ := hc.at I2
  refine wpAny_bind (wpAny_rule (wpAny_bind (unpack_hot (items := #[u1, u2]) hot (IsTup.new s1.heap _) fun h' hx' => ?_)))
  have I3 := I2.kept (h' := h') (t' := s1.toks) fun b o e => hx' b o (Nat.ne_of_lt (Heap.lt_size e)) e
  show wpAny _ _ (assignInOrder [fun v => bindName X.env y v, fun v => bindName X.env x v] [u2, u1] >>= fun _ => pure Flow.next) _ _ _
  refine wpAny_bind (assignInOrder_cons (wpAny_bindName (store_ok I3 hN hj (.inl hy) rz (fun s2 I4 => ?_) (.inr hy))))
  refine assignInOrder_cons (wpAny_bindName (store_ok I4 hN hi (.inl hx) rv (fun s3 I5 => assignInOrder_nil (wpAny_pure ?_)) (.inr hx)))
  rw [List.set_comm _ _ (Ne.symm hij)] at I5
  exact ⟨_, H1, I5, q1⟩
end
/-! ### a def that is handed the exception that is being handled -/
abbrev SpE := Addr → Value → Option Addr → List V → Hp → VK → Prop
structure FnE (P : Program) (w : World) (K : PySem.W.Frag) (mg : Str → Option Value) (base : Heap) (k : Nat) (f : Addr) (fd : FuncData) (ps : List Str) (sp : SpE) : Prop where
  len : ∀ a cls d vs H Q, sp a cls d vs H Q → vs.length = ps.length
  run : ∀ (A : Around) (outer : List Env) (s : Shared) (H : Hp) (args : Args) (us : List Value) (vs : List V) (Q : VK) (p : Addr × Obj) (cls : Value) (d : Option Addr), RoomH k A → PinOk outer H s p → L2N.Zn cls d p.2 → (∃ fs, p.2.data = .fields fs) → Env0 P w K mg base A outer s H → BindsTo s fd args (ps.zip us) → Vals vs us → sp p.1 cls d vs H Q →
    codeAny (model P w) A (.call (.ref f) args) (CR CX0 outer P w H s Q E0) s
theorem fn_ofE {P : Program} {w : World} {K : PySem.W.Frag} {mg : Str → Option Value} {base : Heap} {k : Nat} {f : Addr} {fd : FuncData} {x : Str} {st : Stmt} {N ps : List Str} {sp : SpE} (F : Fun K x x st f fd) (S : FnScope N ps (defScope st))
    (len : ∀ a cls d vs H Q, sp a cls d vs H Q → vs.length = ps.length)
    (hbody : ∀ (cdv : Value) (A : Around) (outer : List Env) (s : Shared) (H : Hp) (vs : List V) (Q : VK) (p : Addr × Obj) (cls : Value) (d : Option Addr), L2N.Zn cls d p.2 → (∃ fs, p.2.data = .fields fs) → RoomH k (A.deeper (envOfC x (defScope st) s.heap.objs.size f cdv)) → sp p.1 cls d vs H Q →
      ∃ t, PSs (cxH CX0 P w K mg base N x (defScope st) f cdv A outer s H E0 p) (defBody st) t ∧ t { nx := fun _ H' => Q .non H', rt := Q } (L2.start N vs) H) : FnE P w K mg base (k + 1) f fd ps sp := by
  obtain ⟨oc, od, kV, doc, pm, an, cdv, ct, osl, rfl, lk, hcd⟩ := F.ex
  refine ⟨len, fun A outer s H args us vs Q p cls d hr hpin hz hfs e0 hb r hsp => ?_⟩
  have hl := len _ _ _ _ _ _ hsp
  have KX : K.In s.heap := e0.mod.kin.keeps fun b o e => (e0.bs b o e).1
  have lim : s.heap.NoLimit := e0.mod.nolimit.keeps fun b o e => (e0.bs b o e).1
  refine codeAny_call_function hr.depth (KX _ _ lk) rfl S.co S.gen rfl (PySem.W.codeRec_of KX hcd) (hb _ _ _ _ ?_)
  refine wpAny_newFunctionEnv_cells S.kind (fun ⟨n, v⟩ hy => ?_) fun env he s1 got => ?_
  · rcases S.par n (List.of_mem_zip hy).1 with q | q
    · exact .inl q
    · exact .inr ⟨q, PySem.W.cellsFrom_some _ _ _ (.inl q)⟩
  subst he
  refine ⟨lim.keeps got.toInCall.keep, codeAny_func ?_⟩
  obtain ⟨t, ht, hq⟩ := hbody cdv A outer s H vs Q p cls d hz hfs (hr.deeper _) hsp
  have I : Inv (cxH CX0 P w K mg base N x (defScope st) f cdv A outer s H E0 p) [] (L2.start N vs) H s1 := inv_startH S hpin e0 hl r got
  refine wpAny_mono (ht.run [] s1 (L2.start N vs) H _ I hq) (fun fw s' hs => ?_) fun _ _ hs => hs
  cases fw with
  | ret u => obtain ⟨v, σ', H', J, rv, q⟩ := hs; exact ⟨v, H', J.os, J.bare, J.base, J.hok, rv, q⟩
  | next => obtain ⟨σ', H', J, q⟩ := hs; exact ⟨V.non, H', J.os, J.bare, J.base, J.hok, rfl, q⟩
  | brk => obtain ⟨_, _, _, q⟩ := hs; exact q.elim
  | cont => obtain ⟨_, _, _, q⟩ := hs; exact q.elim
section
variable {X : Cx} {k : Nat} {f : Addr} {fd : FuncData} {ps : List Str} {sp : SpE} {x : Str} {q pos : Pos} {e : Expr} {es : List Expr} {t : TA}
theorem pe_callE {p : Addr × Obj} {cls : Value} {d : Option Addr} (F : FnE X.prog X.w X.K X.mg X.base k f fd ps sp) (hr : RoomH k X.A) (hp : p ∈ X.pn) (hz : L2N.Zn cls d p.2) (hfs : ∃ fs, p.2.data = .fields fs) (hg : Gl X x) (hm : X.mg x = some (.ref f)) (hk : PySem.W.keepIn X.K (.ref f) = true) (hb : Binds X.K fd ps [])
    (ha : PA X (e :: es) t) (hdb : (x == ("__debug__" : Str)) = false := by decide) (he : starEach (e :: es) X.env = (false, eval e X.env) :: starEach es X.env := by rfl) (hpl : (backTo pos (starEach es X.env)).any (·.1) = false := by rfl) :
    PE X (.Call (.Name x q) (e :: es) [] pos) (fun σ H Q => t σ H fun vs H1 => sp p.1 cls d vs H1 Q) := by
  refine ⟨fun pins s σ H Q I h => ?_⟩
  refine wpAny_Call_Name_kw (ld_glob I hg hm ?_ hdb)
  refine PySem.W.callWith_K (h₀ := X.base) I.ok.mod.kin hk ?_ he hpl
  refine thn (ha.run pos pins s σ H _ I h) fun us s1 got => ?_
  obtain ⟨vs, H1, I1, r, q1⟩ := got
  have hl : us.length = ps.length := by rw [← r.length]; exact F.len _ _ _ _ _ _ q1
  have b := hb s1 us I1.kIn (by rw [List.append_nil]; exact hl)
  rw [List.append_nil] at b
  have P1 := I1.pin p (List.mem_append_left _ hp)
  have pin : PinOk X.stack H1 s1 p := ⟨P1.1, P1.2.1, fun z => (List.mem_cons.mp (I1.stkSub p.1 z)).elim P1.2.2.1 P1.2.2.2.1, P1.2.2.2.2⟩
  refine ⟨I1.kIn, wpAny_call (codeAny_mono (F.run X.A X.stack s1 H1 ⟨us, []⟩ us vs Q p cls d hr pin hz hfs I1.env0 b r q1) fun res s' hq => ?_)⟩
  cases res with
  | error er => exact (show False from hq).elim
  | ok fl =>
    cases fl with
    | ret u => exact I1.after hq
    | next => exact False.elim hq
    | brk => exact False.elim hq
    | cont => exact False.elim hq
/-- e.n of the exception that is being handled -/
def tXe (K : PySem.W.Frag) (a : Addr) (cls : Value) (d : Option Addr) (n : Str) (te : TE) : TE := fun σ H Q => te σ H fun v H1 => v = .ref a ∧ ∃ (C dd : Addr) (fs : List (Str × V)) (z : V), cls = .ref C ∧ d = some dd ∧ XfC K C ∧ PySem.W.findIn K (.ref C) n = some none ∧ H1 dd = some (.xd fs) ∧ fs.lookup n = some z ∧ Q z H1
theorem pe_xe {p : Addr × Obj} {cls : Value} {d : Option Addr} {te : TE} {n : Str} (hp : p ∈ X.pn) (hz : L2N.Zn cls d p.2) (hfs : ∃ fs, p.2.data = .fields fs) (he : PE X e te) (hb : attributeBase e n X.env (eval e X.env) = eval e X.env := by rfl) :
    PE X (.Attribute e n pos) (tXe X.K p.1 cls d n te) := by
  refine ⟨fun pins s σ H Q I h => ?_⟩
  refine attr_of hb (thn (he.run pins s σ H _ I h) fun u s1 got => ?_)
  obtain ⟨v, H1, I1, rv, rfl, C, dd, fs, z, rfl, rfl, T, hno, ea, l, q1⟩ := got
  obtain rfl : u = Value.ref p.1 := rv
  have ha := (I1.pin p (List.mem_append_left _ hp)).1
  obtain ⟨vs, hd⟩ := hfs
  obtain ⟨mA, hns, hr⟩ := (show ObjOk X.prog X.w H1 s1.heap dd (.xd fs) from I1.hok dd _ ea)
  obtain ⟨od, ho, hl⟩ := lookIn_ns hns
  obtain ⟨u, hu, ru⟩ := RelO.some_of (v := z) (o := mA n) (by rw [← l]; exact hr n)
  have J : PySem.W.InstAt s1.heap p.1 p.2 C (some od) := ⟨ha, hz.1, by unfold PySem.W.notCls; rw [hd] <;> rfl, by rw [hz.2.1]; exact ho⟩
  exact HandSPX.exc_get I1.kIn J T.ga T.gg T.exC (PySem.W.findObj_own T.hdC hno rfl (by rw [hl, hu])) (handed_of ru) ⟨z, H1, I1.tok _, ru, q1⟩
end
end EPX
set_option maxHeartbeats 4000000
namespace EPX
open PySem PySem.Spec PyProof.Rows L2 L2H
/-! ### C(e, ..) of an own error class over ValueError, made where nothing is handled -/
theorem pmk_oexN {X : Cx} {x : Str} {e : Expr} {es : List Expr} {ta : TA} {p pos : Pos} {C fI : Addr} {k : Nat} {fd : FuncData} {ps : List Str} {sp : Sp} (T : OexC X.K C) (iC : PySem.W.findIn X.K (.ref C) "__init__" = some (some (.ref fI))) (tI : PySem.W.typeIn X.K (.ref fI) = some (.type "function"))
    (G : FnOk X.prog X.w X.K X.mg X.base CX0 k fI fd ps sp) (hr : Room (k + 1) X.A) (hb : Binds X.K fd ps []) (hg : Gl X x) (hm : X.mg x = some (.ref C)) (ha : PA X (e :: es) ta)
    (hdb : (x == ("__debug__" : Str)) = false := by decide) (he : starEach (e :: es) X.env = (false, eval e X.env) :: starEach es X.env := by rfl) (hpl : (backTo pos (starEach es X.env)).any (·.1) = false := by rfl) :
    L2N.PMk X (.Call (.Name x p) (e :: es) [] pos) (tMkO C sp [] ta) := by
  intro pins s σ H Q I h
  obtain ⟨nm, q, N, bs, bm, sn, sub, ab, col, dd, k0, k1, k2, k3, k5, hC, hbm⟩ := T.cls
  refine wpAny_Call_Name_kw (ld_glob I hg hm ?_ hdb)
  refine PySem.W.callWith_K (h₀ := X.base) I.ok.mod.kin T.kC ?_ he hpl
  refine thn (ha.run pos pins s σ H _ I h) fun us s1 got => ?_
  obtain ⟨vs, H1, I1, r1, hz, q1⟩ := got
  refine ⟨I1.kIn, ?_⟩
  show wpAny _ _ (call (.ref C) us) _ _ _
  obtain ⟨hp, g, dr, tk, os⟩ := s1
  generalize ea : hp.objs.size + 1 = a
  have hsz : hp.objs.size ≤ a := by omega
  have hn : H1 a = none := I1.hok.fresh hsz
  have hq := q1 a hn
  rw [List.append_nil] at hq
  generalize eh : (hp.push (PySem.W.kdv_tup us)).push (PySem.HandSPX.excO C hp.objs.size) = h1
  have kk : ∀ b o, hp.get? b = some o → h1.get? b = some o := fun b o e => by rw [← eh]; exact Heap.get?_push_of_some _ (Heap.get?_push_of_some _ e)
  have hget : h1.get? a = some (PySem.HandSPX.excO C hp.objs.size) := by rw [← eh, ← ea]; heap_get
  have I2 : Inv X pins σ (upd H1 a (exo a C none)) ⟨h1, g, dr, tk, os⟩ := I1.laid (t' := tk) (a := a) (o := exo a C none) (h' := h1) kk hsz (exo_ok hget)
  have r2 : Vals (V.ref a :: vs) (Value.ref a :: us) := .cons rfl r1
  have hl : (Value.ref a :: us ++ []).length = ps.length := by
    rw [List.append_nil, ← r2.length]; exact G.len _ _ _ _ hq
  have b2 := hb _ (Value.ref a :: us) I2.kIn hl
  rw [List.append_nil] at b2
  have hus : us.length ≤ sizeLine := by rw [← Paired.length r1, sizeLine_eq]; omega
  have inner := G.run _ X.stack _ _ ⟨Value.ref a :: us, []⟩ (Value.ref a :: us) _ _ (fun _ _ _ => False) (hr.make C us []) (I2.env0.make C us []) b2 r2 hq
  subst ea
  subst eh
  refine wpAny_call (PySem.HandSPX.call_own F.excBase_ValueError (fun Y => PySem.HandSPX.refsVE_contains Y bm hbm) (I1.kIn _ _ hC) (PySem.W.looks_findIn I1.kIn iC) (fun self => PySem.W.bind_fn I1.kIn self tI) hus (codeAny_mono inner fun res s' hq' => ?_))
  cases res with
  | error er => exact (show False from hq').elim
  | ok fl =>
    cases fl with
    | next => exact False.elim hq'
    | brk => exact False.elim hq'
    | cont => exact False.elim hq'
    | ret u =>
      obtain ⟨v, H2, os2, bare2, un2, hok2, rv, ev, d, fs, e1, e2, hd1, q2⟩ := hq'
      subst ev
      obtain ⟨h2, g2, d2, t2, os'⟩ := s'
      obtain ⟨t0, G', J, kG, ge, hoe, na⟩ := mk_end0 (d2 := d2) (t2 := t2) I1 hsz kk un2 hok2 os2 bare2 e1 e2 hd1
      refine ⟨rv, _, _, _, ⟨G', g2, d2, t2, os'⟩, _, .ref C, some d, rfl, J, kG, ge, hoe, ⟨rfl, rfl, fun vs hv => ?_⟩, rfl, rfl, na, rfl, bare2, raises_own T.exC T.tyC, q2⟩
      cases hv
      rfl
/-! ### f(lambda: body), the errors known with their context -/
abbrev lamN (X : Cx) (A : Around) (outer : List Env) (s : Shared) (H : Hp) (E : XK) (scope : Scope) (f c' : Addr) : Cx :=
  (LamX.lamCx X A outer s H (fun _ _ _ => False) scope f c').tr [] fun e s' =>
    wpAny (model X.prog X.w) (A.deeper (LamX.lamEnv X scope s.heap.objs.size f c')) (leaving (LamX.lamEnv X scope s.heap.objs.size f c') e) (fun _ s2 => L2N.CX X.prog X.w outer H s E e s2) (fun e2 s2 => L2N.CX X.prog X.w outer H s E e2 s2) s'
section
variable {X : Cx} {pins : List (Addr × Obj)} {σ : L2.St} {H HZ : Hp} {s s1 : Shared}
theorem pe_actN {Ng : List Str} {qg : Str} {sg : Scope} {g f c' : Addr} {cdg pm ctv : Value} {params : Arguments} {body : Expr} {scope : Scope} {k : Nat} {a : Str} {pn : List (Addr × Obj)} {xe : Value → Shared → Prop} {W : WX} {E : XK} {tb : TE} {p1 p2 : Pos}
    (I : Inv X pins σ H s) (L : LamX.LamS X.env.scope scope) (hf : s.heap.get? f = some (PySem.W.kla_obj "<lambda>" (X.env.qual ++ "<lambda>") params body scope (cloFrom X.env.cells scope.names []) pm c' ctv)) (hfn : H f = none) (hfr : f ∉ frs X.stack)
    (hbind : bindArgs (PySem.W.kla_fn "<lambda>" (X.env.qual ++ "<lambda>") params body scope (cloFrom X.env.cells scope.names []) pm (.ref c') ctv) ⟨[], []⟩ = pure [])
    (tk : L2N.Takes ((cxOf CX0 X.prog X.w X.K X.mg X.base Ng qg sg g cdg X.A X.stack s H E0).tr pn xe) W) (hW : ∀ cls d σ' H', E cls d H' → W cls d σ' H') (hr : Room (k + 1) (X.A.deeper (envOfC qg sg s.heap.objs.size g cdg)))
    (hbody : ∀ (A : Around) (outer : List Env) (s : Shared) (H : Hp), Room k (A.deeper (LamX.lamEnv X scope s.heap.objs.size f c')) → PE (lamN X A outer s H E scope f c') body tb)
    (hN : Ng[0]? = some a) (hv : Vis sg a) (hd : (a == ("__debug__" : Str)) = false) (hcd : (a == ("__classdict__" : Str)) = false) :
    PE ((cxOf CX0 X.prog X.w X.K X.mg X.base Ng qg sg g cdg X.A X.stack s H E0).tr pn xe) (.Call (.Name a p1) [] [] p2)
      (fun σZ HZ Q => σZ[0]? = some (some (.ref f)) ∧ HZ c' = some (LamX.CodeO c' (X.env.qual ++ "<lambda>")) ∧ tb σ HZ Q) := by
  refine ⟨fun pinsZ sZ σZ HZ Q IZ h => ?_⟩
  obtain ⟨hs, hc, ht⟩ := h
  refine wpAny_Call_Name_kw (thn ((pe_var (pos := p1) (i := 0) hN hv hd hcd).run pinsZ sZ σZ HZ (fun v H1 => v = .ref f ∧ H1 = HZ) IZ ⟨.ref f, hs, rfl, rfl⟩) fun u s1 got => ?_)
  obtain ⟨v, H1, I1, r1, rfl, eH⟩ := got
  rw [eH] at I1
  obtain rfl : u = Value.ref f := r1
  have of1 : s1.heap.get? f = some (PySem.W.kla_obj "<lambda>" (X.env.qual ++ "<lambda>") params body scope (cloFrom X.env.cells scope.names []) pm c' ctv) := I1.base.keep f _ hf hfn hfr (fun z => nomatch (show f ∈ ([] : List Addr) from z))
  refine PySem.W.callWith_F0 ⟨_, _, _, _, of1⟩ ?_
  have un : Un (frs X.stack) [] H HZ s.heap s1.heap := I1.base
  obtain ⟨⟨oc, vs, t, hoc, hdc, hvc⟩, _, _⟩ := I1.hok c' _ hc
  have rc : codeAny (model X.prog X.w) (X.A.deeper (envOfC qg sg s.heap.objs.size g cdg)) (.call (.ref f) ⟨[], []⟩) (CR (L2N.CX X.prog X.w) (envOfC qg sg s.heap.objs.size g cdg :: X.stack) X.prog X.w HZ s1 Q E) s1 := by
    refine PySem.W.kla_callFunE hr.depth of1 rfl L.co L.gen rfl ⟨c', oc, vs, t, rfl, hoc, hdc, hvc⟩ ?_
    rw [hbind]
    refine wpAny_pure (wpAny_newFunctionEnv (fun y hy => (L.own y hy).2) (fun y hy => absurd hy (by simp)) (fun h1 hns hsb => ⟨I1.nolimit.fresh _ hsb, ?_⟩) L.kind)
    show codeAny _ _ (.expr body (LamX.lamEnv X scope s1.heap.objs.size f c')) _ _
    have kp : ∀ b o, s1.heap.get? b = some o → h1.get? b = some o := fun b o e => hsb.extBut b o (Nat.ne_of_lt (Heap.lt_size e)) (Heap.get?_push_of_some _ e)
    have J0 := LamX.lam_start2 (E := fun _ _ _ => False) (f := f) (c' := c') (tk := s1.toks + ([] : List (Str × Value)).length) I L I1.env0 hr.hd un hns kp
    have J : Inv (lamN X (X.A.deeper (envOfC qg sg s.heap.objs.size g cdg)) (envOfC qg sg s.heap.objs.size g cdg :: X.stack) s1 HZ E scope f c') [] σ HZ _ := J0.toTry _
    refine PySem.W.kla_codeExpr (wpAny_mono ((hbody _ _ s1 HZ (hr.deeper _)).run [] _ _ HZ Q J ht) (fun v s' got => ?_) fun _ _ hq => hq)
    obtain ⟨v', H', J', rv, q⟩ := got
    exact ⟨v', H', J'.os, J'.bare, J'.base, J'.hok, rv, q⟩
  refine wpAny_call (codeAny_mono rc fun res s' hq => ?_)
  cases res with
  | error e => exact L2N.passes_call tk hW pinsZ σZ HZ s1 e s' I1 hq
  | ok fl =>
    cases fl with
    | ret u => exact I1.after hq
    | next => exact False.elim hq
    | brk => exact False.elim hq
    | cont => exact False.elim hq
end
/-- the def that calls what it was handed: a calls it; TT tells what it makes of the lambda's reading -/
def GivesN (X : Cx) (k : Nat) (Ng : List Str) (x : Str) (sg : Scope) (g : Addr) (cdg : Value) (bg : List Stmt) (a : Str) (q : Str) (TT : (XK → Hp → VK → Prop) → Hp → VK → Prop) : Prop :=
  ∀ (f c' : Addr) (s : Shared) (H : Hp) (Q : VK) (tl : XK → Hp → VK → Prop), Room (k + 1) (X.A.deeper (envOfC x sg s.heap.objs.size g cdg)) →
    (∀ (W : WX) (pn : List (Addr × Obj)) (xe : Value → Shared → Prop) (E : XK) (p1 p2 : Pos), L2N.Takes ((cxOf CX0 X.prog X.w X.K X.mg X.base Ng x sg g cdg X.A X.stack s H E0).tr pn xe) W → (∀ cls d σ' H', E cls d H' → W cls d σ' H') →
      PE ((cxOf CX0 X.prog X.w X.K X.mg X.base Ng x sg g cdg X.A X.stack s H E0).tr pn xe) (.Call (.Name a p1) [] [] p2) (fun σZ HZ Q => σZ[0]? = some (some (.ref f)) ∧ HZ c' = some (LamX.CodeO c' q) ∧ tl E HZ Q)) →
    H c' = some (LamX.CodeO c' q) → TT tl H Q →
    ∃ t, PSs (cxOf CX0 X.prog X.w X.K X.mg X.base Ng x sg g cdg X.A X.stack s H E0).nox bg t ∧ t { nx := fun _ H' => Q .non H', rt := Q } (L2.start Ng [.ref f]) H
section
variable {X : Cx}
theorem pe_lamN {T : List (Addr × Str)} {TT : (XK → Hp → VK → Prop) → Hp → VK → Prop} {x a : Str} {g c P : Addr} {k : Nat} {fd : FuncData} {st : Stmt} {Ng : List Str} {params : Arguments} {body : Expr} {scope : Scope} {t : XK → TE} {p lpos pos : Pos}
    (F : Fun X.K x x st g fd) (hg : Gl X x) (hm : X.mg x = some (.ref g)) (hb : L2.Binds X.K fd [a] []) (Sg : FnScope Ng [a] (defScope st)) (hNg : Ng[0]? = some a) (hva : Vis (defScope st) a)
    (hG : ∀ cdv, GivesN X k Ng x (defScope st) g cdv (defBody st) a (X.env.qual ++ "<lambda>") TT)
    (TB : LamX.TabB X.base X.mg c P) (hcode : X.env.code = .ref c) (hmT : (P, X.env.qual ++ "<lambda>") ∈ T) (hu : ∀ p ∈ T, p.1 = P → p.2 = X.env.qual ++ "<lambda>") (hr : Room (k + 2) X.A) (L : LamX.LamS X.env.scope scope) (hdef : defaultsOf params X.env = ([], []))
    (hbind : ∀ (q : Str) (cl : List (Str × Addr)) (pm cv ctv : Value), bindArgs (PySem.W.kla_fn "<lambda>" q params body scope cl pm cv ctv) ⟨[], []⟩ = pure [])
    (hbody : ∀ (A : Around) (outer : List Env) (s : Shared) (H : Hp) (E : XK) (f c' : Addr), Room k (A.deeper (LamX.lamEnv X scope s.heap.objs.size f c')) → PE (lamN X A outer s H E scope f c') body (t E))
    (hdb : (x == ("__debug__" : Str)) = false := by decide) (hd : (a == ("__debug__" : Str)) = false := by decide) (hcd : (a == ("__classdict__" : Str)) = false := by decide) :
    PE X (.Call (.Name x p) [.Lambda params body scope lpos] [] pos) (LamX.tLam T TT t) := by
  obtain ⟨oc, od, kV, doc, pm, an, cdv, ct, osl, rfl, lk, hcg⟩ := F.ex
  refine ⟨fun pins s σ H Q I h => ?_⟩
  obtain ⟨hT, h⟩ := h
  refine wpAny_Call_Name_kw (ld_glob I hg hm ?_ hdb)
  refine PySem.W.callWith_K (h₀ := X.base) I.ok.mod.kin F.kp ?_ (by rfl) (by rfl)
  show wpAny _ _ (spliced ((false, eval (.Lambda params body scope lpos) X.env) :: backTo pos (starEach [] X.env))) _ _ s
  refine Calls.spliced_cons (LamX.lam_make2 I TB hcode hmT hu hT hdef (L.has I.ok) fun f c' pm' ctv H1 s' I1 eN T1 hf hfn hfr hco => ?_)
  refine Calls.spliced_nil ⟨I1.kIn, ?_⟩
  have rc : codeAny (model X.prog X.w) X.A (.call (.ref g) ⟨[.ref f], []⟩) (CR CX0 X.stack X.prog X.w H1 s' Q E0) s' := by
    refine LamX.run_ofS (N := Ng) (ps := [a]) (us := [.ref f]) (vs := [.ref f]) lk hcg Sg hr I1.env0 (hb s' [.ref f] I1.kIn rfl) (.cons rfl .nil) rfl fun hr' => ?_
    obtain ⟨t', ht', hq'⟩ := hG cdv f c' s' H1 Q (fun E H' Q' => t E σ H' Q') hr' (fun W pn xe E p1 p2 tk hW => pe_actN I1 L hf hfn hfr (hbind _ _ _ _ _) tk hW hr' (fun A outer s H hr2 => hbody A outer s H E f c' hr2) hNg hva hd hcd) hco (h H1 eN T1)
    exact ⟨t', ht'.nox, hq'⟩
  refine wpAny_call (codeAny_mono rc fun res s2 hq => ?_)
  cases res with
  | error e => exact (show False from hq).elim
  | ok fl =>
    cases fl with
    | ret u => exact I1.after hq
    | next => exact False.elim hq
    | brk => exact False.elim hq
    | cont => exact False.elim hq
end
end EPX
set_option maxHeartbeats 4000000
namespace EPX
open PySem PySem.Spec PyProof.Rows L2 L2H
theorem un_over {fs fs' : List Addr} {H H1 H2 : Hp} {h h1 h2 : Heap} (a : Un fs [] H H1 h h1) (b : Un fs' [] H1 H2 h1 h2) (hs : ∀ c ∈ fs', c ∈ fs ∨ h.get? c = none) : Un fs [] H H2 h h2 where
  keep := fun c ob q n hc hx => b.keep c ob (a.keep c ob q n hc hx) (a.free c ob q n hx) (fun z => (hs c z).elim hc fun e => by rw [e] at q; cases q) hx
  slot := fun c ob q n hc hx => by
    obtain ⟨sl, e1⟩ := a.slot c ob q n hc hx
    obtain ⟨sl', e2⟩ := b.any e1 (a.free c ob q n hx) hx
    exact ⟨sl', e2⟩
  free := fun c ob q n hx => by
    obtain ⟨o', e1⟩ := a.there c ob q hx
    exact b.free c o' e1 (a.free c ob q n hx) hx
  there := fun c ob q hx => by
    obtain ⟨o', e1⟩ := a.there c ob q hx
    exact b.there c o' e1 hx
  tups := fun c xs q => b.tups c xs (a.tups c xs q)
  frzs := fun c ob xs q => b.frzs c ob xs (a.frzs c ob xs q)
  tbls := fun c ps q => by
    obtain ⟨m1, e1⟩ := a.tbls c ps q
    obtain ⟨m2, e2⟩ := b.tbls c _ e1
    exact ⟨m1 ++ m2, by rw [e2, Array.append_assoc]⟩
section
variable {X : Cx} {pins : List (Addr × Obj)} {σ : L2.St} {H : Hp} {s : Shared}
/-- a lambda made at s runs, wherever it is called while X's frame waits -/
theorem lam_runs {f c' : Addr} {pm ctv : Value} {params : Arguments} {body : Expr} {scope : Scope} {k : Nat} {E : XK} {tb : TE} {A : Around} {outer : List Env} {s1 : Shared} {HZ : Hp} {Q : VK}
    (I : Inv X pins σ H s) (L : LamX.LamS X.env.scope scope) (hf : s.heap.get? f = some (PySem.W.kla_obj "<lambda>" (X.env.qual ++ "<lambda>") params body scope (cloFrom X.env.cells scope.names []) pm c' ctv)) (hfn : H f = none) (hfr : f ∉ frs X.stack)
    (hbind : bindArgs (PySem.W.kla_fn "<lambda>" (X.env.qual ++ "<lambda>") params body scope (cloFrom X.env.cells scope.names []) pm (.ref c') ctv) ⟨[], []⟩ = pure [])
    (hbody : ∀ (A : Around) (outer : List Env) (s : Shared) (H : Hp), Room k (A.deeper (LamX.lamEnv X scope s.heap.objs.size f c')) → PE (lamN X A outer s H E scope f c') body tb)
    (hr : Room (k + 1) A) (e0 : Env0 X.prog X.w X.K X.mg X.base A outer s1 HZ) (un : Un (frs X.stack) [] H HZ s.heap s1.heap) (hc : HZ c' = some (LamX.CodeO c' (X.env.qual ++ "<lambda>"))) (ht : tb σ HZ Q) :
    codeAny (model X.prog X.w) A (.call (.ref f) ⟨[], []⟩) (CR (L2N.CX X.prog X.w) outer X.prog X.w HZ s1 Q E) s1 := by
  have of1 := un.keep f _ hf hfn hfr (fun z => nomatch (show f ∈ ([] : List Addr) from z))
  obtain ⟨⟨oc, vs, t, hoc, hdc, hvc⟩, _, _⟩ := e0.hok c' _ hc
  have lim : s1.heap.NoLimit := e0.mod.nolimit.keeps fun b o e => (e0.bs b o e).1
  refine PySem.W.kla_callFunE hr.depth of1 rfl L.co L.gen rfl ⟨c', oc, vs, t, rfl, hoc, hdc, hvc⟩ ?_
  rw [hbind]
  refine wpAny_pure (wpAny_newFunctionEnv (fun y hy => (L.own y hy).2) (fun y hy => absurd hy (by simp)) (fun h1 hns hsb => ⟨lim.fresh _ hsb, ?_⟩) L.kind)
  show codeAny _ _ (.expr body (LamX.lamEnv X scope s1.heap.objs.size f c')) _ _
  have kp : ∀ b o, s1.heap.get? b = some o → h1.get? b = some o := fun b o e => hsb.extBut b o (Nat.ne_of_lt (Heap.lt_size e)) (Heap.get?_push_of_some _ e)
  have J0 := LamX.lam_start2 (E := fun _ _ _ => False) (f := f) (c' := c') (tk := s1.toks + ([] : List (Str × Value)).length) I L e0 hr.hd un hns kp
  have J : Inv (lamN X A outer s1 HZ E scope f c') [] σ HZ _ := J0.toTry _
  refine PySem.W.kla_codeExpr (wpAny_mono ((hbody _ _ s1 HZ (hr.deeper _)).run [] _ _ HZ Q J ht) (fun v s' got => ?_) fun _ _ hq => hq)
  obtain ⟨v', H', J', rv, q⟩ := got
  exact ⟨v', H', J'.os, J'.bare, J'.base, J'.hok, rv, q⟩
/-- a() in a def that was entered at s0 -/
theorem pe_actG {Ng : List Str} {qg : Str} {sg : Scope} {g f c' : Addr} {cdg pm ctv : Value} {params : Arguments} {body : Expr} {scope : Scope} {k : Nat} {a : Str} {pn : List (Addr × Obj)} {xe : Value → Shared → Prop} {W : WX} {tb : XK → TE} {p1 p2 : Pos} {A0 : Around} {outer0 : List Env} {s0 : Shared} {H0 : Hp}
    (I : Inv X pins σ H s) (L : LamX.LamS X.env.scope scope) (hf : s.heap.get? f = some (PySem.W.kla_obj "<lambda>" (X.env.qual ++ "<lambda>") params body scope (cloFrom X.env.cells scope.names []) pm c' ctv)) (hfn : H f = none) (hfr : f ∉ frs X.stack)
    (hbind : bindArgs (PySem.W.kla_fn "<lambda>" (X.env.qual ++ "<lambda>") params body scope (cloFrom X.env.cells scope.names []) pm (.ref c') ctv) ⟨[], []⟩ = pure [])
    (hbody : ∀ (A : Around) (outer : List Env) (s : Shared) (H : Hp) (E : XK), Room k (A.deeper (LamX.lamEnv X scope s.heap.objs.size f c')) → PE (lamN X A outer s H E scope f c') body (tb E))
    (far : Un (frs X.stack) [] H H0 s.heap s0.heap) (sub : ∀ c ∈ frs outer0, c ∈ frs X.stack ∨ s.heap.get? c = none)
    (tk : L2N.Takes ((cxOf CX0 X.prog X.w X.K X.mg X.base Ng qg sg g cdg A0 outer0 s0 H0 E0).tr pn xe) W) (hr : Room (k + 1) (A0.deeper (envOfC qg sg s0.heap.objs.size g cdg)))
    (hN : Ng[0]? = some a) (hv : Vis sg a) (hd : (a == ("__debug__" : Str)) = false) (hcd : (a == ("__classdict__" : Str)) = false) :
    PE ((cxOf CX0 X.prog X.w X.K X.mg X.base Ng qg sg g cdg A0 outer0 s0 H0 E0).tr pn xe) (.Call (.Name a p1) [] [] p2)
      (fun σZ HZ Q => σZ[0]? = some (some (.ref f)) ∧ HZ c' = some (LamX.CodeO c' (X.env.qual ++ "<lambda>")) ∧ tb (fun cls d H' => W cls d σZ H') σ HZ Q) := by
  refine ⟨fun pinsZ sZ σZ HZ Q IZ h => ?_⟩
  obtain ⟨hs, hc, ht⟩ := h
  refine wpAny_Call_Name_kw (thn ((pe_var (pos := p1) (i := 0) hN hv hd hcd).run pinsZ sZ σZ HZ (fun v H1 => v = .ref f ∧ H1 = HZ) IZ ⟨.ref f, hs, rfl, rfl⟩) fun u s1 got => ?_)
  obtain ⟨v, H1, I1, r1, rfl, eH⟩ := got
  rw [eH] at I1
  obtain rfl : u = Value.ref f := r1
  have un : Un (frs X.stack) [] H HZ s.heap s1.heap := un_over far I1.base sub
  have of1 := un.keep f _ hf hfn hfr (fun z => nomatch (show f ∈ ([] : List Addr) from z))
  refine PySem.W.callWith_F0 ⟨_, _, _, _, of1⟩ ?_
  refine wpAny_call (codeAny_mono (lam_runs (X := X) I L hf hfn hfr hbind (fun A outer s H hr => hbody A outer s H _ hr) hr I1.env0 un hc ht) fun res s' hq => ?_)
  cases res with
  | error e => exact L2N.passAt tk σZ pinsZ HZ s1 e s' I1 hq
  | ok fl =>
    cases fl with
    | ret u => exact I1.after hq
    | next => exact False.elim hq
    | brk => exact False.elim hq
    | cont => exact False.elim hq
/-- what such a def may use of the lambda: to call it by the name a, once it is entered -/
def Acts (X : Cx) (Ng : List Str) (x : Str) (sg : Scope) (g : Addr) (cdg : Value) (a : Str) (q : Str) (f c' : Addr) (A0 : Around) (outer0 : List Env) (s0 : Shared) (H0 : Hp) (tl : XK → Hp → VK → Prop) : Prop :=
  ∀ (W : WX) (pn : List (Addr × Obj)) (xe : Value → Shared → Prop) (p1 p2 : Pos), L2N.Takes ((cxOf CX0 X.prog X.w X.K X.mg X.base Ng x sg g cdg A0 outer0 s0 H0 E0).tr pn xe) W →
    PE ((cxOf CX0 X.prog X.w X.K X.mg X.base Ng x sg g cdg A0 outer0 s0 H0 E0).tr pn xe) (.Call (.Name a p1) [] [] p2) (fun σZ HZ Q => σZ[0]? = some (some (.ref f)) ∧ HZ c' = some (LamX.CodeO c' q) ∧ tl (fun cls d H' => W cls d σZ H') HZ Q)
/-- a def that calls the lambda itself -/
def Takes1 (X : Cx) (k : Nat) (Ng : List Str) (x : Str) (st : Stmt) (g : Addr) (a : Str) (q : Str) (TT : (XK → Hp → VK → Prop) → Hp → VK → Prop) : Prop :=
  ∀ (cdg : Value) (f c' : Addr) (A0 : Around) (outer0 : List Env) (s0 : Shared) (H0 : Hp) (Q : VK) (tl : XK → Hp → VK → Prop), Room (k + 1) (A0.deeper (envOfC x (defScope st) s0.heap.objs.size g cdg)) → Acts X Ng x (defScope st) g cdg a q f c' A0 outer0 s0 H0 tl →
    H0 c' = some (LamX.CodeO c' q) → TT tl H0 Q →
    ∃ t, PSs (cxOf CX0 X.prog X.w X.K X.mg X.base Ng x (defScope st) g cdg A0 outer0 s0 H0 E0).nox (defBody st) t ∧ t { nx := fun _ H' => Q .non H', rt := Q } (L2.start Ng [.ref f]) H0
/-- x(lambda: body) -/
theorem pe_lam1 {T : List (Addr × Str)} {TT : (XK → Hp → VK → Prop) → Hp → VK → Prop} {x a : Str} {g c P : Addr} {k : Nat} {fd : FuncData} {st : Stmt} {Ng : List Str} {params : Arguments} {body : Expr} {scope : Scope} {t : XK → TE} {p lpos pos : Pos}
    (F : Fun X.K x x st g fd) (hg : Gl X x) (hm : X.mg x = some (.ref g)) (hb : L2.Binds X.K fd [a] []) (Sg : FnScope Ng [a] (defScope st)) (hNg : Ng[0]? = some a) (hva : Vis (defScope st) a)
    (hG : Takes1 X k Ng x st g a (X.env.qual ++ "<lambda>") TT)
    (TB : LamX.TabB X.base X.mg c P) (hcode : X.env.code = .ref c) (hmT : (P, X.env.qual ++ "<lambda>") ∈ T) (hu : ∀ p ∈ T, p.1 = P → p.2 = X.env.qual ++ "<lambda>") (hr : Room (k + 2) X.A) (L : LamX.LamS X.env.scope scope) (hdef : defaultsOf params X.env = ([], []))
    (hbind : ∀ (q : Str) (cl : List (Str × Addr)) (pm cv ctv : Value), bindArgs (PySem.W.kla_fn "<lambda>" q params body scope cl pm cv ctv) ⟨[], []⟩ = pure [])
    (hbody : ∀ (A : Around) (outer : List Env) (s : Shared) (H : Hp) (E : XK) (f c' : Addr), Room k (A.deeper (LamX.lamEnv X scope s.heap.objs.size f c')) → PE (lamN X A outer s H E scope f c') body (t E))
    (hdb : (x == ("__debug__" : Str)) = false := by decide) (hd : (a == ("__debug__" : Str)) = false := by decide) (hcd : (a == ("__classdict__" : Str)) = false := by decide) :
    PE X (.Call (.Name x p) [.Lambda params body scope lpos] [] pos) (LamX.tLam T TT t) := by
  obtain ⟨oc, od, kV, doc, pm, an, cdv, ct, osl, rfl, lk, hcg⟩ := F.ex
  refine ⟨fun pins s σ H Q I h => ?_⟩
  obtain ⟨hT, h⟩ := h
  refine wpAny_Call_Name_kw (ld_glob I hg hm ?_ hdb)
  refine PySem.W.callWith_K (h₀ := X.base) I.ok.mod.kin F.kp ?_ (by rfl) (by rfl)
  show wpAny _ _ (spliced ((false, eval (.Lambda params body scope lpos) X.env) :: backTo pos (starEach [] X.env))) _ _ s
  refine Calls.spliced_cons (LamX.lam_make2 I TB hcode hmT hu hT hdef (L.has I.ok) fun f c' pm' ctv H1 s' I1 eN T1 hf hfn hfr hco => ?_)
  refine Calls.spliced_nil ⟨I1.kIn, ?_⟩
  have rc : codeAny (model X.prog X.w) X.A (.call (.ref g) ⟨[.ref f], []⟩) (CR CX0 X.stack X.prog X.w H1 s' Q E0) s' := by
    refine LamX.run_ofS (N := Ng) (ps := [a]) (us := [.ref f]) (vs := [.ref f]) lk hcg Sg hr I1.env0 (hb s' [.ref f] I1.kIn rfl) (.cons rfl .nil) rfl fun hr' => ?_
    have act : Acts X Ng x (defScope st) g cdv a (X.env.qual ++ "<lambda>") f c' X.A X.stack s' H1 (fun E H' Q' => t E σ H' Q') := fun W pn xe p1 p2 tk =>
      pe_actG (tb := t) I1 L hf hfn hfr (hbind _ _ _ _ _) (fun A outer s H E hr2 => hbody A outer s H E f c' hr2) Un.refl (fun c hc => .inl hc) tk hr' hNg hva hd hcd
    obtain ⟨t', ht', hq'⟩ := hG cdv f c' X.A X.stack s' H1 Q _ hr' act hco (h H1 eN T1)
    exact ⟨t', ht'.nox, hq'⟩
  refine wpAny_call (codeAny_mono rc fun res s2 hq => ?_)
  cases res with
  | error e => exact (show False from hq).elim
  | ok fl =>
    cases fl with
    | ret u => exact I1.after hq
    | next => exact False.elim hq
    | brk => exact False.elim hq
    | cont => exact False.elim hq
/-- x(lambda: body) where x hands its argument on: return y(b)[1:] -/
theorem pe_lam2 {T : List (Addr × Str)} {TT : (XK → Hp → VK → Prop) → Hp → VK → Prop} {x a y b : Str} {g gy c P : Addr} {k : Nat} {fd fdy : FuncData} {st sty : Stmt} {Ng Ny : List Str} {params : Arguments} {body : Expr} {scope : Scope} {t : XK → TE} {p lpos pos : Pos}
    (F : Fun X.K x x st g fd) (hg : Gl X x) (hm : X.mg x = some (.ref g)) (hb : L2.Binds X.K fd [a] []) (Sg : FnScope Ng [a] (defScope st)) (hNg : Ng[0]? = some a) (hva : Vis (defScope st) a)
    (Fy : Fun X.K y y sty gy fdy) (hgy : (defScope st).names.lookup y = some .globalImplicit) (hmy : X.mg y = some (.ref gy)) (hby : L2.Binds X.K fdy [b] []) (Sy : FnScope Ny [b] (defScope sty)) (hNy : Ny[0]? = some b) (hvb : Vis (defScope sty) b)
    (hG : Takes1 X k Ny y sty gy b (X.env.qual ++ "<lambda>") TT)
    (hrest : ∀ (cdg : Value) (f c' : Addr) (A0 : Around) (outer0 : List Env) (s0 : Shared) (H0 : Hp) (Q : VK) (tl : XK → Hp → VK → Prop),
      (∀ (q1 q2 q3 : Pos), PE (cxOf CX0 X.prog X.w X.K X.mg X.base Ng x (defScope st) g cdg A0 outer0 s0 H0 E0).nox (.Call (.Name y q1) [.Name a q2] [] q3) (fun σZ HZ Q => σZ[0]? = some (some (.ref f)) ∧ HZ c' = some (LamX.CodeO c' (X.env.qual ++ "<lambda>")) ∧ TT tl HZ Q)) →
      H0 c' = some (LamX.CodeO c' (X.env.qual ++ "<lambda>")) → TT tl H0 (fun v H' => ∃ p xs, v = .ref p ∧ SqT X.K H' p xs ∧ 1 < xs.length ∧ xs.length < 1000 ∧ ∀ l, H' l = none → Q (.ref l) (upd H' l (.tup (xs.drop 1)))) →
      ∃ t, PSs (cxOf CX0 X.prog X.w X.K X.mg X.base Ng x (defScope st) g cdg A0 outer0 s0 H0 E0).nox (defBody st) t ∧ t { nx := fun _ H' => Q .non H', rt := Q } (L2.start Ng [.ref f]) H0)
    (TB : LamX.TabB X.base X.mg c P) (hcode : X.env.code = .ref c) (hmT : (P, X.env.qual ++ "<lambda>") ∈ T) (hu : ∀ p ∈ T, p.1 = P → p.2 = X.env.qual ++ "<lambda>") (hr : Room (k + 3) X.A) (L : LamX.LamS X.env.scope scope) (hdef : defaultsOf params X.env = ([], []))
    (hbind : ∀ (q : Str) (cl : List (Str × Addr)) (pm cv ctv : Value), bindArgs (PySem.W.kla_fn "<lambda>" q params body scope cl pm cv ctv) ⟨[], []⟩ = pure [])
    (hbody : ∀ (A : Around) (outer : List Env) (s : Shared) (H : Hp) (E : XK) (f c' : Addr), Room k (A.deeper (LamX.lamEnv X scope s.heap.objs.size f c')) → PE (lamN X A outer s H E scope f c') body (t E))
    (hdb : (x == ("__debug__" : Str)) = false := by decide) (hda : (a == ("__debug__" : Str)) = false := by decide) (hca : (a == ("__classdict__" : Str)) = false := by decide) (hdy : (y == ("__debug__" : Str)) = false := by decide) (hd : (b == ("__debug__" : Str)) = false := by decide) (hcd : (b == ("__classdict__" : Str)) = false := by decide) :
    PE X (.Call (.Name x p) [.Lambda params body scope lpos] [] pos)
      (LamX.tLam T (fun tl H Q => TT tl H (fun v H' => ∃ p xs, v = .ref p ∧ SqT X.K H' p xs ∧ 1 < xs.length ∧ xs.length < 1000 ∧ ∀ l, H' l = none → Q (.ref l) (upd H' l (.tup (xs.drop 1))))) t) := by
  obtain ⟨oc, od, kV, doc, pm, an, cdv, ct, osl, rfl, lk, hcg⟩ := F.ex
  obtain ⟨ocy, ody, kVy, docy, pmy, any, cdvy, cty, osly, rfl, lky, hcgy⟩ := Fy.ex
  refine ⟨fun pins s σ H Q I h => ?_⟩
  obtain ⟨hT, h⟩ := h
  refine wpAny_Call_Name_kw (ld_glob I hg hm ?_ hdb)
  refine PySem.W.callWith_K (h₀ := X.base) I.ok.mod.kin F.kp ?_ (by rfl) (by rfl)
  show wpAny _ _ (spliced ((false, eval (.Lambda params body scope lpos) X.env) :: backTo pos (starEach [] X.env))) _ _ s
  refine Calls.spliced_cons (LamX.lam_make2 I TB hcode hmT hu hT hdef (L.has I.ok) fun f c' pm' ctv H1 s' I1 eN T1 hf hfn hfr hco => ?_)
  refine Calls.spliced_nil ⟨I1.kIn, ?_⟩
  have rc : codeAny (model X.prog X.w) X.A (.call (.ref g) ⟨[.ref f], []⟩) (CR CX0 X.stack X.prog X.w H1 s' Q E0) s' := by
    refine LamX.run_ofS (k := k + 2) (N := Ng) (ps := [a]) (us := [.ref f]) (vs := [.ref f]) lk hcg Sg hr I1.env0 (hb s' [.ref f] I1.kIn rfl) (.cons rfl .nil) rfl fun hr' => ?_
    have callY : ∀ (q1 q2 q3 : Pos), PE (cxOf CX0 X.prog X.w X.K X.mg X.base Ng x (defScope st) g cdv X.A X.stack s' H1 E0).nox (.Call (.Name y q1) [.Name a q2] [] q3) (fun σZ HZ Q => σZ[0]? = some (some (.ref f)) ∧ HZ c' = some (LamX.CodeO c' (X.env.qual ++ "<lambda>")) ∧ TT (fun E H' Q' => t E σ H' Q') HZ Q) := by
      refine fun q1 q2 q3 => ⟨fun pinsZ sZ σZ HZ QZ IZ hz => ?_⟩
      obtain ⟨z1, z2, z3⟩ := hz
      refine wpAny_Call_Name_kw (ld_glob IZ hgy hmy ?_ hdy)
      refine PySem.W.callWith_K (h₀ := X.base) IZ.ok.mod.kin Fy.kp ?_ (by rfl) (by rfl)
      refine thn ((pa_cons (pe_var (pos := q2) (i := 0) hNg hva hda hca) pa_nil).run q3 pinsZ sZ σZ HZ (fun vs H2 => vs = [.ref f] ∧ H2 = HZ) IZ ⟨.ref f, z1, rfl, rfl⟩) fun us s2 got => ?_
      obtain ⟨vs2, H2, I2, r2, rfl, eH⟩ := got
      rw [eH] at I2
      obtain rfl : us = [Value.ref f] := by
        cases r2 with
        | cons q1' q2' => cases q2'; cases q1'; rfl
      refine ⟨I2.kIn, ?_⟩
      have ry : codeAny (model X.prog X.w) (X.A.deeper (envOfC x (defScope st) s'.heap.objs.size g cdv)) (.call (.ref gy) ⟨[.ref f], []⟩) (CR CX0 (envOfC x (defScope st) s'.heap.objs.size g cdv :: X.stack) X.prog X.w HZ s2 QZ E0) s2 := by
        refine LamX.run_ofS (k := k + 1) (N := Ny) (ps := [b]) (us := [.ref f]) (vs := [.ref f]) lky hcgy Sy hr' I2.env0 (hby s2 [.ref f] I2.kIn rfl) (.cons rfl .nil) rfl fun hr2 => ?_
        have sub : ∀ c0 ∈ frs (envOfC x (defScope st) s'.heap.objs.size g cdv :: X.stack), c0 ∈ frs X.stack ∨ s'.heap.get? c0 = none := fun c0 hc0 => by
          obtain ⟨ev, hev, e1⟩ := List.mem_filterMap.mp hc0
          rcases List.mem_cons.mp hev with rfl | hin
          · have : s'.heap.objs.size = c0 := Option.some.inj e1
            right
            cases hq : s'.heap.get? c0 with
            | none => rfl
            | some o => exact absurd (Heap.lt_size hq) (by rw [← this]; exact Nat.lt_irrefl _)
          · exact .inl (List.mem_filterMap.mpr ⟨ev, hin, e1⟩)
        have act : Acts X Ny y (defScope sty) gy cdvy b (X.env.qual ++ "<lambda>") f c' (X.A.deeper (envOfC x (defScope st) s'.heap.objs.size g cdv)) (envOfC x (defScope st) s'.heap.objs.size g cdv :: X.stack) s2 HZ (fun E H' Q' => t E σ H' Q') := fun W pn xe p1 p2 tk =>
          pe_actG (tb := t) I1 L hf hfn hfr (hbind _ _ _ _ _) (fun A outer s H E hr3 => hbody A outer s H E f c' hr3) I2.base sub tk hr2 hNy hvb hd hcd
        obtain ⟨t2, ht2, hq2⟩ := hG cdvy f c' _ _ s2 HZ QZ _ hr2 act z2 z3
        exact ⟨t2, ht2.nox, hq2⟩
      refine wpAny_call (codeAny_mono ry fun res s3 hq => ?_)
      cases res with
      | error e => exact (show False from hq).elim
      | ok fl =>
        cases fl with
        | ret u => exact I2.after hq
        | next => exact False.elim hq
        | brk => exact False.elim hq
        | cont => exact False.elim hq
    obtain ⟨t', ht', hq'⟩ := hrest cdv f c' X.A X.stack s' H1 Q (fun E H' Q' => t E σ H' Q') callY hco (h H1 eN T1)
    exact ⟨t', ht'.nox, hq'⟩
  refine wpAny_call (codeAny_mono rc fun res s2 hq => ?_)
  cases res with
  | error e => exact (show False from hq).elim
  | ok fl =>
    cases fl with
    | ret u => exact I1.after hq
    | next => exact False.elim hq
    | brk => exact False.elim hq
    | cont => exact False.elim hq
end
end EPX
namespace EP
open PySem PySem.Spec PyProof.Rows L2
def ddq (qs : List (Int × Int)) : List PyData := qs.map fun q => .tuple [.int q.1, .int q.2]
def ddi (row : List Int) : List PyData := row.map .int
theorem Frs.dp {K : PySem.W.Frag} {H : Hp} : ∀ {vs : List V} {qs : List (Int × Int)}, Frs K H vs qs → DpAll K H vs (ddq qs)
  | _, _, .nil => .nil
  | _, _, .cons ⟨p, e, h⟩ _ r => by subst e; exact .cons (.tup h (.cons (.int _) (.cons (.int _) .nil))) r.dp
theorem dp_ints {K : PySem.W.Frag} {H : Hp} : ∀ row : List Int, DpAll K H (row.map V.int) (ddi row)
  | [] => .nil
  | x :: xs => .cons (.int x) (dp_ints xs)
theorem layq : ∀ qs : List (Int × Int), PyData.canLayAll0 (ddq qs) = true
  | [] => by unfold ddq; simp [PyData.canLayAll0]
  | q :: qs => by
    have := layq qs
    unfold ddq at *
    simp only [List.map_cons, PyData.canLayAll0, PyData.canLay0, Bool.and_true, Bool.true_and]; exact this
theorem layi : ∀ row : List Int, PyData.canLayAll0 (ddi row) = true
  | [] => by unfold ddi; simp [PyData.canLayAll0]
  | q :: qs => by
    have := layi qs
    unfold ddi at *
    simp only [List.map_cons, PyData.canLayAll0, PyData.canLay0, Bool.true_and]; exact this
theorem depq : ∀ qs : List (Int × Int), PyData.depthAll (ddq qs) ≤ 5
  | [] => by unfold ddq; simp [PyData.depthAll]
  | q :: qs => by
    have := depq qs
    unfold ddq at *
    simp only [List.map_cons, PyData.depthAll, PyData.depth]; omega
theorem depi : ∀ row : List Int, PyData.depthAll (ddi row) ≤ 5
  | [] => by unfold ddi; simp [PyData.depthAll]
  | q :: qs => by
    have := depi qs
    unfold ddi at *
    simp only [List.map_cons, PyData.depthAll, PyData.depth]; omega
theorem shq (qs : List (Int × Int)) : SeqAt.shaped (.list (ddq qs)) = true := by
  unfold SeqAt.shaped
  rw [Bool.and_eq_true]
  refine ⟨?_, decide_eq_true ?_⟩
  · simp only [PyData.canLay0]; exact layq qs
  · simp only [PyData.depth]; have := depq qs; omega
theorem shi (row : List Int) : SeqAt.shaped (.list (ddi row)) = true := by
  unfold SeqAt.shaped
  rw [Bool.and_eq_true]
  refine ⟨?_, decide_eq_true ?_⟩
  · simp only [PyData.canLay0]; exact layi row
  · simp only [PyData.depth]; have := depi row; omega
theorem shn : SeqAt.shaped .none = true := by unfold SeqAt.shaped; simp [PyData.canLay0, PyData.depth]
theorem eqv_self {d : PyData} (h : SeqAt.shaped d = true) : PyData.eqv d d = true := SeqAt.eqv_refl d (SeqAt.canLay_of_shaped h)
/-- the answer as data -/
def dsol : Option (List Int) → PyData
  | none => .none
  | some row => .list (ddi row)
theorem SolV.dp {K : PySem.W.Frag} {H : Hp} {v : V} : ∀ {o : Option (List Int)}, SolV H v o → Dp K H v (dsol o)
  | none, h => by cases h; exact .non
  | some row, ⟨p, e, h⟩ => by subst e; exact .lst (.inl (.inl h)) (dp_ints row)
theorem SolV.same {H H' : Hp} (s : Same H H') {v : V} : ∀ {o : Option (List Int)}, SolV H v o → SolV H' v o
  | none, h => h
  | some row, ⟨p, e, h⟩ => ⟨p, e, s _ _ h⟩
theorem shsol : ∀ o : Option (List Int), SeqAt.shaped (dsol o) = true
  | none => shn
  | some row => shi row
theorem rd_whole {a b c d x y M k : Int} (hb : b ≠ 0) (hd : d ≠ 0) (hM : M ≠ 0) (h1 : Rv a b x M) (h2 : Rv c d y M) (h : x - y = M * k) : rd (a * d - c * b) (b * d) = 1 := by
  have e := h1.sub h2
  refine rd_one (Int.mul_ne_zero hb hd) ⟨k, ?_⟩
  refine Int.eq_of_mul_eq_mul_right hM ?_
  rw [e, h]; grind
end EP
namespace EP
theorem dot_zip {g : Int × Int → Int} : ∀ (row : List Int) (qs : List (Int × Int)), dot row (qs.map g) = (List.zipWith (fun k q => k * g q) row qs).sum
  | [], qs => by cases qs <;> rfl
  | k :: row, [] => rfl
  | k :: row, q :: qs => by
    show k * g q + dot row (qs.map g) = _
    rw [dot_zip row qs, List.zipWith_cons_cons, List.sum_cons]
end EP
namespace EP
theorem brF {b : Bool} {A B : Prop} (h : b = false) (x : B) : if b = true then A else B := by rw [h]; exact L2.iteF x
theorem brT {b : Bool} {A B : Prop} (h : b = true) (x : A) : if b = true then A else B := by rw [h]; exact L2.iteT x
end EP
namespace EPX
open PySem PySem.Spec PyProof.Rows L2 L2H EP
theorem exm_one {K : PySem.W.Frag} {C D : Addr} {b : Bool} (h1 : PySem.W.subIn K (.ref D) (.type "BaseException") = some true) (h2 : PySem.W.isClsIn K D = true) (h3 : PySem.W.typeIn K (.ref D) = some (.type "type")) (h4 : PySem.W.subIn K (.ref C) (.ref D) = some b) :
    PySem.W.exmOne K (.ref C) (.ref D) = some b := by
  have e1 : (PySem.W.subIn K (.ref D) (.type "BaseException") == some true) = true := by rw [h1]; rfl
  have h2' : (PySem.W.clsIn K D).isSome = true := h2
  have e2 : ((PySem.W.clsIn K D).isSome && PySem.W.typeIn K (.ref D) == some (.type "type")) = true := by rw [h2', h3]; rfl
  unfold PySem.W.exmOne
  rw [if_pos e1]
  show (if ((PySem.W.clsIn K D).isSome && PySem.W.typeIn K (.ref D) == some (.type "type")) = true then PySem.W.subIn K (.ref C) (.ref D) else none) = some b
  rw [if_pos e2]
  exact h4
theorem exm_two {K : PySem.W.Frag} {cls c1 c2 : Value} {b1 b2 : Bool} (h1 : PySem.W.exmOne K cls c1 = some b1) (h2 : PySem.W.exmOne K cls c2 = some b2) : PySem.W.exmAny K cls [c1, c2] = some (b1 || b2) := by
  unfold PySem.W.exmAny
  rw [h1]
  unfold PySem.W.exmAny
  rw [h2]
  unfold PySem.W.exmAny
  simp
/-- a def of the text, whatever it lets out -/
theorem fun_okC {P : Program} {w : World} {K : PySem.W.Frag} {mg : Str → Option Value} {base : Heap} {CX : CXT} {x qual : Str} {st : Stmt} {f : Addr} {fd : FuncData} {N ps : List Str} {k : Nat} {sp : Sp} (F : Fun K x qual st f fd) (S : FnScope N ps (defScope st)) (len : ∀ vs H Q E, sp vs H Q E → vs.length = ps.length)
    (hbody : ∀ (cdv : Value) (A : Around) (outer : List Env) (s : Shared) (H : Hp) (vs : List V) (Q : VK) (E : XK), Room k (A.deeper (envOfC qual (defScope st) s.heap.objs.size f cdv)) → sp vs H Q E →
      ∃ t, PSs (cxOf CX P w K mg base N qual (defScope st) f cdv A outer s H E) (defBody st) t ∧ t { nx := fun _ H' => Q .non H', rt := Q } (L2.start N vs) H) : FnOk P w K mg base CX (k + 1) f fd ps sp := by
  obtain ⟨oc, od, kV, doc, pm, an, cdv, ct, osl, rfl, lk, hcd⟩ := F.ex
  exact fn_of lk hcd S len fun A outer s H vs Q E hr hsp => hbody cdv A outer s H vs Q E hr hsp
/-! ### heaps and tables -/
theorem sqt_xt {K : PySem.W.Frag} {H H' : Hp} {a : Addr} {xs : List V} (h : SqT K H a xs) (e : LamX.ExtN H H') : SqT K H' a xs := by
  rcases h with (h | ⟨o, h⟩) | h
  · exact .inl (.inl (e _ _ h fun ps z => by cases z))
  · exact .inl (.inr ⟨o, e _ _ h fun ps z => by cases z⟩)
  · exact .inr h
theorem Fr_xt {K : PySem.W.Frag} {H H' : Hp} {v : V} {a b : Int} (h : Fr K H v a b) (e : LamX.ExtN H H') : Fr K H' v a b := by
  obtain ⟨p, ev, h⟩ := h
  exact ⟨p, ev, sqt_xt h e⟩
theorem Fq_xt {K : PySem.W.Frag} {H H' : Hp} {n : Nat} {v : V} {a b : Int} (h : Fq K H n v a b) (e : LamX.ExtN H H') : Fq K H' n v a b := ⟨Fr_xt h.f e, h.p, h.ba, h.bb, h.g⟩
theorem Rng_xt {H H' : Hp} {r : Addr} (h : Rng H r) (e : LamX.ExtN H H') : Rng H' r := by
  obtain ⟨L, ns, i, c, sd, h1, h2, h3⟩ := h
  exact ⟨L, ns, i, c, sd, e _ _ h1 (fun ps z => by cases z), e _ _ h2 (fun ps z => by cases z), h3⟩
theorem Tabs_mo {T : List (Addr × Str)} {r : Addr} {H H' : Hp} (t : LamX.Tabs T H) (m : Mo r H H') : LamX.Tabs T H' := fun p hp => by
  obtain ⟨ps, h1, h2, h3⟩ := t p hp
  obtain ⟨L, ns, i, c, sd, g1, _⟩ := m.a
  refine ⟨ps, m.g _ _ (fun e => by rw [e, g1] at h1; cases h1) h1, h2, fun pos cv hc => ?_⟩
  obtain ⟨c, e1, e2⟩ := h3 pos cv hc
  exact ⟨c, e1, m.g _ _ (fun e => by rw [e, g1] at e2; unfold LamX.CodeO at e2; cases e2) e2⟩
/-! ### the promises of the errors -/
def spPaceInit (K : PySem.W.Frag) : Sp := fun vs H Q _ => ∃ (a C : Addr) (tag : V), vs = [.ref a, tag] ∧ OexC K C ∧ H a = some (exo a C none) ∧ PySem.W.findIn K (.ref C) "tag" = some none ∧ ∀ dx, H dx = none → dx ≠ a → Q .non (upd (upd H dx (exd dx [("tag", tag)])) a (exo a C (some dx)))
def spFieldInit (K : PySem.W.Frag) (tag nm : Str) : Sp := fun vs H Q _ => ∃ (a C : Addr) (v : V), vs = [.ref a, v] ∧ OexC K C ∧ H a = some (exo a C none) ∧ PySem.W.findIn K (.ref C) "tag" = some none ∧ PySem.W.findIn K (.ref C) nm = some none ∧ ∀ dx, H dx = none → dx ≠ a → Q .non (upd (upd (upd H dx (exd dx [("tag", .str tag)])) a (exo a C (some dx))) dx (exd dx [(nm, v), ("tag", .str tag)]))
/-- an error of the class at C with these fields -/
def ErrIs (C : Addr) (fs : List (Str × V)) (cls : Value) (d : Option Addr) (H : Hp) : Prop := cls = .ref C ∧ ∃ dd, d = some dd ∧ H dd = some (.xd fs)
/-- what an error's making and raising leaves -/
theorem raised {H H1 : Hp} {a d C : Addr} {fs : List (Str × V)} {o : HO} (hs : Same H H1) (na : H1 a = none) (nd : H1 d = none) (hda : d ≠ a) : Same H (upd (del (upd (upd (upd (upd H1 a (exo a C none)) d o) a (exo a C (some d))) d (exd d fs)) a) d (.xd fs)) := fun b u e => by
  have hb := hs b u e
  have ba : b ≠ a := ne_of_none hb na
  have bd : b ≠ d := ne_of_none hb nd
  rw [upd_ne bd, del_ne ba, upd_ne bd, upd_ne ba, upd_ne bd, upd_ne ba]
  exact hb
def fieldName (tag : Str) : Str := if tag = "InvalidCount" then "number" else "position"
def spErrF (K : PySem.W.Frag) (tag nm : Str) : SpE := fun a cls d vs H Q => vs = [.ref a] ∧ ∃ (C dd : Addr) (v : V), cls = .ref C ∧ d = some dd ∧ XfC K C ∧ PySem.W.findIn K (.ref C) "tag" = some none ∧ PySem.W.findIn K (.ref C) nm = some none ∧ H dd = some (.xd [(nm, v), ("tag", .str tag)]) ∧ ∀ H', Same H H' → Q v H'
def spFloorSumX (K : PySem.W.Frag) (C : Addr) : Sp := fun vs H Q E => ∃ (n : Int) (x y : V) (a b c d : Int), vs = [.int n, x, y] ∧ Fr K H x a b ∧ Fr K H y c d ∧ 0 < b ∧ 0 < d ∧ B 1000 n ∧ B 1000 a ∧ B 1000 b ∧ B 1000 c ∧ B 1000 d ∧
  (n < 0 → ∀ cls d' H', Same H H' → ErrIs C [("number", .int n), ("tag", .str "InvalidCount")] cls d' H' → E cls d' H') ∧
  (0 ≤ n → ∀ z H', Same H H' → (∀ R b' M : Int, 0 < M → R * b = a * M → b' * d = c * M → z = FS n.toNat R b' M) → Q (.int z) H')
/-- what an outcome is: the answer, or the tag and the field of one of the errors -/
def TOut (ok : Value → Option Addr → Hp → V → V → Prop) : (XK → Hp → VK → Prop) → Hp → VK → Prop := fun tl H Q => ∀ (E : XK) (Qn : VK) (H1 : Hp), Same H H1 →
  (∀ cls d H', (∃ tag v, ok cls d H' tag v ∧ ∀ p H2, Same H' H2 → H2 p = some (.tup [.non, tag, v]) → Q (.ref p) H2) → E cls d H') →
  (∀ v H', (∀ p H2, Same H' H2 → H2 p = some (.tup [v, .str "", .non]) → Q (.ref p) H2) → Qn v H') → tl E H1 Qn
end EPX
namespace EP
open PySem PySem.Spec PyProof.Rows L2 EPX
def topS (i : Nat) : Stmt := PySem.Challenge.pw_evenpace_k08_valid_gates.main.body.getD i (.Pass ⟨0, 0, 0, 0⟩)
abbrev s_gcd : Stmt := topS 10
abbrev N_gcd : List Str := ["one", "other"]
abbrev Ps_gcd : List Str := ["one", "other"]
theorem sc_gcd : FnScope N_gcd Ps_gcd (defScope s_gcd) := ⟨rfl, rfl, rfl, by decide +kernel, rfl, by decide +kernel, by decide +kernel⟩
abbrev s_fraction : Stmt := topS 11
abbrev N_fraction : List Str := ["num", "den", "divisor"]
abbrev Ps_fraction : List Str := ["num", "den"]
theorem sc_fraction : FnScope N_fraction Ps_fraction (defScope s_fraction) := ⟨rfl, rfl, rfl, by decide +kernel, rfl, by decide +kernel, by decide +kernel⟩
abbrev s_add : Stmt := topS 12
abbrev N_add : List Str := ["one", "other"]
abbrev Ps_add : List Str := ["one", "other"]
theorem sc_add : FnScope N_add Ps_add (defScope s_add) := ⟨rfl, rfl, rfl, by decide +kernel, rfl, by decide +kernel, by decide +kernel⟩
abbrev s_subtract : Stmt := topS 13
abbrev N_subtract : List Str := ["one", "other"]
abbrev Ps_subtract : List Str := ["one", "other"]
theorem sc_subtract : FnScope N_subtract Ps_subtract (defScope s_subtract) := ⟨rfl, rfl, rfl, by decide +kernel, rfl, by decide +kernel, by decide +kernel⟩
abbrev s_multiply : Stmt := topS 14
abbrev N_multiply : List Str := ["one", "other"]
abbrev Ps_multiply : List Str := ["one", "other"]
theorem sc_multiply : FnScope N_multiply Ps_multiply (defScope s_multiply) := ⟨rfl, rfl, rfl, by decide +kernel, rfl, by decide +kernel, by decide +kernel⟩
abbrev s_divide : Stmt := topS 15
abbrev N_divide : List Str := ["one", "other"]
abbrev Ps_divide : List Str := ["one", "other"]
theorem sc_divide : FnScope N_divide Ps_divide (defScope s_divide) := ⟨rfl, rfl, rfl, by decide +kernel, rfl, by decide +kernel, by decide +kernel⟩
abbrev s_is_less : Stmt := topS 16
abbrev N_is_less : List Str := ["one", "other"]
abbrev Ps_is_less : List Str := ["one", "other"]
theorem sc_is_less : FnScope N_is_less Ps_is_less (defScope s_is_less) := ⟨rfl, rfl, rfl, by decide +kernel, rfl, by decide +kernel, by decide +kernel⟩
abbrev s_floor_of : Stmt := topS 17
abbrev N_floor_of : List Str := ["one"]
abbrev Ps_floor_of : List Str := ["one"]
theorem sc_floor_of : FnScope N_floor_of Ps_floor_of (defScope s_floor_of) := ⟨rfl, rfl, rfl, by decide +kernel, rfl, by decide +kernel, by decide +kernel⟩
abbrev s_remainder : Stmt := topS 18
abbrev N_remainder : List Str := ["one", "period", "turns"]
abbrev Ps_remainder : List Str := ["one", "period"]
theorem sc_remainder : FnScope N_remainder Ps_remainder (defScope s_remainder) := ⟨rfl, rfl, rfl, by decide +kernel, rfl, by decide +kernel, by decide +kernel⟩
abbrev s_common_denominator : Stmt := topS 20
abbrev N_common_denominator : List Str := ["values", "result", "value"]
abbrev Ps_common_denominator : List Str := ["values"]
theorem sc_common_denominator : FnScope N_common_denominator Ps_common_denominator (defScope s_common_denominator) := ⟨rfl, rfl, rfl, by decide +kernel, rfl, by decide +kernel, by decide +kernel⟩
abbrev s_whole : Stmt := topS 21
abbrev N_whole : List Str := ["value", "common"]
abbrev Ps_whole : List Str := ["value", "common"]
theorem sc_whole : FnScope N_whole Ps_whole (defScope s_whole) := ⟨rfl, rfl, rfl, by decide +kernel, rfl, by decide +kernel, by decide +kernel⟩
abbrev s_in_order : Stmt := topS 24
abbrev N_in_order : List Str := ["rows", "common", "row"]
abbrev Ps_in_order : List Str := ["rows"]
theorem sc_in_order : FnScope N_in_order Ps_in_order (defScope s_in_order) := ⟨rfl, rfl, rfl, by decide +kernel, rfl, by decide +kernel, by decide +kernel⟩
abbrev s_span_ends : Stmt := topS 25
abbrev N_span_ends : List Str := ["spans", "begin", "length"]
abbrev Ps_span_ends : List Str := ["spans"]
theorem sc_span_ends : FnScope N_span_ends Ps_span_ends (defScope s_span_ends) := ⟨rfl, rfl, rfl, by decide +kernel, rfl, by decide +kernel, by decide +kernel⟩
abbrev s_next_begins : Stmt := topS 26
abbrev N_next_begins : List Str := ["period", "spans", "begins", "begin", "length"]
abbrev Ps_next_begins : List Str := ["period", "spans"]
theorem sc_next_begins : FnScope N_next_begins Ps_next_begins (defScope s_next_begins) := ⟨rfl, rfl, rfl, by decide +kernel, rfl, by decide +kernel, by decide +kernel⟩
abbrev s_fits : Stmt := topS 27
abbrev N_fits : List Str := ["span", "period", "begin", "length"]
abbrev Ps_fits : List Str := ["span", "period"]
theorem sc_fits : FnScope N_fits Ps_fits (defScope s_fits) := ⟨rfl, rfl, rfl, by decide +kernel, rfl, by decide +kernel, by decide +kernel⟩
abbrev s_is_gate : Stmt := topS 28
abbrev N_is_gate : List Str := ["gate", "place", "period", "spans", "span", "end", "after"]
abbrev Ps_is_gate : List Str := ["gate"]
theorem sc_is_gate : FnScope N_is_gate Ps_is_gate (defScope s_is_gate) := ⟨rfl, rfl, rfl, by decide +kernel, rfl, by decide +kernel, by decide +kernel⟩
abbrev s_repeats : Stmt := topS 29
abbrev N_repeats : List Str := ["spans", "many", "period", "shifted", "begin", "length"]
abbrev Ps_repeats : List Str := ["spans", "many", "period"]
theorem sc_repeats : FnScope N_repeats Ps_repeats (defScope s_repeats) := ⟨rfl, rfl, rfl, by decide +kernel, rfl, by decide +kernel, by decide +kernel⟩
abbrev s_least_form : Stmt := topS 30
abbrev N_least_form : List Str := ["place", "period", "spans", "many", "part"]
abbrev Ps_least_form : List Str := ["place", "period", "spans"]
theorem sc_least_form : FnScope N_least_form Ps_least_form (defScope s_least_form) := ⟨rfl, rfl, rfl, by decide +kernel, rfl, by decide +kernel, by decide +kernel⟩
abbrev s_normal_gate : Stmt := topS 31
abbrev N_normal_gate : List Str := ["gate", "place", "period", "spans"]
abbrev Ps_normal_gate : List Str := ["gate"]
theorem sc_normal_gate : FnScope N_normal_gate Ps_normal_gate (defScope s_normal_gate) := ⟨rfl, rfl, rfl, by decide +kernel, rfl, by decide +kernel, by decide +kernel⟩
abbrev s_shut_until : Stmt := topS 32
abbrev N_shut_until : List Str := ["gate", "moment", "place", "period", "spans", "begin", "length", "since"]
abbrev Ps_shut_until : List Str := ["gate", "moment"]
theorem sc_shut_until : FnScope N_shut_until Ps_shut_until (defScope s_shut_until) := ⟨rfl, rfl, rfl, by decide +kernel, rfl, by decide +kernel, by decide +kernel⟩
abbrev s_is_open : Stmt := topS 33
abbrev N_is_open : List Str := ["gate", "moment"]
abbrev Ps_is_open : List Str := ["gate", "moment"]
theorem sc_is_open : FnScope N_is_open Ps_is_open (defScope s_is_open) := ⟨rfl, rfl, rfl, by decide +kernel, rfl, by decide +kernel, by decide +kernel⟩
abbrev s_next_open : Stmt := topS 34
abbrev N_next_open : List Str := ["gate", "moment", "end"]
abbrev Ps_next_open : List Str := ["gate", "moment"]
theorem sc_next_open : FnScope N_next_open Ps_next_open (defScope s_next_open) := ⟨rfl, rfl, rfl, by decide +kernel, rfl, by decide +kernel, by decide +kernel⟩
abbrev s_first_windows : Stmt := topS 35
abbrev N_first_windows : List Str := ["gate", "place", "period", "spans"]
abbrev Ps_first_windows : List Str := ["gate"]
theorem sc_first_windows : FnScope N_first_windows Ps_first_windows (defScope s_first_windows) := ⟨rfl, rfl, rfl, by decide +kernel, rfl, by decide +kernel, by decide +kernel⟩
abbrev s_periods_later : Stmt := topS 36
abbrev N_periods_later : List Str := ["moment", "periods", "period"]
abbrev Ps_periods_later : List Str := ["moment", "periods", "period"]
theorem sc_periods_later : FnScope N_periods_later Ps_periods_later (defScope s_periods_later) := ⟨rfl, rfl, rfl, by decide +kernel, rfl, by decide +kernel, by decide +kernel⟩
abbrev s_window : Stmt := topS 37
abbrev N_window : List Str := ["gate", "number", "period", "windows", "periods", "at", "begin", "end"]
abbrev Ps_window : List Str := ["gate", "number"]
theorem sc_window : FnScope N_window Ps_window (defScope s_window) := ⟨rfl, rfl, rfl, by decide +kernel, rfl, by decide +kernel, by decide +kernel⟩
abbrev s_window_at : Stmt := topS 38
abbrev N_window_at : List Str := ["gate", "moment", "period", "windows", "at", "begin", "end", "periods"]
abbrev Ps_window_at : List Str := ["gate", "moment"]
theorem sc_window_at : FnScope N_window_at Ps_window_at (defScope s_window_at) := ⟨rfl, rfl, rfl, by decide +kernel, rfl, by decide +kernel, by decide +kernel⟩
abbrev s_delayed_gate : Stmt := topS 39
abbrev N_delayed_gate : List Str := ["gate", "delay", "place", "period", "spans", "moved", "begin", "length"]
abbrev Ps_delayed_gate : List Str := ["gate", "delay"]
theorem sc_delayed_gate : FnScope N_delayed_gate Ps_delayed_gate (defScope s_delayed_gate) := ⟨rfl, rfl, rfl, by decide +kernel, rfl, by decide +kernel, by decide +kernel⟩
abbrev s_l_source : Stmt := topS 41
abbrev N_l_source : List Str := ["_law_script", "_law_seed", "_law_cell"]
abbrev Ps_l_source : List Str := ["_law_script"]
theorem sc_l_source : FnScope N_l_source Ps_l_source (defScope s_l_source) := ⟨rfl, rfl, rfl, by decide +kernel, rfl, by decide +kernel, by decide +kernel⟩
abbrev s_l_draw : Stmt := topS 42
abbrev N_l_draw : List Str := ["_law_rng", "_law_many", "_law_cell", "_law_got", "_law_seed"]
abbrev Ps_l_draw : List Str := ["_law_rng", "_law_many"]
theorem sc_l_draw : FnScope N_l_draw Ps_l_draw (defScope s_l_draw) := ⟨rfl, rfl, rfl, by decide +kernel, rfl, by decide +kernel, by decide +kernel⟩
abbrev s_l_choice : Stmt := topS 43
abbrev N_l_choice : List Str := ["_law_rng", "_law_some"]
abbrev Ps_l_choice : List Str := ["_law_rng", "_law_some"]
theorem sc_l_choice : FnScope N_l_choice Ps_l_choice (defScope s_l_choice) := ⟨rfl, rfl, rfl, by decide +kernel, rfl, by decide +kernel, by decide +kernel⟩
abbrev s_l_equal : Stmt := topS 44
abbrev N_l_equal : List Str := ["_law_result", "_law_expected", "_law_a", "_law_b"]
abbrev Ps_l_equal : List Str := ["_law_result", "_law_expected"]
theorem sc_l_equal : FnScope N_l_equal Ps_l_equal (defScope s_l_equal) := ⟨rfl, rfl, rfl, by decide +kernel, rfl, by decide +kernel, by decide +kernel⟩
abbrev s_l_error_field : Stmt := topS 45
abbrev N_l_error_field : List Str := ["_law_e"]
abbrev Ps_l_error_field : List Str := ["_law_e"]
theorem sc_l_error_field : FnScope N_l_error_field Ps_l_error_field (defScope s_l_error_field) := ⟨rfl, rfl, rfl, by decide +kernel, rfl, by decide +kernel, by decide +kernel⟩
abbrev s_l_outcome : Stmt := topS 46
abbrev N_l_outcome : List Str := ["_law_ask", "_law_answer", "_law_tag", "_law_field", "_law_e"]
abbrev Ps_l_outcome : List Str := ["_law_ask"]
theorem sc_l_outcome : FnScope N_l_outcome Ps_l_outcome (defScope s_l_outcome) := ⟨rfl, rfl, rfl, by decide +kernel, rfl, by decide +kernel, by decide +kernel⟩
abbrev s_l_error : Stmt := topS 47
abbrev N_l_error : List Str := ["_law_ask"]
abbrev Ps_l_error : List Str := ["_law_ask"]
theorem sc_l_error : FnScope N_l_error Ps_l_error (defScope s_l_error) := ⟨rfl, rfl, rfl, by decide +kernel, rfl, by decide +kernel, by decide +kernel⟩
abbrev s_l_divisor : Stmt := topS 48
abbrev N_l_divisor : List Str := ["_law_one", "_law_other"]
abbrev Ps_l_divisor : List Str := ["_law_one", "_law_other"]
theorem sc_l_divisor : FnScope N_l_divisor Ps_l_divisor (defScope s_l_divisor) := ⟨rfl, rfl, rfl, by decide +kernel, rfl, by decide +kernel, by decide +kernel⟩
abbrev s_l_reduce : Stmt := topS 49
abbrev N_l_reduce : List Str := ["_law_num", "_law_den", "_law_by", "_law_sign"]
abbrev Ps_l_reduce : List Str := ["_law_num", "_law_den"]
theorem sc_l_reduce : FnScope N_l_reduce Ps_l_reduce (defScope s_l_reduce) := ⟨rfl, rfl, rfl, by decide +kernel, rfl, by decide +kernel, by decide +kernel⟩
abbrev s_l_add : Stmt := topS 50
abbrev N_l_add : List Str := ["_law_one", "_law_other"]
abbrev Ps_l_add : List Str := ["_law_one", "_law_other"]
theorem sc_l_add : FnScope N_l_add Ps_l_add (defScope s_l_add) := ⟨rfl, rfl, rfl, by decide +kernel, rfl, by decide +kernel, by decide +kernel⟩
abbrev s_l_multiply : Stmt := topS 51
abbrev N_l_multiply : List Str := ["_law_one", "_law_other"]
abbrev Ps_l_multiply : List Str := ["_law_one", "_law_other"]
theorem sc_l_multiply : FnScope N_l_multiply Ps_l_multiply (defScope s_l_multiply) := ⟨rfl, rfl, rfl, by decide +kernel, rfl, by decide +kernel, by decide +kernel⟩
abbrev s_l_less : Stmt := topS 52
abbrev N_l_less : List Str := ["_law_one", "_law_other"]
abbrev Ps_l_less : List Str := ["_law_one", "_law_other"]
theorem sc_l_less : FnScope N_l_less Ps_l_less (defScope s_l_less) := ⟨rfl, rfl, rfl, by decide +kernel, rfl, by decide +kernel, by decide +kernel⟩
abbrev s_l_times : Stmt := topS 53
abbrev N_l_times : List Str := ["_law_number", "_law_one"]
abbrev Ps_l_times : List Str := ["_law_number", "_law_one"]
theorem sc_l_times : FnScope N_l_times Ps_l_times (defScope s_l_times) := ⟨rfl, rfl, rfl, by decide +kernel, rfl, by decide +kernel, by decide +kernel⟩
abbrev s_l_small : Stmt := topS 54
abbrev N_l_small : List Str := ["_law_rng"]
abbrev Ps_l_small : List Str := ["_law_rng"]
theorem sc_l_small : FnScope N_l_small Ps_l_small (defScope s_l_small) := ⟨rfl, rfl, rfl, by decide +kernel, rfl, by decide +kernel, by decide +kernel⟩
abbrev s_l_positive : Stmt := topS 55
abbrev N_l_positive : List Str := ["_law_rng"]
abbrev Ps_l_positive : List Str := ["_law_rng"]
theorem sc_l_positive : FnScope N_l_positive Ps_l_positive (defScope s_l_positive) := ⟨rfl, rfl, rfl, by decide +kernel, rfl, by decide +kernel, by decide +kernel⟩
abbrev s_l_parts : Stmt := topS 56
abbrev N_l_parts : List Str := ["_law_rng", "_law_low", "_law_great"]
abbrev Ps_l_parts : List Str := ["_law_rng", "_law_low", "_law_great"]
theorem sc_l_parts : FnScope N_l_parts Ps_l_parts (defScope s_l_parts) := ⟨rfl, rfl, rfl, by decide +kernel, rfl, by decide +kernel, by decide +kernel⟩
abbrev s_l_gate : Stmt := topS 57
abbrev N_l_gate : List Str := ["_law_rng", "_law_place", "_law_most", "_law_many", "_law_by", "_law_spot", "_law_spans", "_law_k", "_law_length", "_law_period", "_law_delay", "_law_rows", "_law_begin"]
abbrev Ps_l_gate : List Str := ["_law_rng", "_law_place", "_law_most"]
theorem sc_l_gate : FnScope N_l_gate Ps_l_gate (defScope s_l_gate) := ⟨rfl, rfl, rfl, by decide +kernel, rfl, by decide +kernel, by decide +kernel⟩
abbrev s_l_is_gate : Stmt := topS 58
abbrev N_l_is_gate : List Str := ["_law_gate_here", "_law_place", "_law_period", "_law_spans", "_law_k", "_law_begin", "_law_length", "_law_begun"]
abbrev Ps_l_is_gate : List Str := ["_law_gate_here"]
theorem sc_l_is_gate : FnScope N_l_is_gate Ps_l_is_gate (defScope s_l_is_gate) := ⟨rfl, rfl, rfl, by decide +kernel, rfl, by decide +kernel, by decide +kernel⟩
abbrev s_l_bent : Stmt := topS 59
abbrev N_l_bent : List Str := ["_law_rng", "_law_gate_here", "_law_place", "_law_period", "_law_spans", "_law_way", "_law_at", "_law_begin", "_law_length"]
abbrev Ps_l_bent : List Str := ["_law_rng", "_law_gate_here"]
theorem sc_l_bent : FnScope N_l_bent Ps_l_bent (defScope s_l_bent) := ⟨rfl, rfl, rfl, by decide +kernel, rfl, by decide +kernel, by decide +kernel⟩
abbrev s_law : Stmt := topS 60
abbrev N_law : List Str := ["_law_script", "_law_rng", "_law_turn", "_law_step", "_law_good", "_law_due", "_law_bare", "_law_asks", "_law_listed_gate", "_law_gate_here", "_law_moment", "_law_ask"]
abbrev Ps_law : List Str := ["_law_script"]
theorem sc_law : FnScope N_law Ps_law (defScope s_law) := ⟨rfl, rfl, rfl, by decide +kernel, rfl, by decide +kernel, by decide +kernel⟩
abbrev si_PaceError : Stmt := inClass (topS 1) 0
theorem sci_PaceError : FnScope ["self", "tag"] ["self", "tag"] (defScope si_PaceError) := ⟨rfl, rfl, rfl, by decide +kernel, rfl, by decide +kernel, by decide +kernel⟩
abbrev si_InvalidGate : Stmt := inClass (topS 3) 0
theorem sci_InvalidGate : FnScope ["self", "position"] ["self", "position"] (defScope si_InvalidGate) := ⟨rfl, rfl, rfl, by decide +kernel, rfl, by decide +kernel, by decide +kernel⟩
abbrev si_NotBarring : Stmt := inClass (topS 4) 0
theorem sci_NotBarring : FnScope ["self", "place"] ["self", "place"] (defScope si_NotBarring) := ⟨rfl, rfl, rfl, by decide +kernel, rfl, by decide +kernel, by decide +kernel⟩
structure DefT (K : PySem.W.Frag) (mg : Str → Option Value) (n : Str) (s : Stmt) (ps : List Str) where
  f : Addr
  d : FuncData
  F : Fun K n n s f d
  b : Binds K d ps []
  g : mg n = some (.ref f)
set_option maxHeartbeats 8000000 in
structure Txt (K : PySem.W.Frag) (mg : Str → Option Value) where
  k_ZERO : Addr
  gk_ZERO : mg "ZERO" = some (.ref k_ZERO)
  sk_ZERO : ∀ H, SqT K H k_ZERO [.int 0, .int 1]
  k_ONE : Addr
  gk_ONE : mg "ONE" = some (.ref k_ONE)
  sk_ONE : ∀ H, SqT K H k_ONE [.int 1, .int 1]
  tk_MAX_SPANS : Tok
  gk_MAX_SPANS : mg "MAX_SPANS" = some (.int 6 tk_MAX_SPANS)
  D_gcd : DefT K mg "gcd" s_gcd Ps_gcd
  f_fraction : Addr
  d_fraction : FuncData
  F_fraction : FunD K "fraction" "fraction" (defArgs s_fraction) (defBody s_fraction) (defScope s_fraction) [.int 1] [] f_fraction d_fraction
  b_fraction : Binds K d_fraction ["num", "den"] []
  g_fraction : mg "fraction" = some (.ref f_fraction)
  D_add : DefT K mg "add" s_add Ps_add
  D_subtract : DefT K mg "subtract" s_subtract Ps_subtract
  D_multiply : DefT K mg "multiply" s_multiply Ps_multiply
  D_divide : DefT K mg "divide" s_divide Ps_divide
  D_is_less : DefT K mg "is_less" s_is_less Ps_is_less
  D_floor_of : DefT K mg "floor_of" s_floor_of Ps_floor_of
  D_remainder : DefT K mg "remainder" s_remainder Ps_remainder
  D_common_denominator : DefT K mg "common_denominator" s_common_denominator Ps_common_denominator
  D_whole : DefT K mg "whole" s_whole Ps_whole
  D_in_order : DefT K mg "in_order" s_in_order Ps_in_order
  D_span_ends : DefT K mg "span_ends" s_span_ends Ps_span_ends
  D_next_begins : DefT K mg "next_begins" s_next_begins Ps_next_begins
  D_fits : DefT K mg "fits" s_fits Ps_fits
  D_is_gate : DefT K mg "is_gate" s_is_gate Ps_is_gate
  D_repeats : DefT K mg "repeats" s_repeats Ps_repeats
  D_least_form : DefT K mg "least_form" s_least_form Ps_least_form
  D_normal_gate : DefT K mg "normal_gate" s_normal_gate Ps_normal_gate
  D_shut_until : DefT K mg "shut_until" s_shut_until Ps_shut_until
  D_is_open : DefT K mg "is_open" s_is_open Ps_is_open
  D_next_open : DefT K mg "next_open" s_next_open Ps_next_open
  D_first_windows : DefT K mg "first_windows" s_first_windows Ps_first_windows
  D_periods_later : DefT K mg "periods_later" s_periods_later Ps_periods_later
  D_window : DefT K mg "window" s_window Ps_window
  D_window_at : DefT K mg "window_at" s_window_at Ps_window_at
  D_delayed_gate : DefT K mg "delayed_gate" s_delayed_gate Ps_delayed_gate
  D_l_source : DefT K mg "_law_source" s_l_source Ps_l_source
  D_l_draw : DefT K mg "_law_draw" s_l_draw Ps_l_draw
  D_l_choice : DefT K mg "_law_choice" s_l_choice Ps_l_choice
  D_l_equal : DefT K mg "_law_equal" s_l_equal Ps_l_equal
  D_l_error_field : DefT K mg "_law_error_field" s_l_error_field Ps_l_error_field
  D_l_outcome : DefT K mg "_law_outcome" s_l_outcome Ps_l_outcome
  D_l_error : DefT K mg "_law_error" s_l_error Ps_l_error
  D_l_divisor : DefT K mg "_law_divisor" s_l_divisor Ps_l_divisor
  D_l_reduce : DefT K mg "_law_reduce" s_l_reduce Ps_l_reduce
  D_l_add : DefT K mg "_law_add" s_l_add Ps_l_add
  D_l_multiply : DefT K mg "_law_multiply" s_l_multiply Ps_l_multiply
  D_l_less : DefT K mg "_law_less" s_l_less Ps_l_less
  D_l_times : DefT K mg "_law_times" s_l_times Ps_l_times
  D_l_small : DefT K mg "_law_small" s_l_small Ps_l_small
  D_l_positive : DefT K mg "_law_positive" s_l_positive Ps_l_positive
  D_l_parts : DefT K mg "_law_parts" s_l_parts Ps_l_parts
  D_l_gate : DefT K mg "_law_gate" s_l_gate Ps_l_gate
  D_l_is_gate : DefT K mg "_law_is_gate" s_l_is_gate Ps_l_is_gate
  D_l_bent : DefT K mg "_law_bent" s_l_bent Ps_l_bent
  D_law : DefT K mg "law" s_law Ps_law
  m_ValueError : mg "ValueError" = none
  m_abs : mg "abs" = none
  m_sorted : mg "sorted" = none
  m_len : mg "len" = none
  m_all : mg "all" = none
  m_any : mg "any" = none
  m_zip : mg "zip" = none
  m_list : mg "list" = none
  m_range : mg "range" = none
  m_tuple : mg "tuple" = none
  m_divmod : mg "divmod" = none
  m_enumerate : mg "enumerate" = none
  m_isinstance : mg "isinstance" = none
  m_bool : mg "bool" = none
  m_int : mg "int" = none
  m_str : mg "str" = none
  c_PaceError : Addr
  gc_PaceError : mg "PaceError" = some (.ref c_PaceError)
  c_NotFound : Addr
  gc_NotFound : mg "NotFound" = some (.ref c_NotFound)
  c_InvalidGate : Addr
  gc_InvalidGate : mg "InvalidGate" = some (.ref c_InvalidGate)
  c_NotBarring : Addr
  gc_NotBarring : mg "NotBarring" = some (.ref c_NotBarring)
  c_ZeroDenominator : Addr
  gc_ZeroDenominator : mg "ZeroDenominator" = some (.ref c_ZeroDenominator)
  c_EmptyHistory : Addr
  gc_EmptyHistory : mg "EmptyHistory" = some (.ref c_EmptyHistory)
  fi_PaceError : Addr
  di_PaceError : FuncData
  Fi_PaceError : Fun K "__init__" "PaceError.__init__" si_PaceError fi_PaceError di_PaceError
  bi_PaceError : Binds K di_PaceError ["self", "tag"] []
  fi_InvalidGate : Addr
  di_InvalidGate : FuncData
  Fi_InvalidGate : Fun K "__init__" "InvalidGate.__init__" si_InvalidGate fi_InvalidGate di_InvalidGate
  bi_InvalidGate : Binds K di_InvalidGate ["self", "position"] []
  fi_NotBarring : Addr
  di_NotBarring : FuncData
  Fi_NotBarring : Fun K "__init__" "NotBarring.__init__" si_NotBarring fi_NotBarring di_NotBarring
  bi_NotBarring : Binds K di_NotBarring ["self", "place"] []
  ownP : EPX.OwnFn K c_PaceError fi_PaceError "__init__"
  vVE : PySem.W.findCls K (.type "ValueError") (.type "type") "__init__" = some (.val (.builtin "ValueError.__init__"))
  clsInvalidGate : OexC K c_InvalidGate
  iInvalidGate : PySem.W.findIn K (.ref c_InvalidGate) "__init__" = some (some (.ref fi_InvalidGate))
  tInvalidGate : PySem.W.typeIn K (.ref fi_InvalidGate) = some (.type "function")
  nTagInvalidGate : PySem.W.findIn K (.ref c_InvalidGate) "tag" = some none
  nFldInvalidGate : PySem.W.findIn K (.ref c_InvalidGate) "position" = some none
  xfInvalidGate : XfC K c_InvalidGate
  exAInvalidGate : PySem.W.exmAny K (.ref c_InvalidGate) [.ref c_PaceError, .ref c_NotFound] = some true
  clsNotBarring : OexC K c_NotBarring
  iNotBarring : PySem.W.findIn K (.ref c_NotBarring) "__init__" = some (some (.ref fi_NotBarring))
  tNotBarring : PySem.W.typeIn K (.ref fi_NotBarring) = some (.type "function")
  nTagNotBarring : PySem.W.findIn K (.ref c_NotBarring) "tag" = some none
  nFldNotBarring : PySem.W.findIn K (.ref c_NotBarring) "place" = some none
  xfNotBarring : XfC K c_NotBarring
  exANotBarring : PySem.W.exmAny K (.ref c_NotBarring) [.ref c_PaceError, .ref c_NotFound] = some true
abbrev Txt.f_gcd {K : PySem.W.Frag} {mg : Str → Option Value} (T : Txt K mg) := T.D_gcd.f
abbrev Txt.d_gcd {K : PySem.W.Frag} {mg : Str → Option Value} (T : Txt K mg) := T.D_gcd.d
abbrev Txt.F_gcd {K : PySem.W.Frag} {mg : Str → Option Value} (T : Txt K mg) := T.D_gcd.F
abbrev Txt.b_gcd {K : PySem.W.Frag} {mg : Str → Option Value} (T : Txt K mg) := T.D_gcd.b
abbrev Txt.g_gcd {K : PySem.W.Frag} {mg : Str → Option Value} (T : Txt K mg) := T.D_gcd.g
abbrev Txt.f_add {K : PySem.W.Frag} {mg : Str → Option Value} (T : Txt K mg) := T.D_add.f
abbrev Txt.d_add {K : PySem.W.Frag} {mg : Str → Option Value} (T : Txt K mg) := T.D_add.d
abbrev Txt.F_add {K : PySem.W.Frag} {mg : Str → Option Value} (T : Txt K mg) := T.D_add.F
abbrev Txt.b_add {K : PySem.W.Frag} {mg : Str → Option Value} (T : Txt K mg) := T.D_add.b
abbrev Txt.g_add {K : PySem.W.Frag} {mg : Str → Option Value} (T : Txt K mg) := T.D_add.g
abbrev Txt.f_subtract {K : PySem.W.Frag} {mg : Str → Option Value} (T : Txt K mg) := T.D_subtract.f
abbrev Txt.d_subtract {K : PySem.W.Frag} {mg : Str → Option Value} (T : Txt K mg) := T.D_subtract.d
abbrev Txt.F_subtract {K : PySem.W.Frag} {mg : Str → Option Value} (T : Txt K mg) := T.D_subtract.F
abbrev Txt.b_subtract {K : PySem.W.Frag} {mg : Str → Option Value} (T : Txt K mg) := T.D_subtract.b
abbrev Txt.g_subtract {K : PySem.W.Frag} {mg : Str → Option Value} (T : Txt K mg) := T.D_subtract.g
abbrev Txt.f_multiply {K : PySem.W.Frag} {mg : Str → Option Value} (T : Txt K mg) := T.D_multiply.f
abbrev Txt.d_multiply {K : PySem.W.Frag} {mg : Str → Option Value} (T : Txt K mg) := T.D_multiply.d
abbrev Txt.F_multiply {K : PySem.W.Frag} {mg : Str → Option Value} (T : Txt K mg) := T.D_multiply.F
abbrev Txt.b_multiply {K : PySem.W.Frag} {mg : Str → Option Value} (T : Txt K mg) := T.D_multiply.b
abbrev Txt.g_multiply {K : PySem.W.Frag} {mg : Str → Option Value} (T : Txt K mg) := T.D_multiply.g
abbrev Txt.f_divide {K : PySem.W.Frag} {mg : Str → Option Value} (T : Txt K mg) := T.D_divide.f
abbrev Txt.d_divide {K : PySem.W.Frag} {mg : Str → Option Value} (T : Txt K mg) := T.D_divide.d
abbrev Txt.F_divide {K : PySem.W.Frag} {mg : Str → Option Value} (T : Txt K mg) := T.D_divide.F
abbrev Txt.b_divide {K : PySem.W.Frag} {mg : Str → Option Value} (T : Txt K mg) := T.D_divide.b
abbrev Txt.g_divide {K : PySem.W.Frag} {mg : Str → Option Value} (T : Txt K mg) := T.D_divide.g
abbrev Txt.f_is_less {K : PySem.W.Frag} {mg : Str → Option Value} (T : Txt K mg) := T.D_is_less.f
abbrev Txt.d_is_less {K : PySem.W.Frag} {mg : Str → Option Value} (T : Txt K mg) := T.D_is_less.d
abbrev Txt.F_is_less {K : PySem.W.Frag} {mg : Str → Option Value} (T : Txt K mg) := T.D_is_less.F
abbrev Txt.b_is_less {K : PySem.W.Frag} {mg : Str → Option Value} (T : Txt K mg) := T.D_is_less.b
abbrev Txt.g_is_less {K : PySem.W.Frag} {mg : Str → Option Value} (T : Txt K mg) := T.D_is_less.g
abbrev Txt.f_floor_of {K : PySem.W.Frag} {mg : Str → Option Value} (T : Txt K mg) := T.D_floor_of.f
abbrev Txt.d_floor_of {K : PySem.W.Frag} {mg : Str → Option Value} (T : Txt K mg) := T.D_floor_of.d
abbrev Txt.F_floor_of {K : PySem.W.Frag} {mg : Str → Option Value} (T : Txt K mg) := T.D_floor_of.F
abbrev Txt.b_floor_of {K : PySem.W.Frag} {mg : Str → Option Value} (T : Txt K mg) := T.D_floor_of.b
abbrev Txt.g_floor_of {K : PySem.W.Frag} {mg : Str → Option Value} (T : Txt K mg) := T.D_floor_of.g
abbrev Txt.f_remainder {K : PySem.W.Frag} {mg : Str → Option Value} (T : Txt K mg) := T.D_remainder.f
abbrev Txt.d_remainder {K : PySem.W.Frag} {mg : Str → Option Value} (T : Txt K mg) := T.D_remainder.d
abbrev Txt.F_remainder {K : PySem.W.Frag} {mg : Str → Option Value} (T : Txt K mg) := T.D_remainder.F
abbrev Txt.b_remainder {K : PySem.W.Frag} {mg : Str → Option Value} (T : Txt K mg) := T.D_remainder.b
abbrev Txt.g_remainder {K : PySem.W.Frag} {mg : Str → Option Value} (T : Txt K mg) := T.D_remainder.g
abbrev Txt.f_common_denominator {K : PySem.W.Frag} {mg : Str → Option Value} (T : Txt K mg) := T.D_common_denominator.f
abbrev Txt.d_common_denominator {K : PySem.W.Frag} {mg : Str → Option Value} (T : Txt K mg) := T.D_common_denominator.d
abbrev Txt.F_common_denominator {K : PySem.W.Frag} {mg : Str → Option Value} (T : Txt K mg) := T.D_common_denominator.F
abbrev Txt.b_common_denominator {K : PySem.W.Frag} {mg : Str → Option Value} (T : Txt K mg) := T.D_common_denominator.b
abbrev Txt.g_common_denominator {K : PySem.W.Frag} {mg : Str → Option Value} (T : Txt K mg) := T.D_common_denominator.g
abbrev Txt.f_whole {K : PySem.W.Frag} {mg : Str → Option Value} (T : Txt K mg) := T.D_whole.f
abbrev Txt.d_whole {K : PySem.W.Frag} {mg : Str → Option Value} (T : Txt K mg) := T.D_whole.d
abbrev Txt.F_whole {K : PySem.W.Frag} {mg : Str → Option Value} (T : Txt K mg) := T.D_whole.F
abbrev Txt.b_whole {K : PySem.W.Frag} {mg : Str → Option Value} (T : Txt K mg) := T.D_whole.b
abbrev Txt.g_whole {K : PySem.W.Frag} {mg : Str → Option Value} (T : Txt K mg) := T.D_whole.g
abbrev Txt.f_in_order {K : PySem.W.Frag} {mg : Str → Option Value} (T : Txt K mg) := T.D_in_order.f
abbrev Txt.d_in_order {K : PySem.W.Frag} {mg : Str → Option Value} (T : Txt K mg) := T.D_in_order.d
abbrev Txt.F_in_order {K : PySem.W.Frag} {mg : Str → Option Value} (T : Txt K mg) := T.D_in_order.F
abbrev Txt.b_in_order {K : PySem.W.Frag} {mg : Str → Option Value} (T : Txt K mg) := T.D_in_order.b
abbrev Txt.g_in_order {K : PySem.W.Frag} {mg : Str → Option Value} (T : Txt K mg) := T.D_in_order.g
abbrev Txt.f_span_ends {K : PySem.W.Frag} {mg : Str → Option Value} (T : Txt K mg) := T.D_span_ends.f
abbrev Txt.d_span_ends {K : PySem.W.Frag} {mg : Str → Option Value} (T : Txt K mg) := T.D_span_ends.d
abbrev Txt.F_span_ends {K : PySem.W.Frag} {mg : Str → Option Value} (T : Txt K mg) := T.D_span_ends.F
abbrev Txt.b_span_ends {K : PySem.W.Frag} {mg : Str → Option Value} (T : Txt K mg) := T.D_span_ends.b
abbrev Txt.g_span_ends {K : PySem.W.Frag} {mg : Str → Option Value} (T : Txt K mg) := T.D_span_ends.g
abbrev Txt.f_next_begins {K : PySem.W.Frag} {mg : Str → Option Value} (T : Txt K mg) := T.D_next_begins.f
abbrev Txt.d_next_begins {K : PySem.W.Frag} {mg : Str → Option Value} (T : Txt K mg) := T.D_next_begins.d
abbrev Txt.F_next_begins {K : PySem.W.Frag} {mg : Str → Option Value} (T : Txt K mg) := T.D_next_begins.F
abbrev Txt.b_next_begins {K : PySem.W.Frag} {mg : Str → Option Value} (T : Txt K mg) := T.D_next_begins.b
abbrev Txt.g_next_begins {K : PySem.W.Frag} {mg : Str → Option Value} (T : Txt K mg) := T.D_next_begins.g
abbrev Txt.f_fits {K : PySem.W.Frag} {mg : Str → Option Value} (T : Txt K mg) := T.D_fits.f
abbrev Txt.d_fits {K : PySem.W.Frag} {mg : Str → Option Value} (T : Txt K mg) := T.D_fits.d
abbrev Txt.F_fits {K : PySem.W.Frag} {mg : Str → Option Value} (T : Txt K mg) := T.D_fits.F
abbrev Txt.b_fits {K : PySem.W.Frag} {mg : Str → Option Value} (T : Txt K mg) := T.D_fits.b
abbrev Txt.g_fits {K : PySem.W.Frag} {mg : Str → Option Value} (T : Txt K mg) := T.D_fits.g
abbrev Txt.f_is_gate {K : PySem.W.Frag} {mg : Str → Option Value} (T : Txt K mg) := T.D_is_gate.f
abbrev Txt.d_is_gate {K : PySem.W.Frag} {mg : Str → Option Value} (T : Txt K mg) := T.D_is_gate.d
abbrev Txt.F_is_gate {K : PySem.W.Frag} {mg : Str → Option Value} (T : Txt K mg) := T.D_is_gate.F
abbrev Txt.b_is_gate {K : PySem.W.Frag} {mg : Str → Option Value} (T : Txt K mg) := T.D_is_gate.b
abbrev Txt.g_is_gate {K : PySem.W.Frag} {mg : Str → Option Value} (T : Txt K mg) := T.D_is_gate.g
abbrev Txt.f_repeats {K : PySem.W.Frag} {mg : Str → Option Value} (T : Txt K mg) := T.D_repeats.f
abbrev Txt.d_repeats {K : PySem.W.Frag} {mg : Str → Option Value} (T : Txt K mg) := T.D_repeats.d
abbrev Txt.F_repeats {K : PySem.W.Frag} {mg : Str → Option Value} (T : Txt K mg) := T.D_repeats.F
abbrev Txt.b_repeats {K : PySem.W.Frag} {mg : Str → Option Value} (T : Txt K mg) := T.D_repeats.b
abbrev Txt.g_repeats {K : PySem.W.Frag} {mg : Str → Option Value} (T : Txt K mg) := T.D_repeats.g
abbrev Txt.f_least_form {K : PySem.W.Frag} {mg : Str → Option Value} (T : Txt K mg) := T.D_least_form.f
abbrev Txt.d_least_form {K : PySem.W.Frag} {mg : Str → Option Value} (T : Txt K mg) := T.D_least_form.d
abbrev Txt.F_least_form {K : PySem.W.Frag} {mg : Str → Option Value} (T : Txt K mg) := T.D_least_form.F
abbrev Txt.b_least_form {K : PySem.W.Frag} {mg : Str → Option Value} (T : Txt K mg) := T.D_least_form.b
abbrev Txt.g_least_form {K : PySem.W.Frag} {mg : Str → Option Value} (T : Txt K mg) := T.D_least_form.g
abbrev Txt.f_normal_gate {K : PySem.W.Frag} {mg : Str → Option Value} (T : Txt K mg) := T.D_normal_gate.f
abbrev Txt.d_normal_gate {K : PySem.W.Frag} {mg : Str → Option Value} (T : Txt K mg) := T.D_normal_gate.d
abbrev Txt.F_normal_gate {K : PySem.W.Frag} {mg : Str → Option Value} (T : Txt K mg) := T.D_normal_gate.F
abbrev Txt.b_normal_gate {K : PySem.W.Frag} {mg : Str → Option Value} (T : Txt K mg) := T.D_normal_gate.b
abbrev Txt.g_normal_gate {K : PySem.W.Frag} {mg : Str → Option Value} (T : Txt K mg) := T.D_normal_gate.g
abbrev Txt.f_shut_until {K : PySem.W.Frag} {mg : Str → Option Value} (T : Txt K mg) := T.D_shut_until.f
abbrev Txt.d_shut_until {K : PySem.W.Frag} {mg : Str → Option Value} (T : Txt K mg) := T.D_shut_until.d
abbrev Txt.F_shut_until {K : PySem.W.Frag} {mg : Str → Option Value} (T : Txt K mg) := T.D_shut_until.F
abbrev Txt.b_shut_until {K : PySem.W.Frag} {mg : Str → Option Value} (T : Txt K mg) := T.D_shut_until.b
abbrev Txt.g_shut_until {K : PySem.W.Frag} {mg : Str → Option Value} (T : Txt K mg) := T.D_shut_until.g
abbrev Txt.f_is_open {K : PySem.W.Frag} {mg : Str → Option Value} (T : Txt K mg) := T.D_is_open.f
abbrev Txt.d_is_open {K : PySem.W.Frag} {mg : Str → Option Value} (T : Txt K mg) := T.D_is_open.d
abbrev Txt.F_is_open {K : PySem.W.Frag} {mg : Str → Option Value} (T : Txt K mg) := T.D_is_open.F
abbrev Txt.b_is_open {K : PySem.W.Frag} {mg : Str → Option Value} (T : Txt K mg) := T.D_is_open.b
abbrev Txt.g_is_open {K : PySem.W.Frag} {mg : Str → Option Value} (T : Txt K mg) := T.D_is_open.g
abbrev Txt.f_next_open {K : PySem.W.Frag} {mg : Str → Option Value} (T : Txt K mg) := T.D_next_open.f
abbrev Txt.d_next_open {K : PySem.W.Frag} {mg : Str → Option Value} (T : Txt K mg) := T.D_next_open.d
abbrev Txt.F_next_open {K : PySem.W.Frag} {mg : Str → Option Value} (T : Txt K mg) := T.D_next_open.F
abbrev Txt.b_next_open {K : PySem.W.Frag} {mg : Str → Option Value} (T : Txt K mg) := T.D_next_open.b
abbrev Txt.g_next_open {K : PySem.W.Frag} {mg : Str → Option Value} (T : Txt K mg) := T.D_next_open.g
abbrev Txt.f_first_windows {K : PySem.W.Frag} {mg : Str → Option Value} (T : Txt K mg) := T.D_first_windows.f
abbrev Txt.d_first_windows {K : PySem.W.Frag} {mg : Str → Option Value} (T : Txt K mg) := T.D_first_windows.d
abbrev Txt.F_first_windows {K : PySem.W.Frag} {mg : Str → Option Value} (T : Txt K mg) := T.D_first_windows.F
abbrev Txt.b_first_windows {K : PySem.W.Frag} {mg : Str → Option Value} (T : Txt K mg) := T.D_first_windows.b
abbrev Txt.g_first_windows {K : PySem.W.Frag} {mg : Str → Option Value} (T : Txt K mg) := T.D_first_windows.g
abbrev Txt.f_periods_later {K : PySem.W.Frag} {mg : Str → Option Value} (T : Txt K mg) := T.D_periods_later.f
abbrev Txt.d_periods_later {K : PySem.W.Frag} {mg : Str → Option Value} (T : Txt K mg) := T.D_periods_later.d
abbrev Txt.F_periods_later {K : PySem.W.Frag} {mg : Str → Option Value} (T : Txt K mg) := T.D_periods_later.F
abbrev Txt.b_periods_later {K : PySem.W.Frag} {mg : Str → Option Value} (T : Txt K mg) := T.D_periods_later.b
abbrev Txt.g_periods_later {K : PySem.W.Frag} {mg : Str → Option Value} (T : Txt K mg) := T.D_periods_later.g
abbrev Txt.f_window {K : PySem.W.Frag} {mg : Str → Option Value} (T : Txt K mg) := T.D_window.f
abbrev Txt.d_window {K : PySem.W.Frag} {mg : Str → Option Value} (T : Txt K mg) := T.D_window.d
abbrev Txt.F_window {K : PySem.W.Frag} {mg : Str → Option Value} (T : Txt K mg) := T.D_window.F
abbrev Txt.b_window {K : PySem.W.Frag} {mg : Str → Option Value} (T : Txt K mg) := T.D_window.b
abbrev Txt.g_window {K : PySem.W.Frag} {mg : Str → Option Value} (T : Txt K mg) := T.D_window.g
abbrev Txt.f_window_at {K : PySem.W.Frag} {mg : Str → Option Value} (T : Txt K mg) := T.D_window_at.f
abbrev Txt.d_window_at {K : PySem.W.Frag} {mg : Str → Option Value} (T : Txt K mg) := T.D_window_at.d
abbrev Txt.F_window_at {K : PySem.W.Frag} {mg : Str → Option Value} (T : Txt K mg) := T.D_window_at.F
abbrev Txt.b_window_at {K : PySem.W.Frag} {mg : Str → Option Value} (T : Txt K mg) := T.D_window_at.b
abbrev Txt.g_window_at {K : PySem.W.Frag} {mg : Str → Option Value} (T : Txt K mg) := T.D_window_at.g
abbrev Txt.f_delayed_gate {K : PySem.W.Frag} {mg : Str → Option Value} (T : Txt K mg) := T.D_delayed_gate.f
abbrev Txt.d_delayed_gate {K : PySem.W.Frag} {mg : Str → Option Value} (T : Txt K mg) := T.D_delayed_gate.d
abbrev Txt.F_delayed_gate {K : PySem.W.Frag} {mg : Str → Option Value} (T : Txt K mg) := T.D_delayed_gate.F
abbrev Txt.b_delayed_gate {K : PySem.W.Frag} {mg : Str → Option Value} (T : Txt K mg) := T.D_delayed_gate.b
abbrev Txt.g_delayed_gate {K : PySem.W.Frag} {mg : Str → Option Value} (T : Txt K mg) := T.D_delayed_gate.g
abbrev Txt.f_l_source {K : PySem.W.Frag} {mg : Str → Option Value} (T : Txt K mg) := T.D_l_source.f
abbrev Txt.d_l_source {K : PySem.W.Frag} {mg : Str → Option Value} (T : Txt K mg) := T.D_l_source.d
abbrev Txt.F_l_source {K : PySem.W.Frag} {mg : Str → Option Value} (T : Txt K mg) := T.D_l_source.F
abbrev Txt.b_l_source {K : PySem.W.Frag} {mg : Str → Option Value} (T : Txt K mg) := T.D_l_source.b
abbrev Txt.g_l_source {K : PySem.W.Frag} {mg : Str → Option Value} (T : Txt K mg) := T.D_l_source.g
abbrev Txt.f_l_draw {K : PySem.W.Frag} {mg : Str → Option Value} (T : Txt K mg) := T.D_l_draw.f
abbrev Txt.d_l_draw {K : PySem.W.Frag} {mg : Str → Option Value} (T : Txt K mg) := T.D_l_draw.d
abbrev Txt.F_l_draw {K : PySem.W.Frag} {mg : Str → Option Value} (T : Txt K mg) := T.D_l_draw.F
abbrev Txt.b_l_draw {K : PySem.W.Frag} {mg : Str → Option Value} (T : Txt K mg) := T.D_l_draw.b
abbrev Txt.g_l_draw {K : PySem.W.Frag} {mg : Str → Option Value} (T : Txt K mg) := T.D_l_draw.g
abbrev Txt.f_l_choice {K : PySem.W.Frag} {mg : Str → Option Value} (T : Txt K mg) := T.D_l_choice.f
abbrev Txt.d_l_choice {K : PySem.W.Frag} {mg : Str → Option Value} (T : Txt K mg) := T.D_l_choice.d
abbrev Txt.F_l_choice {K : PySem.W.Frag} {mg : Str → Option Value} (T : Txt K mg) := T.D_l_choice.F
abbrev Txt.b_l_choice {K : PySem.W.Frag} {mg : Str → Option Value} (T : Txt K mg) := T.D_l_choice.b
abbrev Txt.g_l_choice {K : PySem.W.Frag} {mg : Str → Option Value} (T : Txt K mg) := T.D_l_choice.g
abbrev Txt.f_l_equal {K : PySem.W.Frag} {mg : Str → Option Value} (T : Txt K mg) := T.D_l_equal.f
abbrev Txt.d_l_equal {K : PySem.W.Frag} {mg : Str → Option Value} (T : Txt K mg) := T.D_l_equal.d
abbrev Txt.F_l_equal {K : PySem.W.Frag} {mg : Str → Option Value} (T : Txt K mg) := T.D_l_equal.F
abbrev Txt.b_l_equal {K : PySem.W.Frag} {mg : Str → Option Value} (T : Txt K mg) := T.D_l_equal.b
abbrev Txt.g_l_equal {K : PySem.W.Frag} {mg : Str → Option Value} (T : Txt K mg) := T.D_l_equal.g
abbrev Txt.f_l_error_field {K : PySem.W.Frag} {mg : Str → Option Value} (T : Txt K mg) := T.D_l_error_field.f
abbrev Txt.d_l_error_field {K : PySem.W.Frag} {mg : Str → Option Value} (T : Txt K mg) := T.D_l_error_field.d
abbrev Txt.F_l_error_field {K : PySem.W.Frag} {mg : Str → Option Value} (T : Txt K mg) := T.D_l_error_field.F
abbrev Txt.b_l_error_field {K : PySem.W.Frag} {mg : Str → Option Value} (T : Txt K mg) := T.D_l_error_field.b
abbrev Txt.g_l_error_field {K : PySem.W.Frag} {mg : Str → Option Value} (T : Txt K mg) := T.D_l_error_field.g
abbrev Txt.f_l_outcome {K : PySem.W.Frag} {mg : Str → Option Value} (T : Txt K mg) := T.D_l_outcome.f
abbrev Txt.d_l_outcome {K : PySem.W.Frag} {mg : Str → Option Value} (T : Txt K mg) := T.D_l_outcome.d
abbrev Txt.F_l_outcome {K : PySem.W.Frag} {mg : Str → Option Value} (T : Txt K mg) := T.D_l_outcome.F
abbrev Txt.b_l_outcome {K : PySem.W.Frag} {mg : Str → Option Value} (T : Txt K mg) := T.D_l_outcome.b
abbrev Txt.g_l_outcome {K : PySem.W.Frag} {mg : Str → Option Value} (T : Txt K mg) := T.D_l_outcome.g
abbrev Txt.f_l_error {K : PySem.W.Frag} {mg : Str → Option Value} (T : Txt K mg) := T.D_l_error.f
abbrev Txt.d_l_error {K : PySem.W.Frag} {mg : Str → Option Value} (T : Txt K mg) := T.D_l_error.d
abbrev Txt.F_l_error {K : PySem.W.Frag} {mg : Str → Option Value} (T : Txt K mg) := T.D_l_error.F
abbrev Txt.b_l_error {K : PySem.W.Frag} {mg : Str → Option Value} (T : Txt K mg) := T.D_l_error.b
abbrev Txt.g_l_error {K : PySem.W.Frag} {mg : Str → Option Value} (T : Txt K mg) := T.D_l_error.g
abbrev Txt.f_l_divisor {K : PySem.W.Frag} {mg : Str → Option Value} (T : Txt K mg) := T.D_l_divisor.f
abbrev Txt.d_l_divisor {K : PySem.W.Frag} {mg : Str → Option Value} (T : Txt K mg) := T.D_l_divisor.d
abbrev Txt.F_l_divisor {K : PySem.W.Frag} {mg : Str → Option Value} (T : Txt K mg) := T.D_l_divisor.F
abbrev Txt.b_l_divisor {K : PySem.W.Frag} {mg : Str → Option Value} (T : Txt K mg) := T.D_l_divisor.b
abbrev Txt.g_l_divisor {K : PySem.W.Frag} {mg : Str → Option Value} (T : Txt K mg) := T.D_l_divisor.g
abbrev Txt.f_l_reduce {K : PySem.W.Frag} {mg : Str → Option Value} (T : Txt K mg) := T.D_l_reduce.f
abbrev Txt.d_l_reduce {K : PySem.W.Frag} {mg : Str → Option Value} (T : Txt K mg) := T.D_l_reduce.d
abbrev Txt.F_l_reduce {K : PySem.W.Frag} {mg : Str → Option Value} (T : Txt K mg) := T.D_l_reduce.F
abbrev Txt.b_l_reduce {K : PySem.W.Frag} {mg : Str → Option Value} (T : Txt K mg) := T.D_l_reduce.b
abbrev Txt.g_l_reduce {K : PySem.W.Frag} {mg : Str → Option Value} (T : Txt K mg) := T.D_l_reduce.g
abbrev Txt.f_l_add {K : PySem.W.Frag} {mg : Str → Option Value} (T : Txt K mg) := T.D_l_add.f
abbrev Txt.d_l_add {K : PySem.W.Frag} {mg : Str → Option Value} (T : Txt K mg) := T.D_l_add.d
abbrev Txt.F_l_add {K : PySem.W.Frag} {mg : Str → Option Value} (T : Txt K mg) := T.D_l_add.F
abbrev Txt.b_l_add {K : PySem.W.Frag} {mg : Str → Option Value} (T : Txt K mg) := T.D_l_add.b
abbrev Txt.g_l_add {K : PySem.W.Frag} {mg : Str → Option Value} (T : Txt K mg) := T.D_l_add.g
abbrev Txt.f_l_multiply {K : PySem.W.Frag} {mg : Str → Option Value} (T : Txt K mg) := T.D_l_multiply.f
abbrev Txt.d_l_multiply {K : PySem.W.Frag} {mg : Str → Option Value} (T : Txt K mg) := T.D_l_multiply.d
abbrev Txt.F_l_multiply {K : PySem.W.Frag} {mg : Str → Option Value} (T : Txt K mg) := T.D_l_multiply.F
abbrev Txt.b_l_multiply {K : PySem.W.Frag} {mg : Str → Option Value} (T : Txt K mg) := T.D_l_multiply.b
abbrev Txt.g_l_multiply {K : PySem.W.Frag} {mg : Str → Option Value} (T : Txt K mg) := T.D_l_multiply.g
abbrev Txt.f_l_less {K : PySem.W.Frag} {mg : Str → Option Value} (T : Txt K mg) := T.D_l_less.f
abbrev Txt.d_l_less {K : PySem.W.Frag} {mg : Str → Option Value} (T : Txt K mg) := T.D_l_less.d
abbrev Txt.F_l_less {K : PySem.W.Frag} {mg : Str → Option Value} (T : Txt K mg) := T.D_l_less.F
abbrev Txt.b_l_less {K : PySem.W.Frag} {mg : Str → Option Value} (T : Txt K mg) := T.D_l_less.b
abbrev Txt.g_l_less {K : PySem.W.Frag} {mg : Str → Option Value} (T : Txt K mg) := T.D_l_less.g
abbrev Txt.f_l_times {K : PySem.W.Frag} {mg : Str → Option Value} (T : Txt K mg) := T.D_l_times.f
abbrev Txt.d_l_times {K : PySem.W.Frag} {mg : Str → Option Value} (T : Txt K mg) := T.D_l_times.d
abbrev Txt.F_l_times {K : PySem.W.Frag} {mg : Str → Option Value} (T : Txt K mg) := T.D_l_times.F
abbrev Txt.b_l_times {K : PySem.W.Frag} {mg : Str → Option Value} (T : Txt K mg) := T.D_l_times.b
abbrev Txt.g_l_times {K : PySem.W.Frag} {mg : Str → Option Value} (T : Txt K mg) := T.D_l_times.g
abbrev Txt.f_l_small {K : PySem.W.Frag} {mg : Str → Option Value} (T : Txt K mg) := T.D_l_small.f
abbrev Txt.d_l_small {K : PySem.W.Frag} {mg : Str → Option Value} (T : Txt K mg) := T.D_l_small.d
abbrev Txt.F_l_small {K : PySem.W.Frag} {mg : Str → Option Value} (T : Txt K mg) := T.D_l_small.F
abbrev Txt.b_l_small {K : PySem.W.Frag} {mg : Str → Option Value} (T : Txt K mg) := T.D_l_small.b
abbrev Txt.g_l_small {K : PySem.W.Frag} {mg : Str → Option Value} (T : Txt K mg) := T.D_l_small.g
abbrev Txt.f_l_positive {K : PySem.W.Frag} {mg : Str → Option Value} (T : Txt K mg) := T.D_l_positive.f
abbrev Txt.d_l_positive {K : PySem.W.Frag} {mg : Str → Option Value} (T : Txt K mg) := T.D_l_positive.d
abbrev Txt.F_l_positive {K : PySem.W.Frag} {mg : Str → Option Value} (T : Txt K mg) := T.D_l_positive.F
abbrev Txt.b_l_positive {K : PySem.W.Frag} {mg : Str → Option Value} (T : Txt K mg) := T.D_l_positive.b
abbrev Txt.g_l_positive {K : PySem.W.Frag} {mg : Str → Option Value} (T : Txt K mg) := T.D_l_positive.g
abbrev Txt.f_l_parts {K : PySem.W.Frag} {mg : Str → Option Value} (T : Txt K mg) := T.D_l_parts.f
abbrev Txt.d_l_parts {K : PySem.W.Frag} {mg : Str → Option Value} (T : Txt K mg) := T.D_l_parts.d
abbrev Txt.F_l_parts {K : PySem.W.Frag} {mg : Str → Option Value} (T : Txt K mg) := T.D_l_parts.F
abbrev Txt.b_l_parts {K : PySem.W.Frag} {mg : Str → Option Value} (T : Txt K mg) := T.D_l_parts.b
abbrev Txt.g_l_parts {K : PySem.W.Frag} {mg : Str → Option Value} (T : Txt K mg) := T.D_l_parts.g
abbrev Txt.f_l_gate {K : PySem.W.Frag} {mg : Str → Option Value} (T : Txt K mg) := T.D_l_gate.f
abbrev Txt.d_l_gate {K : PySem.W.Frag} {mg : Str → Option Value} (T : Txt K mg) := T.D_l_gate.d
abbrev Txt.F_l_gate {K : PySem.W.Frag} {mg : Str → Option Value} (T : Txt K mg) := T.D_l_gate.F
abbrev Txt.b_l_gate {K : PySem.W.Frag} {mg : Str → Option Value} (T : Txt K mg) := T.D_l_gate.b
abbrev Txt.g_l_gate {K : PySem.W.Frag} {mg : Str → Option Value} (T : Txt K mg) := T.D_l_gate.g
abbrev Txt.f_l_is_gate {K : PySem.W.Frag} {mg : Str → Option Value} (T : Txt K mg) := T.D_l_is_gate.f
abbrev Txt.d_l_is_gate {K : PySem.W.Frag} {mg : Str → Option Value} (T : Txt K mg) := T.D_l_is_gate.d
abbrev Txt.F_l_is_gate {K : PySem.W.Frag} {mg : Str → Option Value} (T : Txt K mg) := T.D_l_is_gate.F
abbrev Txt.b_l_is_gate {K : PySem.W.Frag} {mg : Str → Option Value} (T : Txt K mg) := T.D_l_is_gate.b
abbrev Txt.g_l_is_gate {K : PySem.W.Frag} {mg : Str → Option Value} (T : Txt K mg) := T.D_l_is_gate.g
abbrev Txt.f_l_bent {K : PySem.W.Frag} {mg : Str → Option Value} (T : Txt K mg) := T.D_l_bent.f
abbrev Txt.d_l_bent {K : PySem.W.Frag} {mg : Str → Option Value} (T : Txt K mg) := T.D_l_bent.d
abbrev Txt.F_l_bent {K : PySem.W.Frag} {mg : Str → Option Value} (T : Txt K mg) := T.D_l_bent.F
abbrev Txt.b_l_bent {K : PySem.W.Frag} {mg : Str → Option Value} (T : Txt K mg) := T.D_l_bent.b
abbrev Txt.g_l_bent {K : PySem.W.Frag} {mg : Str → Option Value} (T : Txt K mg) := T.D_l_bent.g
abbrev Txt.f_law {K : PySem.W.Frag} {mg : Str → Option Value} (T : Txt K mg) := T.D_law.f
abbrev Txt.d_law {K : PySem.W.Frag} {mg : Str → Option Value} (T : Txt K mg) := T.D_law.d
abbrev Txt.F_law {K : PySem.W.Frag} {mg : Str → Option Value} (T : Txt K mg) := T.D_law.F
abbrev Txt.b_law {K : PySem.W.Frag} {mg : Str → Option Value} (T : Txt K mg) := T.D_law.b
abbrev Txt.g_law {K : PySem.W.Frag} {mg : Str → Option Value} (T : Txt K mg) := T.D_law.g
section
variable {P : Program} {w : World} {K : PySem.W.Frag} {mg : Str → Option Value} {base : Heap}
theorem ok_gcd (T : Txt K mg) : FnOk P w K mg base CX0 1 T.f_gcd T.d_gcd Ps_gcd spGcd := by
  refine T.F_gcd.ok sc_gcd (fun vs H Q E h => ?_) (fun cdv A outer s H vs Q E hr h => ?_)
  · obtain ⟨a, b, rfl, _⟩ := h; rfl
  · obtain ⟨a, b, rfl, q⟩ := h
    refine ⟨_, (pss_cons (ps_par (i := 0) (j := 1) (by rfl) sc_gcd.nd rfl rfl (by decide) rfl rfl (pa_cons (pe_callB call_abs (by rfl) T.m_abs (by decide +kernel) (pa_cons (pv 0) pa_nil)) (pa_cons (pe_callB call_abs (by rfl) T.m_abs (by decide +kernel) (pa_cons (pv 1) pa_nil)) pa_nil)) (by rfl))
      (pss_cons (ps_while PassesOwn.never (pt_cmpR op_ne (pv 1) pe_int (nomark _)) (pss_one (ps_par (i := 0) (j := 1) (by rfl) sc_gcd.nd rfl rfl (by decide) rfl rfl (pa_cons (pv 1) (pa_cons (pe_op op_mod (pv 0) (pv 1)) pa_nil)) (by rfl))))
      (pss_one (ps_ret (pv 0))))), ?_⟩
    refine ⟨.int a, rfl, a, rfl, .int b, rfl, b, rfl, _, _, rfl, ?_⟩
    refine while_by (fun σ H' => H' = H ∧ ∃ x y : Int, σ = [some (.int x), some (.int y)] ∧ 0 ≤ x ∧ 0 ≤ y ∧ Int.gcd x y = Int.gcd a b) (fun σ _ => match σ with | [_, some (.int y)] => y.toNat | _ => 0) ?_ ?_ (fun σ H Q Q' h ⟨v, e, s, k, ek, q⟩ => ⟨v, e, s, k, ek, h _ _ q⟩)
    · refine ⟨rfl, _, _, rfl, ?_, ?_, ?_⟩
      · rw [abs_nat]; omega
      · rw [abs_nat]; omega
      · rw [abs_nat, abs_nat]; unfold Int.gcd; simp only [Int.natAbs_natCast]
    · rintro σ H' ⟨rfl, x, y, rfl, hx, hy, e⟩
      refine ⟨.int y, rfl, rfl, _, rfl, brNe (fun h0 => ?_) (fun h0 => ?_)⟩
      · refine ⟨.int y, rfl, .int x, rfl, .int y, rfl, _, _, rfl, rfl, (by show 0 < y; omega), _, _, rfl, ⟨rfl, _, _, rfl, hy, ?_, ?_⟩, ?_⟩
        · exact Int.emod_nonneg _ h0
        · rw [← e]; exact gcd_step hx (by omega)
        · show (x % y).toNat < y.toNat
          have := Int.emod_lt_of_pos x (show 0 < y by omega)
          have := Int.emod_nonneg x h0
          omega
      · subst h0
        refine ⟨_, rfl, ?_⟩
        have : x = (Int.gcd a b : Int) := by rw [← e]; unfold Int.gcd; simp; omega
        show Q (.int x) _
        rw [this]; exact q
theorem ok_l_divisor (T : Txt K mg) : FnOk P w K mg base CX0 1 T.f_l_divisor T.d_l_divisor Ps_l_divisor spGcd := by
  refine T.F_l_divisor.ok sc_l_divisor (fun vs H Q E h => ?_) (fun cdv A outer s H vs Q E hr h => ?_)
  · obtain ⟨a, b, rfl, _⟩ := h; rfl
  · obtain ⟨a, b, rfl, q⟩ := h
    refine ⟨_, (pss_cons (ps_par (i := 0) (j := 1) (by rfl) sc_l_divisor.nd rfl rfl (by decide) rfl rfl (pa_cons (pe_callB call_abs (by rfl) T.m_abs (by decide +kernel) (pa_cons (pv 0) pa_nil)) (pa_cons (pe_callB call_abs (by rfl) T.m_abs (by decide +kernel) (pa_cons (pv 1) pa_nil)) pa_nil)) (by rfl))
      (pss_cons (ps_while PassesOwn.never (pt_cmpR op_ne (pv 1) pe_int (nomark _)) (pss_one (ps_par (i := 0) (j := 1) (by rfl) sc_l_divisor.nd rfl rfl (by decide) rfl rfl (pa_cons (pv 1) (pa_cons (pe_op op_mod (pv 0) (pv 1)) pa_nil)) (by rfl))))
      (pss_one (ps_ret (pv 0))))), ?_⟩
    refine ⟨.int a, rfl, a, rfl, .int b, rfl, b, rfl, _, _, rfl, ?_⟩
    refine while_by (fun σ H' => H' = H ∧ ∃ x y : Int, σ = [some (.int x), some (.int y)] ∧ 0 ≤ x ∧ 0 ≤ y ∧ Int.gcd x y = Int.gcd a b) (fun σ _ => match σ with | [_, some (.int y)] => y.toNat | _ => 0) ?_ ?_ (fun σ H Q Q' h ⟨v, e, s, k, ek, q⟩ => ⟨v, e, s, k, ek, h _ _ q⟩)
    · refine ⟨rfl, _, _, rfl, ?_, ?_, ?_⟩
      · rw [abs_nat]; omega
      · rw [abs_nat]; omega
      · rw [abs_nat, abs_nat]; unfold Int.gcd; simp only [Int.natAbs_natCast]
    · rintro σ H' ⟨rfl, x, y, rfl, hx, hy, e⟩
      refine ⟨.int y, rfl, rfl, _, rfl, brNe (fun h0 => ?_) (fun h0 => ?_)⟩
      · refine ⟨.int y, rfl, .int x, rfl, .int y, rfl, _, _, rfl, rfl, (by show 0 < y; omega), _, _, rfl, ⟨rfl, _, _, rfl, hy, ?_, ?_⟩, ?_⟩
        · exact Int.emod_nonneg _ h0
        · rw [← e]; exact gcd_step hx (by omega)
        · show (x % y).toNat < y.toNat
          have := Int.emod_lt_of_pos x (show 0 < y by omega)
          have := Int.emod_nonneg x h0
          omega
      · subst h0
        refine ⟨_, rfl, ?_⟩
        have : x = (Int.gcd a b : Int) := by rw [← e]; unfold Int.gcd; simp; omega
        show Q (.int x) _
        rw [this]; exact q
theorem ok_fraction (T : Txt K mg) : FnOk P w K mg base CX0 2 T.f_fraction T.d_fraction Ps_fraction (spRed K) := by
  refine T.F_fraction.ok sc_fraction (fun vs H Q E h => ?_) (fun cdv A outer s H vs Q E hr h => ?_)
  · obtain ⟨n, d, rfl, _⟩ := h; rfl
  · obtain ⟨n, d, rfl, hd, bn, bd, q⟩ := h
    have hg : (0 : Int) < (Int.gcd n d : Int) := by have := gcd_pos (n := n) hd; omega
    have bg : B 8000 (Int.gcd n d : Int) := bd.le (gcd_le hd)
    refine ⟨_, PSs.nox ((pss_cons (ps_if (pt_cmpR op_eq (pv 1) pe_int (nomark _)) (pss_one ps_never) pss_nil)
      (pss_cons (ps_set (i := 2) sc_fraction.nd rfl (Or.inl rfl) (pe_call (ok_gcd T) hr (by rfl) T.g_gcd T.F_gcd.kp T.b_gcd .nil pass0 (pa_cons (pv 0) (pa_cons (pv 1) pa_nil))))
      (pss_cons (ps_if (pt_cmpR op_lt (pv 1) pe_int (nomark _)) (pss_one (ps_set (i := 2) sc_fraction.nd rfl (Or.inl rfl) (pe_un un_neg (pv 2)))) pss_nil)
      (pss_one (ps_ret (pe_tup (pa_cons (pe_op op_fdivZ (pv 0) (pv 2)) (pa_cons (pe_op op_fdivZ (pv 1) (pv 2)) pa_nil))))))))), ?_⟩
    refine ⟨_, rfl, rfl, _, rfl, brEq (fun z => absurd z hd) (fun _ => ?_)⟩
    refine ⟨_, rfl, _, rfl, n, d, rfl, ?_⟩
    refine ⟨_, rfl, _, _, rfl, rfl, _, rfl, brI (fun hneg => ?_) (fun hpos => ?_)⟩
    · refine ⟨_, rfl, _, rfl, ?_⟩
      have c : CDivZ n (-(Int.gcd n d : Int)) := ⟨by omega, (bg.neg.mono (m := 9000)).log⟩
      have c2 : CDivZ d (-(Int.gcd n d : Int)) := c
      refine ⟨_, rfl, _, rfl, _, _, rfl, rfl, c, _, rfl, _, rfl, _, _, rfl, rfl, c2, sizeLine2 (by simp), fun p np => ?_⟩
      refine q _ _ (same_upd np) ⟨p, rfl, .inl (.inl ?_)⟩
      rw [upd_same]; dsimp only
      rw [fdiv_neg_exact (n := n) (by omega) (Int.gcd_dvd_left ..), fdiv_neg_exact (n := d) (by omega) (Int.gcd_dvd_right ..)]
      unfold rn rd
      rw [if_pos hneg, show (d.natAbs : Int) = -d by omega]
    · have c : CDivZ n (Int.gcd n d : Int) := ⟨by omega, (bg.mono (m := 9000)).log⟩
      have c2 : CDivZ d (Int.gcd n d : Int) := c
      refine ⟨_, rfl, _, rfl, _, _, rfl, rfl, c, _, rfl, _, rfl, _, _, rfl, rfl, c2, sizeLine2 (by simp), fun p np => ?_⟩
      refine q _ _ (same_upd np) ⟨p, rfl, .inl (.inl ?_)⟩
      rw [upd_same]; dsimp only
      rw [fdiv_exact (n := n) (by omega) (Int.gcd_dvd_left ..), fdiv_exact (n := d) (by omega) (Int.gcd_dvd_right ..)]
      unfold rn rd
      rw [if_neg hpos, show (d.natAbs : Int) = d by omega]
theorem ok_l_reduce (T : Txt K mg) : FnOk P w K mg base CX0 2 T.f_l_reduce T.d_l_reduce Ps_l_reduce (spRed K) := by
  refine T.F_l_reduce.ok sc_l_reduce (fun vs H Q E h => ?_) (fun cdv A outer s H vs Q E hr h => ?_)
  · obtain ⟨n, d, rfl, _⟩ := h; rfl
  · obtain ⟨n, d, rfl, hd, bn, bd, q⟩ := h
    have hg : (0 : Int) < (Int.gcd n d : Int) := by have := gcd_pos (n := n) hd; omega
    have bg : B 8000 (Int.gcd n d : Int) := bd.le (gcd_le hd)
    have b1 : B 1 1 := by unfold B; decide
    have b2 : B 1 (-1) := by unfold B; decide
    refine ⟨_, (pss_cons (ps_set (i := 2) sc_l_reduce.nd rfl (Or.inl rfl) (pe_call (ok_l_divisor T) hr (by rfl) T.g_l_divisor T.F_l_divisor.kp T.b_l_divisor .nil pass0 (pa_cons (pv 0) (pa_cons (pv 1) pa_nil))))
      (pss_cons (ps_set (i := 3) sc_l_reduce.nd rfl (Or.inl rfl) (pe_ifExp (pt_cmpR op_gt (pv 1) pe_int (nomark _)) pe_int (pe_un un_neg pe_int)))
      (pss_one (ps_ret (pe_tup (pa_cons (pe_op op_fdivW (pe_op op_mulW (pv 3) (pv 0)) (pv 2)) (pa_cons (pe_op op_fdivW (pe_op op_mulW (pv 3) (pv 1)) (pv 2)) pa_nil))))))), ?_⟩
    refine ⟨_, rfl, _, rfl, n, d, rfl, ?_⟩
    refine ⟨_, rfl, _, _, rfl, rfl, _, rfl, brI (fun hpos => ?_) (fun hneg => ?_)⟩
    · refine ⟨_, rfl, _, rfl, _, _, rfl, rfl, cm b1 bn, _, rfl, _, _, rfl, rfl, cdW hg bg, _, rfl, _, rfl, _, _, rfl, rfl, cm b1 bd, _, rfl, _, _, rfl, rfl, cdW hg bg, sizeLine2 (by simp), fun p np => ?_⟩
      refine q _ _ (same_upd np) ⟨p, rfl, .inl (.inl ?_)⟩
      rw [upd_same]; dsimp only
      rw [Int.one_mul, Int.one_mul]
      unfold rn rd
      rw [if_neg (by omega), show (d.natAbs : Int) = d by omega]
    · refine ⟨_, rfl, ?_⟩
      refine ⟨_, rfl, _, rfl, _, _, rfl, rfl, cm b2 bn, _, rfl, _, _, rfl, rfl, cdW hg bg, _, rfl, _, rfl, _, _, rfl, rfl, cm b2 bd, _, rfl, _, _, rfl, rfl, cdW hg bg, sizeLine2 (by simp), fun p np => ?_⟩
      refine q _ _ (same_upd np) ⟨p, rfl, .inl (.inl ?_)⟩
      rw [upd_same]; dsimp only
      rw [show (-1 : Int) * n = -n by omega, show (-1 : Int) * d = -d by omega]
      unfold rn rd
      rw [if_pos (by omega), show (d.natAbs : Int) = -d by omega]
theorem ok_add (T : Txt K mg) : FnOk P w K mg base CX0 3 T.f_add T.d_add Ps_add (spFF K fun a b c d => (rn (a * d + c * b) (b * d), rd (a * d + c * b) (b * d))) := by
  refine T.F_add.ok sc_add (fun vs H Q E h => ?_) (fun cdv A outer s H vs Q E hr h => ?_)
  · obtain ⟨x, y, _, _, _, _, rfl, _⟩ := h; rfl
  · obtain ⟨x, y, a, b, c, d, rfl, ⟨p1, rfl, h1⟩, ⟨p2, rfl, h2⟩, hb, hd, ba, bb, bc, bd, q⟩ := h
    refine ⟨_, (pss_one (ps_ret (pe_call (ok_fraction T) hr (by rfl) T.g_fraction T.F_fraction.kp T.b_fraction .nil pass0 (pa_cons (pe_op op_add (pe_op op_mulW (pe_ix ix_tup (pv 0) pe_int (fun _ _ => rfl)) (pe_ix ix_tup (pv 1) pe_int (fun _ _ => rfl))) (pe_op op_mulW (pe_ix ix_tup (pv 1) pe_int (fun _ _ => rfl)) (pe_ix ix_tup (pv 0) pe_int (fun _ _ => rfl)))) (pa_cons (pe_op op_mulW (pe_ix ix_tup (pv 0) pe_int (fun _ _ => rfl)) (pe_ix ix_tup (pv 1) pe_int (fun _ _ => rfl))) pa_nil))))), ?_⟩
    exact ⟨_, rfl, _, _, _, _, rfl, rfl, h1, ix0, _, rfl, _, _, _, _, rfl, rfl, h2, ix1, _, _, rfl, rfl, (cm ba bd), _, rfl, _, _, _, _, rfl, rfl, h2, ix0, _, rfl, _, _, _, _, rfl, rfl, h1, ix1, _, _, rfl, rfl, (cm bc bb), _, _, rfl, rfl, _, rfl, _, _, _, _, rfl, rfl, h1, ix1, _, rfl, _, _, _, _, rfl, rfl, h2, ix1, _, _, rfl, rfl, (cm bb bd), _, _, rfl, Int.mul_ne_zero hb hd, ((ba.mul bd).add (bc.mul bb)).mono, (bb.mul bd).mono, q⟩
theorem ok_l_add (T : Txt K mg) : FnOk P w K mg base CX0 3 T.f_l_add T.d_l_add Ps_l_add (spFF K fun a b c d => (rn (a * d + c * b) (b * d), rd (a * d + c * b) (b * d))) := by
  refine T.F_l_add.ok sc_l_add (fun vs H Q E h => ?_) (fun cdv A outer s H vs Q E hr h => ?_)
  · obtain ⟨x, y, _, _, _, _, rfl, _⟩ := h; rfl
  · obtain ⟨x, y, a, b, c, d, rfl, ⟨p1, rfl, h1⟩, ⟨p2, rfl, h2⟩, hb, hd, ba, bb, bc, bd, q⟩ := h
    refine ⟨_, (pss_one (ps_ret (pe_call (ok_l_reduce T) hr (by rfl) T.g_l_reduce T.F_l_reduce.kp T.b_l_reduce .nil pass0 (pa_cons (pe_op op_add (pe_op op_mulW (pe_ix ix_tup (pv 0) pe_int (fun _ _ => rfl)) (pe_ix ix_tup (pv 1) pe_int (fun _ _ => rfl))) (pe_op op_mulW (pe_ix ix_tup (pv 1) pe_int (fun _ _ => rfl)) (pe_ix ix_tup (pv 0) pe_int (fun _ _ => rfl)))) (pa_cons (pe_op op_mulW (pe_ix ix_tup (pv 0) pe_int (fun _ _ => rfl)) (pe_ix ix_tup (pv 1) pe_int (fun _ _ => rfl))) pa_nil))))), ?_⟩
    exact ⟨_, rfl, _, _, _, _, rfl, rfl, h1, ix0, _, rfl, _, _, _, _, rfl, rfl, h2, ix1, _, _, rfl, rfl, (cm ba bd), _, rfl, _, _, _, _, rfl, rfl, h2, ix0, _, rfl, _, _, _, _, rfl, rfl, h1, ix1, _, _, rfl, rfl, (cm bc bb), _, _, rfl, rfl, _, rfl, _, _, _, _, rfl, rfl, h1, ix1, _, rfl, _, _, _, _, rfl, rfl, h2, ix1, _, _, rfl, rfl, (cm bb bd), _, _, rfl, Int.mul_ne_zero hb hd, ((ba.mul bd).add (bc.mul bb)).mono, (bb.mul bd).mono, q⟩
theorem ok_subtract (T : Txt K mg) : FnOk P w K mg base CX0 3 T.f_subtract T.d_subtract Ps_subtract (spFF K fun a b c d => (rn (a * d - c * b) (b * d), rd (a * d - c * b) (b * d))) := by
  refine T.F_subtract.ok sc_subtract (fun vs H Q E h => ?_) (fun cdv A outer s H vs Q E hr h => ?_)
  · obtain ⟨x, y, _, _, _, _, rfl, _⟩ := h; rfl
  · obtain ⟨x, y, a, b, c, d, rfl, ⟨p1, rfl, h1⟩, ⟨p2, rfl, h2⟩, hb, hd, ba, bb, bc, bd, q⟩ := h
    refine ⟨_, (pss_one (ps_ret (pe_call (ok_fraction T) hr (by rfl) T.g_fraction T.F_fraction.kp T.b_fraction .nil pass0 (pa_cons (pe_op op_sub (pe_op op_mulW (pe_ix ix_tup (pv 0) pe_int (fun _ _ => rfl)) (pe_ix ix_tup (pv 1) pe_int (fun _ _ => rfl))) (pe_op op_mulW (pe_ix ix_tup (pv 1) pe_int (fun _ _ => rfl)) (pe_ix ix_tup (pv 0) pe_int (fun _ _ => rfl)))) (pa_cons (pe_op op_mulW (pe_ix ix_tup (pv 0) pe_int (fun _ _ => rfl)) (pe_ix ix_tup (pv 1) pe_int (fun _ _ => rfl))) pa_nil))))), ?_⟩
    exact ⟨_, rfl, _, _, _, _, rfl, rfl, h1, ix0, _, rfl, _, _, _, _, rfl, rfl, h2, ix1, _, _, rfl, rfl, (cm ba bd), _, rfl, _, _, _, _, rfl, rfl, h2, ix0, _, rfl, _, _, _, _, rfl, rfl, h1, ix1, _, _, rfl, rfl, (cm bc bb), _, _, rfl, rfl, _, rfl, _, _, _, _, rfl, rfl, h1, ix1, _, rfl, _, _, _, _, rfl, rfl, h2, ix1, _, _, rfl, rfl, (cm bb bd), _, _, rfl, Int.mul_ne_zero hb hd, ((ba.mul bd).sub (bc.mul bb)).mono, (bb.mul bd).mono, q⟩
theorem ok_multiply (T : Txt K mg) : FnOk P w K mg base CX0 3 T.f_multiply T.d_multiply Ps_multiply (spFF K fun a b c d => (rn (a * c) (b * d), rd (a * c) (b * d))) := by
  refine T.F_multiply.ok sc_multiply (fun vs H Q E h => ?_) (fun cdv A outer s H vs Q E hr h => ?_)
  · obtain ⟨x, y, _, _, _, _, rfl, _⟩ := h; rfl
  · obtain ⟨x, y, a, b, c, d, rfl, ⟨p1, rfl, h1⟩, ⟨p2, rfl, h2⟩, hb, hd, ba, bb, bc, bd, q⟩ := h
    refine ⟨_, (pss_one (ps_ret (pe_call (ok_fraction T) hr (by rfl) T.g_fraction T.F_fraction.kp T.b_fraction .nil pass0 (pa_cons (pe_op op_mulW (pe_ix ix_tup (pv 0) pe_int (fun _ _ => rfl)) (pe_ix ix_tup (pv 1) pe_int (fun _ _ => rfl))) (pa_cons (pe_op op_mulW (pe_ix ix_tup (pv 0) pe_int (fun _ _ => rfl)) (pe_ix ix_tup (pv 1) pe_int (fun _ _ => rfl))) pa_nil))))), ?_⟩
    exact ⟨_, rfl, _, _, _, _, rfl, rfl, h1, ix0, _, rfl, _, _, _, _, rfl, rfl, h2, ix0, _, _, rfl, rfl, (cm ba bc), _, rfl, _, _, _, _, rfl, rfl, h1, ix1, _, rfl, _, _, _, _, rfl, rfl, h2, ix1, _, _, rfl, rfl, (cm bb bd), _, _, rfl, Int.mul_ne_zero hb hd, (ba.mul bc).mono, (bb.mul bd).mono, q⟩
theorem ok_l_multiply (T : Txt K mg) : FnOk P w K mg base CX0 3 T.f_l_multiply T.d_l_multiply Ps_l_multiply (spFF K fun a b c d => (rn (a * c) (b * d), rd (a * c) (b * d))) := by
  refine T.F_l_multiply.ok sc_l_multiply (fun vs H Q E h => ?_) (fun cdv A outer s H vs Q E hr h => ?_)
  · obtain ⟨x, y, _, _, _, _, rfl, _⟩ := h; rfl
  · obtain ⟨x, y, a, b, c, d, rfl, ⟨p1, rfl, h1⟩, ⟨p2, rfl, h2⟩, hb, hd, ba, bb, bc, bd, q⟩ := h
    refine ⟨_, (pss_one (ps_ret (pe_call (ok_l_reduce T) hr (by rfl) T.g_l_reduce T.F_l_reduce.kp T.b_l_reduce .nil pass0 (pa_cons (pe_op op_mulW (pe_ix ix_tup (pv 0) pe_int (fun _ _ => rfl)) (pe_ix ix_tup (pv 1) pe_int (fun _ _ => rfl))) (pa_cons (pe_op op_mulW (pe_ix ix_tup (pv 0) pe_int (fun _ _ => rfl)) (pe_ix ix_tup (pv 1) pe_int (fun _ _ => rfl))) pa_nil))))), ?_⟩
    exact ⟨_, rfl, _, _, _, _, rfl, rfl, h1, ix0, _, rfl, _, _, _, _, rfl, rfl, h2, ix0, _, _, rfl, rfl, (cm ba bc), _, rfl, _, _, _, _, rfl, rfl, h1, ix1, _, rfl, _, _, _, _, rfl, rfl, h2, ix1, _, _, rfl, rfl, (cm bb bd), _, _, rfl, Int.mul_ne_zero hb hd, (ba.mul bc).mono, (bb.mul bd).mono, q⟩
theorem ok_divide (T : Txt K mg) : FnOk P w K mg base CX0 3 T.f_divide T.d_divide Ps_divide (spFD K fun a b c d => (rn (a * d) (b * c), rd (a * d) (b * c))) := by
  refine T.F_divide.ok sc_divide (fun vs H Q E h => ?_) (fun cdv A outer s H vs Q E hr h => ?_)
  · obtain ⟨x, y, _, _, _, _, rfl, _⟩ := h; rfl
  · obtain ⟨x, y, a, b, c, d, rfl, ⟨p1, rfl, h1⟩, ⟨p2, rfl, h2⟩, hb, hc, ba, bb, bc, bd, q⟩ := h
    refine ⟨_, (pss_one (ps_ret (pe_call (ok_fraction T) hr (by rfl) T.g_fraction T.F_fraction.kp T.b_fraction .nil pass0 (pa_cons (pe_op op_mulW (pe_ix ix_tup (pv 0) pe_int (fun _ _ => rfl)) (pe_ix ix_tup (pv 1) pe_int (fun _ _ => rfl))) (pa_cons (pe_op op_mulW (pe_ix ix_tup (pv 0) pe_int (fun _ _ => rfl)) (pe_ix ix_tup (pv 1) pe_int (fun _ _ => rfl))) pa_nil))))), ?_⟩
    exact ⟨_, rfl, _, _, _, _, rfl, rfl, h1, ix0, _, rfl, _, _, _, _, rfl, rfl, h2, ix1, _, _, rfl, rfl, (cm ba bd), _, rfl, _, _, _, _, rfl, rfl, h1, ix1, _, rfl, _, _, _, _, rfl, rfl, h2, ix0, _, _, rfl, rfl, (cm bb bc), _, _, rfl, Int.mul_ne_zero hb hc, (ba.mul bd).mono, (bb.mul bc).mono, q⟩
theorem ok_is_less (T : Txt K mg) : FnOk P w K mg base CX0 1 T.f_is_less T.d_is_less Ps_is_less (spLess K) := by
  refine T.F_is_less.ok sc_is_less (fun vs H Q E h => ?_) (fun cdv A outer s H vs Q E hr h => ?_)
  · obtain ⟨x, y, _, _, _, _, rfl, _⟩ := h; rfl
  · obtain ⟨x, y, a, b, c, d, rfl, ⟨p1, rfl, h1⟩, ⟨p2, rfl, h2⟩, ba, bb, bc, bd, q⟩ := h
    refine ⟨_, (pss_one (ps_ret (pe_cmpR op_lt (pe_op op_mulW (pe_ix ix_tup (pv 0) pe_int (fun _ _ => rfl)) (pe_ix ix_tup (pv 1) pe_int (fun _ _ => rfl))) (pe_op op_mulW (pe_ix ix_tup (pv 1) pe_int (fun _ _ => rfl)) (pe_ix ix_tup (pv 0) pe_int (fun _ _ => rfl))) (nomark _)))), ?_⟩
    exact ⟨_, rfl, _, _, _, _, rfl, rfl, h1, ix0, _, rfl, _, _, _, _, rfl, rfl, h2, ix1, _, _, rfl, rfl, (cm ba bd), _, rfl, _, _, _, _, rfl, rfl, h2, ix0, _, rfl, _, _, _, _, rfl, rfl, h1, ix1, _, _, rfl, rfl, (cm bc bb), _, _, rfl, rfl, q⟩
theorem ok_l_less (T : Txt K mg) : FnOk P w K mg base CX0 1 T.f_l_less T.d_l_less Ps_l_less (spLess K) := by
  refine T.F_l_less.ok sc_l_less (fun vs H Q E h => ?_) (fun cdv A outer s H vs Q E hr h => ?_)
  · obtain ⟨x, y, _, _, _, _, rfl, _⟩ := h; rfl
  · obtain ⟨x, y, a, b, c, d, rfl, ⟨p1, rfl, h1⟩, ⟨p2, rfl, h2⟩, ba, bb, bc, bd, q⟩ := h
    refine ⟨_, (pss_one (ps_ret (pe_cmpR op_lt (pe_op op_mulW (pe_ix ix_tup (pv 0) pe_int (fun _ _ => rfl)) (pe_ix ix_tup (pv 1) pe_int (fun _ _ => rfl))) (pe_op op_mulW (pe_ix ix_tup (pv 1) pe_int (fun _ _ => rfl)) (pe_ix ix_tup (pv 0) pe_int (fun _ _ => rfl))) (nomark _)))), ?_⟩
    exact ⟨_, rfl, _, _, _, _, rfl, rfl, h1, ix0, _, rfl, _, _, _, _, rfl, rfl, h2, ix1, _, _, rfl, rfl, (cm ba bd), _, rfl, _, _, _, _, rfl, rfl, h2, ix0, _, rfl, _, _, _, _, rfl, rfl, h1, ix1, _, _, rfl, rfl, (cm bc bb), _, _, rfl, rfl, q⟩
theorem ok_floor_of (T : Txt K mg) : FnOk P w K mg base CX0 1 T.f_floor_of T.d_floor_of Ps_floor_of (spFloor K) := by
  refine T.F_floor_of.ok sc_floor_of (fun vs H Q E h => ?_) (fun cdv A outer s H vs Q E hr h => ?_)
  · obtain ⟨x, _, _, rfl, _⟩ := h; rfl
  · obtain ⟨x, a, b, rfl, ⟨p1, rfl, h1⟩, hb, bb, q⟩ := h
    refine ⟨_, (pss_one (ps_ret (pe_op op_fdivW (pe_ix ix_tup (pv 0) pe_int (fun _ _ => rfl)) (pe_ix ix_tup (pv 0) pe_int (fun _ _ => rfl))))), ?_⟩
    exact ⟨_, rfl, _, _, _, _, rfl, rfl, h1, ix0, _, rfl, _, _, _, _, rfl, rfl, h1, ix1, _, _, rfl, rfl, cdW hb bb, q⟩
theorem ok_l_times (T : Txt K mg) : FnOk P w K mg base CX0 3 T.f_l_times T.d_l_times Ps_l_times (spTimes K) := by
  refine T.F_l_times.ok sc_l_times (fun vs H Q E h => ?_) (fun cdv A outer s H vs Q E hr h => ?_)
  · obtain ⟨n, x, _, _, rfl, _⟩ := h; rfl
  · obtain ⟨n, x, a, b, rfl, ⟨p1, rfl, h1⟩, hb, bn, ba, bb, q⟩ := h
    refine ⟨_, (pss_one (ps_ret (pe_call (ok_l_reduce T) hr (by rfl) T.g_l_reduce T.F_l_reduce.kp T.b_l_reduce .nil pass0 (pa_cons (pe_op op_mulW (pv 0) (pe_ix ix_tup (pv 1) pe_int (fun _ _ => rfl))) (pa_cons (pe_ix ix_tup (pv 1) pe_int (fun _ _ => rfl)) pa_nil))))), ?_⟩
    exact ⟨_, rfl, _, rfl, _, _, _, _, rfl, rfl, h1, ix0, _, _, rfl, rfl, (cm bn ba), _, rfl, _, _, _, _, rfl, rfl, h1, ix1, _, _, rfl, hb, (bn.mul ba).mono, bb.mono, q⟩
theorem ok_is_lessQ (T : Txt K mg) : FnOk P w K mg base CX0 1 T.f_is_less T.d_is_less Ps_is_less (spLessQ K) := (ok_is_less T).imp fun vs H Q E h => by
  obtain ⟨x, y, p, q, rfl, hx, hy, bp, bq, k⟩ := h
  exact u_less hx hy bp bq k
theorem ok_l_lessQ (T : Txt K mg) : FnOk P w K mg base CX0 1 T.f_l_less T.d_l_less Ps_l_less (spLessQ K) := (ok_l_less T).imp fun vs H Q E h => by
  obtain ⟨x, y, p, q, rfl, hx, hy, bp, bq, k⟩ := h
  exact u_less hx hy bp bq k
theorem ok_floor_ofQ (T : Txt K mg) : FnOk P w K mg base CX0 1 T.f_floor_of T.d_floor_of Ps_floor_of (spFloorQ K) := (ok_floor_of T).imp fun vs H Q E h => by
  obtain ⟨x, p, rfl, hx, bp, k⟩ := h
  exact u_floor hx bp k
theorem ok_remainder (T : Txt K mg) : FnOk P w K mg base CX0 4 T.f_remainder T.d_remainder Ps_remainder (spRemQ K) := by
  refine T.F_remainder.ok sc_remainder (fun vs H Q E h => ?_) (fun cdv A outer s H vs Q E hr h => ?_)
  · obtain ⟨x, y, _, _, rfl, _⟩ := h; rfl
  · obtain ⟨x, y, p, P, rfl, f1, f2, hP, b1, b2, q⟩ := h
    have hne : P ≠ 0 := by grind
    refine ⟨_, (pss_cons (ps_set (i := 2) sc_remainder.nd rfl (Or.inl rfl) (pe_call (ok_floor_ofQ T) (hr.mono (by decide)) (by rfl) T.g_floor_of T.F_floor_of.kp T.b_floor_of .nil pass0 (pa_cons (pe_call (ok_divide T) hr (by rfl) T.g_divide T.F_divide.kp T.b_divide .nil pass0 (pa_cons (pv 0) (pa_cons (pv 1) pa_nil))) pa_nil)))
      (pss_one (ps_ret (pe_call (ok_subtract T) hr (by rfl) T.g_subtract T.F_subtract.kp T.b_subtract .nil pass0 (pa_cons (pv 0) (pa_cons (pe_call (ok_multiply T) hr (by rfl) T.g_multiply T.F_multiply.kp T.b_multiply .nil pass0 (pa_cons (pe_tup (pa_cons (pv 2) (pa_cons pe_int pa_nil))) (pa_cons (pv 1) pa_nil))) pa_nil)))))), ?_⟩
    refine ⟨_, rfl, _, rfl, u_div f1 f2 hne b1.mono b2.mono fun v H1 s1 f3 => ?_⟩
    have b3 : Bq 1600 (p / P) := Bq.div hne b1 b2
    refine ⟨_, _, rfl, f3, b3.mono, ?_⟩
    rintro _ _ rfl rfl
    have b4 := b3.floor
    refine ⟨_, rfl, _, rfl, sizeLine2 (by simp), fun c nc => ?_⟩
    have s2 := same_upd (o := HO.tup [V.int (p / P).floor, V.int 1]) nc
    have f4 : Dp K _ (.ref c) (dq ((p / P).floor : Rat)) := dq_lit nc rfl rfl
    refine ⟨_, rfl, u_mul f4 (Dp_same (s1.trans s2) f2) (Bq.int b4).mono b2.mono fun v2 H2 s3 f5 => ?_⟩
    refine (u_sub (Dp_same ((s1.trans s2).trans s3) f1) f5 b1.mono ((Bq.int b4).mul b2).mono fun v3 H3 s4 f6 => ?_)
    exact q v3 H3 (((s1.trans s2).trans s3).trans s4) f6
/-- the remainder of great numbers by small periods -/
def spRemP (K : PySem.W.Frag) : Sp := fun vs H Q _ => ∃ (x y : V) (p P : Rat), vs = [x, y] ∧ Dp K H x (dq p) ∧ Dp K H y (dq P) ∧ 0 < P ∧ Bq 3730 p ∧ Bq 130 P ∧ ∀ v H', Same H H' → Dp K H' v (dq (remQ p P)) → Q v H'
theorem ok_remainderP (T : Txt K mg) : FnOk P w K mg base CX0 4 T.f_remainder T.d_remainder Ps_remainder (spRemP K) := by
  refine T.F_remainder.ok sc_remainder (fun vs H Q E h => ?_) (fun cdv A outer s H vs Q E hr h => ?_)
  · obtain ⟨x, y, _, _, rfl, _⟩ := h; rfl
  · obtain ⟨x, y, p, P, rfl, f1, f2, hP, b1, b2, q⟩ := h
    have hne : P ≠ 0 := by grind
    refine ⟨_, (pss_cons (ps_set (i := 2) sc_remainder.nd rfl (Or.inl rfl) (pe_call (ok_floor_ofQ T) (hr.mono (by decide)) (by rfl) T.g_floor_of T.F_floor_of.kp T.b_floor_of .nil pass0 (pa_cons (pe_call (ok_divide T) hr (by rfl) T.g_divide T.F_divide.kp T.b_divide .nil pass0 (pa_cons (pv 0) (pa_cons (pv 1) pa_nil))) pa_nil)))
      (pss_one (ps_ret (pe_call (ok_subtract T) hr (by rfl) T.g_subtract T.F_subtract.kp T.b_subtract .nil pass0 (pa_cons (pv 0) (pa_cons (pe_call (ok_multiply T) hr (by rfl) T.g_multiply T.F_multiply.kp T.b_multiply .nil pass0 (pa_cons (pe_tup (pa_cons (pv 2) (pa_cons pe_int pa_nil))) (pa_cons (pv 1) pa_nil))) pa_nil)))))), ?_⟩
    refine ⟨_, rfl, _, rfl, u_div f1 f2 hne b1.mono b2.mono fun v H1 s1 f3 => ?_⟩
    have b3 : Bq 3860 (p / P) := Bq.div hne b1 b2
    refine ⟨_, _, rfl, f3, b3.mono, ?_⟩
    rintro _ _ rfl rfl
    have b4 := b3.floor
    refine ⟨_, rfl, _, rfl, sizeLine2 (by simp), fun c nc => ?_⟩
    have s2 := same_upd (o := HO.tup [V.int (p / P).floor, V.int 1]) nc
    have f4 : Dp K _ (.ref c) (dq ((p / P).floor : Rat)) := dq_lit nc rfl rfl
    refine ⟨_, rfl, u_mul f4 (Dp_same (s1.trans s2) f2) (Bq.int b4).mono b2.mono fun v2 H2 s3 f5 => ?_⟩
    refine (u_sub (Dp_same ((s1.trans s2).trans s3) f1) f5 b1.mono ((Bq.int b4).mul b2).mono fun v3 H3 s4 f6 => ?_)
    exact q v3 H3 (((s1.trans s2).trans s3).trans s4) f6
end
end EP
noncomputable section
namespace EPH
open PySem PySem.W PySem.Calls PyProof.Rows HeadRun
/-- the tree's objects as a list, each looked up once -/
def frL {α : Type} (t : PySem.W.BT) : Nat → List Obj → (List Obj → α) → α
  | 0, acc, k => k acc
  | n + 1, acc, k => match t.get n with
    | some v => frL t n (v :: acc) k
    | none => frL t n (default :: acc) k
theorem frL_eq {α : Type} (t : PySem.W.BT) (k : List Obj → α) : ∀ (n : Nat) (acc : List Obj), frL t n acc k = k (t.list n ++ acc)
  | 0, acc => rfl
  | n + 1, acc => by
    have e : t.list (n + 1) = t.list n ++ [(t.get n).getD default] := by
      unfold PySem.W.BT.list
      rw [List.range_succ, List.map_append]
      rfl
    rw [e, List.append_assoc]
    show (match t.get n with | some v => frL t n (v :: acc) k | none => frL t n (default :: acc) k) = _
    cases h : t.get n with
    | some v => exact frL_eq t k n (v :: acc)
    | none => exact frL_eq t k n (default :: acc)
/-- the state with its heap a list -/
def frA {α : Type} (s : SharedT) (k : Shared → α) : α := frL s.tree s.n [] fun l => k ⟨⟨⟨l⟩, s.life⟩, s.gens, s.drawn, s.toks, s.os⟩
theorem frA_eq {α : Type} (s : SharedT) (k : Shared → α) : frA s k = k s.abs := by
  unfold frA
  rw [frL_eq, List.append_nil]
  rfl
/-- the top by one run of the kernel, what is seen behind it off the same state -/
theorem left_km {p q : Program} {loose : List PySem.Str} {Xt : Shared → Bool} {K : Params → Frag} {as : List Addr} {ek : ∀ P, as = (K P).map (·.1)} {ts : List Addr} {N : Nat} (M : Nat)
    (e : opening p = plainProg p.main.scope.names) (hN : Nat.ble 600 N = true) (f : ∀ s, fenceModules? p s = some s) (le : Nat.ble M N = true)
    (run : ∀ (w : World) (os : OsState), (endF (stepQ (denQ tabQ) p w) M p w os).map (fun s => frA s fun a => (looksF p (boot_heap w.params) a, seenQ q loose (importedModules p.main.body) Xt a, (as.map (getT s), ts.map (getT s)))) = some (true, openGood q loose, ((K w.params).map fun x => some x.2, ts.map fun _ => some (tabObj #[])))) :
    LeftO p q loose Xt (Hook.obs (kmHook K as ek ts)) (Hook.val (kmHook K as ek ts)) N true :=
  left_one (M := M) e hN f le fun w os => by
    have z := run w os
    simp only [frA_eq] at z
    have eo : (fun s : SharedT => (looksF p (boot_heap w.params) s.abs, seenQ q loose (importedModules p.main.body) Xt s.abs, (as.map (getT s), ts.map (getT s)))) = fun s => (looksF p (boot_heap w.params) s.abs, seenQ q loose (importedModules p.main.body) Xt s.abs, Hook.obs (kmHook K as ek ts) s.abs) := by
      funext s
      have q1 : (as.map (getT s), ts.map (getT s)) = Hook.obs (kmHook K as ek ts) s.abs := Prod.ext (List.map_congr_left fun a _ => getT_eq s a) (List.map_congr_left fun a _ => getT_eq s a)
      rw [q1]
      rfl
    rw [eo] at z
    simp only [endQ_eq, seenQ_eq]
    exact z
end EPH
namespace EP
open PySem PySem.Spec PyProof.Rows L2
end EP
namespace EP
open PySem PySem.Spec PyProof.Rows L2 EPX
set_option maxHeartbeats 8000000 in
/-- what the head asks of the texts -/
def AllMk : Prop := ∀ {l : PySem.W.OpenLaw} {w : World} {K : PySem.W.Frag} {h : Heap} {mg : Str → Option Value} {fa : Addr} (X : K.In h) (G : h.Ns mainGlobals mg) (hfa : mg "law" = some (.ref fa))     {k_ZERO : Addr} {odk_ZERO : Option Addr} {nk_ZERO : Nat} {slk_ZERO : Array (Option Value)} {tk_ZERO0 : Tok} {tk_ZERO1 : Tok} (ak_ZERO : PySem.W.nsIn K mainGlobals "ZERO" = some (some (.ref k_ZERO))) (lk_ZERO : K.lookup k_ZERO = some ⟨.type "tuple", odk_ZERO, .seq #[.int 0 tk_ZERO0, .int 1 tk_ZERO1] nk_ZERO, slk_ZERO⟩)     {k_ONE : Addr} {odk_ONE : Option Addr} {nk_ONE : Nat} {slk_ONE : Array (Option Value)} {tk_ONE0 : Tok} {tk_ONE1 : Tok} (ak_ONE : PySem.W.nsIn K mainGlobals "ONE" = some (some (.ref k_ONE))) (lk_ONE : K.lookup k_ONE = some ⟨.type "tuple", odk_ONE, .seq #[.int 1 tk_ONE0, .int 1 tk_ONE1] nk_ONE, slk_ONE⟩)     {tk_MAX_SPANS : Tok} (ak_MAX_SPANS : PySem.W.nsIn K mainGlobals "MAX_SPANS" = some (some (.int 6 tk_MAX_SPANS)))     {f0 : Addr} {od0 an0 : Option Addr} {sl0 : Array (Option Value)} {oc0 kV0 dc0 pm0 cd0 ct0 : Value}     (a0 : PySem.W.nsIn K mainGlobals "gcd" = some (some (.ref f0))) (l0 : K.lookup f0 = some ⟨oc0, od0, .func (PySem.W.fnOf "gcd" "gcd" (defArgs s_gcd) (defBody s_gcd) (defScope s_gcd) .none kV0 dc0 pm0 an0 cd0 ct0), sl0⟩) (c0 : PySem.W.codeIn K cd0 "gcd" = true) (k0 : PySem.W.keepIn K (.ref f0) = true)     {f1 T1 : Addr} {od1 an1 odT1 : Option Addr} {sl1 slT1 : Array (Option Value)} {oc1 kV1 dc1 pm1 cd1 ct1 ocT1 : Value} {nT1 : Nat} {tk1_0 : Tok}     (a1 : PySem.W.nsIn K mainGlobals "fraction" = some (some (.ref f1))) (l1 : K.lookup f1 = some ⟨oc1, od1, .func (PySem.W.fnOf "fraction" "fraction" (defArgs s_fraction) (defBody s_fraction) (defScope s_fraction) (.ref T1) kV1 dc1 pm1 an1 cd1 ct1), sl1⟩) (c1 : PySem.W.codeIn K cd1 "fraction" = true) (k1 : PySem.W.keepIn K (.ref f1) = true) (t1 : K.lookup T1 = some ⟨ocT1, odT1, .seq #[.int 1 tk1_0] nT1, slT1⟩)     {f2 : Addr} {od2 an2 : Option Addr} {sl2 : Array (Option Value)} {oc2 kV2 dc2 pm2 cd2 ct2 : Value}     (a2 : PySem.W.nsIn K mainGlobals "add" = some (some (.ref f2))) (l2 : K.lookup f2 = some ⟨oc2, od2, .func (PySem.W.fnOf "add" "add" (defArgs s_add) (defBody s_add) (defScope s_add) .none kV2 dc2 pm2 an2 cd2 ct2), sl2⟩) (c2 : PySem.W.codeIn K cd2 "add" = true) (k2 : PySem.W.keepIn K (.ref f2) = true)     {f3 : Addr} {od3 an3 : Option Addr} {sl3 : Array (Option Value)} {oc3 kV3 dc3 pm3 cd3 ct3 : Value}     (a3 : PySem.W.nsIn K mainGlobals "subtract" = some (some (.ref f3))) (l3 : K.lookup f3 = some ⟨oc3, od3, .func (PySem.W.fnOf "subtract" "subtract" (defArgs s_subtract) (defBody s_subtract) (defScope s_subtract) .none kV3 dc3 pm3 an3 cd3 ct3), sl3⟩) (c3 : PySem.W.codeIn K cd3 "subtract" = true) (k3 : PySem.W.keepIn K (.ref f3) = true)     {f4 : Addr} {od4 an4 : Option Addr} {sl4 : Array (Option Value)} {oc4 kV4 dc4 pm4 cd4 ct4 : Value}     (a4 : PySem.W.nsIn K mainGlobals "multiply" = some (some (.ref f4))) (l4 : K.lookup f4 = some ⟨oc4, od4, .func (PySem.W.fnOf "multiply" "multiply" (defArgs s_multiply) (defBody s_multiply) (defScope s_multiply) .none kV4 dc4 pm4 an4 cd4 ct4), sl4⟩) (c4 : PySem.W.codeIn K cd4 "multiply" = true) (k4 : PySem.W.keepIn K (.ref f4) = true)     {f5 : Addr} {od5 an5 : Option Addr} {sl5 : Array (Option Value)} {oc5 kV5 dc5 pm5 cd5 ct5 : Value}     (a5 : PySem.W.nsIn K mainGlobals "divide" = some (some (.ref f5))) (l5 : K.lookup f5 = some ⟨oc5, od5, .func (PySem.W.fnOf "divide" "divide" (defArgs s_divide) (defBody s_divide) (defScope s_divide) .none kV5 dc5 pm5 an5 cd5 ct5), sl5⟩) (c5 : PySem.W.codeIn K cd5 "divide" = true) (k5 : PySem.W.keepIn K (.ref f5) = true)     {f6 : Addr} {od6 an6 : Option Addr} {sl6 : Array (Option Value)} {oc6 kV6 dc6 pm6 cd6 ct6 : Value}     (a6 : PySem.W.nsIn K mainGlobals "is_less" = some (some (.ref f6))) (l6 : K.lookup f6 = some ⟨oc6, od6, .func (PySem.W.fnOf "is_less" "is_less" (defArgs s_is_less) (defBody s_is_less) (defScope s_is_less) .none kV6 dc6 pm6 an6 cd6 ct6), sl6⟩) (c6 : PySem.W.codeIn K cd6 "is_less" = true) (k6 : PySem.W.keepIn K (.ref f6) = true)     {f7 : Addr} {od7 an7 : Option Addr} {sl7 : Array (Option Value)} {oc7 kV7 dc7 pm7 cd7 ct7 : Value}     (a7 : PySem.W.nsIn K mainGlobals "floor_of" = some (some (.ref f7))) (l7 : K.lookup f7 = some ⟨oc7, od7, .func (PySem.W.fnOf "floor_of" "floor_of" (defArgs s_floor_of) (defBody s_floor_of) (defScope s_floor_of) .none kV7 dc7 pm7 an7 cd7 ct7), sl7⟩) (c7 : PySem.W.codeIn K cd7 "floor_of" = true) (k7 : PySem.W.keepIn K (.ref f7) = true)     {f8 : Addr} {od8 an8 : Option Addr} {sl8 : Array (Option Value)} {oc8 kV8 dc8 pm8 cd8 ct8 : Value}     (a8 : PySem.W.nsIn K mainGlobals "remainder" = some (some (.ref f8))) (l8 : K.lookup f8 = some ⟨oc8, od8, .func (PySem.W.fnOf "remainder" "remainder" (defArgs s_remainder) (defBody s_remainder) (defScope s_remainder) .none kV8 dc8 pm8 an8 cd8 ct8), sl8⟩) (c8 : PySem.W.codeIn K cd8 "remainder" = true) (k8 : PySem.W.keepIn K (.ref f8) = true)     {f9 : Addr} {od9 an9 : Option Addr} {sl9 : Array (Option Value)} {oc9 kV9 dc9 pm9 cd9 ct9 : Value}     (a9 : PySem.W.nsIn K mainGlobals "common_denominator" = some (some (.ref f9))) (l9 : K.lookup f9 = some ⟨oc9, od9, .func (PySem.W.fnOf "common_denominator" "common_denominator" (defArgs s_common_denominator) (defBody s_common_denominator) (defScope s_common_denominator) .none kV9 dc9 pm9 an9 cd9 ct9), sl9⟩) (c9 : PySem.W.codeIn K cd9 "common_denominator" = true) (k9 : PySem.W.keepIn K (.ref f9) = true)     {f10 : Addr} {od10 an10 : Option Addr} {sl10 : Array (Option Value)} {oc10 kV10 dc10 pm10 cd10 ct10 : Value}     (a10 : PySem.W.nsIn K mainGlobals "whole" = some (some (.ref f10))) (l10 : K.lookup f10 = some ⟨oc10, od10, .func (PySem.W.fnOf "whole" "whole" (defArgs s_whole) (defBody s_whole) (defScope s_whole) .none kV10 dc10 pm10 an10 cd10 ct10), sl10⟩) (c10 : PySem.W.codeIn K cd10 "whole" = true) (k10 : PySem.W.keepIn K (.ref f10) = true)     {f11 : Addr} {od11 an11 : Option Addr} {sl11 : Array (Option Value)} {oc11 kV11 dc11 pm11 cd11 ct11 : Value}     (a11 : PySem.W.nsIn K mainGlobals "in_order" = some (some (.ref f11))) (l11 : K.lookup f11 = some ⟨oc11, od11, .func (PySem.W.fnOf "in_order" "in_order" (defArgs s_in_order) (defBody s_in_order) (defScope s_in_order) .none kV11 dc11 pm11 an11 cd11 ct11), sl11⟩) (c11 : PySem.W.codeIn K cd11 "in_order" = true) (k11 : PySem.W.keepIn K (.ref f11) = true)     {f12 : Addr} {od12 an12 : Option Addr} {sl12 : Array (Option Value)} {oc12 kV12 dc12 pm12 cd12 ct12 : Value}     (a12 : PySem.W.nsIn K mainGlobals "span_ends" = some (some (.ref f12))) (l12 : K.lookup f12 = some ⟨oc12, od12, .func (PySem.W.fnOf "span_ends" "span_ends" (defArgs s_span_ends) (defBody s_span_ends) (defScope s_span_ends) .none kV12 dc12 pm12 an12 cd12 ct12), sl12⟩) (c12 : PySem.W.codeIn K cd12 "span_ends" = true) (k12 : PySem.W.keepIn K (.ref f12) = true)     {f13 : Addr} {od13 an13 : Option Addr} {sl13 : Array (Option Value)} {oc13 kV13 dc13 pm13 cd13 ct13 : Value}     (a13 : PySem.W.nsIn K mainGlobals "next_begins" = some (some (.ref f13))) (l13 : K.lookup f13 = some ⟨oc13, od13, .func (PySem.W.fnOf "next_begins" "next_begins" (defArgs s_next_begins) (defBody s_next_begins) (defScope s_next_begins) .none kV13 dc13 pm13 an13 cd13 ct13), sl13⟩) (c13 : PySem.W.codeIn K cd13 "next_begins" = true) (k13 : PySem.W.keepIn K (.ref f13) = true)     {f14 : Addr} {od14 an14 : Option Addr} {sl14 : Array (Option Value)} {oc14 kV14 dc14 pm14 cd14 ct14 : Value}     (a14 : PySem.W.nsIn K mainGlobals "fits" = some (some (.ref f14))) (l14 : K.lookup f14 = some ⟨oc14, od14, .func (PySem.W.fnOf "fits" "fits" (defArgs s_fits) (defBody s_fits) (defScope s_fits) .none kV14 dc14 pm14 an14 cd14 ct14), sl14⟩) (c14 : PySem.W.codeIn K cd14 "fits" = true) (k14 : PySem.W.keepIn K (.ref f14) = true)     {f15 : Addr} {od15 an15 : Option Addr} {sl15 : Array (Option Value)} {oc15 kV15 dc15 pm15 cd15 ct15 : Value}     (a15 : PySem.W.nsIn K mainGlobals "is_gate" = some (some (.ref f15))) (l15 : K.lookup f15 = some ⟨oc15, od15, .func (PySem.W.fnOf "is_gate" "is_gate" (defArgs s_is_gate) (defBody s_is_gate) (defScope s_is_gate) .none kV15 dc15 pm15 an15 cd15 ct15), sl15⟩) (c15 : PySem.W.codeIn K cd15 "is_gate" = true) (k15 : PySem.W.keepIn K (.ref f15) = true)     {f16 : Addr} {od16 an16 : Option Addr} {sl16 : Array (Option Value)} {oc16 kV16 dc16 pm16 cd16 ct16 : Value}     (a16 : PySem.W.nsIn K mainGlobals "repeats" = some (some (.ref f16))) (l16 : K.lookup f16 = some ⟨oc16, od16, .func (PySem.W.fnOf "repeats" "repeats" (defArgs s_repeats) (defBody s_repeats) (defScope s_repeats) .none kV16 dc16 pm16 an16 cd16 ct16), sl16⟩) (c16 : PySem.W.codeIn K cd16 "repeats" = true) (k16 : PySem.W.keepIn K (.ref f16) = true)     {f17 : Addr} {od17 an17 : Option Addr} {sl17 : Array (Option Value)} {oc17 kV17 dc17 pm17 cd17 ct17 : Value}     (a17 : PySem.W.nsIn K mainGlobals "least_form" = some (some (.ref f17))) (l17 : K.lookup f17 = some ⟨oc17, od17, .func (PySem.W.fnOf "least_form" "least_form" (defArgs s_least_form) (defBody s_least_form) (defScope s_least_form) .none kV17 dc17 pm17 an17 cd17 ct17), sl17⟩) (c17 : PySem.W.codeIn K cd17 "least_form" = true) (k17 : PySem.W.keepIn K (.ref f17) = true)     {f18 : Addr} {od18 an18 : Option Addr} {sl18 : Array (Option Value)} {oc18 kV18 dc18 pm18 cd18 ct18 : Value}     (a18 : PySem.W.nsIn K mainGlobals "normal_gate" = some (some (.ref f18))) (l18 : K.lookup f18 = some ⟨oc18, od18, .func (PySem.W.fnOf "normal_gate" "normal_gate" (defArgs s_normal_gate) (defBody s_normal_gate) (defScope s_normal_gate) .none kV18 dc18 pm18 an18 cd18 ct18), sl18⟩) (c18 : PySem.W.codeIn K cd18 "normal_gate" = true) (k18 : PySem.W.keepIn K (.ref f18) = true)     {f19 : Addr} {od19 an19 : Option Addr} {sl19 : Array (Option Value)} {oc19 kV19 dc19 pm19 cd19 ct19 : Value}     (a19 : PySem.W.nsIn K mainGlobals "shut_until" = some (some (.ref f19))) (l19 : K.lookup f19 = some ⟨oc19, od19, .func (PySem.W.fnOf "shut_until" "shut_until" (defArgs s_shut_until) (defBody s_shut_until) (defScope s_shut_until) .none kV19 dc19 pm19 an19 cd19 ct19), sl19⟩) (c19 : PySem.W.codeIn K cd19 "shut_until" = true) (k19 : PySem.W.keepIn K (.ref f19) = true)     {f20 : Addr} {od20 an20 : Option Addr} {sl20 : Array (Option Value)} {oc20 kV20 dc20 pm20 cd20 ct20 : Value}     (a20 : PySem.W.nsIn K mainGlobals "is_open" = some (some (.ref f20))) (l20 : K.lookup f20 = some ⟨oc20, od20, .func (PySem.W.fnOf "is_open" "is_open" (defArgs s_is_open) (defBody s_is_open) (defScope s_is_open) .none kV20 dc20 pm20 an20 cd20 ct20), sl20⟩) (c20 : PySem.W.codeIn K cd20 "is_open" = true) (k20 : PySem.W.keepIn K (.ref f20) = true)     {f21 : Addr} {od21 an21 : Option Addr} {sl21 : Array (Option Value)} {oc21 kV21 dc21 pm21 cd21 ct21 : Value}     (a21 : PySem.W.nsIn K mainGlobals "next_open" = some (some (.ref f21))) (l21 : K.lookup f21 = some ⟨oc21, od21, .func (PySem.W.fnOf "next_open" "next_open" (defArgs s_next_open) (defBody s_next_open) (defScope s_next_open) .none kV21 dc21 pm21 an21 cd21 ct21), sl21⟩) (c21 : PySem.W.codeIn K cd21 "next_open" = true) (k21 : PySem.W.keepIn K (.ref f21) = true)     {f22 : Addr} {od22 an22 : Option Addr} {sl22 : Array (Option Value)} {oc22 kV22 dc22 pm22 cd22 ct22 : Value}     (a22 : PySem.W.nsIn K mainGlobals "first_windows" = some (some (.ref f22))) (l22 : K.lookup f22 = some ⟨oc22, od22, .func (PySem.W.fnOf "first_windows" "first_windows" (defArgs s_first_windows) (defBody s_first_windows) (defScope s_first_windows) .none kV22 dc22 pm22 an22 cd22 ct22), sl22⟩) (c22 : PySem.W.codeIn K cd22 "first_windows" = true) (k22 : PySem.W.keepIn K (.ref f22) = true)     {f23 : Addr} {od23 an23 : Option Addr} {sl23 : Array (Option Value)} {oc23 kV23 dc23 pm23 cd23 ct23 : Value}     (a23 : PySem.W.nsIn K mainGlobals "periods_later" = some (some (.ref f23))) (l23 : K.lookup f23 = some ⟨oc23, od23, .func (PySem.W.fnOf "periods_later" "periods_later" (defArgs s_periods_later) (defBody s_periods_later) (defScope s_periods_later) .none kV23 dc23 pm23 an23 cd23 ct23), sl23⟩) (c23 : PySem.W.codeIn K cd23 "periods_later" = true) (k23 : PySem.W.keepIn K (.ref f23) = true)     {f24 : Addr} {od24 an24 : Option Addr} {sl24 : Array (Option Value)} {oc24 kV24 dc24 pm24 cd24 ct24 : Value}     (a24 : PySem.W.nsIn K mainGlobals "window" = some (some (.ref f24))) (l24 : K.lookup f24 = some ⟨oc24, od24, .func (PySem.W.fnOf "window" "window" (defArgs s_window) (defBody s_window) (defScope s_window) .none kV24 dc24 pm24 an24 cd24 ct24), sl24⟩) (c24 : PySem.W.codeIn K cd24 "window" = true) (k24 : PySem.W.keepIn K (.ref f24) = true)     {f25 : Addr} {od25 an25 : Option Addr} {sl25 : Array (Option Value)} {oc25 kV25 dc25 pm25 cd25 ct25 : Value}     (a25 : PySem.W.nsIn K mainGlobals "window_at" = some (some (.ref f25))) (l25 : K.lookup f25 = some ⟨oc25, od25, .func (PySem.W.fnOf "window_at" "window_at" (defArgs s_window_at) (defBody s_window_at) (defScope s_window_at) .none kV25 dc25 pm25 an25 cd25 ct25), sl25⟩) (c25 : PySem.W.codeIn K cd25 "window_at" = true) (k25 : PySem.W.keepIn K (.ref f25) = true)     {f26 : Addr} {od26 an26 : Option Addr} {sl26 : Array (Option Value)} {oc26 kV26 dc26 pm26 cd26 ct26 : Value}     (a26 : PySem.W.nsIn K mainGlobals "delayed_gate" = some (some (.ref f26))) (l26 : K.lookup f26 = some ⟨oc26, od26, .func (PySem.W.fnOf "delayed_gate" "delayed_gate" (defArgs s_delayed_gate) (defBody s_delayed_gate) (defScope s_delayed_gate) .none kV26 dc26 pm26 an26 cd26 ct26), sl26⟩) (c26 : PySem.W.codeIn K cd26 "delayed_gate" = true) (k26 : PySem.W.keepIn K (.ref f26) = true)     {f27 : Addr} {od27 an27 : Option Addr} {sl27 : Array (Option Value)} {oc27 kV27 dc27 pm27 cd27 ct27 : Value}     (a27 : PySem.W.nsIn K mainGlobals "_law_source" = some (some (.ref f27))) (l27 : K.lookup f27 = some ⟨oc27, od27, .func (PySem.W.fnOf "_law_source" "_law_source" (defArgs s_l_source) (defBody s_l_source) (defScope s_l_source) .none kV27 dc27 pm27 an27 cd27 ct27), sl27⟩) (c27 : PySem.W.codeIn K cd27 "_law_source" = true) (k27 : PySem.W.keepIn K (.ref f27) = true)     {f28 : Addr} {od28 an28 : Option Addr} {sl28 : Array (Option Value)} {oc28 kV28 dc28 pm28 cd28 ct28 : Value}     (a28 : PySem.W.nsIn K mainGlobals "_law_draw" = some (some (.ref f28))) (l28 : K.lookup f28 = some ⟨oc28, od28, .func (PySem.W.fnOf "_law_draw" "_law_draw" (defArgs s_l_draw) (defBody s_l_draw) (defScope s_l_draw) .none kV28 dc28 pm28 an28 cd28 ct28), sl28⟩) (c28 : PySem.W.codeIn K cd28 "_law_draw" = true) (k28 : PySem.W.keepIn K (.ref f28) = true)     {f29 : Addr} {od29 an29 : Option Addr} {sl29 : Array (Option Value)} {oc29 kV29 dc29 pm29 cd29 ct29 : Value}     (a29 : PySem.W.nsIn K mainGlobals "_law_choice" = some (some (.ref f29))) (l29 : K.lookup f29 = some ⟨oc29, od29, .func (PySem.W.fnOf "_law_choice" "_law_choice" (defArgs s_l_choice) (defBody s_l_choice) (defScope s_l_choice) .none kV29 dc29 pm29 an29 cd29 ct29), sl29⟩) (c29 : PySem.W.codeIn K cd29 "_law_choice" = true) (k29 : PySem.W.keepIn K (.ref f29) = true)     {f30 : Addr} {od30 an30 : Option Addr} {sl30 : Array (Option Value)} {oc30 kV30 dc30 pm30 cd30 ct30 : Value}     (a30 : PySem.W.nsIn K mainGlobals "_law_equal" = some (some (.ref f30))) (l30 : K.lookup f30 = some ⟨oc30, od30, .func (PySem.W.fnOf "_law_equal" "_law_equal" (defArgs s_l_equal) (defBody s_l_equal) (defScope s_l_equal) .none kV30 dc30 pm30 an30 cd30 ct30), sl30⟩) (c30 : PySem.W.codeIn K cd30 "_law_equal" = true) (k30 : PySem.W.keepIn K (.ref f30) = true)     {f31 : Addr} {od31 an31 : Option Addr} {sl31 : Array (Option Value)} {oc31 kV31 dc31 pm31 cd31 ct31 : Value}     (a31 : PySem.W.nsIn K mainGlobals "_law_error_field" = some (some (.ref f31))) (l31 : K.lookup f31 = some ⟨oc31, od31, .func (PySem.W.fnOf "_law_error_field" "_law_error_field" (defArgs s_l_error_field) (defBody s_l_error_field) (defScope s_l_error_field) .none kV31 dc31 pm31 an31 cd31 ct31), sl31⟩) (c31 : PySem.W.codeIn K cd31 "_law_error_field" = true) (k31 : PySem.W.keepIn K (.ref f31) = true)     {f32 : Addr} {od32 an32 : Option Addr} {sl32 : Array (Option Value)} {oc32 kV32 dc32 pm32 cd32 ct32 : Value}     (a32 : PySem.W.nsIn K mainGlobals "_law_outcome" = some (some (.ref f32))) (l32 : K.lookup f32 = some ⟨oc32, od32, .func (PySem.W.fnOf "_law_outcome" "_law_outcome" (defArgs s_l_outcome) (defBody s_l_outcome) (defScope s_l_outcome) .none kV32 dc32 pm32 an32 cd32 ct32), sl32⟩) (c32 : PySem.W.codeIn K cd32 "_law_outcome" = true) (k32 : PySem.W.keepIn K (.ref f32) = true)     {f33 : Addr} {od33 an33 : Option Addr} {sl33 : Array (Option Value)} {oc33 kV33 dc33 pm33 cd33 ct33 : Value}     (a33 : PySem.W.nsIn K mainGlobals "_law_error" = some (some (.ref f33))) (l33 : K.lookup f33 = some ⟨oc33, od33, .func (PySem.W.fnOf "_law_error" "_law_error" (defArgs s_l_error) (defBody s_l_error) (defScope s_l_error) .none kV33 dc33 pm33 an33 cd33 ct33), sl33⟩) (c33 : PySem.W.codeIn K cd33 "_law_error" = true) (k33 : PySem.W.keepIn K (.ref f33) = true)     {f34 : Addr} {od34 an34 : Option Addr} {sl34 : Array (Option Value)} {oc34 kV34 dc34 pm34 cd34 ct34 : Value}     (a34 : PySem.W.nsIn K mainGlobals "_law_divisor" = some (some (.ref f34))) (l34 : K.lookup f34 = some ⟨oc34, od34, .func (PySem.W.fnOf "_law_divisor" "_law_divisor" (defArgs s_l_divisor) (defBody s_l_divisor) (defScope s_l_divisor) .none kV34 dc34 pm34 an34 cd34 ct34), sl34⟩) (c34 : PySem.W.codeIn K cd34 "_law_divisor" = true) (k34 : PySem.W.keepIn K (.ref f34) = true)     {f35 : Addr} {od35 an35 : Option Addr} {sl35 : Array (Option Value)} {oc35 kV35 dc35 pm35 cd35 ct35 : Value}     (a35 : PySem.W.nsIn K mainGlobals "_law_reduce" = some (some (.ref f35))) (l35 : K.lookup f35 = some ⟨oc35, od35, .func (PySem.W.fnOf "_law_reduce" "_law_reduce" (defArgs s_l_reduce) (defBody s_l_reduce) (defScope s_l_reduce) .none kV35 dc35 pm35 an35 cd35 ct35), sl35⟩) (c35 : PySem.W.codeIn K cd35 "_law_reduce" = true) (k35 : PySem.W.keepIn K (.ref f35) = true)     {f36 : Addr} {od36 an36 : Option Addr} {sl36 : Array (Option Value)} {oc36 kV36 dc36 pm36 cd36 ct36 : Value}     (a36 : PySem.W.nsIn K mainGlobals "_law_add" = some (some (.ref f36))) (l36 : K.lookup f36 = some ⟨oc36, od36, .func (PySem.W.fnOf "_law_add" "_law_add" (defArgs s_l_add) (defBody s_l_add) (defScope s_l_add) .none kV36 dc36 pm36 an36 cd36 ct36), sl36⟩) (c36 : PySem.W.codeIn K cd36 "_law_add" = true) (k36 : PySem.W.keepIn K (.ref f36) = true)     {f37 : Addr} {od37 an37 : Option Addr} {sl37 : Array (Option Value)} {oc37 kV37 dc37 pm37 cd37 ct37 : Value}     (a37 : PySem.W.nsIn K mainGlobals "_law_multiply" = some (some (.ref f37))) (l37 : K.lookup f37 = some ⟨oc37, od37, .func (PySem.W.fnOf "_law_multiply" "_law_multiply" (defArgs s_l_multiply) (defBody s_l_multiply) (defScope s_l_multiply) .none kV37 dc37 pm37 an37 cd37 ct37), sl37⟩) (c37 : PySem.W.codeIn K cd37 "_law_multiply" = true) (k37 : PySem.W.keepIn K (.ref f37) = true)     {f38 : Addr} {od38 an38 : Option Addr} {sl38 : Array (Option Value)} {oc38 kV38 dc38 pm38 cd38 ct38 : Value}     (a38 : PySem.W.nsIn K mainGlobals "_law_less" = some (some (.ref f38))) (l38 : K.lookup f38 = some ⟨oc38, od38, .func (PySem.W.fnOf "_law_less" "_law_less" (defArgs s_l_less) (defBody s_l_less) (defScope s_l_less) .none kV38 dc38 pm38 an38 cd38 ct38), sl38⟩) (c38 : PySem.W.codeIn K cd38 "_law_less" = true) (k38 : PySem.W.keepIn K (.ref f38) = true)     {f39 : Addr} {od39 an39 : Option Addr} {sl39 : Array (Option Value)} {oc39 kV39 dc39 pm39 cd39 ct39 : Value}     (a39 : PySem.W.nsIn K mainGlobals "_law_times" = some (some (.ref f39))) (l39 : K.lookup f39 = some ⟨oc39, od39, .func (PySem.W.fnOf "_law_times" "_law_times" (defArgs s_l_times) (defBody s_l_times) (defScope s_l_times) .none kV39 dc39 pm39 an39 cd39 ct39), sl39⟩) (c39 : PySem.W.codeIn K cd39 "_law_times" = true) (k39 : PySem.W.keepIn K (.ref f39) = true)     {f40 : Addr} {od40 an40 : Option Addr} {sl40 : Array (Option Value)} {oc40 kV40 dc40 pm40 cd40 ct40 : Value}     (a40 : PySem.W.nsIn K mainGlobals "_law_small" = some (some (.ref f40))) (l40 : K.lookup f40 = some ⟨oc40, od40, .func (PySem.W.fnOf "_law_small" "_law_small" (defArgs s_l_small) (defBody s_l_small) (defScope s_l_small) .none kV40 dc40 pm40 an40 cd40 ct40), sl40⟩) (c40 : PySem.W.codeIn K cd40 "_law_small" = true) (k40 : PySem.W.keepIn K (.ref f40) = true)     {f41 : Addr} {od41 an41 : Option Addr} {sl41 : Array (Option Value)} {oc41 kV41 dc41 pm41 cd41 ct41 : Value}     (a41 : PySem.W.nsIn K mainGlobals "_law_positive" = some (some (.ref f41))) (l41 : K.lookup f41 = some ⟨oc41, od41, .func (PySem.W.fnOf "_law_positive" "_law_positive" (defArgs s_l_positive) (defBody s_l_positive) (defScope s_l_positive) .none kV41 dc41 pm41 an41 cd41 ct41), sl41⟩) (c41 : PySem.W.codeIn K cd41 "_law_positive" = true) (k41 : PySem.W.keepIn K (.ref f41) = true)     {f42 : Addr} {od42 an42 : Option Addr} {sl42 : Array (Option Value)} {oc42 kV42 dc42 pm42 cd42 ct42 : Value}     (a42 : PySem.W.nsIn K mainGlobals "_law_parts" = some (some (.ref f42))) (l42 : K.lookup f42 = some ⟨oc42, od42, .func (PySem.W.fnOf "_law_parts" "_law_parts" (defArgs s_l_parts) (defBody s_l_parts) (defScope s_l_parts) .none kV42 dc42 pm42 an42 cd42 ct42), sl42⟩) (c42 : PySem.W.codeIn K cd42 "_law_parts" = true) (k42 : PySem.W.keepIn K (.ref f42) = true)     {f43 : Addr} {od43 an43 : Option Addr} {sl43 : Array (Option Value)} {oc43 kV43 dc43 pm43 cd43 ct43 : Value}     (a43 : PySem.W.nsIn K mainGlobals "_law_gate" = some (some (.ref f43))) (l43 : K.lookup f43 = some ⟨oc43, od43, .func (PySem.W.fnOf "_law_gate" "_law_gate" (defArgs s_l_gate) (defBody s_l_gate) (defScope s_l_gate) .none kV43 dc43 pm43 an43 cd43 ct43), sl43⟩) (c43 : PySem.W.codeIn K cd43 "_law_gate" = true) (k43 : PySem.W.keepIn K (.ref f43) = true)     {f44 : Addr} {od44 an44 : Option Addr} {sl44 : Array (Option Value)} {oc44 kV44 dc44 pm44 cd44 ct44 : Value}     (a44 : PySem.W.nsIn K mainGlobals "_law_is_gate" = some (some (.ref f44))) (l44 : K.lookup f44 = some ⟨oc44, od44, .func (PySem.W.fnOf "_law_is_gate" "_law_is_gate" (defArgs s_l_is_gate) (defBody s_l_is_gate) (defScope s_l_is_gate) .none kV44 dc44 pm44 an44 cd44 ct44), sl44⟩) (c44 : PySem.W.codeIn K cd44 "_law_is_gate" = true) (k44 : PySem.W.keepIn K (.ref f44) = true)     {f45 : Addr} {od45 an45 : Option Addr} {sl45 : Array (Option Value)} {oc45 kV45 dc45 pm45 cd45 ct45 : Value}     (a45 : PySem.W.nsIn K mainGlobals "_law_bent" = some (some (.ref f45))) (l45 : K.lookup f45 = some ⟨oc45, od45, .func (PySem.W.fnOf "_law_bent" "_law_bent" (defArgs s_l_bent) (defBody s_l_bent) (defScope s_l_bent) .none kV45 dc45 pm45 an45 cd45 ct45), sl45⟩) (c45 : PySem.W.codeIn K cd45 "_law_bent" = true) (k45 : PySem.W.keepIn K (.ref f45) = true)     {f46 : Addr} {od46 an46 : Option Addr} {sl46 : Array (Option Value)} {oc46 kV46 dc46 pm46 cd46 ct46 : Value}     (a46 : PySem.W.nsIn K mainGlobals "law" = some (some (.ref f46))) (l46 : K.lookup f46 = some ⟨oc46, od46, .func (PySem.W.fnOf "law" "law" (defArgs s_law) (defBody s_law) (defScope s_law) .none kV46 dc46 pm46 an46 cd46 ct46), sl46⟩) (c46 : PySem.W.codeIn K cd46 "law" = true) (k46 : PySem.W.keepIn K (.ref f46) = true)     (z0 : PySem.W.nsIn K mainGlobals "ValueError" = some none)     (z1 : PySem.W.nsIn K mainGlobals "abs" = some none)     (z2 : PySem.W.nsIn K mainGlobals "sorted" = some none)     (z3 : PySem.W.nsIn K mainGlobals "len" = some none)     (z4 : PySem.W.nsIn K mainGlobals "all" = some none)     (z5 : PySem.W.nsIn K mainGlobals "any" = some none)     (z6 : PySem.W.nsIn K mainGlobals "zip" = some none)     (z7 : PySem.W.nsIn K mainGlobals "list" = some none)     (z8 : PySem.W.nsIn K mainGlobals "range" = some none)     (z9 : PySem.W.nsIn K mainGlobals "tuple" = some none)     (z10 : PySem.W.nsIn K mainGlobals "divmod" = some none)     (z11 : PySem.W.nsIn K mainGlobals "enumerate" = some none)     (z12 : PySem.W.nsIn K mainGlobals "isinstance" = some none)     (z13 : PySem.W.nsIn K mainGlobals "bool" = some none)     (z14 : PySem.W.nsIn K mainGlobals "int" = some none)     (z15 : PySem.W.nsIn K mainGlobals "str" = some none)     {c_PaceError : Addr} (ac_PaceError : PySem.W.nsIn K mainGlobals "PaceError" = some (some (.ref c_PaceError)))     {c_NotFound : Addr} (ac_NotFound : PySem.W.nsIn K mainGlobals "NotFound" = some (some (.ref c_NotFound)))     {c_InvalidGate : Addr} (ac_InvalidGate : PySem.W.nsIn K mainGlobals "InvalidGate" = some (some (.ref c_InvalidGate)))     {c_NotBarring : Addr} (ac_NotBarring : PySem.W.nsIn K mainGlobals "NotBarring" = some (some (.ref c_NotBarring)))     {c_ZeroDenominator : Addr} (ac_ZeroDenominator : PySem.W.nsIn K mainGlobals "ZeroDenominator" = some (some (.ref c_ZeroDenominator)))     {c_EmptyHistory : Addr} (ac_EmptyHistory : PySem.W.nsIn K mainGlobals "EmptyHistory" = some (some (.ref c_EmptyHistory)))     {fi_PaceError : Addr} {odi0 ani0 : Option Addr} {sli0 : Array (Option Value)} {oci0 kVi0 dci0 pmi0 cdi0 cti0 : Value}     (li0 : K.lookup fi_PaceError = some ⟨oci0, odi0, .func (PySem.W.fnOf "__init__" "PaceError.__init__" (defArgs si_PaceError) (defBody si_PaceError) (defScope si_PaceError) .none kVi0 dci0 pmi0 ani0 cdi0 cti0), sli0⟩) (ci0 : PySem.W.codeIn K cdi0 "PaceError.__init__" = true) (ki0 : PySem.W.keepIn K (.ref fi_PaceError) = true)     {fi_InvalidGate : Addr} {odi1 ani1 : Option Addr} {sli1 : Array (Option Value)} {oci1 kVi1 dci1 pmi1 cdi1 cti1 : Value}     (li1 : K.lookup fi_InvalidGate = some ⟨oci1, odi1, .func (PySem.W.fnOf "__init__" "InvalidGate.__init__" (defArgs si_InvalidGate) (defBody si_InvalidGate) (defScope si_InvalidGate) .none kVi1 dci1 pmi1 ani1 cdi1 cti1), sli1⟩) (ci1 : PySem.W.codeIn K cdi1 "InvalidGate.__init__" = true) (ki1 : PySem.W.keepIn K (.ref fi_InvalidGate) = true)     {fi_NotBarring : Addr} {odi2 ani2 : Option Addr} {sli2 : Array (Option Value)} {oci2 kVi2 dci2 pmi2 cdi2 cti2 : Value}     (li2 : K.lookup fi_NotBarring = some ⟨oci2, odi2, .func (PySem.W.fnOf "__init__" "NotBarring.__init__" (defArgs si_NotBarring) (defBody si_NotBarring) (defScope si_NotBarring) .none kVi2 dci2 pmi2 ani2 cdi2 cti2), sli2⟩) (ci2 : PySem.W.codeIn K cdi2 "NotBarring.__init__" = true) (ki2 : PySem.W.keepIn K (.ref fi_NotBarring) = true)     {mcP : Value}     {nmInvalidGate qCInvalidGate : Str} {NCInvalidGate : Addr} {bsInvalidGate bmInvalidGate : List Value} {snInvalidGate : List Str} {suInvalidGate : List Value} {abInvalidGate : Bool} {coInvalidGate : Option Bool} {ddInvalidGate : Option Addr} {k0InvalidGate k1InvalidGate k2InvalidGate k3InvalidGate k5InvalidGate : Option Value}     {nmNotBarring qCNotBarring : Str} {NCNotBarring : Addr} {bsNotBarring bmNotBarring : List Value} {snNotBarring : List Str} {suNotBarring : List Value} {abNotBarring : Bool} {coNotBarring : Option Bool} {ddNotBarring : Option Addr} {k0NotBarring k1NotBarring k2NotBarring k3NotBarring k5NotBarring : Option Value}     (ownPGa : PySem.W.specialIn K (.ref c_PaceError) "__getattribute__" = some (some (.builtin "type.__getattribute__")))     (ownPTy : PySem.W.typeIn K (.ref c_PaceError) = some mcP)     (ownPRd : PySem.W.readsIn K c_PaceError mcP = true)     (ownPFi : PySem.W.findCls K (.ref c_PaceError) mcP "__init__" = some (.val (.ref fi_PaceError)))     (eP1 : PySem.W.subIn K (.ref c_PaceError) (.type "BaseException") = some true)     (eP2 : PySem.W.isClsIn K c_PaceError = true)     (eP3 : PySem.W.typeIn K (.ref c_PaceError) = some (.type "type"))     (eN1 : PySem.W.subIn K (.ref c_NotFound) (.type "BaseException") = some true)     (eN2 : PySem.W.isClsIn K c_NotFound = true)     (eN3 : PySem.W.typeIn K (.ref c_NotFound) = some (.type "type"))     (oLInvalidGate : K.lookup c_InvalidGate = some (excClassObj nmInvalidGate qCInvalidGate c_InvalidGate NCInvalidGate bsInvalidGate bmInvalidGate true snInvalidGate suInvalidGate abInvalidGate coInvalidGate ddInvalidGate k0InvalidGate k1InvalidGate k2InvalidGate k3InvalidGate k5InvalidGate "ValueError.__new__"))     (oBInvalidGate : PySem.HandSPX.refsVE bmInvalidGate = true)     (oSInvalidGate : PySem.W.findIn K (.ref c_InvalidGate) "__setattr__" = some (some (.builtin "object.__setattr__")))     (oEInvalidGate : PySem.W.subIn K (.ref c_InvalidGate) (.type "BaseException") = some true)     (oTInvalidGate : PySem.W.typeIn K (.ref c_InvalidGate) = some (.type "type"))     (oKInvalidGate : PySem.W.keepIn K (.ref c_InvalidGate) = true)     (xAInvalidGate : PySem.W.findIn K (.ref c_InvalidGate) "__getattribute__" = some (some (.builtin "BaseException.__getattribute__")))     (xGInvalidGate : PySem.W.findIn K (.ref c_InvalidGate) "__getattr__" = some none)     (xDInvalidGate : PySem.W.hasDictIn K c_InvalidGate = true)     (ePInvalidGate : PySem.W.subIn K (.ref c_InvalidGate) (.ref c_PaceError) = some true)     (eNInvalidGate : PySem.W.subIn K (.ref c_InvalidGate) (.ref c_NotFound) = some false)     (oLNotBarring : K.lookup c_NotBarring = some (excClassObj nmNotBarring qCNotBarring c_NotBarring NCNotBarring bsNotBarring bmNotBarring true snNotBarring suNotBarring abNotBarring coNotBarring ddNotBarring k0NotBarring k1NotBarring k2NotBarring k3NotBarring k5NotBarring "ValueError.__new__"))     (oBNotBarring : PySem.HandSPX.refsVE bmNotBarring = true)     (oSNotBarring : PySem.W.findIn K (.ref c_NotBarring) "__setattr__" = some (some (.builtin "object.__setattr__")))     (oENotBarring : PySem.W.subIn K (.ref c_NotBarring) (.type "BaseException") = some true)     (oTNotBarring : PySem.W.typeIn K (.ref c_NotBarring) = some (.type "type"))     (oKNotBarring : PySem.W.keepIn K (.ref c_NotBarring) = true)     (xANotBarring : PySem.W.findIn K (.ref c_NotBarring) "__getattribute__" = some (some (.builtin "BaseException.__getattribute__")))     (xGNotBarring : PySem.W.findIn K (.ref c_NotBarring) "__getattr__" = some none)     (xDNotBarring : PySem.W.hasDictIn K c_NotBarring = true)     (ePNotBarring : PySem.W.subIn K (.ref c_NotBarring) (.ref c_PaceError) = some true)     (eNNotBarring : PySem.W.subIn K (.ref c_NotBarring) (.ref c_NotFound) = some false)     (vVE : PySem.W.findCls K (.type "ValueError") (.type "type") "__init__" = some (.val (.builtin "ValueError.__init__")))     (iInvalidGate : PySem.W.findIn K (.ref c_InvalidGate) "__init__" = some (some (.ref fi_InvalidGate)))     (tInvalidGate : PySem.W.typeIn K (.ref fi_InvalidGate) = some (.type "function"))     (nTagInvalidGate : PySem.W.findIn K (.ref c_InvalidGate) "tag" = some none)     (nFldInvalidGate : PySem.W.findIn K (.ref c_InvalidGate) "position" = some none)     (iNotBarring : PySem.W.findIn K (.ref c_NotBarring) "__init__" = some (some (.ref fi_NotBarring)))     (tNotBarring : PySem.W.typeIn K (.ref fi_NotBarring) = some (.type "function"))     (nTagNotBarring : PySem.W.findIn K (.ref c_NotBarring) "tag" = some none)     (nFldNotBarring : PySem.W.findIn K (.ref c_NotBarring) "place" = some none)     {cI PI : Addr} {eI : Value} {ddI : Option Addr} {vsI : Array Value} {slI : Array (Option Value)} (own : ∀ m ∈ [Str.ofString "in_order", Str.ofString "law"], ∀ f, mg m = some (.ref f) → LamX.OwnTab K f h) (hcd : cd11 = .ref cI) (lcI : K.lookup cI = some ⟨eI, ddI, .fields vsI, slI⟩) (pcI : vsI[11]? = some (.ref PI)) (nPI : K.lookup PI = none) (hdI : PySem.W.codeHdIn K cI PI = true)     {cL PT : Addr} {eL : Value} {ddL : Option Addr} {vsL : Array Value} {slL : Array (Option Value)} (hcdL : cd46 = .ref cL) (lcL : K.lookup cL = some ⟨eL, ddL, .fields vsL, slL⟩) (pcL : vsL[11]? = some (.ref PT)) (nPT : K.lookup PT = none) (hdL : PySem.W.codeHdIn K cL PT = true) (neT : PI ≠ PT), LamX.LawAtS l w K CX0 17 63 "_law_script" mg fa h
end EP
namespace EP
open PySem PySem.W
noncomputable def QV : Program := { PySem.Challenge.pw_evenpace_k08_valid_gates with main := { PySem.Challenge.pw_evenpace_k08_valid_gates.main with body := [topS 24, topS 60] } }
noncomputable def LV : List PySem.Str := [PySem.Str.ofString "PaceError", PySem.Str.ofString "NotFound", PySem.Str.ofString "InvalidGate", PySem.Str.ofString "NotBarring", PySem.Str.ofString "ZeroDenominator", PySem.Str.ofString "EmptyHistory", PySem.Str.ofString "ZERO", PySem.Str.ofString "ONE", PySem.Str.ofString "gcd", PySem.Str.ofString "fraction", PySem.Str.ofString "add", PySem.Str.ofString "subtract", PySem.Str.ofString "multiply", PySem.Str.ofString "divide", PySem.Str.ofString "is_less", PySem.Str.ofString "floor_of", PySem.Str.ofString "remainder", PySem.Str.ofString "common_denominator", PySem.Str.ofString "whole", PySem.Str.ofString "MAX_SPANS", PySem.Str.ofString "span_ends", PySem.Str.ofString "next_begins", PySem.Str.ofString "fits", PySem.Str.ofString "is_gate", PySem.Str.ofString "repeats", PySem.Str.ofString "least_form", PySem.Str.ofString "normal_gate", PySem.Str.ofString "shut_until", PySem.Str.ofString "is_open", PySem.Str.ofString "next_open", PySem.Str.ofString "first_windows", PySem.Str.ofString "periods_later", PySem.Str.ofString "window", PySem.Str.ofString "window_at", PySem.Str.ofString "delayed_gate", PySem.Str.ofString "_law_source", PySem.Str.ofString "_law_draw", PySem.Str.ofString "_law_choice", PySem.Str.ofString "_law_equal", PySem.Str.ofString "_law_error_field", PySem.Str.ofString "_law_outcome", PySem.Str.ofString "_law_error", PySem.Str.ofString "_law_divisor", PySem.Str.ofString "_law_reduce", PySem.Str.ofString "_law_add", PySem.Str.ofString "_law_multiply", PySem.Str.ofString "_law_less", PySem.Str.ofString "_law_times", PySem.Str.ofString "_law_small", PySem.Str.ofString "_law_positive", PySem.Str.ofString "_law_parts", PySem.Str.ofString "_law_gate", PySem.Str.ofString "_law_is_gate", PySem.Str.ofString "_law_bent"]
end EP
open PySem PySem.W PyProof.Rows
local macro_rules | `(tactic| o_head $H:term) => do
  let hw := Lean.mkIdent `hw
  let hc := Lean.mkIdent `hc
  `(tactic| (refine holds_open (q := EP.QV) (loose := EP.LV) (Xt := fun s => xlAt EP.QV [] s && recOk [] s) (XP := XL EP.QV []) (Yf := Hook.obs $H) (Ya := Hook.val $H) (YP := Hook.says $H) (N := 9700) ?hl (Hook.of $H) (Hook.keeps $H) (fun s e => xl_of s (Bool.and_eq_true_iff.mp e).1) XL.keeps (by rfl) (by rfl) (by rfl) (fun s e => recFacts_of (Bool.and_eq_true_iff.mp e).2) (by rfl) (by first | assumption | decide +kernel) (by decide +kernel) ⟨rfl, rfl, rfl, rfl, rfl, by decide +kernel⟩ ?$hw ?$hc
             (case hl => exact EPH.left_km 9000 (by kernel_rfl) (by rfl) (fun s => by kernel_rfl) (by rfl) (fun w os => by kernel_rfl))))
open PySem PySem.W PyProof.Rows
set_option maxHeartbeats 0 in
theorem EP.head0 (all_mk : EP.AllMk) : PySem.Challenge.rw_evenpace_k08_valid_gates.Holds := by
  unfold EP.AllMk at all_mk
  w_on; o_law; k_head; (case hw => w_witness2)
  k_fill
  refine EPS.walk_ofTabs (l := PySem.Challenge.rw_evenpace_k08_valid_gates) (n := 63) (k := 17) (x := "_law_script") (ns := [PySem.Str.ofString "in_order", PySem.Str.ofString "law"]) (CX := fun _ => L2.CX0) rfl (by decide) rfl ⟨rfl, by decide, by decide⟩ (by decide +kernel) (fun w h Y => PySem.W.km_in_of Y) ?F (fun _ _ _ _ _ h => h)
  case F =>
    intro w mg fa h Y KX G hmg own
    refine' all_mk KX G hmg ?ak_ZERO ?lk_ZERO ?ak_ONE ?lk_ONE ?ak_MAX_SPANS ?a0 ?l0 ?c0 ?k0 ?a1 ?l1 ?c1 ?k1 ?t1 ?a2 ?l2 ?c2 ?k2 ?a3 ?l3 ?c3 ?k3 ?a4 ?l4 ?c4 ?k4 ?a5 ?l5 ?c5 ?k5 ?a6 ?l6 ?c6 ?k6 ?a7 ?l7 ?c7 ?k7 ?a8 ?l8 ?c8 ?k8 ?a9 ?l9 ?c9 ?k9 ?a10 ?l10 ?c10 ?k10 ?a11 ?l11 ?c11 ?k11 ?a12 ?l12 ?c12 ?k12 ?a13 ?l13 ?c13 ?k13 ?a14 ?l14 ?c14 ?k14 ?a15 ?l15 ?c15 ?k15 ?a16 ?l16 ?c16 ?k16 ?a17 ?l17 ?c17 ?k17 ?a18 ?l18 ?c18 ?k18 ?a19 ?l19 ?c19 ?k19 ?a20 ?l20 ?c20 ?k20 ?a21 ?l21 ?c21 ?k21 ?a22 ?l22 ?c22 ?k22 ?a23 ?l23 ?c23 ?k23 ?a24 ?l24 ?c24 ?k24 ?a25 ?l25 ?c25 ?k25 ?a26 ?l26 ?c26 ?k26 ?a27 ?l27 ?c27 ?k27 ?a28 ?l28 ?c28 ?k28 ?a29 ?l29 ?c29 ?k29 ?a30 ?l30 ?c30 ?k30 ?a31 ?l31 ?c31 ?k31 ?a32 ?l32 ?c32 ?k32 ?a33 ?l33 ?c33 ?k33 ?a34 ?l34 ?c34 ?k34 ?a35 ?l35 ?c35 ?k35 ?a36 ?l36 ?c36 ?k36 ?a37 ?l37 ?c37 ?k37 ?a38 ?l38 ?c38 ?k38 ?a39 ?l39 ?c39 ?k39 ?a40 ?l40 ?c40 ?k40 ?a41 ?l41 ?c41 ?k41 ?a42 ?l42 ?c42 ?k42 ?a43 ?l43 ?c43 ?k43 ?a44 ?l44 ?c44 ?k44 ?a45 ?l45 ?c45 ?k45 ?a46 ?l46 ?c46 ?k46 ?z0 ?z1 ?z2 ?z3 ?z4 ?z5 ?z6 ?z7 ?z8 ?z9 ?z10 ?z11 ?z12 ?z13 ?z14 ?z15 ?ac_PaceError ?ac_NotFound ?ac_InvalidGate ?ac_NotBarring ?ac_ZeroDenominator ?ac_EmptyHistory ?li0 ?ci0 ?ki0 ?li1 ?ci1 ?ki1 ?li2 ?ci2 ?ki2 ?ownPGa ?ownPTy ?ownPRd ?ownPFi ?eP1 ?eP2 ?eP3 ?eN1 ?eN2 ?eN3 ?oLInvalidGate ?oBInvalidGate ?oSInvalidGate ?oEInvalidGate ?oTInvalidGate ?oKInvalidGate ?xAInvalidGate ?xGInvalidGate ?xDInvalidGate ?ePInvalidGate ?eNInvalidGate ?oLNotBarring ?oBNotBarring ?oSNotBarring ?oENotBarring ?oTNotBarring ?oKNotBarring ?xANotBarring ?xGNotBarring ?xDNotBarring ?ePNotBarring ?eNNotBarring ?vVE ?iInvalidGate ?tInvalidGate ?nTagInvalidGate ?nFldInvalidGate ?iNotBarring ?tNotBarring ?nTagNotBarring ?nFldNotBarring own ?hcd ?lcI ?pcI ?nPI ?hdI ?hcdL ?lcL ?pcL ?nPT ?hdL ?neT
    (case ak_ZERO => k_is)
    (case lk_ZERO => k_is)
    (case ak_ONE => k_is)
    (case lk_ONE => k_is)
    (case ak_MAX_SPANS => k_is)
    (case a0 => k_is)
    (case l0 => k_is)
    (case c0 => k_is)
    (case k0 => k_is)
    (case a1 => k_is)
    (case l1 => k_is)
    (case c1 => k_is)
    (case k1 => k_is)
    (case t1 => k_is)
    (case a2 => k_is)
    (case l2 => k_is)
    (case c2 => k_is)
    (case k2 => k_is)
    (case a3 => k_is)
    (case l3 => k_is)
    (case c3 => k_is)
    (case k3 => k_is)
    (case a4 => k_is)
    (case l4 => k_is)
    (case c4 => k_is)
    (case k4 => k_is)
    (case a5 => k_is)
    (case l5 => k_is)
    (case c5 => k_is)
    (case k5 => k_is)
    (case a6 => k_is)
    (case l6 => k_is)
    (case c6 => k_is)
    (case k6 => k_is)
    (case a7 => k_is)
    (case l7 => k_is)
    (case c7 => k_is)
    (case k7 => k_is)
    (case a8 => k_is)
    (case l8 => k_is)
    (case c8 => k_is)
    (case k8 => k_is)
    (case a9 => k_is)
    (case l9 => k_is)
    (case c9 => k_is)
    (case k9 => k_is)
    (case a10 => k_is)
    (case l10 => k_is)
    (case c10 => k_is)
    (case k10 => k_is)
    (case a11 => k_is)
    (case l11 => k_is)
    (case c11 => k_is)
    (case k11 => k_is)
    (case a12 => k_is)
    (case l12 => k_is)
    (case c12 => k_is)
    (case k12 => k_is)
    (case a13 => k_is)
    (case l13 => k_is)
    (case c13 => k_is)
    (case k13 => k_is)
    (case a14 => k_is)
    (case l14 => k_is)
    (case c14 => k_is)
    (case k14 => k_is)
    (case a15 => k_is)
    (case l15 => k_is)
    (case c15 => k_is)
    (case k15 => k_is)
    (case a16 => k_is)
    (case l16 => k_is)
    (case c16 => k_is)
    (case k16 => k_is)
    (case a17 => k_is)
    (case l17 => k_is)
    (case c17 => k_is)
    (case k17 => k_is)
    (case a18 => k_is)
    (case l18 => k_is)
    (case c18 => k_is)
    (case k18 => k_is)
    (case a19 => k_is)
    (case l19 => k_is)
    (case c19 => k_is)
    (case k19 => k_is)
    (case a20 => k_is)
    (case l20 => k_is)
    (case c20 => k_is)
    (case k20 => k_is)
    (case a21 => k_is)
    (case l21 => k_is)
    (case c21 => k_is)
    (case k21 => k_is)
    (case a22 => k_is)
    (case l22 => k_is)
    (case c22 => k_is)
    (case k22 => k_is)
    (case a23 => k_is)
    (case l23 => k_is)
    (case c23 => k_is)
    (case k23 => k_is)
    (case a24 => k_is)
    (case l24 => k_is)
    (case c24 => k_is)
    (case k24 => k_is)
    (case a25 => k_is)
    (case l25 => k_is)
    (case c25 => k_is)
    (case k25 => k_is)
    (case a26 => k_is)
    (case l26 => k_is)
    (case c26 => k_is)
    (case k26 => k_is)
    (case a27 => k_is)
    (case l27 => k_is)
    (case c27 => k_is)
    (case k27 => k_is)
    (case a28 => k_is)
    (case l28 => k_is)
    (case c28 => k_is)
    (case k28 => k_is)
    (case a29 => k_is)
    (case l29 => k_is)
    (case c29 => k_is)
    (case k29 => k_is)
    (case a30 => k_is)
    (case l30 => k_is)
    (case c30 => k_is)
    (case k30 => k_is)
    (case a31 => k_is)
    (case l31 => k_is)
    (case c31 => k_is)
    (case k31 => k_is)
    (case a32 => k_is)
    (case l32 => k_is)
    (case c32 => k_is)
    (case k32 => k_is)
    (case a33 => k_is)
    (case l33 => k_is)
    (case c33 => k_is)
    (case k33 => k_is)
    (case a34 => k_is)
    (case l34 => k_is)
    (case c34 => k_is)
    (case k34 => k_is)
    (case a35 => k_is)
    (case l35 => k_is)
    (case c35 => k_is)
    (case k35 => k_is)
    (case a36 => k_is)
    (case l36 => k_is)
    (case c36 => k_is)
    (case k36 => k_is)
    (case a37 => k_is)
    (case l37 => k_is)
    (case c37 => k_is)
    (case k37 => k_is)
    (case a38 => k_is)
    (case l38 => k_is)
    (case c38 => k_is)
    (case k38 => k_is)
    (case a39 => k_is)
    (case l39 => k_is)
    (case c39 => k_is)
    (case k39 => k_is)
    (case a40 => k_is)
    (case l40 => k_is)
    (case c40 => k_is)
    (case k40 => k_is)
    (case a41 => k_is)
    (case l41 => k_is)
    (case c41 => k_is)
    (case k41 => k_is)
    (case a42 => k_is)
    (case l42 => k_is)
    (case c42 => k_is)
    (case k42 => k_is)
    (case a43 => k_is)
    (case l43 => k_is)
    (case c43 => k_is)
    (case k43 => k_is)
    (case a44 => k_is)
    (case l44 => k_is)
    (case c44 => k_is)
    (case k44 => k_is)
    (case a45 => k_is)
    (case l45 => k_is)
    (case c45 => k_is)
    (case k45 => k_is)
    (case a46 => k_is)
    (case l46 => k_is)
    (case c46 => k_is)
    (case k46 => k_is)
    (case z0 => k_is)
    (case z1 => k_is)
    (case z2 => k_is)
    (case z3 => k_is)
    (case z4 => k_is)
    (case z5 => k_is)
    (case z6 => k_is)
    (case z7 => k_is)
    (case z8 => k_is)
    (case z9 => k_is)
    (case z10 => k_is)
    (case z11 => k_is)
    (case z12 => k_is)
    (case z13 => k_is)
    (case z14 => k_is)
    (case z15 => k_is)
    (case ac_PaceError => k_is)
    (case ac_NotFound => k_is)
    (case ac_InvalidGate => k_is)
    (case ac_NotBarring => k_is)
    (case ac_ZeroDenominator => k_is)
    (case ac_EmptyHistory => k_is)
    (case ownPGa => first | k_is | rfl | kernel_rfl)
    (case ownPTy => first | k_is | rfl | kernel_rfl)
    (case ownPRd => first | k_is | rfl | kernel_rfl)
    (case ownPFi => first | k_is | rfl | kernel_rfl)
    (case eP1 => first | k_is | rfl | kernel_rfl)
    (case eP2 => first | k_is | rfl | kernel_rfl)
    (case eP3 => first | k_is | rfl | kernel_rfl)
    (case eN1 => first | k_is | rfl | kernel_rfl)
    (case eN2 => first | k_is | rfl | kernel_rfl)
    (case eN3 => first | k_is | rfl | kernel_rfl)
    (case oLInvalidGate => first | k_is | rfl | kernel_rfl)
    (case oBInvalidGate => first | k_is | rfl | kernel_rfl)
    (case oSInvalidGate => first | k_is | rfl | kernel_rfl)
    (case oEInvalidGate => first | k_is | rfl | kernel_rfl)
    (case oTInvalidGate => first | k_is | rfl | kernel_rfl)
    (case oKInvalidGate => first | k_is | rfl | kernel_rfl)
    (case xAInvalidGate => first | k_is | rfl | kernel_rfl)
    (case xGInvalidGate => first | k_is | rfl | kernel_rfl)
    (case xDInvalidGate => first | k_is | rfl | kernel_rfl)
    (case ePInvalidGate => first | k_is | rfl | kernel_rfl)
    (case eNInvalidGate => first | k_is | rfl | kernel_rfl)
    (case oLNotBarring => first | k_is | rfl | kernel_rfl)
    (case oBNotBarring => first | k_is | rfl | kernel_rfl)
    (case oSNotBarring => first | k_is | rfl | kernel_rfl)
    (case oENotBarring => first | k_is | rfl | kernel_rfl)
    (case oTNotBarring => first | k_is | rfl | kernel_rfl)
    (case oKNotBarring => first | k_is | rfl | kernel_rfl)
    (case xANotBarring => first | k_is | rfl | kernel_rfl)
    (case xGNotBarring => first | k_is | rfl | kernel_rfl)
    (case xDNotBarring => first | k_is | rfl | kernel_rfl)
    (case ePNotBarring => first | k_is | rfl | kernel_rfl)
    (case eNNotBarring => first | k_is | rfl | kernel_rfl)
    (case vVE => first | k_is | rfl | kernel_rfl)
    (case iInvalidGate => first | k_is | rfl | kernel_rfl)
    (case tInvalidGate => first | k_is | rfl | kernel_rfl)
    (case nTagInvalidGate => first | k_is | rfl | kernel_rfl)
    (case nFldInvalidGate => first | k_is | rfl | kernel_rfl)
    (case iNotBarring => first | k_is | rfl | kernel_rfl)
    (case tNotBarring => first | k_is | rfl | kernel_rfl)
    (case nTagNotBarring => first | k_is | rfl | kernel_rfl)
    (case nFldNotBarring => first | k_is | rfl | kernel_rfl)
    (case li0 => k_is)
    (case ci0 => k_is)
    (case ki0 => k_is)
    (case li1 => k_is)
    (case ci1 => k_is)
    (case ki1 => k_is)
    (case li2 => k_is)
    (case ci2 => k_is)
    (case ki2 => k_is)
    (case hcd => rfl)
    (case lcI => k_is)
    (case pcI => rfl)
    (case nPI => first | rfl | kernel_rfl)
    (case hdI => first | rfl | kernel_rfl)
    (case hcdL => rfl)
    (case lcL => k_is)
    (case pcL => rfl)
    (case nPT => first | rfl | kernel_rfl)
    (case hdL => first | rfl | kernel_rfl)
    (case neT => decide)
namespace EP
open PySem PySem.Spec PyProof.Rows L2
section
variable {P : Program} {w : World} {K : PySem.W.Frag} {mg : Str → Option Value} {base : Heap}
theorem ok_l_source (T : Txt K mg) : FnOk P w K mg base CX0 1 T.f_l_source T.d_l_source Ps_l_source (spSource K) := by
  refine T.F_l_source.ok sc_l_source (fun vs H Q E h => ?_) (fun cdv A outer s H vs Q E hr h => ?_)
  · obtain ⟨a, ns, rfl, _⟩ := h; rfl
  · obtain ⟨a, ns, rfl, hS, hlen, q⟩ := h
    refine ⟨_, (pss_cons (ps_set (i := 1) sc_l_source.nd rfl (Or.inl rfl) (pe_op op_add pe_int (pe_op op_mulW pe_int (pe_callB call_len_seq (by rfl) T.m_len PySem.boot_len (pa_cons (pe_slice sl_list (pv 0) po_none (po_some pe_int)) pa_nil)))))
      (pss_cons (ps_for PassesOwn.never rfl (pi_list (pe_slice sl_list (pv 0) po_none (po_some pe_int))) (pg_name (i := 2) sc_l_source.nd rfl (Or.inl rfl)) (pss_one (ps_set (i := 1) sc_l_source.nd rfl (Or.inl rfl) (pe_op op_mod (pe_op op_add (pe_op op_add (pe_op op_mulW (pv 1) pe_int) (pe_op op_mod (pv 2) pe_int)) pe_int) pe_int))))
      (pss_one (ps_ret (pe_lst (pa_cons (pe_callTy call_list_of (by rfl) T.m_list (by decide +kernel) (pa_cons (pe_slice sl_list (pv 0) po_none (po_some pe_int)) pa_nil)) (pa_cons pe_int (pa_cons pe_int (pa_cons (pv 1) pa_nil))))))))), ?_⟩
    have bc : B 7 59 := by unfold B; decide
    have bm : B 32 48271 := by unfold B; decide
    have ecut : cutV (ns.map V.int) none (some 63) = ns.map V.int := by
      unfold cutV
      rw [HT.sIx_none, show HT.sIx (ns.map V.int).length (ns.map V.int).length (some 63) = min 63 (ns.map V.int).length from HT.sIx_nat _ _ 63, List.drop_zero, List.length_map, List.take_of_length_le]
      rw [List.length_map]; omega
    refine ⟨.ref a, rfl, 63, rfl, a, _, rfl, hS, fun c nc => ?_⟩
    rw [ecut]
    have s1 := same_upd (o := HO.lst (ns.map V.int)) nc
    refine ⟨c, _, rfl, .inl (.inl (.inl upd_same)), _, _, rfl, rfl, ?_, _, _, rfl, rfl, ?_⟩
    · rw [List.length_map]; exact cm (n := 7) (m := 7) bc (show (ns.length : Int).natAbs < 2 ^ 7 by omega)
    refine ⟨.ref a, rfl, 63, rfl, a, _, rfl, Evl.ex_l s1 hS, fun c2 nc2 => ?_⟩
    rw [ecut]
    have s2 := same_upd (o := HO.lst (ns.map V.int)) nc2
    refine ⟨c2, rfl, ⟨_, .inl (.inl upd_same)⟩, ?_⟩
    refine for_list (K := K) (xs := ns.map V.int) (fun i σ H' => Same H H' ∧ (H' c2 = some (.lst (ns.map V.int))) ∧ ∃ (sd : Int) (z : Option V), σ = [some (.ref a), some (.int sd), z] ∧ 0 ≤ sd ∧ sd < 2147483563) ?_ ?_ ?_ ?_
    · refine ⟨s1.trans s2, upd_same, _, none, rfl, ?_, ?_⟩
      · rw [List.length_map]; omega
      · rw [List.length_map]; omega
    · rintro i σ H' _ ⟨_, h, _⟩; exact .inl (.inl h)
    · rintro i x σ H' hx ⟨sH, hc2, sd, z, rfl, h0, h1⟩
      obtain ⟨n, hn, rfl⟩ : ∃ n, ns[i]? = some n ∧ V.int n = x := by
        rw [List.getElem?_map] at hx
        cases e : ns[i]? with
        | none => rw [e] at hx; cases hx
        | some n => rw [e] at hx; exact ⟨n, rfl, Option.some.inj hx⟩
      have bs : B 31 sd := by unfold B; omega
      refine ⟨_, rfl, _, _, rfl, rfl, cm bs bm, _, rfl, _, _, rfl, rfl, (by decide : (0:Int) < 2147483563), _, _, rfl, rfl, _, _, rfl, rfl, _, _, rfl, rfl, (by decide : (0:Int) < 2147483563), sH, hc2, _, _, rfl, ?_, ?_⟩
      · exact Int.emod_nonneg _ (by decide)
      · exact Int.emod_lt_of_pos _ (by decide)
    · rintro σ H' ⟨sH, hc2, sd, z, rfl, h0, h1⟩
      refine ⟨.ref a, rfl, 63, rfl, a, _, rfl, Evl.ex_l sH hS, fun c3 nc3 => ?_⟩
      rw [ecut]
      have s3 := same_upd (o := HO.lst (ns.map V.int)) nc3
      refine ⟨c3, _, rfl, .inl (.inl (.inl upd_same)), fun L nL => ?_⟩
      have s4 := same_upd (o := HO.lst (ns.map V.int)) nL
      refine ⟨_, rfl, sizeLine2 (by simp), fun r nr => ?_⟩
      have s5 := same_upd (o := HO.lst [.ref L, .int 0, .int 0, .int sd]) nr
      refine q r _ (((sH.trans s3).trans s4).trans s5) ⟨L, ns, 0, 0, sd, upd_same, ?_, ?_, by omega, by omega, by omega, h0, h1⟩
      · exact s5 _ _ upd_same
      · intro e; subst e; rw [upd_same] at nr; cases nr
theorem ok_l_draw (T : Txt K mg) : FnOk P w K mg base CX0 1 T.f_l_draw T.d_l_draw Ps_l_draw spDraw := by
  refine T.F_l_draw.ok sc_l_draw (fun vs H Q E h => ?_) (fun cdv A outer s H vs Q E hr h => ?_)
  · obtain ⟨a, m, rfl, _⟩ := h; rfl
  · obtain ⟨r, m, rfl, hm, bm, h0R, q⟩ := h
    obtain ⟨L, ns, i, c, sd, hr0, hL, nL, hi, hl, hc, hs0, hs1⟩ := id h0R
    have hrH := hr0
    refine ⟨_, (pss_cons (ps_if (PW.pt (pw_and (pt_cmpR op_eq (pe_ix ix_list (pv 0) pe_int (fun _ _ => rfl)) pe_int (nomark _)) (pw_and1 (pt_cmpR op_lt (pe_ix ix_list (pv 0) pe_int (fun _ _ => rfl)) (pe_callB call_len_seq (by rfl) T.m_len PySem.boot_len (pa_cons (pe_ix ix_list (pv 0) pe_int (fun _ _ => rfl)) pa_nil)) (nomark _))))) (pss_cons (ps_set (i := 2) sc_l_draw.nd rfl (Or.inl rfl) (pe_ix ix_list (pe_ix ix_list (pv 0) pe_int (fun _ _ => rfl)) (pe_ix ix_list (pv 0) pe_int (fun _ _ => rfl)) (fun _ _ => rfl)))
      (pss_cons (ps_asg (pe_op op_add (pe_ix ix_list (pv 0) pe_int (fun _ _ => rfl)) pe_int) (pg_sub (pv 0) pe_int set_list))
      (pss_one (ps_if (pt_cmpR op_ge (pv 2) (pe_op op_pow pe_int pe_int) (nomark _)) (pss_one (ps_asg (pv 2) (pg_sub (pv 0) pe_int set_list))) (pss_one (ps_asg (pe_op op_mod (pe_op op_add (pe_op op_add (pe_op op_mulW (pe_ix ix_list (pv 0) pe_int (fun _ _ => rfl)) pe_int) (pe_op op_mulW (pe_op op_mod (pv 2) pe_int) pe_int)) (pe_ix ix_list (pv 0) pe_int (fun _ _ => rfl))) pe_int) (pg_sub (pv 0) pe_int set_list))))))) pss_nil)
      (pss_cons (ps_if (pt_cmpR op_gt (pe_ix ix_list (pv 0) pe_int (fun _ _ => rfl)) pe_int (nomark _)) (pss_cons (ps_set (i := 3) sc_l_draw.nd rfl (Or.inl rfl) (pe_op op_mod (pe_ix ix_list (pv 0) pe_int (fun _ _ => rfl)) (pv 1)))
      (pss_cons (ps_asg (pe_op op_fdivW (pe_ix ix_list (pv 0) pe_int (fun _ _ => rfl)) (pv 1)) (pg_sub (pv 0) pe_int set_list))
      (pss_one (ps_ret (pv 3))))) pss_nil)
      (pss_cons (ps_set (i := 4) sc_l_draw.nd rfl (Or.inl rfl) (pe_ix ix_list (pv 0) pe_int (fun _ _ => rfl)))
      (pss_cons (ps_asg (pe_op op_mod (pe_op op_add (pe_op op_add (pe_op op_mulW (pv 4) (pv 4)) (pe_op op_mulW (pv 4) pe_int)) pe_int) pe_int) (pg_sub (pv 0) pe_int set_list))
      (pss_one (ps_ret (pe_op op_mod (pe_op op_add (pe_op op_fdivW (pe_ix ix_list (pv 0) pe_int (fun _ _ => rfl)) pe_int) (pe_op op_mulW (pe_op op_mod (pe_ix ix_list (pv 0) pe_int (fun _ _ => rfl)) pe_int) pe_int)) (pv 1)))))))), ?_⟩
    refine seq_by (fun σ H' => ∃ (i c sd : Int) (z1 : Option V), σ = [some (.ref r), some (.int m), z1, none, none] ∧ Gw r H H' ∧ H' r = some (.lst [.ref L, .int i, .int c, .int sd]) ∧ H' L = some (.lst (ns.map V.int)) ∧ 0 ≤ i ∧ 0 ≤ c ∧ 0 ≤ sd ∧ sd < 2147483563) ?_ (fun fin => ?_)
    · rintro σ H' ⟨i, c, sd, z1, rfl, g, hr0, hL, hi, hc, hs0, hs1⟩
      have hR : SqL K H' r [.ref L, .int i, .int c, .int sd] := .inl (.inl hr0)
      have mo : ∀ (c' sd' : Int), 0 ≤ c' → 0 ≤ sd' → sd' < 2147483563 → Mo r H (upd H' r (.lst [.ref L, .int i, .int c', .int sd'])) := fun c' sd' h1 h2 h3 =>
        ⟨fun a o n e => by rw [upd_ne n]; exact g a o n e, h0R, fun L' hL' => by
          obtain ⟨_, _, _, _, e1, _⟩ := hL'
          rw [hrH] at e1; cases e1
          exact ⟨ns, i, c', sd', upd_same, by rw [upd_ne nL]; exact hL, nL, hi, hl, h1, h2, h3⟩⟩
      refine ⟨_, rfl, _, _, _, _, rfl, rfl, hR, ix2, _, _, rfl, rfl, _, rfl, brI (fun hp => ?_) (fun hp => ?_)⟩
      · refine ⟨_, rfl, _, _, _, _, rfl, rfl, hR, ix2, _, rfl, _, _, rfl, rfl, hm, ?_⟩
        refine ⟨_, rfl, _, _, _, _, rfl, rfl, hR, ix2, _, rfl, _, _, rfl, rfl, cdW hm bm, _, rfl, r, _, _, 2, rfl, rfl, hr0, rfl, ?_⟩
        refine ⟨_, rfl, ?_⟩
        refine q _ _ (Int.emod_nonneg _ (by omega)) (Int.emod_lt_of_pos _ hm) ?_
        exact mo _ _ (Int.ediv_nonneg hc (by omega)) hs0 hs1
      · refine ⟨_, rfl, _, _, _, _, rfl, rfl, hR, ix3, ?_⟩
        have bs : B 31 sd := by unfold B; omega
        have b4 : B 20 40123 := by unfold B; decide
        have h1 := Int.emod_nonneg (sd * sd + sd * 40123 + 70001) (show (2147483563 : Int) ≠ 0 by decide)
        have h2 := Int.emod_lt_of_pos (sd * sd + sd * 40123 + 70001) (show (0 : Int) < 2147483563 by decide)
        refine ⟨_, rfl, _, rfl, _, _, rfl, rfl, cm bs bs, _, rfl, _, _, rfl, rfl, cm bs b4, _, _, rfl, rfl, _, _, rfl, rfl, _, _, rfl, rfl, (by decide : (0 : Int) < 2147483563), _, rfl, r, _, _, 3, rfl, rfl, hr0, rfl, ?_⟩
        have hR2 : SqL K (upd H' r (.lst [.ref L, .int i, .int c, .int ((sd * sd + sd * 40123 + 70001) % 2147483563)])) r [.ref L, .int i, .int c, .int ((sd * sd + sd * 40123 + 70001) % 2147483563)] := .inl (.inl upd_same)
        have b5 : B 7 59 := by unfold B; decide
        have b6 : ∀ e : Int, B 13 (e % 8111) := fun e => by unfold B; have := Int.emod_nonneg e (show (8111 : Int) ≠ 0 by decide); have := Int.emod_lt_of_pos e (show (0 : Int) < 8111 by decide); omega
        have b7 : B 8 229 := by unfold B; decide
        refine ⟨_, rfl, _, _, _, _, rfl, rfl, hR2, ix3, _, _, rfl, rfl, cdW (by decide) b5, _, rfl, _, _, _, _, rfl, rfl, hR2, ix3, _, _, rfl, rfl, (by decide : (0 : Int) < 8111), _, _, rfl, rfl, cm (b6 _) b7, _, _, rfl, rfl, _, rfl, _, _, rfl, rfl, hm, ?_⟩
        exact q _ _ (Int.emod_nonneg _ (by omega)) (Int.emod_lt_of_pos _ hm) (mo _ _ hc h1 h2)
    · have hR : SqL K H r [.ref L, .int i, .int c, .int sd] := .inl (.inl hr0)
      have hLL : SqL K H L (ns.map V.int) := .inl (.inl hL)
      refine ⟨_, rfl, _, _, _, _, rfl, rfl, hR, ix2, rfl, _, rfl, brEq (fun hc0 => ?_) (fun hc0 => ?_)⟩
      · refine ⟨_, rfl, _, _, _, _, rfl, rfl, hR, ix1, _, rfl, _, _, _, _, rfl, rfl, hR, ix0, L, _, rfl, .inl hLL, _, _, rfl, rfl, _, rfl, brI (fun hlt => ?_) (fun hlt => ?_)⟩
        · rw [List.length_map] at hlt
          obtain ⟨k, rfl⟩ := Int.eq_ofNat_of_zero_le hi
          have hk : k < ns.length := by omega
          refine ⟨_, rfl, _, _, _, _, rfl, rfl, hR, ix0, _, rfl, _, _, _, _, rfl, rfl, hR, ix1, L, _, _, .int ns[k], rfl, rfl, hLL, atI_nat (by rw [List.getElem?_map, List.getElem?_eq_getElem hk]; rfl), ?_⟩
          refine ⟨_, rfl, _, _, _, _, rfl, rfl, hR, ix1, _, _, rfl, rfl, _, rfl, r, _, _, 1, rfl, rfl, hr0, rfl, ?_⟩
          have hR2 : SqL K (upd H r (.lst [.ref L, .int (k + 1), .int c, .int sd])) r [.ref L, .int (k + 1), .int c, .int sd] := .inl (.inl upd_same)
          refine ⟨_, rfl, _, _, rfl, rfl, (⟨by decide, by decide, by decide⟩ : CPow 10 18), _, _, rfl, rfl, _, rfl, brI (fun hbig => ?_) (fun hbig => ?_)⟩
          · refine ⟨_, rfl, _, rfl, r, _, _, 2, rfl, rfl, upd_same, rfl, ?_⟩
            refine fin _ _ ⟨k + 1, ns[k], sd, _, rfl, fun a o n e => ?_, ?_, ?_, by omega, ?_, hs0, hs1⟩
            · rw [upd_ne n, upd_ne n]; exact e
            · rw [upd_same]; rfl
            · rw [upd_ne nL, upd_ne nL]; exact hL
            · have : (10 : Int) ^ (18 : Int).toNat ≤ ns[k] := hbig
              have h10 : (0 : Int) ≤ 10 ^ (18 : Int).toNat := by decide
              omega
          · have bs : B 31 sd := by unfold B; omega
            have b4 : B 20 40692 := by unfold B; decide
            have b6 : B 32 (ns[k] % 2147483563) := by unfold B; have := Int.emod_nonneg ns[k] (show (2147483563 : Int) ≠ 0 by decide); have := Int.emod_lt_of_pos ns[k] (show (0 : Int) < 2147483563 by decide); omega
            have b7 : B 8 67 := by unfold B; decide
            refine ⟨_, rfl, _, _, _, _, rfl, rfl, hR2, ix3, _, _, rfl, rfl, cm bs b4, _, rfl, _, _, rfl, rfl, (by decide : (0 : Int) < 2147483563), _, _, rfl, rfl, cm b6 b7, _, _, rfl, rfl, _, rfl, _, _, _, _, rfl, rfl, hR2, ix1, _, _, rfl, rfl, _, _, rfl, rfl, (by decide : (0 : Int) < 2147483563), _, rfl, r, _, _, 3, rfl, rfl, upd_same, rfl, ?_⟩
            refine fin _ _ ⟨k + 1, c, (sd * 40692 + ns[k] % 2147483563 * 67 + (k + 1)) % 2147483563, _, rfl, fun a o n e => ?_, ?_, ?_, by omega, hc, Int.emod_nonneg _ (by decide), Int.emod_lt_of_pos _ (by decide)⟩
            · rw [upd_ne n, upd_ne n]; exact e
            · rw [upd_same]; rfl
            · rw [upd_ne nL, upd_ne nL]; exact hL
        · exact fin _ _ ⟨i, c, sd, _, rfl, fun a o n e => e, hr0, hL, hi, hc, hs0, hs1⟩
      · exact fin _ _ ⟨i, c, sd, _, rfl, fun a o n e => e, hr0, hL, hi, hc, hs0, hs1⟩
theorem ok_l_choice (T : Txt K mg) : FnOk P w K mg base CX0 2 T.f_l_choice T.d_l_choice Ps_l_choice (spChoice K) := by
  refine T.F_l_choice.ok sc_l_choice (fun vs H Q E h => ?_) (fun cdv A outer s H vs Q E hr h => ?_)
  · obtain ⟨a, l, xs, rfl, _⟩ := h; rfl
  · obtain ⟨r, l, xs, rfl, hx, hlr, h0, hl, hR, q⟩ := h
    refine ⟨_, (pss_one (ps_ret (pe_ix ix_list (pv 1) (pe_call (ok_l_draw T) hr (by rfl) T.g_l_draw T.F_l_draw.kp T.b_l_draw .nil pass0 (pa_cons (pv 0) (pa_cons (pe_callB call_len_seq (by rfl) T.m_len PySem.boot_len (pa_cons (pv 1) pa_nil)) pa_nil))) (fun _ _ => rfl)))), ?_⟩
    refine ⟨_, rfl, _, rfl, _, rfl, l, xs, rfl, .inl hx, r, _, rfl, by omega, ?_, hR, fun x H' x0 x1 mo => ?_⟩
    · show B 2000 (xs.length : Int)
      exact B.mono (n := 20) (show (xs.length : Int).natAbs < 2 ^ 20 by omega)
    · obtain ⟨j, rfl⟩ := Int.eq_ofNat_of_zero_le x0
      have hj : j < xs.length := by omega
      exact ⟨l, xs, _, xs[j], rfl, rfl, sql_mo mo hlr hx, atI_nat (List.getElem?_eq_getElem hj), q _ _ (List.getElem_mem hj) mo⟩
theorem ok_l_equal (T : Txt K mg) : ∀ n : Nat, FnOk P w K mg base CX0 (n + 1) T.f_l_equal T.d_l_equal Ps_l_equal (spEqual K n) := by
  intro n
  induction n with
  | zero =>
    refine T.F_l_equal.ok sc_l_equal (fun vs H Q E h => ?_) (fun cdv A outer s H vs Q E hr h => ?_)
    · obtain ⟨x, y, d, rfl, _⟩ := h; rfl
    · obtain ⟨x, y, d, rfl, h1, h2, hd, hw, q⟩ := h
      exact absurd hd (Nat.not_lt_zero _)
  | succ n IH =>
    refine T.F_l_equal.ok sc_l_equal (fun vs H Q E h => ?_) (fun cdv A outer s H vs Q E hr h => ?_)
    · obtain ⟨x, y, d, rfl, _⟩ := h; rfl
    · obtain ⟨x, y, d, rfl, h1, h2, hd, hw, q⟩ := h
      refine ⟨_, (pss_cons (ps_if (pt_cmpR op_isN (pv 1) pe_non (nomark _)) (pss_one (ps_ret (pe_cmpR op_isN (pv 0) pe_non (nomark _)))) pss_nil)
      (pss_cons (ps_if (PW.pt (pw_or (pt_val (pe_callB call_isi (by rfl) T.m_isinstance (by decide +kernel) (pa_cons (pv 1) (pa_cons (pe_bltn (v := .ty "list") (u := .type "list") (by rfl) T.m_list (by decide +kernel) rfl) pa_nil)))) (pw_or1 (pt_val (pe_callB call_isi (by rfl) T.m_isinstance (by decide +kernel) (pa_cons (pv 1) (pa_cons (pe_bltn (v := .ty "tuple") (u := .type "tuple") (by rfl) T.m_tuple (by decide +kernel) rfl) pa_nil))))))) (pss_cons (ps_if (PW.pt (pw_or (pt_cmpR op_ne (pe_callB call_isi (by rfl) T.m_isinstance (by decide +kernel) (pa_cons (pv 0) (pa_cons (pe_bltn (v := .ty "list") (u := .type "list") (by rfl) T.m_list (by decide +kernel) rfl) pa_nil))) (pe_callB call_isi (by rfl) T.m_isinstance (by decide +kernel) (pa_cons (pv 1) (pa_cons (pe_bltn (v := .ty "list") (u := .type "list") (by rfl) T.m_list (by decide +kernel) rfl) pa_nil))) (nomark _)) (pw_or1 (pt_cmpR op_ne (pe_callB call_isi (by rfl) T.m_isinstance (by decide +kernel) (pa_cons (pv 0) (pa_cons (pe_bltn (v := .ty "tuple") (u := .type "tuple") (by rfl) T.m_tuple (by decide +kernel) rfl) pa_nil))) (pe_callB call_isi (by rfl) T.m_isinstance (by decide +kernel) (pa_cons (pv 1) (pa_cons (pe_bltn (v := .ty "tuple") (u := .type "tuple") (by rfl) T.m_tuple (by decide +kernel) rfl) pa_nil))) (nomark _))))) (pss_one (ps_ret pe_bl)) pss_nil)
      (pss_one (ps_ret (pe_and (pe_cmpR op_eq (pe_callB call_len_seq (by rfl) T.m_len PySem.boot_len (pa_cons (pv 0) pa_nil)) (pe_callB call_len_seq (by rfl) T.m_len PySem.boot_len (pa_cons (pv 1) pa_nil)) (nomark _)) (pe_one (pe_callB (cr_all rfl) (by rfl) T.m_all (by decide +kernel) (pa_cons (pe_lc (own := [("_law_a", 2), ("_law_b", 3)]) (g := (gTup K 2 (gCons (gName 2) (gCons (gName 3) gNil)))) (tt := tYes) rfl sc_l_equal.nd (RZ.pi_zipA (by rfl) T.m_zip (pa_cons (pv 0) (pa_cons (pv 1) pa_nil))) (blkOk_by (N := N_l_equal) (sc := defScope s_l_equal) (by decide +kernel)) (fun _ _ _ _ _ => (pg_tup rfl (pgs_cons (pg_name (i := 2) sc_l_equal.nd rfl (Or.inl rfl)) (pgs_cons (pg_name (i := 3) sc_l_equal.nd rfl (Or.inl rfl)) pgs_nil)))) (fun _ _ _ _ _ => pts_nil) (fun _ _ _ _ _ => (pe_call IH hr (by rfl) T.g_l_equal T.F_l_equal.kp T.b_l_equal .nil pass0 (pa_cons (pv 2) (pa_cons (pv 3) pa_nil))))) pa_nil))))))) pss_nil)
      (pss_cons (ps_if (PW.pt (pw_or (pt_cmpR op_ne (pe_callB call_isi (by rfl) T.m_isinstance (by decide +kernel) (pa_cons (pv 1) (pa_cons (pe_bltn (v := .ty "bool") (u := .type "bool") (by rfl) T.m_bool (by decide +kernel) rfl) pa_nil))) (pe_callB call_isi (by rfl) T.m_isinstance (by decide +kernel) (pa_cons (pv 0) (pa_cons (pe_bltn (v := .ty "bool") (u := .type "bool") (by rfl) T.m_bool (by decide +kernel) rfl) pa_nil))) (nomark _)) (pw_or1 (pt_cmpR op_ne (pe_callB call_isi (by rfl) T.m_isinstance (by decide +kernel) (pa_cons (pv 1) (pa_cons (pe_bltn (v := .ty "int") (u := .type "int") (by rfl) T.m_int (by decide +kernel) rfl) pa_nil))) (pe_callB call_isi (by rfl) T.m_isinstance (by decide +kernel) (pa_cons (pv 0) (pa_cons (pe_bltn (v := .ty "int") (u := .type "int") (by rfl) T.m_int (by decide +kernel) rfl) pa_nil))) (nomark _))))) (pss_one (ps_ret pe_bl)) pss_nil)
      (pss_one (ps_ret (pe_and (pe_cmpR op_eq (pe_callB call_isi (by rfl) T.m_isinstance (by decide +kernel) (pa_cons (pv 0) (pa_cons (pe_bltn (v := .ty "str") (u := .type "str") (by rfl) T.m_str (by decide +kernel) rfl) pa_nil))) (pe_callB call_isi (by rfl) T.m_isinstance (by decide +kernel) (pa_cons (pv 1) (pa_cons (pe_bltn (v := .ty "str") (u := .type "str") (by rfl) T.m_str (by decide +kernel) rfl) pa_nil))) (nomark _)) (pe_one (pe_cmpR op_eq (pv 0) (pv 1) (nomark _))))))))), ?_⟩
      cases d with
      | none =>
        cases h1; cases h2
        refine ⟨_, rfl, rfl, _, rfl, iteT ?_⟩
        exact ⟨_, rfl, rfl, q _ (Same.refl _)⟩
      | bool b =>
        cases h1; cases h2
        have ty : TyX K H (.bl b) (.type "bool") := .base (.bl b)
        refine ⟨_, rfl, rfl, _, rfl, iteF ?_⟩
        refine ⟨_, rfl, _, _, _, _, _, rfl, .ty _, ty, kt_bool_list, _, rfl, iteF ⟨_, rfl, _, _, _, _, _, rfl, .ty _, ty, kt_bool_tuple, _, rfl, iteF ?_⟩⟩
        refine ⟨_, rfl, _, _, _, _, _, rfl, .ty _, ty, kt_bool_bool, _, rfl, _, _, _, _, _, rfl, .ty _, ty, kt_bool_bool, rfl, _, rfl, iteF ⟨_, rfl, _, _, _, _, _, rfl, .ty _, ty, kt_bool_int, _, rfl, _, _, _, _, _, rfl, .ty _, ty, kt_bool_int, rfl, _, rfl, iteF ?_⟩⟩
        refine ⟨_, rfl, _, _, _, _, _, rfl, .ty _, ty, kt_bool_str, _, rfl, _, _, _, _, _, rfl, .ty _, ty, kt_bool_str, rfl, _, rfl, iteT ?_⟩
        refine ⟨_, rfl, _, rfl, rfl, ?_⟩
        rw [decide_eq_true rfl]; exact q _ (Same.refl _)
      | int b =>
        cases h1; cases h2
        have ty : TyX K H (.int b) (.type "int") := .base (.int b)
        refine ⟨_, rfl, rfl, _, rfl, iteF ?_⟩
        refine ⟨_, rfl, _, _, _, _, _, rfl, .ty _, ty, kt_int_list, _, rfl, iteF ⟨_, rfl, _, _, _, _, _, rfl, .ty _, ty, kt_int_tuple, _, rfl, iteF ?_⟩⟩
        refine ⟨_, rfl, _, _, _, _, _, rfl, .ty _, ty, kt_int_bool, _, rfl, _, _, _, _, _, rfl, .ty _, ty, kt_int_bool, rfl, _, rfl, iteF ⟨_, rfl, _, _, _, _, _, rfl, .ty _, ty, kt_int_int, _, rfl, _, _, _, _, _, rfl, .ty _, ty, kt_int_int, rfl, _, rfl, iteF ?_⟩⟩
        refine ⟨_, rfl, _, _, _, _, _, rfl, .ty _, ty, kt_int_str, _, rfl, _, _, _, _, _, rfl, .ty _, ty, kt_int_str, rfl, _, rfl, iteT ?_⟩
        refine ⟨_, rfl, _, rfl, rfl, ?_⟩
        rw [decide_eq_true rfl]; exact q _ (Same.refl _)
      | str b =>
        cases h1; cases h2
        have ty : TyX K H (.str b) (.type "str") := .base (.str b)
        refine ⟨_, rfl, rfl, _, rfl, iteF ?_⟩
        refine ⟨_, rfl, _, _, _, _, _, rfl, .ty _, ty, kt_str_list, _, rfl, iteF ⟨_, rfl, _, _, _, _, _, rfl, .ty _, ty, kt_str_tuple, _, rfl, iteF ?_⟩⟩
        refine ⟨_, rfl, _, _, _, _, _, rfl, .ty _, ty, kt_str_bool, _, rfl, _, _, _, _, _, rfl, .ty _, ty, kt_str_bool, rfl, _, rfl, iteF ⟨_, rfl, _, _, _, _, _, rfl, .ty _, ty, kt_str_int, _, rfl, _, _, _, _, _, rfl, .ty _, ty, kt_str_int, rfl, _, rfl, iteF ?_⟩⟩
        refine ⟨_, rfl, _, _, _, _, _, rfl, .ty _, ty, kt_str_str, _, rfl, _, _, _, _, _, rfl, .ty _, ty, kt_str_str, rfl, _, rfl, iteT ?_⟩
        refine ⟨_, rfl, _, rfl, rfl, ?_⟩
        rw [decide_eq_true rfl]; exact q _ (Same.refl _)
      | dict b => cases h1
      | list ds =>
        cases h1 with
        | @lst p xs _ hs ha =>
        cases h2 with
        | @lst p2 ys _ hs2 ha2 =>
        have ty : TyX K H (.ref p) (.type "list") := ty_list hs
        have ty2 : TyX K H (.ref p2) (.type "list") := ty_list hs2
        have e1 := DpAll_len ha
        have e2 := DpAll_len ha2
        refine ⟨_, rfl, rfl, _, rfl, iteF ?_⟩
        refine ⟨_, rfl, _, _, _, _, _, rfl, .ty _, ty2, kt_list_list, _, rfl, iteT (iteT ?_)⟩
        refine ⟨_, rfl, _, _, _, _, _, rfl, .ty _, ty, kt_list_list, _, rfl, _, _, _, _, _, rfl, .ty _, ty2, kt_list_list, rfl, _, rfl, iteF ⟨_, rfl, _, _, _, _, _, rfl, .ty _, ty, kt_list_tuple, _, rfl, _, _, _, _, _, rfl, .ty _, ty2, kt_list_tuple, rfl, _, rfl, iteF ?_⟩⟩
        refine ⟨_, rfl, p, xs, rfl, .inl hs, _, rfl, p2, ys, rfl, .inl hs2, rfl, _, rfl, brEq (fun _ => ?_) (fun z => absurd (by omega) z)⟩
        refine ⟨_, rfl, _, rfl, p, p2, xs, ys, rfl, .inl ⟨hs, hs2, fun D nD => ?_⟩⟩
        refine lc_it (walk_zip (n := ds.length) (by omega)) (fun i H' => Same H H' ∧ H' D = some (.lst (List.replicate i (.bl true)))) ⟨same_upd nD, upd_same⟩ (fun i H' _ h => ⟨Evl.ex_l h.1 hs, Evl.ex_l h.1 hs2⟩) ?_ ?_
        · rintro i x H1 H2 hi ⟨sH, hD⟩ ⟨U, x1, x2, rfl, nU, rfl, g1, g2⟩
          have sU := same_upd (o := HO.tup [x1, x2]) nU
          obtain ⟨d1, k1, q1⟩ := DpAll_get ha g1
          obtain ⟨d2, k2, q2⟩ := DpAll_get ha2 g2
          rw [k1] at k2; cases k2
          have hdep := deps_get k1
          refine ⟨U, [x1, x2], rfl, .inl (.inl upd_same), rfl, x1, [x2], rfl, x2, [], rfl, rfl, rfl, ?_⟩
          refine ⟨_, rfl, _, rfl, x1, x2, d1, rfl, Dp_same (sH.trans sU) q1, Dp_same (sH.trans sU) q2, by unfold dep at hd; omega, by unfold wd at hw; have := wds_get k1; omega, fun H4 s4 => ?_⟩
          refine ⟨_, s4 _ _ (sU _ _ hD), ?_, ?_, ?_⟩
          · rw [List.length_replicate]; exact Nat.lt_of_lt_of_le (show i < 1000000 by unfold wd at hw; omega) (by decide)
          · intro b o e
            have nb : b ≠ D := fun z => by subst z; rw [nD] at e; cases e
            rw [upd_ne nb]; exact s4 _ _ (sU _ _ (sH _ _ e))
          · rw [upd_same, List.replicate_succ']
        · rintro H1 ⟨sH, hD⟩
          refine ⟨D, List.replicate ds.length true, rfl, .inl (.inl ?_), ?_⟩
          · rw [List.map_replicate]; exact hD
          · rw [all_true]; exact q _ sH
      | tuple ds =>
        cases h1 with
        | @tup p xs _ hs ha =>
        cases h2 with
        | @tup p2 ys _ hs2 ha2 =>
        have ty : TyX K H (.ref p) (.type "tuple") := ty_tuple hs
        have ty2 : TyX K H (.ref p2) (.type "tuple") := ty_tuple hs2
        have e1 := DpAll_len ha
        have e2 := DpAll_len ha2
        refine ⟨_, rfl, rfl, _, rfl, iteF ?_⟩
        refine ⟨_, rfl, _, _, _, _, _, rfl, .ty _, ty2, kt_tuple_list, _, rfl, iteF ⟨_, rfl, _, _, _, _, _, rfl, .ty _, ty2, kt_tuple_tuple, _, rfl, iteT ?_⟩⟩
        refine ⟨_, rfl, _, _, _, _, _, rfl, .ty _, ty, kt_tuple_list, _, rfl, _, _, _, _, _, rfl, .ty _, ty2, kt_tuple_list, rfl, _, rfl, iteF ⟨_, rfl, _, _, _, _, _, rfl, .ty _, ty, kt_tuple_tuple, _, rfl, _, _, _, _, _, rfl, .ty _, ty2, kt_tuple_tuple, rfl, _, rfl, iteF ?_⟩⟩
        refine ⟨_, rfl, p, xs, rfl, .inr hs, _, rfl, p2, ys, rfl, .inr hs2, rfl, _, rfl, brEq (fun _ => ?_) (fun z => absurd (by omega) z)⟩
        refine ⟨_, rfl, _, rfl, p, p2, xs, ys, rfl, .inr ⟨hs, hs2, fun D nD => ?_⟩⟩
        refine lc_it (walk_zipT (n := ds.length) (by omega)) (fun i H' => Same H H' ∧ H' D = some (.lst (List.replicate i (.bl true)))) ⟨same_upd nD, upd_same⟩ (fun i H' _ h => ⟨Evl.ex_t h.1 hs, Evl.ex_t h.1 hs2⟩) ?_ ?_
        · rintro i x H1 H2 hi ⟨sH, hD⟩ ⟨U, x1, x2, rfl, nU, rfl, g1, g2⟩
          have sU := same_upd (o := HO.tup [x1, x2]) nU
          obtain ⟨d1, k1, q1⟩ := DpAll_get ha g1
          obtain ⟨d2, k2, q2⟩ := DpAll_get ha2 g2
          rw [k1] at k2; cases k2
          have hdep := deps_get k1
          refine ⟨U, [x1, x2], rfl, .inl (.inl upd_same), rfl, x1, [x2], rfl, x2, [], rfl, rfl, rfl, ?_⟩
          refine ⟨_, rfl, _, rfl, x1, x2, d1, rfl, Dp_same (sH.trans sU) q1, Dp_same (sH.trans sU) q2, by unfold dep at hd; omega, by unfold wd at hw; have := wds_get k1; omega, fun H4 s4 => ?_⟩
          refine ⟨_, s4 _ _ (sU _ _ hD), ?_, ?_, ?_⟩
          · rw [List.length_replicate]; exact Nat.lt_of_lt_of_le (show i < 1000000 by unfold wd at hw; omega) (by decide)
          · intro b o e
            have nb : b ≠ D := fun z => by subst z; rw [nD] at e; cases e
            rw [upd_ne nb]; exact s4 _ _ (sU _ _ (sH _ _ e))
          · rw [upd_same, List.replicate_succ']
        · rintro H1 ⟨sH, hD⟩
          refine ⟨D, List.replicate ds.length true, rfl, .inl (.inl ?_), ?_⟩
          · rw [List.map_replicate]; exact hD
          · rw [all_true]; exact q _ sH
theorem ok_l_small (T : Txt K mg) : FnOk P w K mg base CX0 3 T.f_l_small T.d_l_small Ps_l_small (spDrawn K 5) := by
  refine T.F_l_small.ok sc_l_small (fun vs H Q E h => ?_) (fun cdv A outer s H vs Q E hr h => ?_)
  · obtain ⟨r, rfl, _⟩ := h; rfl
  · obtain ⟨r, rfl, hR, q⟩ := h
    refine ⟨_, (pss_one (ps_ret (pe_call (ok_l_reduce T) hr (by rfl) T.g_l_reduce T.F_l_reduce.kp T.b_l_reduce .nil pass0 (pa_cons (pe_op op_sub (pe_call (ok_l_draw T) (hr.mono (by decide)) (by rfl) T.g_l_draw T.F_l_draw.kp T.b_l_draw .nil pass0 (pa_cons (pv 0) (pa_cons pe_int pa_nil))) pe_int) (pa_cons (pe_call (ok_l_choice T) hr (by rfl) T.g_l_choice T.F_l_choice.kp T.b_l_choice .nil pass0 (pa_cons (pv 0) (pa_cons (pe_lst (pa_cons pe_int (pa_cons pe_int (pa_cons pe_int (pa_cons pe_int (pa_cons pe_int pa_nil)))))) pa_nil))) pa_nil))))), ?_⟩
    refine ⟨_, rfl, r, 25, rfl, by decide, (B.of (n := 10) (by decide)).mono, hR, fun x H1 x0 x1 m1 => ?_⟩
    refine ⟨_, _, rfl, rfl, _, rfl, sizeLine2 (by simp), fun l nl => ?_⟩
    have m2 := Mo.new (o := HO.lst [.int 1, .int 1, .int 2, .int 3, .int 4]) m1.b nl
    refine ⟨r, l, _, rfl, .inl (.inl upd_same), m1.b.ne nl, by simp, by simp, m2.b, fun y H2 hy m3 => ?_⟩
    obtain ⟨d, rfl, hd⟩ : ∃ d : Int, y = .int d ∧ 1 ≤ d ∧ d ≤ 4 := by
      simp only [List.mem_cons, List.not_mem_nil, or_false] at hy
      rcases hy with rfl | rfl | rfl | rfl | rfl <;> exact ⟨_, rfl, by decide, by decide⟩
    have bn : B 5 (x - 12) := B.of (by omega)
    have bd : B 5 d := B.of (by omega)
    refine ⟨_, d, rfl, by omega, bn.mono, bd.mono, fun v H3 s f => ?_⟩
    exact q v _ _ H3 (((m1.trans m2).trans m3).trans (.same m3.b s)) (.red (by omega) f bn bd)
theorem ok_l_positive (T : Txt K mg) : FnOk P w K mg base CX0 3 T.f_l_positive T.d_l_positive Ps_l_positive (spDrawnP K 40) := by
  refine T.F_l_positive.ok sc_l_positive (fun vs H Q E h => ?_) (fun cdv A outer s H vs Q E hr h => ?_)
  · obtain ⟨r, rfl, _⟩ := h; rfl
  · obtain ⟨r, rfl, hR, q⟩ := h
    refine ⟨_, (pss_one (ps_ret (pe_call (ok_l_reduce T) hr (by rfl) T.g_l_reduce T.F_l_reduce.kp T.b_l_reduce .nil pass0 (pa_cons (pe_op op_add pe_int (pe_call (ok_l_choice T) hr (by rfl) T.g_l_choice T.F_l_choice.kp T.b_l_choice .nil pass0 (pa_cons (pv 0) (pa_cons (pe_lst (pa_cons (pe_call (ok_l_draw T) (hr.mono (by decide)) (by rfl) T.g_l_draw T.F_l_draw.kp T.b_l_draw .nil pass0 (pa_cons (pv 0) (pa_cons pe_int pa_nil))) (pa_cons (pe_call (ok_l_draw T) (hr.mono (by decide)) (by rfl) T.g_l_draw T.F_l_draw.kp T.b_l_draw .nil pass0 (pa_cons (pv 0) (pa_cons (pe_op op_pow pe_int pe_int) pa_nil))) pa_nil))) pa_nil)))) (pa_cons (pe_call (ok_l_choice T) hr (by rfl) T.g_l_choice T.F_l_choice.kp T.b_l_choice .nil pass0 (pa_cons (pv 0) (pa_cons (pe_lst (pa_cons pe_int (pa_cons pe_int (pa_cons pe_int (pa_cons (pe_op op_add pe_int (pe_call (ok_l_draw T) (hr.mono (by decide)) (by rfl) T.g_l_draw T.F_l_draw.kp T.b_l_draw .nil pass0 (pa_cons (pv 0) (pa_cons (pe_op op_pow pe_int pe_int) pa_nil)))) pa_nil))))) pa_nil))) pa_nil))))), ?_⟩
    have c6 : CPow 10 6 := ⟨by decide, by decide, by decide⟩
    refine ⟨_, rfl, _, rfl, r, 6, rfl, by decide, (B.of (n := 10) (by decide)).mono, hR, fun x H1 x0 x1 m1 => ?_⟩
    refine ⟨_, rfl, _, _, rfl, rfl, c6, r, _, rfl, by decide, (B.of (n := 41) (by decide)).mono, m1.b, fun y H2 y0 y1 m2 => ?_⟩
    refine ⟨sizeLine2 (by simp), fun l nl => ?_⟩
    have m3 := Mo.new (o := HO.lst [.int x, .int y]) m2.b nl
    refine ⟨r, l, _, rfl, .inl (.inl upd_same), m2.b.ne nl, by simp, by simp, m3.b, fun z H3 hz m4 => ?_⟩
    simp only [Int.reduceToNat, Int.reducePow] at y1
    obtain ⟨n, rfl, hn⟩ : ∃ d : Int, z = .int d ∧ 0 ≤ d ∧ d < 1000000 := by
      simp only [List.mem_cons, List.not_mem_nil, or_false] at hz
      rcases hz with rfl | rfl
      · exact ⟨_, rfl, by omega, by omega⟩
      · exact ⟨_, rfl, by omega, by omega⟩
    refine ⟨_, _, rfl, rfl, _, rfl, _, rfl, _, _, rfl, rfl, c6, r, _, rfl, by decide, (B.of (n := 41) (by decide)).mono, m4.b, fun u H4 u0 u1 m5 => ?_⟩
    simp only [Int.reduceToNat, Int.reducePow] at u1
    refine ⟨_, _, rfl, rfl, sizeLine2 (by simp), fun l2 nl2 => ?_⟩
    have m6 := Mo.new (o := HO.lst [.int 1, .int 2, .int 3, .int (1 + u)]) m5.b nl2
    refine ⟨r, l2, _, rfl, .inl (.inl upd_same), m5.b.ne nl2, by simp, by simp, m6.b, fun z H5 hz m7 => ?_⟩
    obtain ⟨d, rfl, hd⟩ : ∃ d : Int, z = .int d ∧ 1 ≤ d ∧ d ≤ 1000000 := by
      simp only [List.mem_cons, List.not_mem_nil, or_false] at hz
      rcases hz with rfl | rfl | rfl | rfl
      · exact ⟨_, rfl, by omega, by omega⟩
      · exact ⟨_, rfl, by omega, by omega⟩
      · exact ⟨_, rfl, by omega, by omega⟩
      · exact ⟨_, rfl, by omega, by omega⟩
    have bn : B 40 (1 + n) := B.of (by simp only [Nat.reducePow]; omega)
    have bd : B 40 d := B.of (by simp only [Nat.reducePow]; omega)
    refine ⟨_, d, rfl, by omega, bn.mono, bd.mono, fun v H6 s f => ?_⟩
    refine q v _ _ H6 ((((((m1.trans m2).trans m3).trans m4).trans m5).trans m6).trans m7 |>.trans (.same m7.b s)) (.red (by omega) f bn bd) ?_
    exact rn_pos (by omega) (by omega)
end
end EP
namespace EP
open PySem PySem.Spec PyProof.Rows L2
section
variable {P : Program} {w : World} {K : PySem.W.Frag} {mg : Str → Option Value} {base : Heap}
def spEnds (K : PySem.W.Frag) : Sp := fun vs H Q _ => ∃ (a : Addr) (us : List V) (xs : Sps), vs = [.ref a] ∧ SqT K H a us ∧ DpAll K H us (xs.map dsp) ∧ xs.length < 1000 ∧ (∀ x ∈ xs, Bq 100 x.1 ∧ Bq 100 x.2) ∧ ∀ D us' H', Same H H' → H' D = some (.lst us') → DpAll K H' us' ((ends xs).map dq) → Q (.ref D) H'
theorem noLs_dq (l : List Rat) : noLs (l.map dq) = true := noLs_all fun d h => by
  obtain ⟨x, _, rfl⟩ := List.mem_map.mp h; exact noL_dq x
theorem get_dsp {H : Hp} {us : List V} {xs : Sps} {i : Nat} {u : V} (h : DpAll K H us (xs.map dsp)) (e : us[i]? = some u) : ∃ x, xs[i]? = some x ∧ Dp K H u (dsp x) := by
  obtain ⟨d, h1, h2⟩ := DpAll_get h e
  rw [List.getElem?_map] at h1
  cases hx : xs[i]? with
  | none => rw [hx] at h1; cases h1
  | some x => rw [hx] at h1; cases Option.some.inj h1; exact ⟨x, rfl, h2⟩
theorem ok_span_ends (T : Txt K mg) : FnOk P w K mg base CX0 4 T.f_span_ends T.d_span_ends Ps_span_ends (spEnds K) := by
  refine T.F_span_ends.ok sc_span_ends (fun vs H Q E h => ?_) (fun cdv A outer s H vs Q E hr h => ?_)
  · obtain ⟨x, _, _, rfl, _⟩ := h; rfl
  · obtain ⟨a, us, xs, rfl, ha, hu, hl, hb, q⟩ := h
    refine ⟨_, (pss_one (ps_ret (pe_lc (own := [("begin", 1), ("length", 2)]) (g := (gTup K 2 (gCons (gName 1) (gCons (gName 2) gNil)))) (tt := tYes) rfl sc_span_ends.nd (pi_tup (pv 0)) (blkOk_by (N := N_span_ends) (sc := defScope s_span_ends) (by decide +kernel)) (fun _ _ _ _ _ => (pg_tup rfl (pgs_cons (pg_name (i := 1) sc_span_ends.nd rfl (Or.inl rfl)) (pgs_cons (pg_name (i := 2) sc_span_ends.nd rfl (Or.inl rfl)) pgs_nil)))) (fun _ _ _ _ _ => pts_nil) (fun _ _ _ _ _ => (pe_call (ok_add T) hr (by rfl) T.g_add T.F_add.kp T.b_add .nil pass0 (pa_cons (pv 1) (pa_cons (pv 2) pa_nil))))))), ?_⟩
    have el : us.length = xs.length := by rw [DpAll_len hu, List.length_map]
    refine ⟨_, rfl, a, rfl, ⟨_, ha⟩, fun D nD => ?_⟩
    refine lc_map (K := K) (walk_tup (xs := us)) ((ends xs).map dq) nD (by rw [List.length_map, ends, List.length_map, el]) (by omega) (noLs_dq _) (fun H' s => Evl.ex_t s ha) ?_ (fun H' us' s h1 h2 => q D us' H' s h1 h2)
    rintro i x d H1 H2 hi hd s1 ⟨rfl, hx⟩ R k
    obtain ⟨z, hz, dz⟩ := get_dsp hu hx
    have hdz : d = dq (z.1 + z.2) := by
      rw [List.getElem?_map, ends, List.getElem?_map, hz] at hd; exact (Option.some.inj hd).symm
    subst hdz
    obtain ⟨U, v1, v2, rfl, hU, d1, d2⟩ := dp_two (Dp_same s1 dz)
    have bz := hb z (List.mem_of_getElem? hz)
    refine ⟨U, [v1, v2], rfl, hU, rfl, v1, [v2], rfl, v2, [], rfl, rfl, rfl, ?_⟩
    exact ⟨_, rfl, _, rfl, u_add d1 d2 bz.1.mono bz.2.mono fun v H3 s3 f => k v H3 s3 f⟩
def spNexts (K : PySem.W.Frag) : Sp := fun vs H Q _ => ∃ (vP : V) (P : Rat) (a : Addr) (us : List V) (xs : Sps), vs = [vP, .ref a] ∧ Dp K H vP (dq P) ∧ Bq 130 P ∧ SqT K H a us ∧ DpAll K H us (xs.map dsp) ∧ xs.length < 1000 ∧ (∀ x ∈ xs, Bq 100 x.1 ∧ Bq 100 x.2) ∧ ∀ D us' H', Same H H' → H' D = some (.lst us') → DpAll K H' us' ((nexts P xs).map dq) → Q (.ref D) H'
theorem get_dq {H : Hp} {us : List V} {xs : List Rat} {i : Nat} {u : V} (h : DpAll K H us (xs.map dq)) (e : us[i]? = some u) : ∃ x, xs[i]? = some x ∧ Dp K H u (dq x) := by
  obtain ⟨d, h1, h2⟩ := DpAll_get h e
  rw [List.getElem?_map] at h1
  cases hx : xs[i]? with
  | none => rw [hx] at h1; cases h1
  | some x => rw [hx] at h1; cases Option.some.inj h1; exact ⟨x, rfl, h2⟩
theorem cut_from (xs : List V) : cutV xs (some 1) none = xs.drop 1 := by
  unfold cutV
  rw [HT.sIx_none, show HT.sIx xs.length 0 (some 1) = min 1 xs.length from HT.sIx_nat _ _ 1]
  cases xs with
  | nil => rfl
  | cons a l => simp
theorem cut_to (xs : List V) (n : Nat) : cutV xs none (some n) = xs.take n := by
  unfold cutV
  rw [HT.sIx_none, show HT.sIx xs.length xs.length (some (n : Int)) = min n xs.length from HT.sIx_nat _ _ n, List.drop_zero, Nat.sub_zero]
  rcases Nat.le_total n xs.length with h | h
  · rw [Nat.min_eq_left h]
  · rw [Nat.min_eq_right h, List.take_length, List.take_of_length_le h]
theorem cut_drop (xs : List V) (n : Nat) : cutV xs (some n) none = xs.drop n := by
  unfold cutV
  rw [HT.sIx_none, show HT.sIx xs.length 0 (some (n : Int)) = min n xs.length from HT.sIx_nat _ _ n]
  rcases Nat.le_total n xs.length with h | h
  · rw [Nat.min_eq_left h, List.take_of_length_le]; rw [List.length_drop]; exact Nat.le_refl _
  · rw [Nat.min_eq_right h, Nat.sub_self, List.take_zero, List.drop_of_length_le h]
theorem ok_next_begins (T : Txt K mg) : FnOk P w K mg base CX0 4 T.f_next_begins T.d_next_begins Ps_next_begins (spNexts K) := by
  refine T.F_next_begins.ok sc_next_begins (fun vs H Q E h => ?_) (fun cdv A outer s H vs Q E hr h => ?_)
  · obtain ⟨x, _, _, _, _, rfl, _⟩ := h; rfl
  · obtain ⟨vP, P, a, us, xs, rfl, fP, bP, ha, hu, hl, hb, q⟩ := h
    refine ⟨_, (pss_cons (ps_setLc (i := 2) (own := [("begin", 3), ("length", 4)]) (g := (gTup K 2 (gCons (gName 3) (gCons (gName 4) gNil)))) (tt := tYes) rfl sc_next_begins.nd rfl rfl (sw_true rfl rfl rfl (by decide +kernel)) (pi_tup (pv 1)) (blkOk_by (N := N_next_begins) (sc := defScope s_next_begins) (by decide +kernel)) (fun _ _ _ _ _ => (pg_tup rfl (pgs_cons (pg_name (i := 3) sc_next_begins.nd rfl (Or.inl rfl)) (pgs_cons (pg_name (i := 4) sc_next_begins.nd rfl (Or.inl rfl)) pgs_nil)))) (fun _ _ _ _ _ => pts_nil) (fun _ _ _ _ _ => (pv 3)))
      (pss_one (ps_ret (pe_op op_cat (pe_slice sl_list (pv 2) (po_some pe_int) po_none) (pe_lc (own := [("begin", 3)]) (g := (gName 3)) (tt := tYes) rfl sc_next_begins.nd (pi_list (pe_slice sl_list (pv 2) po_none (po_some pe_int))) (blkOk_by (N := N_next_begins) (sc := defScope s_next_begins) (by decide +kernel)) (fun _ _ _ _ _ => (pg_name (i := 3) sc_next_begins.nd rfl (Or.inl rfl))) (fun _ _ _ _ _ => pts_nil) (fun _ _ _ _ _ => (pe_call (ok_add T) hr (by rfl) T.g_add T.F_add.kp T.b_add .nil pass0 (pa_cons (pv 3) (pa_cons (pv 0) pa_nil))))))))), ?_⟩
    have el : us.length = xs.length := by rw [DpAll_len hu, List.length_map]
    refine ⟨_, rfl, a, rfl, ⟨_, ha⟩, fun D nD => ?_⟩
    refine lc_map (K := K) (walk_tup (xs := us)) ((begs xs).map dq) nD (by rw [List.length_map, begs, List.length_map, el]) (by omega) (noLs_dq _) (fun H' s => Evl.ex_t s ha) ?_ ?_
    · rintro i x d H1 H2 hi hd s1 ⟨rfl, hx⟩ R k
      obtain ⟨z, hz, dz⟩ := get_dsp hu hx
      have hdz : d = dq z.1 := by
        rw [List.getElem?_map, begs, List.getElem?_map, hz] at hd; exact (Option.some.inj hd).symm
      subst hdz
      obtain ⟨U, v1, v2, rfl, hU, d1, d2⟩ := dp_two (Dp_same s1 dz)
      refine ⟨U, [v1, v2], rfl, hU, rfl, v1, [v2], rfl, v2, [], rfl, rfl, rfl, ?_⟩
      exact ⟨_, rfl, k _ _ (Same.refl _) d1⟩
    · intro H1 bs s1 hD hbs
      have eb : bs.length = xs.length := by rw [DpAll_len hbs, List.length_map, begs, List.length_map]
      refine ⟨.ref D, rfl, 1, rfl, D, bs, rfl, .inl (.inl hD), fun c nc => ?_⟩
      rw [cut_from]
      have s2 := same_upd (o := HO.lst (bs.drop 1)) nc
      have hc : upd H1 c (.lst (bs.drop 1)) c = some (.lst (bs.drop 1)) := upd_same
      generalize upd H1 c (.lst (bs.drop 1)) = H2 at s2 hc
      refine ⟨.ref D, rfl, 1, rfl, D, bs, rfl, .inl (.inl (s2 _ _ hD)), fun c2 nc2 => ?_⟩
      rw [show cutV bs none (some 1) = bs.take 1 from cut_to bs 1]
      have s3 := same_upd (o := HO.lst (bs.take 1)) nc2
      have hc2 : upd H2 c2 (.lst (bs.take 1)) c2 = some (.lst (bs.take 1)) := upd_same
      generalize upd H2 c2 (.lst (bs.take 1)) = H3 at s3 hc2
      have s13 := s2.trans s3
      have s03 := s1.trans s13
      refine ⟨c2, rfl, ⟨_, .inl (.inl hc2)⟩, fun L nL => ?_⟩
      have hb1 : DpAll K H3 (bs.take 1) (((begs xs).take 1).map dq) := by
        rw [List.map_take]; exact DpAll_take 1 (DpAll_same s13 hbs)
      refine lc_map (K := K) (walk_list (xs := bs.take 1)) ((((begs xs).take 1).map (· + P)).map dq) nL (by rw [List.length_map, List.length_map, List.length_take, List.length_take, begs, List.length_map, eb]) (by rw [List.length_take]; omega) (noLs_dq _) (fun H' s => .inl (.inl (s _ _ hc2))) ?_ ?_
      · rintro i x d H4 H5 hi hd s4 ⟨rfl, hx⟩ R k
        obtain ⟨z, hz, dz⟩ := get_dq hb1 hx
        have hdz : d = dq (z + P) := by
          rw [List.getElem?_map, List.getElem?_map, hz] at hd; exact (Option.some.inj hd).symm
        subst hdz
        have bz : Bq 100 z := by
          have := List.mem_of_mem_take (List.mem_of_getElem? hz)
          obtain ⟨w, hw, rfl⟩ := List.mem_map.mp this
          exact (hb w hw).1
        refine ⟨rfl, ?_⟩
        exact ⟨_, rfl, _, rfl, u_add (Dp_same s4 dz) (Dp_same (s03.trans s4) fP) bz.mono bP.mono fun v H6 s6 f => k v H6 s6 f⟩
      · intro H4 ls s4 hL hls
        refine ⟨c, L, _, _, rfl, rfl, s4 _ _ (s3 _ _ hc), hL, ?_, fun r nr => ?_⟩
        · have := DpAll_len hls
          rw [List.length_drop]
          rw [List.length_map, List.length_map, List.length_take] at this
          exact sizeLine2 (by omega)
        · refine q r _ _ (((s03.trans s4).trans (same_upd nr))) upd_same ?_
          unfold nexts
          rw [List.map_append]
          refine DpAll_same (same_upd nr) (DpAll_append hls ?_)
          rw [List.map_drop]; exact DpAll_drop 1 (DpAll_same (s13.trans s4) hbs)
def spFits (K : PySem.W.Frag) : Sp := fun vs H Q _ => ∃ (u vP : V) (x : Rat × Rat) (P : Rat), vs = [u, vP] ∧ Dp K H u (dsp x) ∧ Dp K H vP (dq P) ∧ Bq 100 P ∧ Bq 100 x.1 ∧ Bq 100 x.2 ∧ ∀ v H', v = .bl (fitsB P x) → H' = H → Q v H'
theorem b_zero : Bq 1 (0 : Rat) := ⟨B.of (by decide), B.of (by decide)⟩
theorem b_one : Bq 1 (1 : Rat) := ⟨B.of (by decide), B.of (by decide)⟩
theorem Txt.z0 (T : Txt K mg) (H : Hp) : Dp K H (.ref T.k_ZERO) (dq 0) := .tup (T.sk_ZERO H) (.cons (.int _) (.cons (.int _) .nil))
theorem Txt.o1 (T : Txt K mg) (H : Hp) : Dp K H (.ref T.k_ONE) (dq 1) := .tup (T.sk_ONE H) (.cons (.int _) (.cons (.int _) .nil))
theorem brB {b : Bool} {A B : Prop} (h1 : b = true → A) (h2 : b = false → B) : if b = true then A else B := by
  cases b
  · exact h2 rfl
  · exact h1 rfl
theorem brNB {b : Bool} {A B : Prop} (h1 : b = false → A) (h2 : b = true → B) : if (!b) = true then A else B := by
  cases b
  · exact h1 rfl
  · exact h2 rfl
theorem ok_fits (T : Txt K mg) : FnOk P w K mg base CX0 2 T.f_fits T.d_fits Ps_fits (spFits K) := by
  refine T.F_fits.ok sc_fits (fun vs H Q E h => ?_) (fun cdv A outer s H vs Q E hr h => ?_)
  · obtain ⟨x, _, _, _, rfl, _⟩ := h; rfl
  · obtain ⟨u, vP, x, P, rfl, hu, hP, bP, b1, b2, q⟩ := h
    refine ⟨_, (pss_cons (ps_asg (pv 0) (pg_tup (by rfl) (pgs_cons (pg_name (i := 2) sc_fits.nd rfl (Or.inl rfl)) (pgs_cons (pg_name (i := 3) sc_fits.nd rfl (Or.inl rfl)) pgs_nil))))
      (pss_cons (ps_if (PW.pt (pw_or (pt_val (pe_call (ok_is_lessQ T) hr (by rfl) T.g_is_less T.F_is_less.kp T.b_is_less .nil pass0 (pa_cons (pv 2) (pa_cons (pe_glob (v := .ref T.k_ZERO) (by rfl) T.gk_ZERO rfl) pa_nil)))) (pw_or1 (pt_not (pt_val (pe_call (ok_is_lessQ T) hr (by rfl) T.g_is_less T.F_is_less.kp T.b_is_less .nil pass0 (pa_cons (pv 2) (pa_cons (pv 1) pa_nil)))))))) (pss_one (ps_ret pe_bl)) pss_nil)
      (pss_one (ps_ret (pe_and (pe_call (ok_is_lessQ T) hr (by rfl) T.g_is_less T.F_is_less.kp T.b_is_less .nil pass0 (pa_cons (pe_glob (v := .ref T.k_ZERO) (by rfl) T.gk_ZERO rfl) (pa_cons (pv 3) pa_nil))) (pe_one (pe_not (pe_call (ok_is_lessQ T) hr (by rfl) T.g_is_less T.F_is_less.kp T.b_is_less .nil pass0 (pa_cons (pv 1) (pa_cons (pv 3) pa_nil)))))))))), ?_⟩
    obtain ⟨U, v1, v2, rfl, hU, d1, d2⟩ := dp_two hu
    unfold fitsB at q
    refine ⟨_, rfl, U, _, rfl, hU, rfl, _, _, rfl, _, _, rfl, rfl, ?_⟩
    refine ⟨_, rfl, _, _, _, _, rfl, d1, (T.z0 _), b1.mono, b_zero.mono, ?_⟩
    rintro _ _ rfl rfl
    refine ⟨_, rfl, brI (fun c => ?_) (fun c => ?_)⟩
    · rw [if_pos c] at q; exact q _ _ rfl rfl
    rw [if_neg c] at q
    refine ⟨_, rfl, _, rfl, _, _, _, _, rfl, d1, hP, b1.mono, bP.mono, ?_⟩
    rintro _ _ rfl rfl
    refine ⟨_, rfl, brNB (fun c => ?_) (fun c => ?_)⟩
    · rw [if_neg (of_decide_eq_false c)] at q; exact q _ _ rfl rfl
    rw [if_pos (of_decide_eq_true c)] at q
    refine ⟨_, rfl, _, _, _, _, rfl, (T.z0 _), d2, b_zero.mono, b2.mono, ?_⟩
    rintro _ _ rfl rfl
    refine ⟨_, rfl, brI (fun c => ?_) (fun c => ?_)⟩
    · rw [if_pos c] at q
      refine ⟨_, rfl, _, rfl, _, _, _, _, rfl, hP, d2, bP.mono, b2.mono, ?_⟩
      rintro _ _ rfl rfl
      exact ⟨_, rfl, q _ _ rfl rfl⟩
    · rw [if_neg c] at q; exact q _ _ rfl rfl
def spIsGate (K : PySem.W.Frag) : Sp := fun vs H Q _ => ∃ (v : V) (pl P : Rat) (xs : Sps), vs = [v] ∧ Dp K H v (dG pl P xs) ∧ Bq 100 P ∧ xs.length < 900 ∧ (∀ x ∈ xs, Bq 100 x.1 ∧ Bq 100 x.2) ∧ ∀ H', Same H H' → Q (.bl (gateB P xs)) H'
theorem get_map {α : Type} {f : α → PyData} {H : Hp} {us : List V} {xs : List α} {i : Nat} {u : V} (h : DpAll K H us (xs.map f)) (e : us[i]? = some u) : ∃ x, xs[i]? = some x ∧ Dp K H u (f x) := by
  obtain ⟨d, h1, h2⟩ := DpAll_get h e
  rw [List.getElem?_map] at h1
  cases hx : xs[i]? with
  | none => rw [hx] at h1; cases h1
  | some x => rw [hx] at h1; cases Option.some.inj h1; exact ⟨x, rfl, h2⟩
theorem noLs_bl (l : List Bool) : noLs (l.map PyData.bool) = true := noLs_all fun d h => by
  obtain ⟨x, _, rfl⟩ := List.mem_map.mp h; simp [noL]
theorem ends_len (xs : Sps) : (ends xs).length = xs.length := by unfold ends; rw [List.length_map]
theorem nexts_len (P : Rat) (xs : Sps) : (nexts P xs).length = xs.length := by
  unfold nexts begs
  rw [List.length_append, List.length_map, List.length_take, List.length_drop, List.length_map]; omega
theorem ok_is_gate (T : Txt K mg) : FnOk P w K mg base CX0 5 T.f_is_gate T.d_is_gate Ps_is_gate (spIsGate K) := by
  refine T.F_is_gate.ok sc_is_gate (fun vs H Q E h => ?_) (fun cdv A outer s H vs Q E hr h => ?_)
  · obtain ⟨x, _, _, _, rfl, _⟩ := h; rfl
  · obtain ⟨v, pl, P, xs, rfl, hv, bP, hl, hb, q⟩ := h
    refine ⟨_, (pss_cons (ps_asg (pv 0) (pg_tup (by rfl) (pgs_cons (pg_name (i := 1) sc_is_gate.nd rfl (Or.inl rfl)) (pgs_cons (pg_name (i := 2) sc_is_gate.nd rfl (Or.inr rfl)) (pgs_cons (pg_name (i := 3) sc_is_gate.nd rfl (Or.inl rfl)) pgs_nil)))))
      (pss_cons (ps_if (PW.pt (pw_or (pt_not (pt_val (pe_call (ok_is_lessQ T) (hr.mono (by decide)) (by rfl) T.g_is_less T.F_is_less.kp T.b_is_less .nil pass0 (pa_cons (pe_glob (v := .ref T.k_ZERO) (by rfl) T.gk_ZERO rfl) (pa_cons (pv 2) pa_nil))))) (pw_or1 (pt_cmpR op_gt (pe_callB call_len_seq (by rfl) T.m_len PySem.boot_len (pa_cons (pv 3) pa_nil)) (pe_glob (v := .int 6) (by rfl) T.gk_MAX_SPANS ⟨_, rfl⟩) (nomark _))))) (pss_one (ps_ret pe_bl)) pss_nil)
      (pss_cons (ps_if (pt_not (pt_val (pe_callB (cr_all rfl) (by rfl) T.m_all (by decide +kernel) (pa_cons (pe_lc (own := [("span", 4)]) (g := (gName 4)) (tt := tYes) rfl sc_is_gate.nd (pi_tup (pv 3)) (blkOk_by (N := N_is_gate) (sc := defScope s_is_gate) (by decide +kernel)) (fun _ _ _ _ _ => (pg_name (i := 4) sc_is_gate.nd rfl (Or.inl rfl))) (fun _ _ _ _ _ => pts_nil) (fun _ _ _ _ _ => (pe_call (ok_fits T) (hr.mono (by decide)) (by rfl) T.g_fits T.F_fits.kp T.b_fits .nil pass0 (pa_cons (pv 4) (pa_cons (pv 2) pa_nil))))) pa_nil)))) (pss_one (ps_ret pe_bl)) pss_nil)
      (pss_one (ps_ret (pe_not (pe_callB (cr_any rfl) (by rfl) T.m_any (by decide +kernel) (pa_cons (pe_lc (own := [("end", 5), ("after", 6)]) (g := (gTup K 2 (gCons (gName 5) (gCons (gName 6) gNil)))) (tt := tYes) rfl sc_is_gate.nd (RZ.pi_zipA (by rfl) T.m_zip (pa_cons (pe_call (ok_span_ends T) hr (by rfl) T.g_span_ends T.F_span_ends.kp T.b_span_ends .nil pass0 (pa_cons (pv 3) pa_nil)) (pa_cons (pe_call (ok_next_begins T) hr (by rfl) T.g_next_begins T.F_next_begins.kp T.b_next_begins .nil pass0 (pa_cons (pv 2) (pa_cons (pv 3) pa_nil))) pa_nil))) (blkOk_by (N := N_is_gate) (sc := defScope s_is_gate) (by decide +kernel)) (fun _ _ _ _ _ => (pg_tup rfl (pgs_cons (pg_name (i := 5) sc_is_gate.nd rfl (Or.inl rfl)) (pgs_cons (pg_name (i := 6) sc_is_gate.nd rfl (Or.inl rfl)) pgs_nil)))) (fun _ _ _ _ _ => pts_nil) (fun _ _ _ _ _ => (pe_call (ok_is_lessQ T) (hr.mono (by decide)) (by rfl) T.g_is_less T.F_is_less.kp T.b_is_less .nil pass0 (pa_cons (pv 6) (pa_cons (pv 5) pa_nil))))) pa_nil)))))))), ?_⟩
    obtain ⟨U, v1, v2, v3, rfl, hU, d1, d2, d3⟩ := dp_three hv
    obtain ⟨a, us, rfl, ha, hu⟩ := dp_tup d3
    have el : us.length = xs.length := by rw [DpAll_len hu, List.length_map]
    unfold gateB at q
    refine ⟨_, rfl, U, _, rfl, hU, rfl, _, _, rfl, _, _, rfl, _, _, rfl, rfl, ?_⟩
    refine ⟨_, rfl, _, _, _, _, rfl, (T.z0 _), d2, b_zero.mono, bP.mono, ?_⟩
    rintro _ _ rfl rfl
    refine ⟨_, rfl, brNB (fun c => ?_) (fun c => ?_)⟩
    · rw [if_neg (of_decide_eq_false c)] at q; exact q _ (Same.refl _)
    rw [if_pos (of_decide_eq_true c)] at q
    refine ⟨_, rfl, a, us, rfl, .inr ha, _, _, rfl, rfl, _, rfl, brI (fun c => ?_) (fun c => ?_)⟩
    · rw [if_neg (by omega)] at q; exact q _ (Same.refl _)
    rw [if_pos (by omega)] at q
    refine ⟨_, rfl, a, rfl, ⟨_, ha⟩, fun D nD => ?_⟩
    refine lc_map (K := K) (walk_tup (xs := us)) ((xs.map (fitsB P)).map PyData.bool) nD (by rw [List.length_map, List.length_map, el]) (by omega) (noLs_bl _) (fun H' s => Evl.ex_t s ha) ?_ ?_
    · rintro i x d H1 H2 hi hd s1 ⟨rfl, hx⟩ R k
      obtain ⟨z, hz, dz⟩ := get_map hu hx
      have hdz : d = .bool (fitsB P z) := by
        rw [List.getElem?_map, List.getElem?_map, hz] at hd; exact (Option.some.inj hd).symm
      subst hdz
      have bz := hb z (List.mem_of_getElem? hz)
      refine ⟨rfl, _, rfl, _, rfl, _, _, z, P, rfl, Dp_same s1 dz, Dp_same s1 d2, bP, bz.1, bz.2, ?_⟩
      rintro _ _ rfl rfl
      exact k _ _ (Same.refl _) (.bl _)
    · intro H1 bs s1 hD hbs
      have e := DpAll_bl hbs
      subst e
      refine ⟨D, xs.map (fitsB P), rfl, .inl (.inl hD), ?_⟩
      refine ⟨_, rfl, brNB (fun c => ?_) (fun c => ?_)⟩
      · rw [if_neg (by rw [c]; decide)] at q; exact q _ s1
      rw [if_pos c] at q
      refine ⟨_, rfl, a, us, xs, rfl, Evl.ex_t s1 ha, DpAll_same s1 hu, by omega, hb, fun D1 es H2 s2 hD1 hes => ?_⟩
      have s02 := s1.trans s2
      refine ⟨_, rfl, _, rfl, _, P, a, us, xs, rfl, Dp_same s02 d2, bP.mono, Evl.ex_t s02 ha, DpAll_same s02 hu, by omega, hb, fun D2 ns H3 s3 hD2 hns => ?_⟩
      have hD1 := s3 _ _ hD1
      have hes := DpAll_same s3 hes
      have s03 := s02.trans s3
      refine ⟨D1, D2, es, ns, rfl, .inl ⟨.inl (.inl hD1), .inl (.inl hD2), fun L nL => ?_⟩⟩
      have e1 : es.length = xs.length := by rw [DpAll_len hes, List.length_map, ends_len]
      have e2 : ns.length = xs.length := by rw [DpAll_len hns, List.length_map, nexts_len]
      refine lc_map (K := K) (walk_zip (n := xs.length) (by omega)) ((lapB P xs).map PyData.bool) nL (by rw [List.length_map, lapB, List.length_zipWith, ends_len, nexts_len]; omega) (by omega) (noLs_bl _) (fun H' s => ⟨.inl (.inl (s _ _ hD1)), .inl (.inl (s _ _ hD2))⟩) ?_ ?_
      · rintro i x d H4 H5 hi hd s4 ⟨V, x1, x2, rfl, nV, rfl, g1, g2⟩ R k
        have sV := same_upd (o := HO.tup [x1, x2]) nV
        obtain ⟨z1, hz1, dz1⟩ := get_map hes g1
        obtain ⟨z2, hz2, dz2⟩ := get_map hns g2
        have hdz : d = .bool (decide (z2 < z1)) := by
          rw [List.getElem?_map, lapB, List.getElem?_zipWith, hz1, hz2] at hd; exact (Option.some.inj hd).symm
        subst hdz
        have bz1 : Bq 201 z1 := by
          have := List.mem_of_getElem? hz1
          obtain ⟨w, hw, rfl⟩ := List.mem_map.mp this
          exact (hb w hw).1.add (hb w hw).2
        have bz2 : Bq 201 z2 := by
          have := List.mem_of_getElem? hz2
          unfold nexts at this
          rcases List.mem_append.mp this with h | h
          · obtain ⟨w, hw, rfl⟩ := List.mem_map.mp (List.mem_of_mem_drop h)
            exact (hb w hw).1.mono
          · obtain ⟨y, hy, rfl⟩ := List.mem_map.mp h
            obtain ⟨w, hw, rfl⟩ := List.mem_map.mp (List.mem_of_mem_take hy)
            exact (hb w hw).1.add bP
        refine ⟨V, [x1, x2], rfl, .inl (.inl upd_same), rfl, x1, [x2], rfl, x2, [], rfl, rfl, rfl, ?_⟩
        refine ⟨_, rfl, _, rfl, _, _, _, _, rfl, (Dp_same (s4.trans sV) dz2), (Dp_same (s4.trans sV) dz1), bz2.mono, bz1.mono, ?_⟩
        rintro _ _ rfl rfl
        exact k _ _ sV (.bl _)
      · intro H4 bs s4 hL hbs
        have e := DpAll_bl hbs
        subst e
        exact ⟨L, lapB P xs, rfl, .inl (.inl hL), _, rfl, q _ (s03.trans s4)⟩
def spReps (K : PySem.W.Frag) : Sp := fun vs H Q _ => ∃ (a : Addr) (us : List V) (xs : Sps) (d : Nat) (vp : V) (p : Rat), vs = [.ref a, .int d, vp] ∧ SqT K H a us ∧ DpAll K H us (xs.map dsp) ∧ Dp K H vp (dq p) ∧ d ≤ xs.length ∧ xs.length < 900 ∧ (∀ x ∈ xs, Bq 100 x.1 ∧ Bq 100 x.2) ∧ Bq 300 p ∧ ∀ H', Same H H' → Q (.bl (repB xs d p)) H'
theorem ok_repeats (T : Txt K mg) : FnOk P w K mg base CX0 4 T.f_repeats T.d_repeats Ps_repeats (spReps K) := by
  refine T.F_repeats.ok sc_repeats (fun vs H Q E h => ?_) (fun cdv A outer s H vs Q E hr h => ?_)
  · obtain ⟨x, _, _, _, _, _, rfl, _⟩ := h; rfl
  · obtain ⟨a, us, xs, d, vp, p, rfl, ha, hu, hp, hd, hl, hb, bp, q⟩ := h
    refine ⟨_, (pss_cons (ps_setLc (i := 3) (own := [("begin", 4), ("length", 5)]) (g := (gTup K 2 (gCons (gName 4) (gCons (gName 5) gNil)))) (tt := tYes) rfl sc_repeats.nd rfl rfl (sw_true rfl rfl rfl (by decide +kernel)) (pi_tup (pe_slice sl_tupB (pv 0) po_none (po_some (pe_op op_sub (pe_callB call_len_seq (by rfl) T.m_len PySem.boot_len (pa_cons (pv 0) pa_nil)) (pv 1))))) (blkOk_by (N := N_repeats) (sc := defScope s_repeats) (by decide +kernel)) (fun _ _ _ _ _ => (pg_tup rfl (pgs_cons (pg_name (i := 4) sc_repeats.nd rfl (Or.inl rfl)) (pgs_cons (pg_name (i := 5) sc_repeats.nd rfl (Or.inl rfl)) pgs_nil)))) (fun _ _ _ _ _ => pts_nil) (fun _ _ _ _ _ => (pe_tup (pa_cons (pe_call (ok_add T) hr (by rfl) T.g_add T.F_add.kp T.b_add .nil pass0 (pa_cons (pv 4) (pa_cons (pv 2) pa_nil))) (pa_cons (pv 5) pa_nil)))))
      (pss_one (ps_ret (pe_cmpR (op_eqD hr.units) (pv 3) (pe_callTy call_list_of (by rfl) T.m_list (by decide +kernel) (pa_cons (pe_slice sl_tupB (pv 0) (po_some (pv 1)) po_none) pa_nil)) (nomark _))))), ?_⟩
    have el : us.length = xs.length := by rw [DpAll_len hu, List.length_map]
    refine ⟨_, rfl, _, rfl, a, us, rfl, .inr ha, _, rfl, _, _, rfl, rfl, _, rfl, a, us, rfl, ha, fun c H1 s1 hc => ?_⟩
    rw [show ((us.length : Int) - (d : Int)) = ((us.length - d : Nat) : Int) by omega, cut_to] at hc
    refine ⟨c, rfl, ⟨_, hc⟩, fun D nD => ?_⟩
    have hu1 : DpAll K H1 (us.take (us.length - d)) ((xs.take (xs.length - d)).map dsp) := by
      rw [el, List.map_take]; exact DpAll_take _ (DpAll_same s1 hu)
    have e1 : (us.take (us.length - d)).length = (xs.take (xs.length - d)).length := by rw [List.length_take, List.length_take]; omega
    refine lc_map (K := K) (walk_tup (xs := us.take (us.length - d))) (((xs.take (xs.length - d)).map (fun x => (x.1 + p, x.2))).map dsp) nD (by rw [List.length_map, List.length_map, e1]) (by rw [List.length_take]; omega) (noLs_dsp _) (fun H' s => Evl.ex_t s hc) ?_ ?_
    · rintro i x d' H2 H3 hi hd' s2 ⟨rfl, hx⟩ R k
      obtain ⟨z, hz, dz⟩ := get_map hu1 hx
      have hdz : d' = dsp (z.1 + p, z.2) := by
        rw [List.getElem?_map, List.getElem?_map, hz] at hd'; exact (Option.some.inj hd').symm
      subst hdz
      have bz := hb z (List.mem_of_mem_take (List.mem_of_getElem? hz))
      obtain ⟨U, v1, v2, rfl, hU, d1, d2⟩ := dp_two (Dp_same s2 dz)
      refine ⟨U, [v1, v2], rfl, hU, rfl, v1, [v2], rfl, v2, [], rfl, rfl, rfl, ?_⟩
      refine ⟨_, rfl, _, rfl, u_add d1 (Dp_same (s1.trans s2) hp) bz.1.mono bp.mono fun v H4 s4 f => ?_⟩
      refine ⟨_, rfl, sizeLine2 (by simp), fun t nt => ?_⟩
      exact k _ _ (s4.trans (same_upd nt)) (dp_new nt (.cons f (.cons (Dp_same s4 d2) .nil)))
    · intro H2 ls s2 hD hls
      have s02 := s1.trans s2
      refine ⟨_, rfl, _, rfl, _, rfl, _, rfl, a, us, rfl, Evl.ex_t s02 ha, fun t H3 s3 ht => ?_⟩
      rw [cut_drop] at ht
      refine ⟨t, _, rfl, .inr ht, fun L nL => ?_⟩
      have s4 := same_upd (o := HO.lst (us.drop d)) nL
      refine ⟨_, _, .lst (.inl (.inl (s4 _ _ (s3 _ _ hD)))) (DpAll_same (s3.trans s4) hls), .lst (ds := (xs.drop d).map dsp) (.inl (.inl upd_same)) ?_, sh_Ldsp _, sh_Ldsp _, ?_⟩
      · rw [List.map_drop]; exact DpAll_drop d (DpAll_same ((s02.trans s3).trans s4) hu)
      · rw [eqv_Ldsp]; exact q _ ((s02.trans s3).trans s4)
def spLeast (K : PySem.W.Frag) : Sp := fun vs H Q _ => ∃ (vpl vP : V) (pl P : Rat) (a : Addr) (us : List V) (xs : Sps), vs = [vpl, vP, .ref a] ∧ Dp K H vpl (dq pl) ∧ Dp K H vP (dq P) ∧ Bq 100 P ∧ SqT K H a us ∧ DpAll K H us (xs.map dsp) ∧ xs.length < 900 ∧ (∀ x ∈ xs, Bq 100 x.1 ∧ Bq 100 x.2) ∧ ∀ v H', Same H H' → Dp K H' v (dG pl (lfQ P xs).1 (lfQ P xs).2) → Q v H'
theorem lf_none {P : Rat} {xs : Sps} (h0 : xs.length ≠ 0) (h : (List.range' 1 (xs.length - 1)).find? (hitB P xs) = none) : lfQ P xs = (P, xs) := by
  unfold lfQ; rw [if_neg h0, h]
theorem lf_some {P : Rat} {xs : Sps} {i : Nat} (h0 : i + 1 < xs.length) (h : (List.range' 1 i).find? (hitB P xs) = none) (hh : hitB P xs (1 + i) = true) : lfQ P xs = (partQ P xs (1 + i), xs.take (1 + i)) := by
  have e : List.range' 1 (xs.length - 1) = List.range' 1 i ++ ((1 + i) :: List.range' (1 + i + 1) (xs.length - 1 - i - 1)) := by
    have := List.range'_append (s := 1) (m := i) (n := xs.length - 1 - i) (step := 1)
    rw [show i + (xs.length - 1 - i) = xs.length - 1 by omega] at this
    rw [← this]
    congr 1
    rw [Nat.one_mul]
    obtain ⟨k, hk⟩ : ∃ k, xs.length - 1 - i = k + 1 := ⟨xs.length - 1 - i - 1, by omega⟩
    rw [hk, List.range'_succ]; rfl
  unfold lfQ
  rw [if_neg (by omega), e, List.find?_append, h, List.find?_cons_of_pos hh]; rfl
theorem b_part {P : Rat} {xs : Sps} {d : Nat} (h0 : xs.length ≠ 0) (hl : xs.length < 900) (hd : d < xs.length) (b : Bq 100 P) : Bq 130 (partQ P xs d) := by
  have hn : ((xs.length : Int) : Rat) ≠ 0 := fun e => by have := Rat.intCast_eq_zero_iff.mp e; omega
  have b1 : Bq 10 ((d : Int) : Rat) := Bq.int (B.of (by omega))
  have b2 : Bq 10 ((xs.length : Int) : Rat) := Bq.int (B.of (by omega))
  exact (b.mul (Bq.div hn b1 b2)).mono
theorem ok_least_form (T : Txt K mg) : FnOk P w K mg base CX0 5 T.f_least_form T.d_least_form Ps_least_form (spLeast K) := by
  refine T.F_least_form.ok sc_least_form (fun vs H Q E h => ?_) (fun cdv A outer s H vs Q E hr h => ?_)
  · obtain ⟨x, _, _, _, _, _, _, rfl, _⟩ := h; rfl
  · obtain ⟨vpl, vP, pl, P, a, us, xs, rfl, hpl, hP, bP, ha, hu, hl, hb, q⟩ := h
    refine ⟨_, (pss_cons (ps_if (pt_cmpR op_eq (pe_callB call_len_seq (by rfl) T.m_len PySem.boot_len (pa_cons (pv 2) pa_nil)) pe_int (nomark _)) (pss_one (ps_ret (pe_tup (pa_cons (pv 0) (pa_cons (pe_glob (v := .ref T.k_ONE) (by rfl) T.gk_ONE rfl) (pa_cons (pe_tup pa_nil) pa_nil)))))) pss_nil)
      (pss_cons (ps_for PassesOwn.never rfl (pi_range2 rfl T.m_range (pa_cons pe_int (pa_cons (pe_callB call_len_seq (by rfl) T.m_len PySem.boot_len (pa_cons (pv 2) pa_nil)) pa_nil))) (pg_name (i := 3) sc_least_form.nd rfl (Or.inl rfl)) (pss_cons (ps_set (i := 4) sc_least_form.nd rfl (Or.inl rfl) (pe_call (ok_multiply T) (hr.mono (by decide)) (by rfl) T.g_multiply T.F_multiply.kp T.b_multiply .nil pass0 (pa_cons (pv 1) (pa_cons (pe_call (ok_fraction T) (hr.mono (by decide)) (by rfl) T.g_fraction T.F_fraction.kp T.b_fraction .nil pass0 (pa_cons (pv 3) (pa_cons (pe_callB call_len_seq (by rfl) T.m_len PySem.boot_len (pa_cons (pv 2) pa_nil)) pa_nil))) pa_nil))))
      (pss_one (ps_if (PW.pt (pw_and (pt_cmpR op_eq (pe_op op_mod (pe_callB call_len_seq (by rfl) T.m_len PySem.boot_len (pa_cons (pv 2) pa_nil)) (pv 3)) pe_int (nomark _)) (pw_and1 (pt_val (pe_call (ok_repeats T) hr (by rfl) T.g_repeats T.F_repeats.kp T.b_repeats .nil pass0 (pa_cons (pv 2) (pa_cons (pv 3) (pa_cons (pv 4) pa_nil)))))))) (pss_one (ps_ret (pe_tup (pa_cons (pv 0) (pa_cons (pv 4) (pa_cons (pe_callTy call_tuple_of (by rfl) T.m_tuple (by decide +kernel) (pa_cons (pe_slice sl_tupB (pv 2) po_none (po_some (pv 3))) pa_nil)) pa_nil)))))) pss_nil))))
      (pss_one (ps_ret (pe_tup (pa_cons (pv 0) (pa_cons (pv 1) (pa_cons (pe_callTy call_tuple_of (by rfl) T.m_tuple (by decide +kernel) (pa_cons (pv 2) pa_nil)) pa_nil)))))))), ?_⟩
    have el : us.length = xs.length := by rw [DpAll_len hu, List.length_map]
    refine ⟨_, rfl, a, us, rfl, .inr ha, rfl, _, rfl, brEq (fun h0 => ?_) (fun h0 => ?_)⟩
    · have h0 : xs.length = 0 := by omega
      have e : lfQ P xs = (1, []) := by unfold lfQ; rw [if_pos h0]
      rw [e] at q
      refine ⟨_, rfl, sizeLine2 (by simp), fun c nc => ?_⟩
      have s1 := same_upd (o := HO.tup []) nc
      refine ⟨sizeLine2 (by simp), fun c2 nc2 => ?_⟩
      refine q _ _ (s1.trans (same_upd nc2)) (dp_new nc2 (.cons (Dp_same s1 hpl) (.cons (T.o1 _) (.cons (dp_new nc .nil) .nil))))
    · have h0 : xs.length ≠ 0 := by omega
      refine ⟨_, rfl, a, us, rfl, .inr ha, _, _, rfl, ⟨by decide, by decide, by omega, by omega⟩, ?_⟩
      refine for_range (lo := 1) (fun i σ H' => Same H H' ∧ (List.range' 1 i).find? (hitB P xs) = none ∧ ∃ z3 z4, σ = [some vpl, some vP, some (.ref a), z3, z4]) ⟨Same.refl _, rfl, _, _, rfl⟩ ?_ ?_
      · rintro i σ H1 hi ⟨s1, hn, z3, z4, rfl⟩
        have hi2 : i + 1 < xs.length := by omega
        have hn0 : ((us.length : Int) : Rat) ≠ 0 := fun e => by have := Rat.intCast_eq_zero_iff.mp e; omega
        refine ⟨_, rfl, _, rfl, _, rfl, a, us, rfl, .inr (Evl.ex_t s1 ha), u_red (by omega) (B.mono (n := 10) (B.of (by omega))) (B.mono (n := 10) (B.of (by omega))) fun v H2 s2 f2 => ?_⟩
        have bd : Bq 20 (((1 + (i : Int) : Int) : Rat) / ((us.length : Int) : Rat)) := Bq.div hn0 (Bq.int (k := 10) (B.of (by omega))) (Bq.int (k := 10) (B.of (by omega)))
        refine u_mul (Dp_same (s1.trans s2) hP) f2 bP.mono bd.mono fun vp H3 s3 f3 => ?_
        have ep : P * (((1 + (i : Int) : Int) : Rat) / ((us.length : Int) : Rat)) = partQ P xs (1 + i) := by
          unfold partQ; rw [el]; rfl
        rw [ep] at f3
        have s03 := (s1.trans s2).trans s3
        refine ⟨_, rfl, a, us, rfl, .inr (Evl.ex_t s03 ha), _, rfl, _, _, rfl, rfl, (show (0 : Int) < 1 + i by omega), rfl, _, rfl, brEq (fun hm => ?_) (fun hm => ?_)⟩
        · have hm : decide (xs.length % (1 + i) = 0) = true := decide_eq_true (by
            have : ((us.length % (1 + i) : Nat) : Int) = 0 := by rw [Int.natCast_emod]; exact hm
            rw [el] at this; omega)
          refine ⟨_, rfl, _, rfl, _, rfl, a, us, xs, 1 + i, vp, _, ?_, Evl.ex_t s03 ha, DpAll_same s03 hu, f3, by omega, hl, hb, (b_part h0 hl (by omega) bP).mono, fun H4 s4 => ?_⟩
          · rw [show (1 + (i : Int)) = ((1 + i : Nat) : Int) by omega]; rfl
          refine ⟨_, rfl, brB (fun hr => ?_) (fun hr => ?_)⟩
          · have hh : hitB P xs (1 + i) = true := by unfold hitB; rw [hm, hr]; rfl
            rw [lf_some hi2 hn hh] at q
            have s04 := s03.trans s4
            refine ⟨_, rfl, _, rfl, _, rfl, _, rfl, _, rfl, a, us, rfl, Evl.ex_t s04 ha, fun t H5 s5 ht => ?_⟩
            rw [show (1 + (i : Int)) = ((1 + i : Nat) : Int) by omega, cut_to] at ht
            refine ⟨t, _, rfl, .inr ⟨ht, ?_⟩⟩
            refine ⟨sizeLine2 (by simp), fun c nc => ?_⟩
            have s6 := same_upd (o := HO.tup [vpl, vp, .ref t]) nc
            refine q _ _ ((s04.trans s5).trans s6) (dp_new nc (.cons (Dp_same (s04.trans s5) hpl) (.cons (Dp_same (s4.trans s5) f3) (.cons (.tup ht ?_) .nil))))
            rw [List.map_take]; exact DpAll_take _ (DpAll_same (s04.trans s5) hu)
          · have hh : hitB P xs (1 + i) = false := by unfold hitB; rw [hm, hr]; rfl
            refine ⟨s03.trans s4, ?_, _, _, rfl⟩
            rw [List.range'_1_concat, List.find?_append, hn, List.find?_cons_of_neg (by rw [hh]; decide)]; rfl
        · have hm : decide (xs.length % (1 + i) = 0) = false := decide_eq_false (fun e => hm (by
            have : ((us.length % (1 + i) : Nat) : Int) = 0 := by rw [el]; omega
            rw [Int.natCast_emod] at this; exact this))
          have hh : hitB P xs (1 + i) = false := by unfold hitB; rw [hm]; rfl
          refine ⟨s03, ?_, _, _, rfl⟩
          rw [List.range'_1_concat, List.find?_append, hn, List.find?_cons_of_neg (by rw [hh]; decide)]; rfl
      · rintro σ H1 ⟨s1, hn, z3, z4, rfl⟩
        have e : ((us.length : Int) - 1).toNat = xs.length - 1 := by omega
        rw [e] at hn
        rw [lf_none h0 hn] at q
        refine ⟨_, rfl, _, rfl, _, rfl, a, us, rfl, .inr ⟨Evl.ex_t s1 ha, sizeLine2 (by simp), fun c nc => ?_⟩⟩
        refine q _ _ (s1.trans (same_upd nc)) (dp_new nc (.cons (Dp_same s1 hpl) (.cons (Dp_same s1 hP) (.cons (.tup (Evl.ex_t s1 ha) (DpAll_same s1 hu)) .nil))))
/-- a gate, as it is laid: valid, and below 2 ^ 100 -/
structure Gd (P : Rat) (xs : Sps) : Prop where
  g : GV P xs
  p : Bq 100 P
  b : ∀ x ∈ xs, Bq 100 x.1 ∧ Bq 100 x.2
def spNormal (K : PySem.W.Frag) : Sp := fun vs H Q _ => ∃ (v : V) (pl P : Rat) (xs : Sps), vs = [v] ∧ Dp K H v (dG pl P xs) ∧ Gd P xs ∧ ∀ v' H', Same H H' → Dp K H' v' (dG pl (lfQ P xs).1 (lfQ P xs).2) → Q v' H'
theorem ok_normal_gate (T : Txt K mg) : FnOk P w K mg base CX0 6 T.f_normal_gate T.d_normal_gate Ps_normal_gate (spNormal K) := by
  refine T.F_normal_gate.ok sc_normal_gate (fun vs H Q E h => ?_) (fun cdv A outer s H vs Q E hr h => ?_)
  · obtain ⟨x, _, _, _, rfl, _⟩ := h; rfl
  · obtain ⟨v, pl, P, xs, rfl, hv, G, q⟩ := h
    have hl : xs.length < 900 := by have := G.g.len; omega
    refine ⟨_, PSs.nox ((pss_cons (ps_if (pt_not (pt_val (pe_call (ok_is_gate T) hr (by rfl) T.g_is_gate T.F_is_gate.kp T.b_is_gate .nil pass0 (pa_cons (pv 0) pa_nil)))) (pss_one ps_never) pss_nil)
      (pss_cons (ps_asg (pv 0) (pg_tup (by rfl) (pgs_cons (pg_name (i := 1) sc_normal_gate.nd rfl (Or.inl rfl)) (pgs_cons (pg_name (i := 2) sc_normal_gate.nd rfl (Or.inl rfl)) (pgs_cons (pg_name (i := 3) sc_normal_gate.nd rfl (Or.inl rfl)) pgs_nil)))))
      (pss_one (ps_ret (pe_call (ok_least_form T) hr (by rfl) T.g_least_form T.F_least_form.kp T.b_least_form .nil pass0 (pa_cons (pv 1) (pa_cons (pv 2) (pa_cons (pv 3) pa_nil))))))))), ?_⟩
    refine ⟨_, rfl, v, pl, P, xs, rfl, hv, G.p, hl, G.b, fun H1 s1 => ?_⟩
    rw [G.g.ok]
    refine ⟨_, rfl, iteF ?_⟩
    obtain ⟨U, v1, v2, v3, rfl, hU, d1, d2, d3⟩ := dp_three (Dp_same s1 hv)
    obtain ⟨a, us, rfl, ha, hu⟩ := dp_tup d3
    refine ⟨_, rfl, U, _, rfl, hU, rfl, _, _, rfl, _, _, rfl, _, _, rfl, rfl, ?_⟩
    exact ⟨_, rfl, _, rfl, _, rfl, _, _, pl, P, a, us, xs, rfl, d1, d2, G.p, ha, hu, hl, G.b, fun v' H2 s2 h => q v' H2 (s1.trans s2) h⟩
theorem lf_b {P : Rat} {xs : Sps} (G : Gd P xs) : Bq 130 (lfQ P xs).1 ∧ ∀ x ∈ (lfQ P xs).2, Bq 100 x.1 ∧ Bq 100 x.2 := by
  have hl : xs.length < 900 := by have := G.g.len; omega
  unfold lfQ
  by_cases h : xs.length = 0
  · rw [if_pos h]; exact ⟨b_one.mono, fun x hx => by cases hx⟩
  · rw [if_neg h]
    cases hf : (List.range' 1 (xs.length - 1)).find? (hitB P xs) with
    | none => exact ⟨G.p.mono, G.b⟩
    | some d =>
      have h2 := List.mem_range'_1.mp (List.mem_of_find?_eq_some hf)
      exact ⟨b_part h hl (by omega) G.p, fun x hx => G.b x (List.mem_of_mem_take hx)⟩
/-- an answer: None, or a fraction -/
def dO : Option Rat → PyData
  | none => .none
  | some q => dq q
def spShut (K : PySem.W.Frag) : Sp := fun vs H Q _ => ∃ (v vm : V) (pl P : Rat) (xs : Sps) (m : Rat), vs = [v, vm] ∧ Dp K H v (dG pl P xs) ∧ Gd P xs ∧ Dp K H vm (dq m) ∧ Bq 3620 m ∧ ∀ v' H', Same H H' → Dp K H' v' (dO (shutQ P xs m)) → Q v' H'
theorem ok_shut_until (T : Txt K mg) : FnOk P w K mg base CX0 7 T.f_shut_until T.d_shut_until Ps_shut_until (spShut K) := by
  refine T.F_shut_until.ok sc_shut_until (fun vs H Q E h => ?_) (fun cdv A outer s H vs Q E hr h => ?_)
  · obtain ⟨x, _, _, _, _, _, rfl, _⟩ := h; rfl
  · obtain ⟨v, vm, pl, P, xs, m, rfl, hv, G, hm, bm, q⟩ := h
    refine ⟨_, (pss_cons (ps_asg (pe_call (ok_normal_gate T) hr (by rfl) T.g_normal_gate T.F_normal_gate.kp T.b_normal_gate .nil pass0 (pa_cons (pv 0) pa_nil)) (pg_tup (by rfl) (pgs_cons (pg_name (i := 2) sc_shut_until.nd rfl (Or.inl rfl)) (pgs_cons (pg_name (i := 3) sc_shut_until.nd rfl (Or.inl rfl)) (pgs_cons (pg_name (i := 4) sc_shut_until.nd rfl (Or.inl rfl)) pgs_nil)))))
      (pss_cons (ps_for PassesOwn.never rfl (pi_tup (pv 4)) (pg_tup (by rfl) (pgs_cons (pg_name (i := 5) sc_shut_until.nd rfl (Or.inl rfl)) (pgs_cons (pg_name (i := 6) sc_shut_until.nd rfl (Or.inl rfl)) pgs_nil))) (pss_cons (ps_set (i := 7) sc_shut_until.nd rfl (Or.inl rfl) (pe_call (ok_remainderP T) (hr.mono (by decide)) (by rfl) T.g_remainder T.F_remainder.kp T.b_remainder .nil pass0 (pa_cons (pe_call (ok_subtract T) (hr.mono (by decide)) (by rfl) T.g_subtract T.F_subtract.kp T.b_subtract .nil pass0 (pa_cons (pv 1) (pa_cons (pv 5) pa_nil))) (pa_cons (pv 3) pa_nil))))
      (pss_one (ps_if (PW.pt (pw_and (pt_cmpR (op_neD hr.units) (pv 7) (pe_glob (v := .ref T.k_ZERO) (by rfl) T.gk_ZERO rfl) (nomark _)) (pw_and1 (pt_val (pe_call (ok_is_lessQ T) (hr.mono (by decide)) (by rfl) T.g_is_less T.F_is_less.kp T.b_is_less .nil pass0 (pa_cons (pv 7) (pa_cons (pv 6) pa_nil))))))) (pss_one (ps_ret (pe_call (ok_add T) (hr.mono (by decide)) (by rfl) T.g_add T.F_add.kp T.b_add .nil pass0 (pa_cons (pv 1) (pa_cons (pe_call (ok_subtract T) (hr.mono (by decide)) (by rfl) T.g_subtract T.F_subtract.kp T.b_subtract .nil pass0 (pa_cons (pv 6) (pa_cons (pv 7) pa_nil))) pa_nil))))) pss_nil))))
      (pss_one (ps_ret pe_non)))), ?_⟩
    refine ⟨_, rfl, v, pl, P, xs, rfl, hv, G, fun v' H1 s1 h1 => ?_⟩
    obtain ⟨g', sh⟩ := lf_ok G.g
    obtain ⟨bP, bx⟩ := lf_b G
    rw [← sh m] at q
    generalize (lfQ P xs).1 = P' at *
    generalize (lfQ P xs).2 = ys at *
    obtain ⟨U, v1, v2, v3, rfl, hU, d1, d2, d3⟩ := dp_three h1
    obtain ⟨a, us, rfl, ha, hu⟩ := dp_tup d3
    have el : us.length = ys.length := by rw [DpAll_len hu, List.length_map]
    refine ⟨U, _, rfl, hU, rfl, _, _, rfl, _, _, rfl, _, _, rfl, rfl, ?_⟩
    refine ⟨_, rfl, a, rfl, ⟨_, ha⟩, ?_⟩
    have hP0 := g'.pos
    refine for_tup (K := K) (xs := us) (fun i σ H' => Same H1 H' ∧ (ys.take i).find? (lateB P' m) = none ∧ ∃ z5 z6 z7, σ = [some v, some vm, some v1, some v2, some (.ref a), z5, z6, z7]) ⟨Same.refl _, rfl, _, _, _, rfl⟩ (fun i σ H' _ h => Evl.ex_t h.1 ha) ?_ ?_
    · rintro i x σ H2 hx ⟨s2, hn, z5, z6, z7, rfl⟩
      obtain ⟨z, hz, dz⟩ := get_map hu hx
      have bz := bx z (List.mem_of_getElem? hz)
      have hil : i < ys.length := (List.getElem?_eq_some_iff.mp hz).1
      obtain ⟨V', w1, w2, rfl, hV, e1, e2⟩ := dp_two (Dp_same s2 dz)
      have s02 := s1.trans s2
      refine ⟨V', _, rfl, hV, rfl, _, _, rfl, _, _, rfl, rfl, ?_⟩
      refine ⟨_, rfl, _, rfl, u_sub (Dp_same s02 hm) e1 bm.mono bz.1.mono fun v4 H3 s3 f3 => ?_⟩
      refine ⟨_, rfl, _, _, _, _, rfl, f3, Dp_same (s2.trans s3) d2, hP0, ((bm.sub bz.1).mono), bP.mono, fun v5 H4 s4 f4 => ?_⟩
      have s24 := s3.trans s4
      have br : Bq 3851 (remQ (m - z.1) P') := (Bq.rem hP0 (bm.sub bz.1) bP).mono
      have tk : ys.take (i + 1) = ys.take i ++ [z] := by rw [List.take_add_one, hz]; rfl
      have lt : lateB P' m z = (decide (remQ (m - z.1) P' ≠ 0) && decide (remQ (m - z.1) P' < z.2)) := rfl
      refine ⟨_, rfl, _, _, f4, T.z0 _, sh_dq _, sh_dq _, ?_⟩
      rw [eqv_dq]
      refine ⟨_, rfl, brNB (fun c => ?_) (fun c => ?_)⟩
      · refine ⟨_, rfl, _, rfl, _, _, _, _, rfl, f4, Dp_same s24 e2, br.mono, bz.2.mono, ?_⟩
        rintro _ _ rfl rfl
        refine ⟨_, rfl, brI (fun c2 => ?_) (fun c2 => ?_)⟩
        · have l1 : lateB P' m z = true := by rw [lt, decide_eq_true (of_decide_eq_false c), decide_eq_true c2]; rfl
          have : shutQ P' ys m = some (till P' m z) := by
            unfold shutQ
            have : ys = ys.take i ++ (z :: ys.drop (i + 1)) := by
              have h := List.take_append_drop (i + 1) ys
              rw [tk, List.append_assoc] at h; exact h.symm
            rw [this, List.find?_append, hn, List.find?_cons_of_pos l1]; rfl
          rw [this] at q
          refine ⟨_, rfl, _, rfl, _, rfl, u_sub (Dp_same s24 e2) f4 bz.2.mono br.mono fun v6 H5 s5 f5 => ?_⟩
          refine u_add (Dp_same ((s02.trans s24).trans s5) hm) f5 bm.mono (bz.2.sub br).mono fun v7 H6 s6 f6 => ?_
          exact q _ _ (((s02.trans s24).trans s5).trans s6) f6
        · have l1 : lateB P' m z = false := by rw [lt, decide_eq_false c2, Bool.and_false]
          refine ⟨s2.trans s24, ?_, _, _, _, rfl⟩
          rw [tk, List.find?_append, hn, List.find?_cons_of_neg (by rw [l1]; decide)]; rfl
      · have l1 : lateB P' m z = false := by rw [lt, decide_eq_false (fun h => h (of_decide_eq_true c)), Bool.false_and]
        refine iteF ?_
        refine ⟨s2.trans s24, ?_, _, _, _, rfl⟩
        rw [tk, List.find?_append, hn, List.find?_cons_of_neg (by rw [l1]; decide)]; rfl
    · rintro σ H2 ⟨s2, hn, z5, z6, z7, rfl⟩
      rw [el, List.take_length] at hn
      have : shutQ P' ys m = none := by unfold shutQ; rw [hn]; rfl
      rw [this] at q
      exact q _ _ (s1.trans s2) .non
def spOpen (K : PySem.W.Frag) : Sp := fun vs H Q _ => ∃ (v vm : V) (pl P : Rat) (xs : Sps) (m : Rat), vs = [v, vm] ∧ Dp K H v (dG pl P xs) ∧ Gd P xs ∧ Dp K H vm (dq m) ∧ Bq 1190 m ∧ ∀ v' H', Same H H' → v' = .bl (shutQ P xs m).isNone → Q v' H'
def spOpenW (K : PySem.W.Frag) : Sp := fun vs H Q _ => ∃ (v vm : V) (pl P : Rat) (xs : Sps) (m : Rat), vs = [v, vm] ∧ Dp K H v (dG pl P xs) ∧ Gd P xs ∧ Dp K H vm (dq m) ∧ Bq 3620 m ∧ ∀ v' H', Same H H' → v' = .bl (shutQ P xs m).isNone → Q v' H'
theorem dO_non {H : Hp} {v : V} {o : Option Rat} (h : Dp K H v (dO o)) : decide (v = V.non) = o.isNone := by
  cases o with
  | none => cases h; rfl
  | some q => obtain ⟨p, rfl, _⟩ := dq_fr h; rfl
theorem ok_is_open (T : Txt K mg) : FnOk P w K mg base CX0 8 T.f_is_open T.d_is_open Ps_is_open (spOpenW K) := by
  refine T.F_is_open.ok sc_is_open (fun vs H Q E h => ?_) (fun cdv A outer s H vs Q E hr h => ?_)
  · obtain ⟨x, _, _, _, _, _, rfl, _⟩ := h; rfl
  · obtain ⟨v, vm, pl, P, xs, m, rfl, hv, G, hm, bm, q⟩ := h
    refine ⟨_, (pss_one (ps_ret (pe_cmpR op_isN (pe_call (ok_shut_until T) hr (by rfl) T.g_shut_until T.F_shut_until.kp T.b_shut_until .nil pass0 (pa_cons (pv 0) (pa_cons (pv 1) pa_nil))) pe_non (nomark _)))), ?_⟩
    refine ⟨_, rfl, _, rfl, v, vm, pl, P, xs, m, rfl, hv, G, hm, bm, fun v' H1 s1 h1 => ?_⟩
    refine ⟨rfl, ?_⟩
    exact q _ _ s1 (by rw [dO_non h1])
def spNextO (K : PySem.W.Frag) : Sp := fun vs H Q _ => ∃ (v vm : V) (pl P : Rat) (xs : Sps) (m : Rat), vs = [v, vm] ∧ Dp K H v (dG pl P xs) ∧ Gd P xs ∧ Dp K H vm (dq m) ∧ Bq 1190 m ∧ ∀ v' H', Same H H' → Dp K H' v' (dq ((shutQ P xs m).getD m)) → Q v' H'
theorem ok_next_open (T : Txt K mg) : FnOk P w K mg base CX0 8 T.f_next_open T.d_next_open Ps_next_open (spNextO K) := by
  refine T.F_next_open.ok sc_next_open (fun vs H Q E h => ?_) (fun cdv A outer s H vs Q E hr h => ?_)
  · obtain ⟨x, _, _, _, _, _, rfl, _⟩ := h; rfl
  · obtain ⟨v, vm, pl, P, xs, m, rfl, hv, G, hm, bm, q⟩ := h
    refine ⟨_, (pss_cons (ps_set (i := 2) sc_next_open.nd rfl (Or.inl rfl) (pe_call (ok_shut_until T) hr (by rfl) T.g_shut_until T.F_shut_until.kp T.b_shut_until .nil pass0 (pa_cons (pv 0) (pa_cons (pv 1) pa_nil))))
      (pss_one (ps_ret (pe_ifExp (pt_cmpR op_isN (pv 2) pe_non (nomark _)) (pv 1) (pv 2))))), ?_⟩
    refine ⟨_, rfl, _, rfl, v, vm, pl, P, xs, m, rfl, hv, G, hm, bm.mono, fun v' H1 s1 h1 => ?_⟩
    refine ⟨_, rfl, rfl, ?_⟩
    refine ⟨_, rfl, ?_⟩
    rw [dO_non h1]
    cases h : shutQ P xs m with
    | none => rw [h] at q; exact iteT ⟨_, rfl, q _ _ s1 (Dp_same s1 hm)⟩
    | some e => rw [h] at q h1; exact iteF ⟨_, rfl, q _ _ s1 h1⟩
end
end EP
namespace EP
open PySem PySem.Spec PyProof.Rows L2
section
variable {P : Program} {w : World} {K : PySem.W.Frag} {mg : Str → Option Value} {base : Heap}
theorem ok_l_smallQ (T : Txt K mg) : FnOk P w K mg base CX0 3 T.f_l_small T.d_l_small Ps_l_small (spDrawnQ K 5) := (ok_l_small T).imp fun vs H Q E h => by
  obtain ⟨r, rfl, hR, k⟩ := h
  refine ⟨r, rfl, hR, fun v a b H' m f => ?_⟩
  obtain ⟨q, d, b, _⟩ := f.q
  exact k v q H' m d b
def spPosQ (K : PySem.W.Frag) (n : Nat) : Sp := fun vs H Q _ => ∃ (r : Addr), vs = [.ref r] ∧ Rng H r ∧ ∀ v q H', Mo r H H' → Dp K H' v (dq q) → Bq n q → 0 < q → Q v H'
theorem ok_l_positiveQ (T : Txt K mg) : FnOk P w K mg base CX0 3 T.f_l_positive T.d_l_positive Ps_l_positive (spPosQ K 40) := (ok_l_positive T).imp fun vs H Q E h => by
  obtain ⟨r, rfl, hR, k⟩ := h
  refine ⟨r, rfl, hR, fun v a b H' m f ha => ?_⟩
  obtain ⟨q, d, b, hp⟩ := f.q
  exact k v q H' m d b (hp ha)
def spParts : Sp := fun vs H Q _ => ∃ (r : Addr) (lo gr : Int), vs = [.ref r, .int lo, .int gr] ∧ 0 < gr ∧ gr ≤ 1000000 ∧ Rng H r ∧ ∀ v x H', v = .int x → lo ≤ x → x ≤ lo + gr + 2 → Mo r H H' → Q v H'
theorem ok_l_parts (T : Txt K mg) : FnOk P w K mg base CX0 3 T.f_l_parts T.d_l_parts Ps_l_parts spParts := by
  refine T.F_l_parts.ok sc_l_parts (fun vs H Q E h => ?_) (fun cdv A outer s H vs Q E hr h => ?_)
  · obtain ⟨r, _, _, rfl, _⟩ := h; rfl
  · obtain ⟨r, lo, gr, rfl, g0, g1, hR, q⟩ := h
    refine ⟨_, (pss_one (ps_ret (pe_op op_add (pv 1) (pe_call (ok_l_choice T) hr (by rfl) T.g_l_choice T.F_l_choice.kp T.b_l_choice .nil pass0 (pa_cons (pv 0) (pa_cons (pe_lst (pa_cons pe_int (pa_cons pe_int (pa_cons pe_int (pa_cons pe_int (pa_cons (pe_call (ok_l_draw T) (hr.mono (by decide)) (by rfl) T.g_l_draw T.F_l_draw.kp T.b_l_draw .nil pass0 (pa_cons (pv 0) (pa_cons (pv 2) pa_nil))) pa_nil)))))) pa_nil)))))), ?_⟩
    refine ⟨_, rfl, _, rfl, _, rfl, _, rfl, r, gr, rfl, g0, (B.of (n := 21) (by omega)).mono, hR, fun x H1 x0 x1 m1 => ?_⟩
    refine ⟨sizeLine2 (by simp), fun l nl => ?_⟩
    have m2 := Mo.new (o := HO.lst [.int 0, .int 1, .int 1, .int 2, .int x]) m1.b nl
    refine ⟨r, l, _, rfl, .inl (.inl upd_same), m1.b.ne nl, by simp, by simp, m2.b, fun y H2 hy m3 => ?_⟩
    have mm := (m1.trans m2).trans m3
    simp only [List.mem_cons, List.not_mem_nil, or_false] at hy
    rcases hy with rfl | rfl | rfl | rfl | rfl
    · exact ⟨_, _, rfl, rfl, q _ _ _ rfl (by omega) (by omega) mm⟩
    · exact ⟨_, _, rfl, rfl, q _ _ _ rfl (by omega) (by omega) mm⟩
    · exact ⟨_, _, rfl, rfl, q _ _ _ rfl (by omega) (by omega) mm⟩
    · exact ⟨_, _, rfl, rfl, q _ _ _ rfl (by omega) (by omega) mm⟩
    · exact ⟨_, _, rfl, rfl, q _ _ _ rfl (by omega) (by omega) mm⟩
/-- a gate that was drawn -/
structure Gs (n : Nat) (P : Rat) (xs : Sps) : Prop where
  g : GV P xs
  p : Bq n P
  b : ∀ x ∈ xs, Bq n x.1 ∧ Bq n x.2
def spGateD (K : PySem.W.Frag) : Sp := fun vs H Q _ => ∃ (r : Addr) (vpl : V) (pl : Rat) (most : Int), vs = [.ref r, vpl, .int most] ∧ Rng H r ∧ Dp K H vpl (dq pl) ∧ 0 ≤ most ∧ most ≤ 6 ∧ ∀ v P xs H', Mo r H H' → Dp K H' v (dG pl P xs) → Gs 40 P xs → Q v H'
def spGateZ (K : PySem.W.Frag) : Sp := fun vs H Q _ => ∃ (r : Addr) (vpl : V) (pl : Rat) (most : Int), vs = [.ref r, vpl, .int most] ∧ Rng H r ∧ Dp K H vpl (dq pl) ∧ 0 ≤ most ∧ most ≤ 6 ∧ ∀ v P xs D H', Mo r H H' → Dp K H' v (dG pl P xs) → Gs 40 P xs → xs.length ≤ most.toNat → B 17 D → Gz D 21 P xs → Q v H'
theorem lexB_fst {a b : Int × Int} (h : SrtO.lexB a b = false) : b.1 ≤ a.1 := by
  have := SrtO.lexB_no.mp h
  omega
theorem noL_dqs (q : Rat) : noL (dq q) = true := noL_dq q
theorem ok_l_gateZ (T : Txt K mg) : FnOk P w K mg base CX0 4 T.f_l_gate T.d_l_gate Ps_l_gate (spGateZ K) := by
  refine T.F_l_gate.ok sc_l_gate (fun vs H Q E h => ?_) (fun cdv A outer s H vs Q E hr h => ?_)
  · obtain ⟨r, _, _, _, rfl, _⟩ := h; rfl
  · obtain ⟨r, vpl, pl, most, rfl, hR, hpl, mo0, mo1, q⟩ := h
    refine ⟨_, (pss_cons (ps_set (i := 3) sc_l_gate.nd rfl (Or.inl rfl) (pe_call (ok_l_draw T) (hr.mono (by decide)) (by rfl) T.g_l_draw T.F_l_draw.kp T.b_l_draw .nil pass0 (pa_cons (pv 0) (pa_cons (pe_op op_add (pv 2) pe_int) pa_nil))))
      (pss_cons (ps_set (i := 4) sc_l_gate.nd rfl (Or.inr rfl) (pe_call (ok_l_choice T) (hr.mono (by decide)) (by rfl) T.g_l_choice T.F_l_choice.kp T.b_l_choice .nil pass0 (pa_cons (pv 0) (pa_cons (pe_lst (pa_cons pe_int (pa_cons pe_int (pa_cons pe_int (pa_cons pe_int (pa_cons (pe_op op_add pe_int (pe_call (ok_l_draw T) (hr.mono (by decide)) (by rfl) T.g_l_draw T.F_l_draw.kp T.b_l_draw .nil pass0 (pa_cons (pv 0) (pa_cons (pe_op op_pow pe_int pe_int) pa_nil)))) pa_nil)))))) pa_nil))))
      (pss_cons (ps_par (i := 5) (j := 6) (by rfl) sc_l_gate.nd rfl rfl (by decide) rfl rfl (pa_cons pe_int (pa_cons (pe_lst pa_nil) pa_nil)) (by rfl))
      (pss_cons (ps_for PassesOwn.never rfl (pi_range1 rfl T.m_range (pa_cons (pv 3) pa_nil)) (pg_name (i := 7) sc_l_gate.nd rfl (Or.inl rfl)) (pss_cons (ps_set (i := 5) sc_l_gate.nd rfl (Or.inl rfl) (pe_op op_add (pv 5) (pe_call (ok_l_parts T) hr (by rfl) T.g_l_parts T.F_l_parts.kp T.b_l_parts .nil pass0 (pa_cons (pv 0) (pa_cons pe_int (pa_cons (pe_op op_pow pe_int pe_int) pa_nil))))))
      (pss_cons (ps_set (i := 8) sc_l_gate.nd rfl (Or.inl rfl) (pe_call (ok_l_parts T) hr (by rfl) T.g_l_parts T.F_l_parts.kp T.b_l_parts .nil pass0 (pa_cons (pv 0) (pa_cons pe_int (pa_cons (pe_op op_pow pe_int pe_int) pa_nil)))))
      (pss_cons (ps_expr (pe_bm PySem.F.plainAttrs_list PySem.F.slot_list_append PySem.F.type_list_append mt_append (pv 6) (pa_cons (pe_tup (pa_cons (pv 5) (pa_cons (pv 8) pa_nil))) pa_nil)))
      (pss_one (ps_set (i := 5) sc_l_gate.nd rfl (Or.inl rfl) (pe_op op_add (pv 5) (pv 8))))))))
      (pss_cons (ps_set (i := 9) sc_l_gate.nd rfl (Or.inr rfl) (pe_op op_add (pv 5) (pe_call (ok_l_parts T) hr (by rfl) T.g_l_parts T.F_l_parts.kp T.b_l_parts .nil pass0 (pa_cons (pv 0) (pa_cons (pe_callTy call_int1 (by rfl) T.m_int (by decide +kernel) (pa_cons (pe_cmpR op_eq (pv 5) pe_int (nomark _)) pa_nil)) (pa_cons (pe_op op_pow pe_int pe_int) pa_nil))))))
      (pss_cons (ps_set (i := 10) sc_l_gate.nd rfl (Or.inr rfl) (pe_call (ok_l_choice T) (hr.mono (by decide)) (by rfl) T.g_l_choice T.F_l_choice.kp T.b_l_choice .nil pass0 (pa_cons (pv 0) (pa_cons (pe_lst (pa_cons pe_int (pa_cons pe_int (pa_cons (pe_call (ok_l_draw T) (hr.mono (by decide)) (by rfl) T.g_l_draw T.F_l_draw.kp T.b_l_draw .nil pass0 (pa_cons (pv 0) (pa_cons (pv 9) pa_nil))) pa_nil)))) pa_nil))))
      (pss_cons (ps_set (i := 11) sc_l_gate.nd rfl (Or.inl rfl) (pe_callB cr_sortedPO (by rfl) T.m_sorted (by decide +kernel) (pa_cons (pe_lc (own := [("_law_begin", 12), ("_law_length", 8)]) (g := (gTup K 2 (gCons (gName 12) (gCons (gName 8) gNil)))) (tt := tYes) rfl sc_l_gate.nd (pi_list (pv 6)) (blkOk_by (N := N_l_gate) (sc := defScope s_l_gate) (by decide +kernel)) (fun _ _ _ _ _ => (pg_tup rfl (pgs_cons (pg_name (i := 12) sc_l_gate.nd rfl (Or.inl rfl)) (pgs_cons (pg_name (i := 8) sc_l_gate.nd rfl (Or.inl rfl)) pgs_nil)))) (fun _ _ _ _ _ => pts_nil) (fun _ _ _ _ _ => (pe_tup (pa_cons (pe_op op_mod (pe_op op_add (pv 12) (pv 10)) (pv 9)) (pa_cons (pv 8) pa_nil))))) pa_nil)))
      (pss_cons (ps_setLc (i := 11) (own := [("_law_begin", 12), ("_law_length", 8)]) (g := (gTup K 2 (gCons (gName 12) (gCons (gName 8) gNil)))) (tt := tYes) rfl sc_l_gate.nd rfl rfl (sw_true rfl rfl rfl (by decide +kernel)) (pi_list (pv 11)) (blkOk_by (N := N_l_gate) (sc := defScope s_l_gate) (by decide +kernel)) (fun _ _ _ _ _ => (pg_tup rfl (pgs_cons (pg_name (i := 12) sc_l_gate.nd rfl (Or.inl rfl)) (pgs_cons (pg_name (i := 8) sc_l_gate.nd rfl (Or.inl rfl)) pgs_nil)))) (fun _ _ _ _ _ => pts_nil) (fun _ _ _ _ _ => (pe_tup (pa_cons (pe_call (ok_l_reduce T) (hr.mono (by decide)) (by rfl) T.g_l_reduce T.F_l_reduce.kp T.b_l_reduce .nil pass0 (pa_cons (pv 12) (pa_cons (pv 4) pa_nil))) (pa_cons (pe_call (ok_l_reduce T) (hr.mono (by decide)) (by rfl) T.g_l_reduce T.F_l_reduce.kp T.b_l_reduce .nil pass0 (pa_cons (pv 8) (pa_cons (pv 4) pa_nil))) pa_nil)))))
      (pss_one (ps_ret (pe_tup (pa_cons (pv 1) (pa_cons (pe_call (ok_l_reduce T) (hr.mono (by decide)) (by rfl) T.g_l_reduce T.F_l_reduce.kp T.b_l_reduce .nil pass0 (pa_cons (pv 9) (pa_cons (pv 4) pa_nil))) (pa_cons (pe_callTy call_tuple_of (by rfl) T.m_tuple (by decide +kernel) (pa_cons (pv 11) pa_nil)) pa_nil)))))))))))))), ?_⟩
    have c5 : CPow 10 5 := ⟨by decide, by decide, by decide⟩
    refine ⟨_, rfl, _, rfl, _, _, rfl, rfl, r, _, rfl, by omega, (B.of (n := 10) (by omega)).mono, hR, fun many H1 k0 k1 m1 => ?_⟩
    refine ⟨_, rfl, _, rfl, _, _, rfl, rfl, c5, r, _, rfl, by decide, (B.of (n := 20) (by decide)).mono, m1.b, fun y H2 y0 y1 m2 => ?_⟩
    simp only [Int.reduceToNat, Int.reducePow] at y1
    refine ⟨_, _, rfl, rfl, sizeLine2 (by simp), fun l nl => ?_⟩
    have m3 := Mo.new (o := HO.lst [.int 1, .int 1, .int 2, .int 3, .int (1 + y)]) m2.b nl
    refine ⟨r, l, _, rfl, .inl (.inl upd_same), m2.b.ne nl, by simp, by simp, m3.b, fun z H3 hz m4 => ?_⟩
    obtain ⟨by_, rfl, by0, by1⟩ : ∃ d : Int, z = .int d ∧ 1 ≤ d ∧ d ≤ 100000 := by
      simp only [List.mem_cons, List.not_mem_nil, or_false] at hz
      rcases hz with rfl | rfl | rfl | rfl | rfl
      · exact ⟨_, rfl, by omega, by omega⟩
      · exact ⟨_, rfl, by omega, by omega⟩
      · exact ⟨_, rfl, by omega, by omega⟩
      · exact ⟨_, rfl, by omega, by omega⟩
      · exact ⟨_, rfl, by omega, by omega⟩
    have m5 := ((m1.trans m2).trans m3).trans m4
    clear m1 m2 m3 m4 hz nl
    refine ⟨sizeLine2 (by simp), fun S nS => ?_⟩
    have m6 := m5.trans (Mo.new (o := HO.lst []) m5.b nS)
    have Sr : S ≠ r := m5.b.ne nS
    refine ⟨_, _, rfl, ?_⟩
    refine ⟨_, rfl, many, rfl, by omega, by omega, ?_⟩
    refine for_range (lo := 0) (fun i σ H' => Mo r H H' ∧ ∃ (spot : Int) (us : List V) (ps : List (Int × Int)) (z7 z8 : Option V) (z9 z10 z11 z12 : Option V), σ = [some (.ref r), some vpl, some (.int most), some (.int many), some (.int by_), some (.int spot), some (.ref S), z7, z8, z9, z10, z11, z12] ∧ H' S = some (.lst us) ∧ Prs H' us ps ∧ ps.length = i ∧ 0 ≤ spot ∧ spot ≤ i * 200010 ∧ (∀ x ∈ ps, 0 ≤ x.1 ∧ 0 < x.2 ∧ x.1 + x.2 ≤ spot) ∧ ps.Pairwise (fun x y => x.1 + x.2 ≤ y.1)) ⟨m6, 0, [], [], _, _, _, _, _, _, rfl, upd_same, .nil, rfl, by omega, by omega, (fun x hx => by cases hx), .nil⟩ ?_ ?_
    · rintro i σ Ha hi ⟨ma, spot, us, ps, z7, z8, z9, z10, z11, z12, rfl, hS, hp, hl, s0, s1, hx, hw⟩
      refine ⟨_, rfl, _, rfl, _, _, rfl, rfl, c5, r, 0, _, rfl, by decide, by decide, ma.b, fun v x Hb hv x0 x1 mb => ?_⟩
      simp only [Int.reduceToNat, Int.reducePow] at x1
      subst hv
      refine ⟨_, _, rfl, rfl, ?_⟩
      refine ⟨_, rfl, _, _, rfl, rfl, c5, r, 1, _, rfl, by decide, by decide, mb.b, fun v y Hc hv y0 y1 mc => ?_⟩
      simp only [Int.reduceToNat, Int.reducePow] at y1
      subst hv
      have mbc := mb.trans mc
      have hSc : Hc S = some (.lst us) := mbc.g _ _ Sr hS
      refine ⟨_, rfl, .inl ⟨rfl, us, .inl (.inl hSc)⟩, ?_⟩
      refine ⟨_, rfl, _, rfl, sizeLine2 (by simp), fun t nt => ?_⟩
      have sn := same_upd (o := HO.tup [.int (spot + x), .int y]) nt
      have mt := mbc.trans (Mo.new (o := HO.tup [.int (spot + x), .int y]) mbc.b nt)
      have hSt := sn _ _ hSc
      refine ⟨S, us, _, rfl, rfl, hSt, Nat.lt_of_lt_of_le (show us.length < 1000 by have := hp.len; omega) (by decide), ?_⟩
      refine ⟨_, rfl, _, rfl, _, _, rfl, rfl, ?_⟩
      have nS0 : H S = none := by
        cases h : H S with
        | none => rfl
        | some o => exact absurd (m5.g _ _ Sr h) (by rw [nS]; intro e; cases e)
      refine ⟨(ma.trans mt).mut nS0, spot + x + y, us ++ [.ref t], ps ++ [(spot + x, y)], _, _, _, _, _, _, rfl, upd_same, ?_, ?_, by omega, ?_, ?_, ?_⟩
      · exact Prs.app (IsP.mut hSt ⟨t, rfl, upd_same⟩) (hp.imp fun u x h => IsP.mut hSt (h.mo mt))
      · rw [List.length_append, hl]; rfl
      · push_cast; omega
      · intro p hp
        rcases List.mem_append.mp hp with h | h
        · have := hx p h; omega
        · obtain rfl := List.mem_singleton.mp h
          simp only; omega
      · refine List.pairwise_append.mpr ⟨hw, List.pairwise_singleton _ _, fun p hp u hu => ?_⟩
        obtain rfl := List.mem_singleton.mp hu
        have := hx p hp
        simp only; omega
    · rintro σ Ha ⟨ma, spot, us, ps, z7, z8, z9, z10, z11, z12, rfl, hS, hp, hl, s0, s1, hx, hw⟩
      have hl6 : ps.length ≤ 6 := by omega
      have s2 : spot ≤ 1300000 := by
        have : ((many.toNat : Nat) : Int) ≤ 6 := by omega
        have := Int.mul_le_mul_of_nonneg_right (c := 200010) this (by decide)
        omega
      -- the period
      refine ⟨_, rfl, _, rfl, _, rfl, rfl, .inr ⟨_, rfl, _, _, rfl, rfl, c5, ?_⟩⟩
      have hk : (if decide (V.int spot = V.int 0) = true then (1 : Int) else 0) = if spot = 0 then 1 else 0 := by
        by_cases h : spot = 0
        · subst h; simp
        · rw [if_neg h, if_neg]; simpa using h
      rw [hk]
      refine ⟨r, _, _, rfl, by decide, by decide, ma.b, fun v e Hb hv e0 e1 mb => ?_⟩
      simp only [Int.reduceToNat, Int.reducePow] at e1
      subst hv
      refine ⟨_, _, rfl, rfl, ?_⟩
      have hP : 0 < spot + e := by split at e0 <;> omega
      have hP2 : spot + e ≤ 1500000 := by split at e1 <;> omega
      -- the delay
      refine ⟨_, rfl, _, rfl, _, rfl, r, spot + e, rfl, hP, (B.of (n := 21) (by omega)).mono, mb.b, fun dd Hc d0 d1 mc => ?_⟩
      refine ⟨sizeLine2 (by simp), fun l nl => ?_⟩
      have md := Mo.new (o := HO.lst [.int 0, .int 1, .int dd]) mc.b nl
      refine ⟨r, l, _, rfl, .inl (.inl upd_same), mc.b.ne nl, by simp, by simp, md.b, fun z Hd hz me => ?_⟩
      obtain ⟨dl, rfl⟩ : ∃ d : Int, z = .int d := by
        simp only [List.mem_cons, List.not_mem_nil, or_false] at hz
        rcases hz with rfl | rfl | rfl <;> exact ⟨_, rfl⟩
      have mf := ((mb.trans mc).trans md).trans me
      have mA := ma.trans mf
      have hSd := mf.g _ _ Sr hS
      have hp := hp.imp (fun u x h => IsP.mo mf h)
      clear mb mc md me hz nl
      -- the rows, sorted
      refine ⟨_, rfl, S, rfl, ⟨_, .inl (.inl hSd)⟩, fun D nD => ?_⟩
      refine lc_it (walk_list (xs := us)) (fun i H' => Same Hd H' ∧ ∃ ws, H' D = some (.lst ws) ∧ Prs H' ws ((ps.map fun x => ((x.1 + dl) % (spot + e), x.2)).take i)) ⟨same_upd nD, [], upd_same, .nil⟩ (fun i H' _ h => .inl (.inl (h.1 _ _ hSd))) ?_ ?_
      · rintro i x He Hf hi ⟨se, ws, hD, hws⟩ ⟨rfl, hxi⟩
        obtain ⟨p, hpi, ip⟩ := hp.get hxi
        obtain ⟨t, rfl, ht⟩ := ip.same se
        refine ⟨t, _, rfl, .inl (.inl ht), rfl, _, _, rfl, _, _, rfl, rfl, rfl, ?_⟩
        refine ⟨_, rfl, _, rfl, _, _, rfl, rfl, _, rfl, _, _, rfl, rfl, hP, _, rfl, sizeLine2 (by simp), fun c nc => ?_⟩
        have sc := same_upd (o := HO.tup [.int ((p.1 + dl) % (spot + e)), .int p.2]) nc
        have hDc := sc _ _ hD
        have hlw := hws.len
        rw [List.length_take] at hlw
        refine ⟨ws, hDc, Nat.lt_of_lt_of_le (show ws.length < 1000 by rw [List.length_map] at hlw; omega) (by decide), ?_, ws ++ [.ref c], upd_same, ?_⟩
        · intro b o e; rw [upd_ne (ne_of_none e nD)]; exact sc _ _ (se _ _ e)
        · rw [List.take_add_one, List.getElem?_map, hpi]
          exact Prs.app (IsP.mut hDc ⟨c, rfl, upd_same⟩) (hws.imp fun u x h => IsP.mut hDc (h.same sc))
      rintro He ⟨se, ws, hD, hws⟩
      rw [hp.len, List.take_of_length_le (by rw [List.length_map]; exact Nat.le_refl _)] at hws
      obtain ⟨kw1, kw2⟩ := hws.keys
      refine ⟨D, ws, pk He, rfl, .inl (.inl hD), fun x hx => kw2 x hx, fun ys L hsr hst nL => ?_⟩
      have sL := same_upd (o := HO.lst ys) nL
      have hyP : Prs He ys (ys.map (pk He)) := Prs.of fun u hu => kw2 u (hst.perm.mem_iff.mp hu)
      have pm : (ys.map (pk He)).Perm (ps.map fun x => ((x.1 + dl) % (spot + e), x.2)) := by rw [← kw1]; exact hst.perm.map _
      have sd : (ys.map (pk He)).Pairwise (fun x y => x.1 ≤ y.1) := by
        refine List.pairwise_map.mpr (hsr.imp fun {x y} h => ?_)
        exact lexB_fst h
      generalize ys.map (pk He) = rs at *
      have gi : GI (spot + e) ps := by
        refine ⟨hP, hl6, fun x h => ?_, ?_⟩
        · have := hx x h; omega
        · refine List.Pairwise.imp_of_mem (fun {x y} h1 h2 h => ⟨h, ?_⟩) hw
          have := hx x h1; have := hx y h2; omega
      have g2 := gi.turn pm sd
      have gv := g2.gv (by_ := by_) (by omega)
      have hby : by_ ≠ 0 := by omega
      have bby : B 17 by_ := B.of (by omega)
      have bf : ∀ x ∈ rs, B 21 x.1 ∧ B 21 x.2 := fun x h => by
        have := g2.fit x h
        exact ⟨B.of (by omega), B.of (by omega)⟩
      have hlr : rs.length ≤ 6 := g2.len
      have hyP := hyP.imp (fun u x h => IsP.same sL h)
      have hL : upd He L (.lst ys) L = some (.lst ys) := upd_same
      have mE := (mA.trans (.same mA.b (se.trans sL)))
      generalize upd He L (.lst ys) = Hf at *
      -- the rows as fractions
      refine ⟨_, rfl, L, rfl, ⟨_, .inl (.inl hL)⟩, fun M nM => ?_⟩
      have ely : ys.length = rs.length := hyP.len
      refine lc_map (K := K) (walk_list (xs := ys)) ((rs.map (qsp by_)).map dsp) nM (by rw [List.length_map, List.length_map, ely]) (by omega) (noLs_dsp _) (fun H' s => .inl (.inl (s _ _ hL))) ?_ ?_
      · rintro i x d H4 H5 hi hd s4 ⟨rfl, hxi⟩ R k
        obtain ⟨p, hpi, ip⟩ := hyP.get hxi
        have hdz : d = dsp (qsp by_ p) := by
          rw [List.getElem?_map, List.getElem?_map, hpi] at hd; exact (Option.some.inj hd).symm
        subst hdz
        obtain ⟨t, rfl, ht⟩ := ip.same s4
        have bp := bf p (List.mem_of_getElem? hpi)
        refine ⟨t, _, rfl, .inl (.inl ht), rfl, _, _, rfl, _, _, rfl, rfl, rfl, ?_⟩
        refine ⟨_, rfl, _, rfl, u_red hby bp.1.mono bby.mono fun v1 H6 s6 f6 => ?_⟩
        refine ⟨_, rfl, _, rfl, u_red hby bp.2.mono bby.mono fun v2 H7 s7 f7 => ?_⟩
        refine ⟨sizeLine2 (by simp), fun c nc => ?_⟩
        exact k _ _ ((s6.trans s7).trans (same_upd nc)) (dp_new nc (.cons (Dp_same s7 f6) (.cons f7 .nil)))
      · intro H4 ls s4 hM hls
        refine ⟨_, rfl, _, rfl, _, rfl, u_red hby (B.of (n := 21) (by omega)).mono bby.mono fun v5 H5 s5 f5 => ?_⟩
        refine ⟨_, rfl, M, ls, rfl, .inl ⟨.inl (.inl (s5 _ _ hM)), fun t nt => ?_⟩⟩
        have s6 := same_upd (o := HO.tup ls) nt
        refine ⟨sizeLine2 (by simp), fun c nc => ?_⟩
        have s7 := same_upd (o := HO.tup [vpl, v5, .ref t]) nc
        have mF := mE.trans (.same mE.b (((s4.trans s5).trans s6).trans s7))
        have hbq : (by_ : Rat) ≠ 0 := fun e => hby (Rat.intCast_eq_zero_iff.mp e)
        refine q _ _ _ by_ _ mF (dp_new nc (.cons (Dp_same (((s4.trans s5).trans s6)) (Dp_mo mE hpl (noL_dq _))) (.cons (Dp_same s6 f5) (.cons (dp_new nt (DpAll_same s5 hls)) .nil)))) ⟨gv, ?_, fun x hx => ?_⟩ ?_ bby ⟨gv, by omega, ⟨spot + e, Rat.div_mul_cancel hbq, B.of (by omega)⟩, fun x hx => ?_⟩
        · exact (b_qsp (n := 21) (k := 17) hby (B.of (by omega)) bby (by decide) (by decide)).mono
        · obtain ⟨p, hp, rfl⟩ := List.mem_map.mp hx
          exact ⟨(b_qsp hby (bf p hp).1 bby (by decide) (by decide)).mono, (b_qsp hby (bf p hp).2 bby (by decide) (by decide)).mono⟩
        · have := pm.length_eq
          rw [List.length_map] at this ⊢
          omega
        · obtain ⟨p, hp, rfl⟩ := List.mem_map.mp hx
          exact ⟨⟨p.1, Rat.div_mul_cancel hbq, (bf p hp).1⟩, ⟨p.2, Rat.div_mul_cancel hbq, (bf p hp).2⟩⟩
theorem ok_l_gate (T : Txt K mg) : FnOk P w K mg base CX0 4 T.f_l_gate T.d_l_gate Ps_l_gate (spGateD K) := (ok_l_gateZ T).imp fun vs H Q E h => by
  obtain ⟨r, vpl, pl, most, e, hR, hpl, m0, m1, q⟩ := h
  exact ⟨r, vpl, pl, most, e, hR, hpl, m0, m1, fun v P xs D H' m d g _ _ _ => q v P xs H' m d g⟩
end
end EP
namespace EP
/-! ### what is_gate says is a gate -/
theorem lap_conv (b : Rat) : ∀ xs : Sps, (∀ x ∈ xs, 0 < x.2) → (List.zipWith (fun e a => decide (a < e)) (ends xs) ((begs xs).drop 1 ++ [b])).any id = false → xs.Pairwise (fun x y => x.1 + x.2 ≤ y.1) ∧ ∀ x ∈ xs, x.1 + x.2 ≤ b
  | [], _, _ => ⟨List.Pairwise.nil, fun x h => by cases h⟩
  | [x], _, h => by
    simp only [ends, begs, List.map_cons, List.map_nil, List.drop_succ_cons, List.drop_nil, List.nil_append, List.zipWith_cons_cons, List.zipWith_nil_left, List.any_cons, List.any_nil, id, Bool.or_false] at h
    have := of_decide_eq_false h
    refine ⟨List.pairwise_singleton _ _, fun y hy => ?_⟩
    obtain rfl := List.mem_singleton.mp hy
    grind
  | x :: y :: r, p, h => by
    simp only [ends, begs, List.map_cons, List.drop_succ_cons, List.drop_zero, List.cons_append, List.zipWith_cons_cons, List.any_cons, id, Bool.or_eq_false_iff] at h
    have h1 := of_decide_eq_false h.1
    have ih := lap_conv b (y :: r) (fun z hz => p z (by simp [hz])) (by
      simp only [ends, begs, List.map_cons, List.drop_succ_cons, List.drop_zero]; exact h.2)
    have py := p y (by simp)
    have by_ := ih.2 y (by simp)
    refine ⟨List.pairwise_cons.mpr ⟨fun z hz => ?_, ih.1⟩, fun z hz => ?_⟩
    · rcases List.mem_cons.mp hz with e | e
      · subst e; grind
      · have := (List.pairwise_cons.mp ih.1).1 z e; grind
    · rcases List.mem_cons.mp hz with e | e
      · subst e; grind
      · exact ih.2 z e
theorem gv_of {P : Rat} {xs : Sps} (h : gateB P xs = true) : GV P xs := by
  unfold gateB at h
  by_cases hP : 0 < P
  · rw [if_pos hP] at h
    by_cases hl : xs.length ≤ 6
    · rw [if_pos hl] at h
      by_cases hf : (xs.map (fitsB P)).all id = true
      · rw [if_pos hf] at h
        have hf' : ∀ x ∈ xs, 0 ≤ x.1 ∧ x.1 < P ∧ 0 < x.2 ∧ x.2 ≤ P := fun x hx => by
          rw [List.all_map, List.all_eq_true] at hf
          have f : fitsB P x = true := hf x hx
          unfold fitsB at f
          by_cases c1 : x.1 < 0
          · rw [if_pos c1] at f; cases f
          rw [if_neg c1] at f
          by_cases c2 : x.1 < P
          · rw [if_pos c2] at f
            by_cases c3 : 0 < x.2
            · rw [if_pos c3] at f
              have f : P < x.2 → False := by simpa using f
              exact ⟨by grind, c2, c3, by grind⟩
            · rw [if_neg c3] at f; cases f
          · rw [if_neg c2] at f; cases f
        have hlap : (lapB P xs).any id = false := by simpa using h
        refine ⟨hP, hl, hf', ?_⟩
        cases xs with
        | nil => exact List.Pairwise.nil
        | cons x r =>
          obtain ⟨p1, p2⟩ := lap_conv (x.1 + P) (x :: r) (fun z hz => (hf' z hz).2.2.1) hlap
          refine List.Pairwise.imp_of_mem (fun {u v} hu hv q => ⟨q, ?_⟩) p1
          have b := p2 v hv
          rcases List.mem_cons.mp hu with e | e
          · subst e; exact b
          · have := (List.pairwise_cons.mp p1).1 u e
            have := (hf' x (by simp)).2.2.1
            grind
      · rw [if_neg hf] at h; cases h
    · rw [if_neg hl] at h; cases h
  · rw [if_neg hP] at h; cases h
theorem gv_iff {P : Rat} {xs : Sps} : gateB P xs = true ↔ GV P xs := ⟨gv_of, GV.ok⟩
end EP
namespace EP
open PySem PySem.Spec PyProof.Rows L2
section
variable {P : Program} {w : World} {K : PySem.W.Frag} {mg : Str → Option Value} {base : Heap}
/-- what begins behind span k -/
def nxQ (P : Rat) (xs : Sps) (k : Nat) : Rat := if k + 1 < xs.length then (at0 xs (k + 1)).1 else (at0 xs 0).1 + P
theorem at0_q {xs : Sps} {k : Nat} (h : k < xs.length) : xs[k]? = some (at0 xs k) := by
  unfold at0
  rw [List.getD_eq_getElem?_getD, List.getElem?_eq_getElem h]; rfl
theorem nexts_at {P : Rat} {xs : Sps} {k : Nat} (h : k < xs.length) : (nexts P xs)[k]? = some (nxQ P xs k) := by
  cases xs with
  | nil => simp at h
  | cons x r =>
    unfold nexts nxQ
    by_cases c : k + 1 < (x :: r).length
    · rw [if_pos c]
      have := at0_q c
      simp only [begs, List.map_cons, List.drop_succ_cons, List.drop_zero]
      rw [List.getElem?_append_left (by simpa using c), List.getElem?_map]
      have this : r[k]? = some (at0 (x :: r) (k + 1)) := this
      rw [this]; rfl
    · rw [if_neg c]
      have e : k = r.length := by simp at h c; omega
      simp only [begs, List.map_cons, List.drop_succ_cons, List.drop_zero]
      rw [List.getElem?_append_right (by simp; omega), e]
      simp [at0]
theorem lap_at {P : Rat} {xs : Sps} {k : Nat} (h : k < xs.length) : (lapB P xs)[k]? = some (decide (nxQ P xs k < (at0 xs k).1 + (at0 xs k).2)) := by
  unfold lapB
  rw [List.getElem?_zipWith, nexts_at h]
  unfold ends
  rw [List.getElem?_map, show xs[k]? = some (at0 xs k) from at0_q h]; rfl
theorem gate_at {P : Rat} {xs : Sps} : gateB P xs = true ↔ 0 < P ∧ xs.length ≤ 6 ∧ ∀ k, k < xs.length → fitsB P (at0 xs k) = true ∧ ¬ (nxQ P xs k < (at0 xs k).1 + (at0 xs k).2) := by
  have key : (lapB P xs).any id = false ↔ ∀ k, k < xs.length → ¬ (nxQ P xs k < (at0 xs k).1 + (at0 xs k).2) := by
    rw [List.any_eq_false]
    constructor
    · intro h k hk hlt
      have := h _ (List.mem_of_getElem? (lap_at (P := P) hk))
      rw [decide_eq_true hlt] at this
      exact this rfl
    · intro h b hb
      obtain ⟨k, hk⟩ := List.getElem?_of_mem hb
      have hl : k < xs.length := by
        have h1 := (List.getElem?_eq_some_iff.mp hk).1
        unfold lapB ends at h1
        rw [List.length_zipWith, List.length_map] at h1
        omega
      rw [lap_at hl] at hk
      rw [← Option.some.inj hk, decide_eq_false (h k hl)]
      simp
  have all : (xs.map (fitsB P)).all id = true ↔ ∀ k, k < xs.length → fitsB P (at0 xs k) = true := by
    rw [List.all_map, List.all_eq_true]
    constructor
    · exact fun h k hk => h _ (List.mem_of_getElem? (at0_q hk))
    · intro h x hx
      obtain ⟨k, hk⟩ := List.getElem?_of_mem hx
      have hl := (List.getElem?_eq_some_iff.mp hk).1
      rw [at0_q hl] at hk
      have := h k hl
      rw [Option.some.inj hk] at this
      exact this
  unfold gateB
  by_cases c1 : 0 < P
  · rw [if_pos c1]
    by_cases c2 : xs.length ≤ 6
    · rw [if_pos c2]
      by_cases c3 : (xs.map (fitsB P)).all id = true
      · rw [if_pos c3, Bool.not_eq_true', key]
        exact ⟨fun h => ⟨c1, c2, fun k hk => ⟨all.mp c3 k hk, h k hk⟩⟩, fun h k hk => (h.2.2 k hk).2⟩
      · rw [if_neg c3]
        exact ⟨fun h => by (cases h), fun h => absurd (all.mpr fun k hk => (h.2.2 k hk).1) c3⟩
    · rw [if_neg c2]
      exact ⟨fun h => by (cases h), fun h => absurd h.2.1 c2⟩
  · rw [if_neg c1]
    exact ⟨fun h => by (cases h), fun h => absurd h.1 c1⟩
theorem fits_at {P : Rat} {x : Rat × Rat} : fitsB P x = true ↔ ¬ (x.1.num < 0) ∧ ¬ (x.2.num < 1) ∧ x.1 < P ∧ ¬ (P < x.2) := by
  have e1 : x.1.num < 0 ↔ x.1 < 0 := by
    rw [← Rat.not_le, ← Rat.num_nonneg]; omega
  have e2 : 0 < x.2 ↔ ¬ (x.2.num < 1) := by
    constructor
    · intro h
      have h1 : 0 ≤ x.2.num := Rat.num_nonneg.mpr (Rat.le_of_lt h)
      have h2 : x.2.num ≠ 0 := num_ne (fun e => by rw [e] at h; exact absurd h (by decide))
      omega
    · intro h
      have h1 : 0 ≤ x.2 := Rat.num_nonneg.mp (by omega)
      have h2 : x.2 ≠ 0 := fun e => by rw [e] at h; exact h (by decide)
      grind
  unfold fitsB
  by_cases c1 : x.1 < 0
  · rw [if_pos c1]
    exact ⟨fun h => by (cases h), fun h => absurd (e1.mpr c1) h.1⟩
  rw [if_neg c1]
  by_cases c2 : x.1 < P
  · rw [if_pos c2]
    by_cases c3 : 0 < x.2
    · rw [if_pos c3, Bool.not_eq_true', decide_eq_false_iff_not]
      exact ⟨fun h => ⟨fun z => c1 (e1.mp z), e2.mp c3, c2, h⟩, fun h => h.2.2.2⟩
    · rw [if_neg c3]
      exact ⟨fun h => by (cases h), fun h => absurd (e2.mpr h.2.1) c3⟩
  · rw [if_neg c2]
    exact ⟨fun h => by (cases h), fun h => absurd h.2.2.1 c2⟩
def spValid (K : PySem.W.Frag) : Sp := fun vs H Q _ => ∃ (v : V) (pl P : Rat) (xs : Sps), vs = [v] ∧ Dp K H v (dG pl P xs) ∧ Bq 100 P ∧ xs.length < 900 ∧ (∀ x ∈ xs, Bq 100 x.1 ∧ Bq 100 x.2) ∧ ∀ H', Same H H' → Q (.bl (gateB P xs)) H'
theorem ok_l_is_gate (T : Txt K mg) : FnOk P w K mg base CX0 4 T.f_l_is_gate T.d_l_is_gate Ps_l_is_gate (spValid K) := by
  refine T.F_l_is_gate.ok sc_l_is_gate (fun vs H Q E h => ?_) (fun cdv A outer s H vs Q E hr h => ?_)
  · obtain ⟨_, _, _, _, rfl, _⟩ := h; rfl
  · obtain ⟨v, pl, P, xs, rfl, hv, bP, hl, hb, q⟩ := h
    refine ⟨_, (pss_cons (ps_asg (pv 0) (pg_tup (by rfl) (pgs_cons (pg_name (i := 1) sc_l_is_gate.nd rfl (Or.inl rfl)) (pgs_cons (pg_name (i := 2) sc_l_is_gate.nd rfl (Or.inl rfl)) (pgs_cons (pg_name (i := 3) sc_l_is_gate.nd rfl (Or.inl rfl)) pgs_nil)))))
      (pss_cons (ps_if (PW.pt (pw_or (pt_cmpR op_lt (pe_ix ix_tup (pv 2) pe_int (fun _ _ => rfl)) pe_int (nomark _)) (pw_or1 (pt_cmpR op_gt (pe_callB call_len_seq (by rfl) T.m_len PySem.boot_len (pa_cons (pv 3) pa_nil)) pe_int (nomark _))))) (pss_one (ps_ret pe_bl)) pss_nil)
      (pss_cons (ps_for PassesOwn.never rfl (pi_range1 rfl T.m_range (pa_cons (pe_callB call_len_seq (by rfl) T.m_len PySem.boot_len (pa_cons (pv 3) pa_nil)) pa_nil)) (pg_name (i := 4) sc_l_is_gate.nd rfl (Or.inl rfl)) (pss_cons (ps_asg (pe_ix ix_tup (pv 3) (pv 4) (fun _ _ => rfl)) (pg_tup (by rfl) (pgs_cons (pg_name (i := 5) sc_l_is_gate.nd rfl (Or.inl rfl)) (pgs_cons (pg_name (i := 6) sc_l_is_gate.nd rfl (Or.inl rfl)) pgs_nil))))
      (pss_cons (ps_if (PW.pt (pw_or (pt_cmpR op_lt (pe_ix ix_tup (pv 5) pe_int (fun _ _ => rfl)) pe_int (nomark _)) (pw_or (pt_cmpR op_lt (pe_ix ix_tup (pv 6) pe_int (fun _ _ => rfl)) pe_int (nomark _)) (pw_or (pt_not (pt_val (pe_call (ok_l_lessQ T) (hr.mono (by decide)) (by rfl) T.g_l_less T.F_l_less.kp T.b_l_less .nil pass0 (pa_cons (pv 5) (pa_cons (pv 2) pa_nil))))) (pw_or1 (pt_val (pe_call (ok_l_lessQ T) (hr.mono (by decide)) (by rfl) T.g_l_less T.F_l_less.kp T.b_l_less .nil pass0 (pa_cons (pv 2) (pa_cons (pv 6) pa_nil))))))))) (pss_one (ps_ret pe_bl)) pss_nil)
      (pss_cons (ps_set (i := 7) sc_l_is_gate.nd rfl (Or.inl rfl) (pe_ifExp (pt_cmpR op_lt (pe_op op_add (pv 4) pe_int) (pe_callB call_len_seq (by rfl) T.m_len PySem.boot_len (pa_cons (pv 3) pa_nil)) (nomark _)) (pe_ix ix_tup (pe_ix ix_tup (pv 3) (pe_op op_add (pv 4) pe_int) (fun _ _ => rfl)) pe_int (fun _ _ => rfl)) (pe_call (ok_l_add T) hr (by rfl) T.g_l_add T.F_l_add.kp T.b_l_add .nil pass0 (pa_cons (pe_ix ix_tup (pe_ix ix_tup (pv 3) pe_int (fun _ _ => rfl)) pe_int (fun _ _ => rfl)) (pa_cons (pv 2) pa_nil)))))
      (pss_one (ps_if (pt_val (pe_call (ok_l_lessQ T) (hr.mono (by decide)) (by rfl) T.g_l_less T.F_l_less.kp T.b_l_less .nil pass0 (pa_cons (pv 7) (pa_cons (pe_call (ok_l_add T) hr (by rfl) T.g_l_add T.F_l_add.kp T.b_l_add .nil pass0 (pa_cons (pv 5) (pa_cons (pv 6) pa_nil))) pa_nil)))) (pss_one (ps_ret pe_bl)) pss_nil))))))
      (pss_one (ps_ret pe_bl))))), ?_⟩
    obtain ⟨U, vpl, vP, v3, rfl, hU, hpl, hP, d3⟩ := dp_three hv
    obtain ⟨a, us, rfl, ha, hu⟩ := dp_tup d3
    have el : us.length = xs.length := by rw [DpAll_len hu, List.length_map]
    have no : (gateB P xs = true → False) → ∀ H', Same H H' → Q (.bl false) H' := fun h H' s => by
      have := q H' s
      rw [show gateB P xs = false by cases e : gateB P xs with
        | true => exact absurd e h
        | false => rfl] at this
      exact this
    obtain ⟨p2, rfl, hp2⟩ := dq_fr hP
    refine ⟨_, rfl, U, _, rfl, hU, rfl, _, _, rfl, _, _, rfl, _, _, rfl, rfl, ?_⟩
    dsimp only
    have posP : 0 < P ↔ ¬ (P.num < 1) := by
      have := @fits_at 1 (0, P)
      constructor
      · intro h
        have h1 : 0 ≤ P.num := Rat.num_nonneg.mpr (Rat.le_of_lt h)
        have h2 : P.num ≠ 0 := num_ne (fun e => by rw [e] at h; exact absurd h (by decide))
        omega
      · intro h
        have h1 : 0 ≤ P := Rat.num_nonneg.mp (by omega)
        have h2 : P ≠ 0 := fun e => by rw [e] at h; exact h (by decide)
        grind
    refine seq_by (t := tIfS _ _ _) (u := tSeq _ _) (fun σ H' => H' = H ∧ 0 < P ∧ xs.length ≤ 6 ∧ ∃ z4 z5 z6 z7, σ = [some (.ref U), some vpl, some (.ref p2), some (.ref a), z4, z5, z6, z7]) ?_ fun k => ?_
    rotate_left
    · refine ⟨_, rfl, p2, _, _, _, rfl, rfl, hp2, ix0, _, _, rfl, rfl, _, rfl, ?_⟩
      by_cases c1 : P.num < 1
      · rw [decide_eq_true c1]
        exact iteT (iteT (no (fun h => (posP.mp (gate_at.mp h).1) c1) _ (Same.refl _)))
      rw [decide_eq_false c1]
      refine iteF ?_
      refine ⟨_, rfl, a, _, rfl, .inr ha, _, _, rfl, rfl, _, rfl, ?_⟩
      rw [el]
      by_cases c2 : xs.length ≤ 6
      · rw [decide_eq_false (show ¬ (6 : Int) < (xs.length : Int) by omega)]
        exact iteF (k _ _ ⟨rfl, posP.mpr c1, c2, _, _, _, _, rfl⟩)
      · rw [decide_eq_true (show (6 : Int) < (xs.length : Int) by omega)]
        exact iteT (no (fun h => c2 (gate_at.mp h).2.1) _ (Same.refl _))
    rintro σ H1 ⟨rfl, hP0, h6, z4, z5, z6, z7, rfl⟩
    have oks : ∀ H', Same H1 H' → (∀ k, k < xs.length → fitsB P (at0 xs k) = true ∧ ¬ (nxQ P xs k < (at0 xs k).1 + (at0 xs k).2)) → Q (.bl true) H' := fun H' s h => by
      have := q H' s
      rw [gate_at.mpr ⟨hP0, h6, h⟩] at this
      exact this
    refine ⟨_, rfl, a, _, rfl, .inr ha, us.length, rfl, by omega, by omega, ?_⟩
    refine for_range (n := us.length) (fun i σ H' => Same H1 H' ∧ (∀ k, k < i → fitsB P (at0 xs k) = true ∧ ¬ (nxQ P xs k < (at0 xs k).1 + (at0 xs k).2)) ∧ ∃ z4 z5 z6 z7, σ = [some (.ref U), some vpl, some (.ref p2), some (.ref a), z4, z5, z6, z7]) ⟨Same.refl _, fun k hk => absurd hk (by omega), _, _, _, _, rfl⟩ ?_ ?_
    · rintro i σ H2 hi ⟨s2, hk, z4, z5, z6, z7, rfl⟩
      have hi' : i < xs.length := by omega
      have at_ : ∀ j (hj : j < us.length) H', Same H1 H' → ∃ u V w1 w2 p1 p3, us[j]? = some u ∧ u = .ref V ∧ SqT K H' V [w1, w2] ∧ w1 = .ref p1 ∧ w2 = .ref p3 ∧ SqT K H' p1 [.int (at0 xs j).1.num, .int (at0 xs j).1.den] ∧ SqT K H' p3 [.int (at0 xs j).2.num, .int (at0 xs j).2.den] ∧ Dp K H' w1 (dq (at0 xs j).1) ∧ Dp K H' w2 (dq (at0 xs j).2) := fun j hj H' s => by
        obtain ⟨z, hz, dz⟩ := get_dsp hu (List.getElem?_eq_getElem hj)
        rw [at0_q (by omega)] at hz
        cases Option.some.inj hz
        obtain ⟨V, w1, w2, e, hV, e1, e2⟩ := dp_two (Dp_same s dz)
        obtain ⟨p1, r1, h1⟩ := dq_fr e1
        obtain ⟨p3, r3, h3⟩ := dq_fr e2
        exact ⟨_, V, w1, w2, p1, p3, List.getElem?_eq_getElem hj, e, hV, r1, r3, h1, h3, e1, e2⟩
      obtain ⟨u, V, w1, w2, p1, p3, gu, eu, hV, rfl, rfl, h1, h3, f1, f2⟩ := at_ i (by omega) H2 s2
      have bz := hb (at0 xs i) (List.mem_of_getElem? (at0_q hi'))
      have bad : (fitsB P (at0 xs i) = true → ¬ (nxQ P xs i < (at0 xs i).1 + (at0 xs i).2) → False) → gateB P xs = true → False := fun h hg => h ((gate_at.mp hg).2.2 i hi').1 ((gate_at.mp hg).2.2 i hi').2
      have ha2 := Evl.ex_t s2 ha
      have hP2 := Dp_same s2 hP
      refine ⟨_, rfl, _, rfl, a, _, _, _, rfl, rfl, ha2, by rw [Int.zero_add]; exact atI_nat gu, ?_⟩
      rw [eu]
      refine ⟨V, _, rfl, hV, rfl, _, _, rfl, _, _, rfl, rfl, ?_⟩
      dsimp only
      refine seq_by (t := tIfS _ _ _) (u := tSeq _ _) (fun σ H' => H' = H2 ∧ fitsB P (at0 xs i) = true ∧ ∃ z7, σ = [some (.ref U), some vpl, some (.ref p2), some (.ref a), some (.int (0 + (i : Int))), some (.ref p1), some (.ref p3), z7]) ?_ fun k => ?_
      rotate_left
      · refine ⟨_, rfl, p1, _, _, _, rfl, rfl, h1, ix0, _, _, rfl, rfl, _, rfl, ?_⟩
        by_cases c1 : (at0 xs i).1.num < 0
        · rw [decide_eq_true c1]
          exact iteT (iteT (no (bad fun h _ => (fits_at.mp h).1 c1) _ s2))
        rw [decide_eq_false c1]
        refine iteF ⟨_, rfl, p3, _, _, _, rfl, rfl, h3, ix0, _, _, rfl, rfl, _, rfl, ?_⟩
        by_cases c2 : (at0 xs i).2.num < 1
        · rw [decide_eq_true c2]
          exact iteT (iteT (no (bad fun h _ => (fits_at.mp h).2.1 c2) _ s2))
        rw [decide_eq_false c2]
        refine iteF ⟨_, rfl, _, rfl, _, _, _, _, rfl, f1, hP2, bz.1.mono, bP.mono, fun v8 H8 e8 e8' => ?_⟩
        subst e8 e8'
        refine ⟨_, rfl, ?_⟩
        by_cases c3 : (at0 xs i).1 < P
        rotate_left
        · rw [decide_eq_false c3]
          exact iteT (iteT (no (bad fun h _ => c3 (fits_at.mp h).2.2.1) _ s2))
        rw [decide_eq_true c3]
        refine iteF ⟨_, rfl, _, rfl, _, _, _, _, rfl, hP2, f2, bP.mono, bz.2.mono, fun v9 H9 e9 e9' => ?_⟩
        subst e9 e9'
        refine ⟨_, rfl, ?_⟩
        by_cases c4 : P < (at0 xs i).2
        · rw [decide_eq_true c4]
          exact iteT (no (bad fun h _ => (fits_at.mp h).2.2.2 c4) _ s2)
        rw [decide_eq_false c4]
        exact iteF (k _ _ ⟨rfl, fits_at.mpr ⟨c1, c2, c3, c4⟩, _, rfl⟩)
      rintro σ H3 ⟨rfl, hfit, z7, rfl⟩
      refine seq_by (t := tAsg _ _) (u := tIfS _ _ _) (fun σ H' => Same H3 H' ∧ ∃ v7, Dp K H' v7 (dq (nxQ P xs i)) ∧ σ = [some (.ref U), some vpl, some (.ref p2), some (.ref a), some (.int (0 + (i : Int))), some (.ref p1), some (.ref p3), some v7]) ?_ fun k => ?_
      rotate_left
      · refine ⟨_, rfl, _, _, rfl, rfl, _, rfl, a, _, rfl, .inr ha2, _, _, rfl, rfl, _, rfl, ?_⟩
        rw [el]
        by_cases c : i + 1 < xs.length
        · rw [decide_eq_true (show (0 + (i : Int) + 1) < (xs.length : Int) by omega)]
          obtain ⟨_, V', w1', w2', q1, q3, gu', rfl, hV', rfl, rfl, _, _, f1', f2'⟩ := at_ (i + 1) (by omega) H3 s2
          refine iteT ⟨_, rfl, _, rfl, _, _, rfl, rfl, a, _, _, _, rfl, rfl, ha2, by rw [show (0 + (i : Int) + 1) = ((i + 1 : Nat) : Int) by omega]; exact atI_nat gu', V', _, _, _, rfl, rfl, hV', ix0, ?_⟩
          exact k _ _ ⟨Same.refl _, _, by unfold nxQ; rw [if_pos c]; exact f1', rfl⟩
        · rw [decide_eq_false (show ¬ (0 + (i : Int) + 1) < (xs.length : Int) by omega)]
          obtain ⟨_, V', w1', w2', q1, q3, gu', rfl, hV', rfl, rfl, _, _, f1', f2'⟩ := at_ 0 (by omega) H3 s2
          have bz0 := hb (at0 xs 0) (List.mem_of_getElem? (at0_q (by omega)))
          refine iteF ⟨_, rfl, a, _, _, _, rfl, rfl, ha2, atI_nat (j := 0) gu', V', _, _, _, rfl, rfl, hV', ix0, _, rfl, u_add f1' hP2 bz0.1.mono bP.mono fun v7 H4 s4 f7 => ?_⟩
          exact k _ _ ⟨s4, _, by unfold nxQ; rw [if_neg c]; exact f7, rfl⟩
      rintro σ H4 ⟨s4, v7, f7, rfl⟩
      have bn : Bq 201 (nxQ P xs i) := by
        unfold nxQ
        by_cases c : i + 1 < xs.length
        · rw [if_pos c]; exact (hb _ (List.mem_of_getElem? (at0_q c))).1.mono
        · rw [if_neg c]; exact (Bq.add (hb _ (List.mem_of_getElem? (at0_q (show 0 < xs.length by omega)))).1 bP).mono
      refine ⟨_, rfl, _, rfl, _, rfl, u_add (Dp_same s4 f1) (Dp_same s4 f2) bz.1.mono bz.2.mono fun v8 H5 s5 f8 => ?_⟩
      refine ⟨_, _, _, _, rfl, Dp_same s5 f7, f8, bn.mono, (Bq.add bz.1 bz.2).mono, fun v9 H9 e9 e9' => ?_⟩
      subst e9 e9'
      refine ⟨_, rfl, ?_⟩
      have s25 := (s2.trans s4).trans s5
      by_cases c : nxQ P xs i < (at0 xs i).1 + (at0 xs i).2
      · rw [decide_eq_true c]
        exact iteT (no (bad fun _ h => h c) _ s25)
      · rw [decide_eq_false c]
        refine iteF ⟨s25, fun k hk' => ?_, _, _, _, _, rfl⟩
        by_cases e : k = i
        · rw [e]; exact ⟨hfit, c⟩
        · exact hk k (by omega)
    · rintro σ H2 ⟨s2, hk, z4, z5, z6, z7, rfl⟩
      exact oks _ s2 fun k h => hk k (by omega)
end
end EP
namespace EP
open PySem PySem.Spec PyProof.Rows L2
section
variable {P : Program} {w : World} {K : PySem.W.Frag} {mg : Str → Option Value} {base : Heap}
theorem DpAll_set8 {H : Hp} {v : V} {d : PyData} (h : Dp K H v d) : ∀ {i : Nat} {vs : List V} {ds : List PyData}, DpAll K H vs ds → DpAll K H (vs.set i v) (ds.set i d)
  | _, _, _, .nil => .nil
  | 0, _, _, .cons a t => .cons h t
  | i + 1, _, _, .cons a t => .cons a (DpAll_set8 h t)
theorem DpAll_rev8 {H : Hp} : ∀ {vs : List V} {ds : List PyData}, DpAll K H vs ds → DpAll K H vs.reverse ds.reverse
  | _, _, .nil => .nil
  | _, _, .cons a t => by rw [List.reverse_cons, List.reverse_cons]; exact DpAll_snoc a (DpAll_rev8 t)
structure Bt (K : PySem.W.Frag) (r : Addr) (H H' : Hp) (l : Addr) (vpl vP : V) (ws : List V) (pl P : Rat) (xs : Sps) : Prop where
  m : Mo r H H'
  nl : l ≠ r
  hn : H l = none
  hl : H' l = some (.lst ws)
  hw : DpAll K H' ws (xs.map dsp)
  hp : Dp K H' vpl (dq pl)
  hP : Dp K H' vP (dq P)
theorem Bt.mo {r : Addr} {H H1 H2 : Hp} {l : Addr} {vpl vP : V} {ws : List V} {pl P : Rat} {xs : Sps} (x : Bt K r H H1 l vpl vP ws pl P xs) (m : Mo r H1 H2) : Bt K r H H2 l vpl vP ws pl P xs :=
  ⟨x.m.trans m, x.nl, x.hn, m.g _ _ x.nl x.hl, DpAll_mo m x.hw (noLs_dsp _), Dp_mo m x.hp (noL_dq _), Dp_mo m x.hP (noL_dq _)⟩
theorem Bt.same {r : Addr} {H H1 H2 : Hp} {l : Addr} {vpl vP : V} {ws : List V} {pl P : Rat} {xs : Sps} (x : Bt K r H H1 l vpl vP ws pl P xs) (s : Same H1 H2) : Bt K r H H2 l vpl vP ws pl P xs := x.mo (.same x.m.b s)
theorem Bt.set {r : Addr} {H H1 : Hp} {l : Addr} {vpl vP : V} {ws ws2 : List V} {pl P : Rat} {xs xs2 : Sps} (x : Bt K r H H1 l vpl vP ws pl P xs) (h : DpAll K H1 ws2 (xs2.map dsp)) : Bt K r H (upd H1 l (.lst ws2)) l vpl vP ws2 pl P xs2 :=
  ⟨x.m.mut x.hn, x.nl, x.hn, upd_same, DpAll_mut x.hl h (noLs_dsp _), Dp_mut x.hl x.hp (noL_dq _), Dp_mut x.hl x.hP (noL_dq _)⟩
theorem Bt.new {r : Addr} {H H1 : Hp} {l l2 : Addr} {vpl vP : V} {ws ws2 : List V} {pl P : Rat} {xs xs2 : Sps} (x : Bt K r H H1 l vpl vP ws pl P xs) (n : H1 l2 = none) (h : DpAll K H1 ws2 (xs2.map dsp)) : Bt K r H (upd H1 l2 (.lst ws2)) l2 vpl vP ws2 pl P xs2 :=
  have ne : l2 ≠ r := x.m.b.ne n
  have s := same_upd (o := HO.lst ws2) n
  have hn : H l2 = none := by
    cases e : H l2 with
    | none => rfl
    | some o => rw [x.m.g _ _ ne e] at n; cases n
  ⟨x.m.trans (.same x.m.b s), ne, hn, upd_same, DpAll_same s h, Dp_same s x.hp, Dp_same s x.hP⟩
theorem ixN_nat8 {n j : Nat} (h : j < n) : ixN n (j : Int) = some j := by
  unfold ixN; rw [if_pos (by omega), if_pos (by omega), Int.toNat_natCast]
theorem Bt.el {r : Addr} {H H1 : Hp} {l : Addr} {vpl vP : V} {ws : List V} {pl P : Rat} {xs : Sps} (x : Bt K r H H1 l vpl vP ws pl P xs) : ws.length = xs.length := by rw [DpAll_len x.hw, List.length_map]
def spBent (K : PySem.W.Frag) : Sp := fun vs H Q _ => ∃ (r : Addr) (v : V) (pl P : Rat) (xs : Sps) (p b : Nat), vs = [.ref r, v] ∧ Rng H r ∧ Dp K H v (dG pl P xs) ∧ Bq p P ∧ (∀ x ∈ xs, Bq b x.1 ∧ Bq b x.2) ∧ xs.length ≤ 20 ∧ 21 ≤ p ∧ p ≤ 30 ∧ 40 ≤ b ∧ b ≤ 70 ∧ ∀ v' P' xs' H', Mo r H H' → Dp K H' v' (dG pl P' xs') → Bq (p + 3) P' → (∀ x ∈ xs', Bq (b + p + 4) x.1 ∧ Bq (b + p + 4) x.2) → xs'.length ≤ xs.length + 1 → Q v' H'
theorem ok_l_bent (T : Txt K mg) : FnOk P w K mg base CX0 4 T.f_l_bent T.d_l_bent Ps_l_bent (spBent K) := by
  refine T.F_l_bent.ok sc_l_bent (fun vs H Q E h => ?_) (fun cdv A outer s H vs Q E hr h => ?_)
  · obtain ⟨r, v, _, _, _, _, _, rfl, _⟩ := h; rfl
  · obtain ⟨r, v, pl, P, xs, p, b, rfl, hR, hv, bP, bx, hl, p0, p1, b0, b1, q⟩ := h
    refine ⟨_, (pss_cons (ps_par3 (i := 2) (j := 3) (l := 4) (by rfl) sc_l_bent.nd rfl rfl rfl (by decide) (by decide) (by decide) rfl rfl rfl (pa_cons (pe_ix ix_tup (pv 1) pe_int (fun _ _ => rfl)) (pa_cons (pe_ix ix_tup (pv 1) pe_int (fun _ _ => rfl)) (pa_cons (pe_callTy call_list_of (by rfl) T.m_list (by decide +kernel) (pa_cons (pe_ix ix_tup (pv 1) pe_int (fun _ _ => rfl)) pa_nil)) pa_nil))) (by rfl))
      (pss_cons (ps_set (i := 5) sc_l_bent.nd rfl (Or.inl rfl) (pe_call (ok_l_draw T) (hr.mono (by decide)) (by rfl) T.g_l_draw T.F_l_draw.kp T.b_l_draw .nil pass0 (pa_cons (pv 0) (pa_cons pe_int pa_nil))))
      (pss_cons (ps_if (pt_cmpR op_eq (pv 5) pe_int (nomark _)) (pss_one (ps_set (i := 3) sc_l_bent.nd rfl (Or.inl rfl) (pe_call (ok_l_choice T) (hr.mono (by decide)) (by rfl) T.g_l_choice T.F_l_choice.kp T.b_l_choice .nil pass0 (pa_cons (pv 0) (pa_cons (pe_lst (pa_cons (pe_tup (pa_cons pe_int (pa_cons pe_int pa_nil))) (pa_cons (pe_call (ok_l_times T) hr (by rfl) T.g_l_times T.F_l_times.kp T.b_l_times .nil pass0 (pa_cons (pe_op op_sub pe_int pe_int) (pa_cons (pv 3) pa_nil))) (pa_cons (pe_call (ok_l_multiply T) hr (by rfl) T.g_l_multiply T.F_l_multiply.kp T.b_l_multiply .nil pass0 (pa_cons (pv 3) (pa_cons (pe_tup (pa_cons pe_int (pa_cons pe_int pa_nil))) pa_nil))) (pa_cons (pe_call (ok_l_smallQ T) hr (by rfl) T.g_l_small T.F_l_small.kp T.b_l_small .nil pass0 (pa_cons (pv 0) pa_nil)) pa_nil))))) pa_nil))))) pss_nil)
      (pss_cons (ps_if (pt_cmpR op_eq (pv 5) pe_int (nomark _)) (pss_one (ps_expr (pe_bm PySem.F.plainAttrs_list PySem.F.slot_list_insert PySem.F.type_list_insert mt_insert (pv 4) (pa_cons (pe_call (ok_l_draw T) (hr.mono (by decide)) (by rfl) T.g_l_draw T.F_l_draw.kp T.b_l_draw .nil pass0 (pa_cons (pv 0) (pa_cons (pe_op op_add (pe_callB call_len_seq (by rfl) T.m_len PySem.boot_len (pa_cons (pv 4) pa_nil)) pe_int) pa_nil))) (pa_cons (pe_tup (pa_cons (pe_call (ok_l_smallQ T) hr (by rfl) T.g_l_small T.F_l_small.kp T.b_l_small .nil pass0 (pa_cons (pv 0) pa_nil)) (pa_cons (pe_call (ok_l_positiveQ T) hr (by rfl) T.g_l_positive T.F_l_positive.kp T.b_l_positive .nil pass0 (pa_cons (pv 0) pa_nil)) pa_nil))) pa_nil))))) pss_nil)
      (pss_cons (ps_if (pt_cmpR (op_eqD hr.units) (pv 4) (pe_lst pa_nil) (nomark _)) (pss_one (ps_ret (pe_tup (pa_cons (pv 2) (pa_cons (pv 3) (pa_cons (pe_tup pa_nil) pa_nil)))))) pss_nil)
      (pss_cons (ps_set (i := 6) sc_l_bent.nd rfl (Or.inl rfl) (pe_call (ok_l_draw T) (hr.mono (by decide)) (by rfl) T.g_l_draw T.F_l_draw.kp T.b_l_draw .nil pass0 (pa_cons (pv 0) (pa_cons (pe_callB call_len_seq (by rfl) T.m_len PySem.boot_len (pa_cons (pv 4) pa_nil)) pa_nil))))
      (pss_cons (ps_asg (pe_ix ix_list (pv 4) (pv 6) (fun _ _ => rfl)) (pg_tup (by rfl) (pgs_cons (pg_name (i := 7) sc_l_bent.nd rfl (Or.inl rfl)) (pgs_cons (pg_name (i := 8) sc_l_bent.nd rfl (Or.inl rfl)) pgs_nil))))
      (pss_cons (ps_if (pt_cmpR op_eq (pv 5) pe_int (nomark _)) (pss_one (ps_expr (pe_bm PySem.F.plainAttrs_list PySem.F.slot_list_insert PySem.F.type_list_insert mt_insert (pv 4) (pa_cons (pe_call (ok_l_draw T) (hr.mono (by decide)) (by rfl) T.g_l_draw T.F_l_draw.kp T.b_l_draw .nil pass0 (pa_cons (pv 0) (pa_cons (pe_op op_add (pe_callB call_len_seq (by rfl) T.m_len PySem.boot_len (pa_cons (pv 4) pa_nil)) pe_int) pa_nil))) (pa_cons (pe_ix ix_list (pv 4) (pv 6) (fun _ _ => rfl)) pa_nil))))) pss_nil)
      (pss_cons (ps_if (pt_cmpR op_eq (pv 5) pe_int (nomark _)) (pss_one (ps_asg (pe_tup (pa_cons (pe_call (ok_l_choice T) (hr.mono (by decide)) (by rfl) T.g_l_choice T.F_l_choice.kp T.b_l_choice .nil pass0 (pa_cons (pv 0) (pa_cons (pe_lst (pa_cons (pe_call (ok_l_smallQ T) hr (by rfl) T.g_l_small T.F_l_small.kp T.b_l_small .nil pass0 (pa_cons (pv 0) pa_nil)) (pa_cons (pe_call (ok_l_add T) hr (by rfl) T.g_l_add T.F_l_add.kp T.b_l_add .nil pass0 (pa_cons (pv 7) (pa_cons (pv 3) pa_nil))) (pa_cons (pv 3) (pa_cons (pe_tup (pa_cons (pe_un un_neg pe_int) (pa_cons pe_int pa_nil))) pa_nil))))) pa_nil))) (pa_cons (pv 8) pa_nil))) (pg_sub (pv 4) (pv 6) set_list))) pss_nil)
      (pss_cons (ps_if (pt_cmpR op_eq (pv 5) pe_int (nomark _)) (pss_one (ps_asg (pe_tup (pa_cons (pv 7) (pa_cons (pe_call (ok_l_choice T) (hr.mono (by decide)) (by rfl) T.g_l_choice T.F_l_choice.kp T.b_l_choice .nil pass0 (pa_cons (pv 0) (pa_cons (pe_lst (pa_cons (pv 3) (pa_cons (pe_tup (pa_cons pe_int (pa_cons pe_int pa_nil))) (pa_cons (pe_call (ok_l_add T) hr (by rfl) T.g_l_add T.F_l_add.kp T.b_l_add .nil pass0 (pa_cons (pv 8) (pa_cons (pe_tup (pa_cons pe_int (pa_cons pe_int pa_nil))) pa_nil))) (pa_cons (pe_call (ok_l_times T) hr (by rfl) T.g_l_times T.F_l_times.kp T.b_l_times .nil pass0 (pa_cons (pe_op op_sub pe_int pe_int) (pa_cons (pv 8) pa_nil))) pa_nil))))) pa_nil))) pa_nil))) (pg_sub (pv 4) (pv 6) set_list))) pss_nil)
      (pss_cons (ps_if (pt_cmpR op_eq (pv 5) pe_int (nomark _)) (pss_one (ps_set (i := 4) sc_l_bent.nd rfl (Or.inl rfl) (pe_revL (pv 4)))) pss_nil)
      (pss_cons (ps_if (pt_cmpR op_eq (pv 5) pe_int (nomark _)) (pss_one (ps_set (i := 4) sc_l_bent.nd rfl (Or.inl rfl) (pe_op op_cat (pe_slice sl_list (pv 4) po_none (po_some (pv 6))) (pe_slice sl_list (pv 4) (po_some (pe_op op_add (pv 6) pe_int)) po_none)))) pss_nil)
      (pss_one (ps_ret (pe_tup (pa_cons (pv 2) (pa_cons (pv 3) (pa_cons (pe_callTy call_tuple_of (by rfl) T.m_tuple (by decide +kernel) (pa_cons (pv 4) pa_nil)) pa_nil)))))))))))))))))), ?_⟩
    obtain ⟨U, vpl, vP, v3, rfl, hU, hpl, hP, d3⟩ := dp_three hv
    obtain ⟨a, us, rfl, ha, hu⟩ := dp_tup d3
    have el : us.length = xs.length := by rw [DpAll_len hu, List.length_map]
    refine ⟨_, rfl, U, _, _, _, rfl, rfl, hU, ix0, _, rfl, U, _, _, _, rfl, rfl, hU, ix1, _, rfl, U, _, _, _, rfl, rfl, hU, ix2, a, us, rfl, .inr ha, fun l nl => ⟨_, _, _, rfl, ?_⟩⟩
    have lr : l ≠ r := hR.ne nl
    have m0 := Mo.new (o := HO.lst us) hR nl
    have s0 := same_upd (o := HO.lst us) nl
    have Z0 : Bt K r H (upd H l (.lst us)) l vpl vP us pl P xs := ⟨m0, lr, nl, upd_same, DpAll_same s0 hu, Dp_same s0 hpl, Dp_same s0 hP⟩
    refine ⟨_, rfl, r, 8, rfl, by decide, (B.of (n := 5) (by decide)).mono, m0.b, fun w H1 w0 w1 m1 => ?_⟩
    have Z1 := Z0.mo m1
    have bP30 : Bq 30 P := bP.mono p1
    have bx70 : ∀ x ∈ xs, Bq 70 x.1 ∧ Bq 70 x.2 := fun x hx => ⟨(bx x hx).1.mono b1, (bx x hx).2.mono b1⟩
    dsimp only [gName]
    -- the period
    refine seq_by (t := tIfS _ _ _) (u := tSeq _ _) (fun σ H' => ∃ vP' P', Bt K r H H' l vpl vP' us pl P' xs ∧ Bq (p + 3) P' ∧ σ = [some (.ref r), some (.ref U), some vpl, some vP', some (.ref l), some (.int w), none, none, none]) ?_ fun k => ?_
    rotate_left
    · refine ⟨_, rfl, rfl, _, rfl, brEq (fun z => ?_) (fun z => k _ _ ⟨vP, P, Z1, bP.mono (by omega), rfl⟩)⟩
      refine ⟨_, rfl, sizeLine2 (by simp), fun c1 n1 => ?_⟩
      have s1 := same_upd (o := HO.tup [.int 0, .int 1]) n1
      have f1 : Dp K _ (.ref c1) (dq 0) := dq_lit (a := 0) (b := 1) n1 rfl rfl
      refine ⟨_, _, rfl, rfl, _, rfl, u_times (n := 0 - 1) (Dp_same s1 Z1.hP) (B.of (n := 1) (by decide)).mono bP30.mono fun v2 H2 s2 f2 => ?_⟩
      refine ⟨_, rfl, sizeLine2 (by simp), fun c3 n3 => ?_⟩
      have s3 := same_upd (o := HO.tup [.int 1, .int 2]) n3
      have f3 : Dp K _ (.ref c3) (dq (1 / 2)) := dq_lit (a := 1) (b := 2) n3 (by decide +kernel) (by decide +kernel)
      refine u_mul (Dp_same ((s1.trans s2).trans s3) Z1.hP) f3 bP30.mono (show Bq 2 (1 / 2 : Rat) from ⟨B.of (by decide +kernel), B.of (by decide +kernel)⟩).mono fun v4 H4 s4 f4 => ?_
      have Z4 := Z1.same (((s1.trans s2).trans s3).trans s4)
      refine ⟨_, rfl, r, rfl, Z4.m.b, fun v5 q5 H5 m5 f5 b5 => ?_⟩
      refine ⟨sizeLine2 (by simp), fun c6 n6 => ?_⟩
      have Z5 := Z4.mo m5
      have s6 := same_upd (o := HO.lst [.ref c1, v2, v4, v5]) n6
      have Z6 := Z5.same s6
      refine ⟨r, c6, _, rfl, .inl (.inl upd_same), Z5.m.b.ne n6, by simp, by simp, Z6.m.b, fun z7 H7 hz m7 => ?_⟩
      have m57 := (Mo.same m5.b s6).trans m7
      have m47 := m5.trans m57
      have m27 := (Mo.same (Z1.m.b.same (s1.trans s2)) (s3.trans s4)).trans m47
      have m17 := (Mo.same (Z1.m.b.same s1) s2).trans m27
      obtain ⟨P', fP, bP'⟩ : ∃ P', Dp K H7 z7 (dq P') ∧ Bq (p + 3) P' := by
        simp only [List.mem_cons, List.not_mem_nil, or_false] at hz
        rcases hz with rfl | rfl | rfl | rfl
        · exact ⟨_, Dp_mo m17 f1 (noL_dq _), (show Bq 1 (0 : Rat) from ⟨B.of (by decide +kernel), B.of (by decide +kernel)⟩).mono (by omega)⟩
        · exact ⟨_, Dp_mo m27 f2 (noL_dq _), (Bq.times (n := 1) (k := 0 - 1) (B.of (by decide)) bP).mono (by omega)⟩
        · exact ⟨_, Dp_mo m47 f4 (noL_dq _), (bP.mul (show Bq 2 (1 / 2 : Rat) from ⟨B.of (by decide +kernel), B.of (by decide +kernel)⟩)).mono (by omega)⟩
        · exact ⟨_, Dp_mo m57 f5 (noL_dq _), b5.mono (by omega)⟩
      have Z7 := Z6.mo m7
      exact k _ _ ⟨z7, P', ⟨Z7.m, lr, nl, Z7.hl, Z7.hw, Z7.hp, fP⟩, bP', rfl⟩
    rintro σ H2 ⟨vP', P', Z2, bP', rfl⟩
    clear Z1 Z0
    have bP33 : Bq 33 P' := bP'.mono (by omega)
    -- a span more
    refine seq_by (t := tIfS _ _ _) (u := tSeq _ _) (fun σ H' => ∃ ws ys, Bt K r H H' l vpl vP' ws pl P' ys ∧ (∀ x ∈ ys, Bq b x.1 ∧ Bq b x.2) ∧ (ys.length ≤ xs.length ∨ ys.length ≤ xs.length + 1 ∧ w = 1) ∧ σ = [some (.ref r), some (.ref U), some vpl, some vP', some (.ref l), some (.int w), none, none, none]) ?_ fun k => ?_
    rotate_left
    · refine ⟨_, rfl, rfl, _, rfl, brEq (fun z => ?_) (fun z => k _ _ ⟨us, xs, Z2, bx, .inl (Nat.le_refl _), rfl⟩)⟩
      have ew : w = 1 := z
      refine ⟨_, rfl, .inl ⟨rfl, us, .inl (.inl Z2.hl)⟩, _, rfl, _, rfl, l, us, rfl, .inl (.inl (.inl Z2.hl)), _, _, rfl, rfl, r, _, rfl, by omega, (B.of (n := 6) (by omega)).mono, Z2.m.b, fun i H3 i0 i1 m3 => ?_⟩
      have Z3 := Z2.mo m3
      refine ⟨_, rfl, r, rfl, Z3.m.b, fun v3 q3 H4 m4 f3 b3 => ?_⟩
      have Z4 := Z3.mo m4
      refine ⟨_, rfl, r, rfl, Z4.m.b, fun v4 q4 H5 m5 f4 b4 p4 => ?_⟩
      have Z5 := Z4.mo m5
      refine ⟨sizeLine2 (by simp), fun c nc => ?_⟩
      have sc := same_upd (o := HO.tup [v3, v4]) nc
      have Z6 := Z5.same sc
      obtain ⟨j, rfl⟩ := Int.eq_ofNat_of_zero_le i0
      refine ⟨l, us, j, .ref c, rfl, rfl, Z6.hl, sizeLine2 (by omega), i0, by omega, ?_⟩
      have fc : Dp K _ (.ref c) (dsp (q3, q4)) := dp_new nc (.cons (Dp_mo m5 f3 (noL_dq _)) (.cons f4 .nil))
      have hw6 := Z6.hw
      refine k _ _ ⟨_, xs.take j ++ [(q3, q4)] ++ xs.drop j, Z6.set (ws2 := us.take j ++ [.ref c] ++ us.drop j) ?_, fun x hx => ?_, .inr ⟨?_, ew⟩, rfl⟩
      · rw [List.map_append, List.map_append, List.map_take, List.map_drop]
        exact DpAll_append (DpAll_drop j hw6) (DpAll_snoc fc (DpAll_take j hw6))
      · rcases List.mem_append.mp hx with hx | hx
        · rcases List.mem_append.mp hx with hx | hx
          · exact bx x (List.mem_of_mem_take hx)
          · rw [List.mem_singleton.mp hx]; exact ⟨b3.mono (by omega), b4.mono (by omega)⟩
        · exact bx x (List.mem_of_mem_drop hx)
      · rw [List.length_append, List.length_append, List.length_take, List.length_drop, List.length_singleton]; omega
    rintro σ H3 ⟨ws, ys, Z3, by_, hly, rfl⟩
    clear Z2
    have ly : ys.length ≤ 21 := by omega
    have e3 := Z3.el
    -- none left
    refine ⟨_, rfl, sizeLine2 (by simp), fun c0 nc0 => ⟨_, _, .lst (.inl (.inl (same_upd nc0 _ _ Z3.hl))) (DpAll_same (same_upd nc0) Z3.hw), .lst (.inl (.inl upd_same)) .nil, sh_Ldsp _, sh_Ldsp [], ?_⟩⟩
    have s0 := same_upd (o := HO.lst []) nc0
    have Z3' := Z3.same s0
    rw [show PyData.eqv (.list (ys.map dsp)) (.list []) = decide (ys = []) from eqv_Ldsp ys []]
    refine ⟨_, rfl, ?_⟩
    by_cases hy : ys = []
    · rw [decide_eq_true hy]
      refine iteT ?_
      refine ⟨_, rfl, _, rfl, sizeLine2 (by simp), fun e1 n1 => ⟨sizeLine2 (by simp), fun c1 nc1 => ?_⟩⟩
      have s1 := same_upd (o := HO.tup []) n1
      have s2 := same_upd (o := HO.tup [vpl, vP', .ref e1]) nc1
      have Z4 := Z3'.same s1
      exact q _ P' [] _ (Z4.same s2).m (dp_new nc1 (.cons Z4.hp (.cons Z4.hP (.cons (dp_new (ds := []) n1 .nil) .nil)))) bP' (fun x hx => by cases hx) (by simp)
    rw [decide_eq_false hy]
    refine iteF ?_
    have ly0 : 0 < ys.length := List.length_pos_iff.mpr hy
    refine ⟨_, rfl, _, rfl, l, ws, rfl, .inl (.inl (.inl Z3'.hl)), r, _, rfl, by omega, (B.of (n := 6) (by omega)).mono, Z3'.m.b, fun i H5 i0 i1 m5 => ?_⟩
    have Z5 := Z3'.mo m5
    obtain ⟨j, rfl⟩ := Int.eq_ofNat_of_zero_le i0
    have hj : j < ws.length := by omega
    obtain ⟨z, hz, dz⟩ := get_map Z5.hw (List.getElem?_eq_getElem hj)
    have bz := by_ z (List.mem_of_getElem? hz)
    obtain ⟨V0, vb, ve, eV, hV, d1, d2⟩ := dp_two dz
    refine ⟨_, rfl, _, rfl, l, ws, _, _, rfl, rfl, .inl (.inl Z5.hl), atI_nat (List.getElem?_eq_getElem hj), ?_⟩
    rw [eV]
    refine ⟨V0, _, rfl, hV, rfl, _, _, rfl, _, _, rfl, rfl, ?_⟩
    dsimp only
    -- a span twice
    refine seq_by (t := tIfS _ _ _) (u := tSeq _ _) (fun σ H' => ∃ ws ys, Bt K r H H' l vpl vP' ws pl P' ys ∧ (∀ x ∈ ys, Bq b x.1 ∧ Bq b x.2) ∧ ys.length ≤ xs.length + 1 ∧ j < ws.length ∧ Dp K H' vb (dq z.1) ∧ Dp K H' ve (dq z.2) ∧ σ = [some (.ref r), some (.ref U), some vpl, some vP', some (.ref l), some (.int w), some (.int j), some vb, some ve]) ?_ fun k => ?_
    rotate_left
    · refine ⟨_, rfl, rfl, _, rfl, brEq (fun ew => ?_) (fun _ => k _ _ ⟨ws, ys, Z5, by_, by omega, hj, d1, d2, rfl⟩)⟩
      refine ⟨_, rfl, .inl ⟨rfl, ws, .inl (.inl Z5.hl)⟩, _, rfl, _, rfl, l, ws, rfl, .inl (.inl (.inl Z5.hl)), _, _, rfl, rfl, r, _, rfl, by omega, (B.of (n := 6) (by omega)).mono, Z5.m.b, fun i H6 i0 i1 m6 => ?_⟩
      have Z6 := Z5.mo m6
      obtain ⟨t, rfl⟩ := Int.eq_ofNat_of_zero_le i0
      refine ⟨_, rfl, _, rfl, l, ws, _, _, rfl, rfl, .inl (.inl Z6.hl), atI_nat (List.getElem?_eq_getElem hj), ?_⟩
      refine ⟨l, ws, t, ws[j], rfl, rfl, Z6.hl, sizeLine2 (by omega), i0, by omega, ?_⟩
      have hw6 := Z6.hw
      refine k _ _ ⟨_, ys.take t ++ [z] ++ ys.drop t, Z6.set (ws2 := ws.take t ++ [ws[j]] ++ ws.drop t) ?_, fun x hx => ?_, ?_, ?_, Dp_mut Z6.hl (Dp_mo m6 d1 (noL_dq _)) (noL_dq _), Dp_mut Z6.hl (Dp_mo m6 d2 (noL_dq _)) (noL_dq _), rfl⟩
      · rw [List.map_append, List.map_append, List.map_take, List.map_drop]
        exact DpAll_append (DpAll_drop t hw6) (DpAll_snoc (Dp_mo m6 dz (noL_dsp _)) (DpAll_take t hw6))
      · rcases List.mem_append.mp hx with hx | hx
        · rcases List.mem_append.mp hx with hx | hx
          · exact by_ x (List.mem_of_mem_take hx)
          · rw [List.mem_singleton.mp hx]; exact bz
        · exact by_ x (List.mem_of_mem_drop hx)
      · rw [List.length_append, List.length_append, List.length_take, List.length_drop, List.length_singleton]; omega
      · rw [List.length_append, List.length_append, List.length_take, List.length_drop, List.length_singleton]; omega
    rintro σ H6 ⟨ws, ys, Z6, by6, ly6, hj6, e1, e2, rfl⟩
    clear Z5 Z3 Z3'
    -- another begin
    refine seq_by (t := tIfS _ _ _) (u := tSeq _ _) (fun σ H' => ∃ ws ys, Bt K r H H' l vpl vP' ws pl P' ys ∧ (∀ x ∈ ys, Bq (b + p + 4) x.1 ∧ Bq (b + p + 4) x.2) ∧ ys.length ≤ xs.length + 1 ∧ j < ws.length ∧ Dp K H' vb (dq z.1) ∧ Dp K H' ve (dq z.2) ∧ σ = [some (.ref r), some (.ref U), some vpl, some vP', some (.ref l), some (.int w), some (.int j), some vb, some ve]) ?_ fun k => ?_
    rotate_left
    · refine ⟨_, rfl, rfl, _, rfl, brEq (fun ew => ?_) (fun _ => k _ _ ⟨ws, ys, Z6, fun x hx => ⟨(by6 x hx).1.mono (by omega), (by6 x hx).2.mono (by omega)⟩, ly6, hj6, e1, e2, rfl⟩)⟩
      refine ⟨_, rfl, _, rfl, r, rfl, Z6.m.b, fun v7 q7 H7 m7 f7 b7 => ?_⟩
      have Z7 := Z6.mo m7
      refine ⟨_, rfl, _, rfl, u_add (Dp_mo m7 e1 (noL_dq _)) Z7.hP (bz.1.mono (by omega)) (bP'.mono (by omega)) fun v8 H8 s8 f8 => ?_⟩
      have Z8 := Z7.same s8
      refine ⟨_, rfl, _, rfl, sizeLine2 (by simp), fun c9 n9 => ?_⟩
      have s9 := same_upd (o := HO.tup [.int (-1), .int 2]) n9
      have f9 : Dp K _ (.ref c9) (dq (-1 / 2)) := dq_lit (a := -1) (b := 2) n9 (by decide +kernel) (by decide +kernel)
      refine ⟨sizeLine2 (by simp), fun c10 n10 => ?_⟩
      have s10 := same_upd (o := HO.lst [v7, v8, vP', .ref c9]) n10
      have Z10 := Z8.same (s9.trans s10)
      refine ⟨r, c10, _, rfl, .inl (.inl upd_same), (Z8.same s9).m.b.ne n10, by simp, by simp, Z10.m.b, fun z11 H11 hz m11 => ?_⟩
      have Z11 := Z10.mo m11
      have m91 := (Mo.same ((Z8.same s9).m.b) s10).trans m11
      have m81 := (Mo.same Z8.m.b s9).trans m91
      have m71 := (Mo.same Z7.m.b s8).trans m81
      have m61 := m7.trans m71
      obtain ⟨q11, fq, bq⟩ : ∃ q11, Dp K H11 z11 (dq q11) ∧ Bq (b + p + 4) q11 := by
        simp only [List.mem_cons, List.not_mem_nil, or_false] at hz
        rcases hz with rfl | rfl | rfl | rfl
        · exact ⟨_, Dp_mo m71 f7 (noL_dq _), b7.mono (by omega)⟩
        · exact ⟨_, Dp_mo m81 f8 (noL_dq _), (bz.1.add bP').mono (by omega)⟩
        · exact ⟨_, Z11.hP, bP'.mono (by omega)⟩
        · exact ⟨_, Dp_mo m91 f9 (noL_dq _), (show Bq 2 (-1 / 2 : Rat) from ⟨B.of (by decide +kernel), B.of (by decide +kernel)⟩).mono (by omega)⟩
      have e1' := Dp_mo m61 e1 (noL_dq _)
      have e2' := Dp_mo m61 e2 (noL_dq _)
      refine ⟨_, rfl, sizeLine2 (by simp), fun t nt => ?_⟩
      have st := same_upd (o := HO.tup [z11, ve]) nt
      have Z12 := Z11.same st
      have ft : Dp K _ (.ref t) (dsp (q11, z.2)) := dp_new nt (.cons fq (.cons e2' .nil))
      refine ⟨_, rfl, _, rfl, l, ws, j, j, rfl, rfl, Z12.hl, ixN_nat8 hj6, ?_⟩
      refine k _ _ ⟨ws.set j (.ref t), ys.set j (q11, z.2), Z12.set ?_, fun x hx => ?_, by rw [List.length_set]; exact ly6, by rw [List.length_set]; exact hj6, Dp_mut Z12.hl (Dp_same st e1') (noL_dq _), Dp_mut Z12.hl (Dp_same st e2') (noL_dq _), rfl⟩
      · rw [List.map_set]; exact DpAll_set8 ft Z12.hw
      · rcases List.mem_or_eq_of_mem_set hx with hx | rfl
        · exact ⟨(by6 x hx).1.mono (by omega), (by6 x hx).2.mono (by omega)⟩
        · exact ⟨bq, bz.2.mono (by omega)⟩
    rintro σ H7 ⟨ws, ys, Z7, by7, ly7, hj7, e1, e2, rfl⟩
    clear Z6
    -- another length
    refine seq_by (t := tIfS _ _ _) (u := tSeq _ _) (fun σ H' => ∃ ws ys, Bt K r H H' l vpl vP' ws pl P' ys ∧ (∀ x ∈ ys, Bq (b + p + 4) x.1 ∧ Bq (b + p + 4) x.2) ∧ ys.length ≤ xs.length + 1 ∧ j < ws.length ∧ σ = [some (.ref r), some (.ref U), some vpl, some vP', some (.ref l), some (.int w), some (.int j), some vb, some ve]) ?_ fun k => ?_
    rotate_left
    · refine ⟨_, rfl, rfl, _, rfl, brEq (fun ew => ?_) (fun _ => k _ _ ⟨ws, ys, Z7, by7, ly7, hj7, rfl⟩)⟩
      refine ⟨_, rfl, _, rfl, _, rfl, sizeLine2 (by simp), fun c1 n1 => ?_⟩
      have s1 := same_upd (o := HO.tup [.int 0, .int 1]) n1
      have f1 : Dp K _ (.ref c1) (dq 0) := dq_lit (a := 0) (b := 1) n1 rfl rfl
      refine ⟨_, rfl, sizeLine2 (by simp), fun c2 n2 => ?_⟩
      have s2 := same_upd (o := HO.tup [.int 1, .int 7]) n2
      have f2 : Dp K _ (.ref c2) (dq (1 / 7)) := dq_lit (a := 1) (b := 7) n2 (by decide +kernel) (by decide +kernel)
      have b7 : Bq 3 (1 / 7 : Rat) := ⟨B.of (by decide +kernel), B.of (by decide +kernel)⟩
      refine u_add (Dp_same (s1.trans s2) e2) f2 (bz.2.mono (by omega)) b7.mono fun v8 H8 s8 f8 => ?_
      have s18 := (s1.trans s2).trans s8
      have Z8 := Z7.same s18
      refine ⟨_, _, rfl, rfl, _, rfl, u_times (n := 0 - 1) (Dp_same s18 e2) (B.of (n := 1) (by decide)).mono (bz.2.mono (by omega)) fun v9 H9 s9 f9 => ?_⟩
      have Z9 := Z8.same s9
      refine ⟨sizeLine2 (by simp), fun c10 n10 => ?_⟩
      have s10 := same_upd (o := HO.lst [vP', .ref c1, v8, v9]) n10
      have Z10 := Z9.same s10
      refine ⟨r, c10, _, rfl, .inl (.inl upd_same), Z9.m.b.ne n10, by simp, by simp, Z10.m.b, fun z11 H11 hz m11 => ?_⟩
      have Z11 := Z10.mo m11
      have m91 := (Mo.same Z9.m.b s10).trans m11
      have m81 := (Mo.same Z8.m.b s9).trans m91
      have m71 := (Mo.same Z7.m.b s18).trans m81
      have m11' := (Mo.same (Z7.m.b.same s1) (s2.trans s8)).trans m81
      obtain ⟨q11, fq, bq⟩ : ∃ q11, Dp K H11 z11 (dq q11) ∧ Bq (b + p + 4) q11 := by
        simp only [List.mem_cons, List.not_mem_nil, or_false] at hz
        rcases hz with rfl | rfl | rfl | rfl
        · exact ⟨_, Z11.hP, bP'.mono (by omega)⟩
        · exact ⟨_, Dp_mo m11' f1 (noL_dq _), (show Bq 1 (0 : Rat) from ⟨B.of (by decide +kernel), B.of (by decide +kernel)⟩).mono (by omega)⟩
        · exact ⟨_, Dp_mo m81 f8 (noL_dq _), (bz.2.add b7).mono (by omega)⟩
        · exact ⟨_, Dp_mo m91 f9 (noL_dq _), (Bq.times (n := 1) (k := 0 - 1) (B.of (by decide)) bz.2).mono (by omega)⟩
      refine ⟨sizeLine2 (by simp), fun t nt => ?_⟩
      have st := same_upd (o := HO.tup [vb, z11]) nt
      have Z12 := Z11.same st
      have ft : Dp K _ (.ref t) (dsp (z.1, q11)) := dp_new nt (.cons (Dp_mo m71 e1 (noL_dq _)) (.cons fq .nil))
      refine ⟨_, rfl, _, rfl, l, ws, j, j, rfl, rfl, Z12.hl, ixN_nat8 hj7, ?_⟩
      refine k _ _ ⟨ws.set j (.ref t), ys.set j (z.1, q11), Z12.set ?_, fun x hx => ?_, by rw [List.length_set]; exact ly7, by rw [List.length_set]; exact hj7, rfl⟩
      · rw [List.map_set]; exact DpAll_set8 ft Z12.hw
      · rcases List.mem_or_eq_of_mem_set hx with hx | rfl
        · exact by7 x hx
        · exact ⟨bz.1.mono (by omega), bq⟩
    rintro σ H8 ⟨ws, ys, Z8, by8, ly8, hj8, rfl⟩
    clear Z7
    -- the other way round
    refine seq_by (t := tIfS _ _ _) (u := tSeq _ _) (fun σ H' => ∃ l ws ys, Bt K r H H' l vpl vP' ws pl P' ys ∧ (∀ x ∈ ys, Bq (b + p + 4) x.1 ∧ Bq (b + p + 4) x.2) ∧ ys.length ≤ xs.length + 1 ∧ j < ws.length ∧ σ = [some (.ref r), some (.ref U), some vpl, some vP', some (.ref l), some (.int w), some (.int j), some vb, some ve]) ?_ fun k => ?_
    rotate_left
    · refine ⟨_, rfl, rfl, _, rfl, brEq (fun ew => ?_) (fun _ => k _ _ ⟨l, ws, ys, Z8, by8, ly8, hj8, rfl⟩)⟩
      refine ⟨_, rfl, l, ws, rfl, .inl (.inl Z8.hl), fun l2 n2 => ?_⟩
      refine k _ _ ⟨l2, ws.reverse, ys.reverse, Z8.new n2 ?_, fun x hx => by8 x (List.mem_reverse.mp hx), by rw [List.length_reverse]; exact ly8, by rw [List.length_reverse]; exact hj8, rfl⟩
      rw [List.map_reverse]; exact DpAll_rev8 Z8.hw
    rintro σ H9 ⟨l', ws, ys, Z9, by9, ly9, hj9, rfl⟩
    clear Z8
    -- a span fewer
    refine seq_by (t := tIfS _ _ _) (u := tRet _) (fun σ H' => ∃ l ws ys, Bt K r H H' l vpl vP' ws pl P' ys ∧ (∀ x ∈ ys, Bq (b + p + 4) x.1 ∧ Bq (b + p + 4) x.2) ∧ ys.length ≤ xs.length + 1 ∧ σ = [some (.ref r), some (.ref U), some vpl, some vP', some (.ref l), some (.int w), some (.int j), some vb, some ve]) ?_ fun k => ?_
    rotate_left
    · refine ⟨_, rfl, rfl, _, rfl, brEq (fun ew => ?_) (fun _ => k _ _ ⟨l', ws, ys, Z9, by9, ly9, rfl⟩)⟩
      have cD := cut_drop ws (j + 1)
      rw [Int.natCast_add, Int.natCast_one] at cD
      refine ⟨_, rfl, _, rfl, j, rfl, l', ws, rfl, .inl (.inl Z9.hl), fun l2 n2 => ?_⟩
      rw [cut_to]
      have s2 := same_upd (o := HO.lst (ws.take j)) n2
      have Z10 := Z9.same s2
      refine ⟨_, rfl, _, rfl, _, _, rfl, rfl, _, rfl, l', ws, rfl, .inl (.inl Z10.hl), fun l3 n3 => ?_⟩
      rw [cD]
      have s3 := same_upd (o := HO.lst (ws.drop (j + 1))) n3
      have Z11 := Z10.same s3
      have e9 := Z9.el
      refine ⟨l2, l3, _, _, rfl, rfl, s3 _ _ upd_same, upd_same, sizeLine2 (by rw [List.length_take, List.length_drop]; omega), fun l4 n4 => ?_⟩
      refine k _ _ ⟨l4, _, ys.take j ++ ys.drop (j + 1), Z11.new n4 ?_, fun x hx => ?_, ?_, rfl⟩
      · rw [List.map_append, List.map_take, List.map_drop]
        exact DpAll_append (DpAll_drop _ Z11.hw) (DpAll_take _ Z11.hw)
      · rcases List.mem_append.mp hx with hx | hx
        · exact by9 x (List.mem_of_mem_take hx)
        · exact by9 x (List.mem_of_mem_drop hx)
      · rw [List.length_append, List.length_take, List.length_drop]; omega
    rintro σ H10 ⟨l2, ws, ys, Z10, by10, ly10, rfl⟩
    clear Z9
    refine ⟨_, rfl, _, rfl, _, rfl, l2, ws, rfl, .inl ⟨.inl (.inl Z10.hl), fun t nt => ?_⟩⟩
    have s1 := same_upd (o := HO.tup ws) nt
    refine ⟨sizeLine2 (by simp), fun c nc => ?_⟩
    have s2 := same_upd (o := HO.tup [vpl, vP', .ref t]) nc
    have Z11 := Z10.same s1
    exact q _ P' ys _ (Z11.same s2).m (dp_new nc (.cons Z11.hp (.cons Z11.hP (.cons (dp_new nt Z10.hw) .nil)))) bP' by10 ly10
end
end EP
namespace EP
open PySem PySem.Spec PyProof.Rows L2 EPX
section
variable {P : Program} {w : World} {K : PySem.W.Frag} {mg : Str → Option Value} {base : Heap}
/-! gates whose spans are a list -/
def dGL (g : Gt) : PyData := .tuple [dq g.pl, dq g.P, .list (g.xs.map dsp)]
theorem dp_lstL {H : Hp} {v : V} {ds : List PyData} (h : Dp K H v (.list ds)) : ∃ a vs, v = .ref a ∧ SqL K H a vs ∧ DpAll K H vs ds := by
  cases h with
  | lst a b => exact ⟨_, _, rfl, a, b⟩
def spEndsL (K : PySem.W.Frag) : Sp := fun vs H Q _ => ∃ (a : Addr) (us : List V) (xs : Sps), vs = [.ref a] ∧ SqL K H a us ∧ DpAll K H us (xs.map dsp) ∧ xs.length < 1000 ∧ (∀ x ∈ xs, Bq 100 x.1 ∧ Bq 100 x.2) ∧ ∀ D us' H', Same H H' → H' D = some (.lst us') → DpAll K H' us' ((ends xs).map dq) → Q (.ref D) H'
theorem ok_span_endsL (T : Txt K mg) : FnOk P w K mg base CX0 4 T.f_span_ends T.d_span_ends Ps_span_ends (spEndsL K) := by
  refine T.F_span_ends.ok sc_span_ends (fun vs H Q E h => ?_) (fun cdv A outer s H vs Q E hr h => ?_)
  · obtain ⟨x, _, _, rfl, _⟩ := h; rfl
  · obtain ⟨a, us, xs, rfl, ha, hu, hl, hb, q⟩ := h
    refine ⟨_, (pss_one (ps_ret (pe_lc (own := [("begin", 1), ("length", 2)]) (g := (gTup K 2 (gCons (gName 1) (gCons (gName 2) gNil)))) (tt := tYes) rfl sc_span_ends.nd (pi_list (pv 0)) (blkOk_by (N := N_span_ends) (sc := defScope s_span_ends) (by decide +kernel)) (fun _ _ _ _ _ => (pg_tup rfl (pgs_cons (pg_name (i := 1) sc_span_ends.nd rfl (Or.inl rfl)) (pgs_cons (pg_name (i := 2) sc_span_ends.nd rfl (Or.inl rfl)) pgs_nil)))) (fun _ _ _ _ _ => pts_nil) (fun _ _ _ _ _ => (pe_call (ok_add T) hr (by rfl) T.g_add T.F_add.kp T.b_add .nil pass0 (pa_cons (pv 1) (pa_cons (pv 2) pa_nil))))))), ?_⟩
    have el : us.length = xs.length := by rw [DpAll_len hu, List.length_map]
    refine ⟨_, rfl, a, rfl, ⟨_, ha⟩, fun D nD => ?_⟩
    refine lc_map (K := K) (walk_list (xs := us)) ((ends xs).map dq) nD (by rw [List.length_map, ends, List.length_map, el]) (by omega) (noLs_dq _) (fun H' s => Evl.ex_l s ha) ?_ (fun H' us' s h1 h2 => q D us' H' s h1 h2)
    rintro i x d H1 H2 hi hd s1 ⟨rfl, hx⟩ R k
    obtain ⟨z, hz, dz⟩ := get_dsp hu hx
    have hdz : d = dq (z.1 + z.2) := by
      rw [List.getElem?_map, ends, List.getElem?_map, hz] at hd; exact (Option.some.inj hd).symm
    subst hdz
    obtain ⟨U, v1, v2, rfl, hU, d1, d2⟩ := dp_two (Dp_same s1 dz)
    have bz := hb z (List.mem_of_getElem? hz)
    refine ⟨U, [v1, v2], rfl, hU, rfl, v1, [v2], rfl, v2, [], rfl, rfl, rfl, ?_⟩
    exact ⟨_, rfl, _, rfl, u_add d1 d2 bz.1.mono bz.2.mono fun v H3 s3 f => k v H3 s3 f⟩
def spNextsL (K : PySem.W.Frag) : Sp := fun vs H Q _ => ∃ (vP : V) (P : Rat) (a : Addr) (us : List V) (xs : Sps), vs = [vP, .ref a] ∧ Dp K H vP (dq P) ∧ Bq 130 P ∧ SqL K H a us ∧ DpAll K H us (xs.map dsp) ∧ xs.length < 1000 ∧ (∀ x ∈ xs, Bq 100 x.1 ∧ Bq 100 x.2) ∧ ∀ D us' H', Same H H' → H' D = some (.lst us') → DpAll K H' us' ((nexts P xs).map dq) → Q (.ref D) H'
theorem ok_next_beginsL (T : Txt K mg) : FnOk P w K mg base CX0 4 T.f_next_begins T.d_next_begins Ps_next_begins (spNextsL K) := by
  refine T.F_next_begins.ok sc_next_begins (fun vs H Q E h => ?_) (fun cdv A outer s H vs Q E hr h => ?_)
  · obtain ⟨x, _, _, _, _, rfl, _⟩ := h; rfl
  · obtain ⟨vP, P, a, us, xs, rfl, fP, bP, ha, hu, hl, hb, q⟩ := h
    refine ⟨_, (pss_cons (ps_setLc (i := 2) (own := [("begin", 3), ("length", 4)]) (g := (gTup K 2 (gCons (gName 3) (gCons (gName 4) gNil)))) (tt := tYes) rfl sc_next_begins.nd rfl rfl (sw_true rfl rfl rfl (by decide +kernel)) (pi_list (pv 1)) (blkOk_by (N := N_next_begins) (sc := defScope s_next_begins) (by decide +kernel)) (fun _ _ _ _ _ => (pg_tup rfl (pgs_cons (pg_name (i := 3) sc_next_begins.nd rfl (Or.inl rfl)) (pgs_cons (pg_name (i := 4) sc_next_begins.nd rfl (Or.inl rfl)) pgs_nil)))) (fun _ _ _ _ _ => pts_nil) (fun _ _ _ _ _ => (pv 3)))
      (pss_one (ps_ret (pe_op op_cat (pe_slice sl_list (pv 2) (po_some pe_int) po_none) (pe_lc (own := [("begin", 3)]) (g := (gName 3)) (tt := tYes) rfl sc_next_begins.nd (pi_list (pe_slice sl_list (pv 2) po_none (po_some pe_int))) (blkOk_by (N := N_next_begins) (sc := defScope s_next_begins) (by decide +kernel)) (fun _ _ _ _ _ => (pg_name (i := 3) sc_next_begins.nd rfl (Or.inl rfl))) (fun _ _ _ _ _ => pts_nil) (fun _ _ _ _ _ => (pe_call (ok_add T) hr (by rfl) T.g_add T.F_add.kp T.b_add .nil pass0 (pa_cons (pv 3) (pa_cons (pv 0) pa_nil))))))))), ?_⟩
    have el : us.length = xs.length := by rw [DpAll_len hu, List.length_map]
    refine ⟨_, rfl, a, rfl, ⟨_, ha⟩, fun D nD => ?_⟩
    refine lc_map (K := K) (walk_list (xs := us)) ((begs xs).map dq) nD (by rw [List.length_map, begs, List.length_map, el]) (by omega) (noLs_dq _) (fun H' s => Evl.ex_l s ha) ?_ ?_
    · rintro i x d H1 H2 hi hd s1 ⟨rfl, hx⟩ R k
      obtain ⟨z, hz, dz⟩ := get_dsp hu hx
      have hdz : d = dq z.1 := by
        rw [List.getElem?_map, begs, List.getElem?_map, hz] at hd; exact (Option.some.inj hd).symm
      subst hdz
      obtain ⟨U, v1, v2, rfl, hU, d1, d2⟩ := dp_two (Dp_same s1 dz)
      refine ⟨U, [v1, v2], rfl, hU, rfl, v1, [v2], rfl, v2, [], rfl, rfl, rfl, ?_⟩
      exact ⟨_, rfl, k _ _ (Same.refl _) d1⟩
    · intro H1 bs s1 hD hbs
      have eb : bs.length = xs.length := by rw [DpAll_len hbs, List.length_map, begs, List.length_map]
      refine ⟨.ref D, rfl, 1, rfl, D, bs, rfl, .inl (.inl hD), fun c nc => ?_⟩
      rw [cut_from]
      have s2 := same_upd (o := HO.lst (bs.drop 1)) nc
      have hc : upd H1 c (.lst (bs.drop 1)) c = some (.lst (bs.drop 1)) := upd_same
      generalize upd H1 c (.lst (bs.drop 1)) = H2 at s2 hc
      refine ⟨.ref D, rfl, 1, rfl, D, bs, rfl, .inl (.inl (s2 _ _ hD)), fun c2 nc2 => ?_⟩
      rw [show cutV bs none (some 1) = bs.take 1 from cut_to bs 1]
      have s3 := same_upd (o := HO.lst (bs.take 1)) nc2
      have hc2 : upd H2 c2 (.lst (bs.take 1)) c2 = some (.lst (bs.take 1)) := upd_same
      generalize upd H2 c2 (.lst (bs.take 1)) = H3 at s3 hc2
      have s13 := s2.trans s3
      have s03 := s1.trans s13
      refine ⟨c2, rfl, ⟨_, .inl (.inl hc2)⟩, fun L nL => ?_⟩
      have hb1 : DpAll K H3 (bs.take 1) (((begs xs).take 1).map dq) := by
        rw [List.map_take]; exact DpAll_take 1 (DpAll_same s13 hbs)
      refine lc_map (K := K) (walk_list (xs := bs.take 1)) ((((begs xs).take 1).map (· + P)).map dq) nL (by rw [List.length_map, List.length_map, List.length_take, List.length_take, begs, List.length_map, eb]) (by rw [List.length_take]; omega) (noLs_dq _) (fun H' s => .inl (.inl (s _ _ hc2))) ?_ ?_
      · rintro i x d H4 H5 hi hd s4 ⟨rfl, hx⟩ R k
        obtain ⟨z, hz, dz⟩ := get_dq hb1 hx
        have hdz : d = dq (z + P) := by
          rw [List.getElem?_map, List.getElem?_map, hz] at hd; exact (Option.some.inj hd).symm
        subst hdz
        have bz : Bq 100 z := by
          have := List.mem_of_mem_take (List.mem_of_getElem? hz)
          obtain ⟨w, hw, rfl⟩ := List.mem_map.mp this
          exact (hb w hw).1
        refine ⟨rfl, ?_⟩
        exact ⟨_, rfl, _, rfl, u_add (Dp_same s4 dz) (Dp_same (s03.trans s4) fP) bz.mono bP.mono fun v H6 s6 f => k v H6 s6 f⟩
      · intro H4 ls s4 hL hls
        refine ⟨c, L, _, _, rfl, rfl, s4 _ _ (s3 _ _ hc), hL, ?_, fun r nr => ?_⟩
        · have := DpAll_len hls
          rw [List.length_drop]
          rw [List.length_map, List.length_map, List.length_take] at this
          exact sizeLine2 (by omega)
        · refine q r _ _ (((s03.trans s4).trans (same_upd nr))) upd_same ?_
          unfold nexts
          rw [List.map_append]
          refine DpAll_same (same_upd nr) (DpAll_append hls ?_)
          rw [List.map_drop]; exact DpAll_drop 1 (DpAll_same (s13.trans s4) hbs)
def spIsGateL (K : PySem.W.Frag) : Sp := fun vs H Q _ => ∃ (v : V) (pl P : Rat) (xs : Sps), vs = [v] ∧ Dp K H v (.tuple [dq pl, dq P, .list (xs.map dsp)]) ∧ Bq 100 P ∧ xs.length < 900 ∧ (∀ x ∈ xs, Bq 100 x.1 ∧ Bq 100 x.2) ∧ ∀ H', Same H H' → Q (.bl (gateB P xs)) H'
theorem ok_is_gateL (T : Txt K mg) : FnOk P w K mg base CX0 5 T.f_is_gate T.d_is_gate Ps_is_gate (spIsGateL K) := by
  refine T.F_is_gate.ok sc_is_gate (fun vs H Q E h => ?_) (fun cdv A outer s H vs Q E hr h => ?_)
  · obtain ⟨x, _, _, _, rfl, _⟩ := h; rfl
  · obtain ⟨v, pl, P, xs, rfl, hv, bP, hl, hb, q⟩ := h
    refine ⟨_, (pss_cons (ps_asg (pv 0) (pg_tup (by rfl) (pgs_cons (pg_name (i := 1) sc_is_gate.nd rfl (Or.inl rfl)) (pgs_cons (pg_name (i := 2) sc_is_gate.nd rfl (Or.inr rfl)) (pgs_cons (pg_name (i := 3) sc_is_gate.nd rfl (Or.inl rfl)) pgs_nil)))))
      (pss_cons (ps_if (PW.pt (pw_or (pt_not (pt_val (pe_call (ok_is_lessQ T) (hr.mono (by decide)) (by rfl) T.g_is_less T.F_is_less.kp T.b_is_less .nil pass0 (pa_cons (pe_glob (v := .ref T.k_ZERO) (by rfl) T.gk_ZERO rfl) (pa_cons (pv 2) pa_nil))))) (pw_or1 (pt_cmpR op_gt (pe_callB call_len_seq (by rfl) T.m_len PySem.boot_len (pa_cons (pv 3) pa_nil)) (pe_glob (v := .int 6) (by rfl) T.gk_MAX_SPANS ⟨_, rfl⟩) (nomark _))))) (pss_one (ps_ret pe_bl)) pss_nil)
      (pss_cons (ps_if (pt_not (pt_val (pe_callB (cr_all rfl) (by rfl) T.m_all (by decide +kernel) (pa_cons (pe_lc (own := [("span", 4)]) (g := (gName 4)) (tt := tYes) rfl sc_is_gate.nd (pi_list (pv 3)) (blkOk_by (N := N_is_gate) (sc := defScope s_is_gate) (by decide +kernel)) (fun _ _ _ _ _ => (pg_name (i := 4) sc_is_gate.nd rfl (Or.inl rfl))) (fun _ _ _ _ _ => pts_nil) (fun _ _ _ _ _ => (pe_call (ok_fits T) (hr.mono (by decide)) (by rfl) T.g_fits T.F_fits.kp T.b_fits .nil pass0 (pa_cons (pv 4) (pa_cons (pv 2) pa_nil))))) pa_nil)))) (pss_one (ps_ret pe_bl)) pss_nil)
      (pss_one (ps_ret (pe_not (pe_callB (cr_any rfl) (by rfl) T.m_any (by decide +kernel) (pa_cons (pe_lc (own := [("end", 5), ("after", 6)]) (g := (gTup K 2 (gCons (gName 5) (gCons (gName 6) gNil)))) (tt := tYes) rfl sc_is_gate.nd (RZ.pi_zipA (by rfl) T.m_zip (pa_cons (pe_call (ok_span_endsL T) hr (by rfl) T.g_span_ends T.F_span_ends.kp T.b_span_ends .nil pass0 (pa_cons (pv 3) pa_nil)) (pa_cons (pe_call (ok_next_beginsL T) hr (by rfl) T.g_next_begins T.F_next_begins.kp T.b_next_begins .nil pass0 (pa_cons (pv 2) (pa_cons (pv 3) pa_nil))) pa_nil))) (blkOk_by (N := N_is_gate) (sc := defScope s_is_gate) (by decide +kernel)) (fun _ _ _ _ _ => (pg_tup rfl (pgs_cons (pg_name (i := 5) sc_is_gate.nd rfl (Or.inl rfl)) (pgs_cons (pg_name (i := 6) sc_is_gate.nd rfl (Or.inl rfl)) pgs_nil)))) (fun _ _ _ _ _ => pts_nil) (fun _ _ _ _ _ => (pe_call (ok_is_lessQ T) (hr.mono (by decide)) (by rfl) T.g_is_less T.F_is_less.kp T.b_is_less .nil pass0 (pa_cons (pv 6) (pa_cons (pv 5) pa_nil))))) pa_nil)))))))), ?_⟩
    obtain ⟨U, v1, v2, v3, rfl, hU, d1, d2, d3⟩ := dp_three hv
    obtain ⟨a, us, rfl, ha, hu⟩ := dp_lstL d3
    have el : us.length = xs.length := by rw [DpAll_len hu, List.length_map]
    unfold gateB at q
    refine ⟨_, rfl, U, _, rfl, hU, rfl, _, _, rfl, _, _, rfl, _, _, rfl, rfl, ?_⟩
    refine ⟨_, rfl, _, _, _, _, rfl, (T.z0 _), d2, b_zero.mono, bP.mono, ?_⟩
    rintro _ _ rfl rfl
    refine ⟨_, rfl, brNB (fun c => ?_) (fun c => ?_)⟩
    · rw [if_neg (of_decide_eq_false c)] at q; exact q _ (Same.refl _)
    rw [if_pos (of_decide_eq_true c)] at q
    refine ⟨_, rfl, a, us, rfl, .inl ha, _, _, rfl, rfl, _, rfl, brI (fun c => ?_) (fun c => ?_)⟩
    · rw [if_neg (by omega)] at q; exact q _ (Same.refl _)
    rw [if_pos (by omega)] at q
    refine ⟨_, rfl, a, rfl, ⟨_, ha⟩, fun D nD => ?_⟩
    refine lc_map (K := K) (walk_list (xs := us)) ((xs.map (fitsB P)).map PyData.bool) nD (by rw [List.length_map, List.length_map, el]) (by omega) (noLs_bl _) (fun H' s => Evl.ex_l s ha) ?_ ?_
    · rintro i x d H1 H2 hi hd s1 ⟨rfl, hx⟩ R k
      obtain ⟨z, hz, dz⟩ := get_map hu hx
      have hdz : d = .bool (fitsB P z) := by
        rw [List.getElem?_map, List.getElem?_map, hz] at hd; exact (Option.some.inj hd).symm
      subst hdz
      have bz := hb z (List.mem_of_getElem? hz)
      refine ⟨rfl, _, rfl, _, rfl, _, _, z, P, rfl, Dp_same s1 dz, Dp_same s1 d2, bP, bz.1, bz.2, ?_⟩
      rintro _ _ rfl rfl
      exact k _ _ (Same.refl _) (.bl _)
    · intro H1 bs s1 hD hbs
      have e := DpAll_bl hbs
      subst e
      refine ⟨D, xs.map (fitsB P), rfl, .inl (.inl hD), ?_⟩
      refine ⟨_, rfl, brNB (fun c => ?_) (fun c => ?_)⟩
      · rw [if_neg (by rw [c]; decide)] at q; exact q _ s1
      rw [if_pos c] at q
      refine ⟨_, rfl, a, us, xs, rfl, Evl.ex_l s1 ha, DpAll_same s1 hu, by omega, hb, fun D1 es H2 s2 hD1 hes => ?_⟩
      have s02 := s1.trans s2
      refine ⟨_, rfl, _, rfl, _, P, a, us, xs, rfl, Dp_same s02 d2, bP.mono, Evl.ex_l s02 ha, DpAll_same s02 hu, by omega, hb, fun D2 ns H3 s3 hD2 hns => ?_⟩
      have hD1 := s3 _ _ hD1
      have hes := DpAll_same s3 hes
      have s03 := s02.trans s3
      refine ⟨D1, D2, es, ns, rfl, .inl ⟨.inl (.inl hD1), .inl (.inl hD2), fun L nL => ?_⟩⟩
      have e1 : es.length = xs.length := by rw [DpAll_len hes, List.length_map, ends_len]
      have e2 : ns.length = xs.length := by rw [DpAll_len hns, List.length_map, nexts_len]
      refine lc_map (K := K) (walk_zip (n := xs.length) (by omega)) ((lapB P xs).map PyData.bool) nL (by rw [List.length_map, lapB, List.length_zipWith, ends_len, nexts_len]; omega) (by omega) (noLs_bl _) (fun H' s => ⟨.inl (.inl (s _ _ hD1)), .inl (.inl (s _ _ hD2))⟩) ?_ ?_
      · rintro i x d H4 H5 hi hd s4 ⟨V, x1, x2, rfl, nV, rfl, g1, g2⟩ R k
        have sV := same_upd (o := HO.tup [x1, x2]) nV
        obtain ⟨z1, hz1, dz1⟩ := get_map hes g1
        obtain ⟨z2, hz2, dz2⟩ := get_map hns g2
        have hdz : d = .bool (decide (z2 < z1)) := by
          rw [List.getElem?_map, lapB, List.getElem?_zipWith, hz1, hz2] at hd; exact (Option.some.inj hd).symm
        subst hdz
        have bz1 : Bq 201 z1 := by
          have := List.mem_of_getElem? hz1
          obtain ⟨w, hw, rfl⟩ := List.mem_map.mp this
          exact (hb w hw).1.add (hb w hw).2
        have bz2 : Bq 201 z2 := by
          have := List.mem_of_getElem? hz2
          unfold nexts at this
          rcases List.mem_append.mp this with h | h
          · obtain ⟨w, hw, rfl⟩ := List.mem_map.mp (List.mem_of_mem_drop h)
            exact (hb w hw).1.mono
          · obtain ⟨y, hy, rfl⟩ := List.mem_map.mp h
            obtain ⟨w, hw, rfl⟩ := List.mem_map.mp (List.mem_of_mem_take hy)
            exact (hb w hw).1.add bP
        refine ⟨V, [x1, x2], rfl, .inl (.inl upd_same), rfl, x1, [x2], rfl, x2, [], rfl, rfl, rfl, ?_⟩
        refine ⟨_, rfl, _, rfl, _, _, _, _, rfl, (Dp_same (s4.trans sV) dz2), (Dp_same (s4.trans sV) dz1), bz2.mono, bz1.mono, ?_⟩
        rintro _ _ rfl rfl
        exact k _ _ sV (.bl _)
      · intro H4 bs s4 hL hbs
        have e := DpAll_bl hbs
        subst e
        exact ⟨L, lapB P xs, rfl, .inl (.inl hL), _, rfl, q _ (s03.trans s4)⟩
def spRepsL (K : PySem.W.Frag) : Sp := fun vs H Q _ => ∃ (a : Addr) (us : List V) (xs : Sps) (d : Nat) (vp : V) (p : Rat), vs = [.ref a, .int d, vp] ∧ SqL K H a us ∧ DpAll K H us (xs.map dsp) ∧ Dp K H vp (dq p) ∧ d ≤ xs.length ∧ xs.length < 900 ∧ (∀ x ∈ xs, Bq 100 x.1 ∧ Bq 100 x.2) ∧ Bq 300 p ∧ ∀ H', Same H H' → Q (.bl (repB xs d p)) H'
theorem ok_repeatsL (T : Txt K mg) : FnOk P w K mg base CX0 4 T.f_repeats T.d_repeats Ps_repeats (spRepsL K) := by
  refine T.F_repeats.ok sc_repeats (fun vs H Q E h => ?_) (fun cdv A outer s H vs Q E hr h => ?_)
  · obtain ⟨x, _, _, _, _, _, rfl, _⟩ := h; rfl
  · obtain ⟨a, us, xs, d, vp, p, rfl, ha, hu, hp, hd, hl, hb, bp, q⟩ := h
    refine ⟨_, (pss_cons (ps_setLc (i := 3) (own := [("begin", 4), ("length", 5)]) (g := (gTup K 2 (gCons (gName 4) (gCons (gName 5) gNil)))) (tt := tYes) rfl sc_repeats.nd rfl rfl (sw_true rfl rfl rfl (by decide +kernel)) (pi_list (pe_slice sl_list (pv 0) po_none (po_some (pe_op op_sub (pe_callB call_len_seq (by rfl) T.m_len PySem.boot_len (pa_cons (pv 0) pa_nil)) (pv 1))))) (blkOk_by (N := N_repeats) (sc := defScope s_repeats) (by decide +kernel)) (fun _ _ _ _ _ => (pg_tup rfl (pgs_cons (pg_name (i := 4) sc_repeats.nd rfl (Or.inl rfl)) (pgs_cons (pg_name (i := 5) sc_repeats.nd rfl (Or.inl rfl)) pgs_nil)))) (fun _ _ _ _ _ => pts_nil) (fun _ _ _ _ _ => (pe_tup (pa_cons (pe_call (ok_add T) hr (by rfl) T.g_add T.F_add.kp T.b_add .nil pass0 (pa_cons (pv 4) (pa_cons (pv 2) pa_nil))) (pa_cons (pv 5) pa_nil)))))
      (pss_one (ps_ret (pe_cmpR (op_eqD hr.units) (pv 3) (pe_callTy call_list_of (by rfl) T.m_list (by decide +kernel) (pa_cons (pe_slice sl_list (pv 0) (po_some (pv 1)) po_none) pa_nil)) (nomark _))))), ?_⟩
    have el : us.length = xs.length := by rw [DpAll_len hu, List.length_map]
    refine ⟨_, rfl, _, rfl, a, us, rfl, .inl ha, _, rfl, _, _, rfl, rfl, _, rfl, a, us, rfl, ha, fun c nc => ?_⟩
    rw [show ((us.length : Int) - (d : Int)) = ((us.length - d : Nat) : Int) by omega, cut_to]
    have s1 := same_upd (o := HO.lst (us.take (us.length - d))) nc
    have hc : upd H c (.lst (us.take (us.length - d))) c = some (.lst (us.take (us.length - d))) := upd_same
    generalize upd H c (.lst (us.take (us.length - d))) = H1 at s1 hc
    refine ⟨c, rfl, ⟨_, .inl (.inl hc)⟩, fun D nD => ?_⟩
    have hu1 : DpAll K H1 (us.take (us.length - d)) ((xs.take (xs.length - d)).map dsp) := by
      rw [el, List.map_take]; exact DpAll_take _ (DpAll_same s1 hu)
    have e1 : (us.take (us.length - d)).length = (xs.take (xs.length - d)).length := by rw [List.length_take, List.length_take]; omega
    refine lc_map (K := K) (walk_list (xs := us.take (us.length - d))) (((xs.take (xs.length - d)).map (fun x => (x.1 + p, x.2))).map dsp) nD (by rw [List.length_map, List.length_map, e1]) (by rw [List.length_take]; omega) (noLs_dsp _) (fun H' s => .inl (.inl (s _ _ hc))) ?_ ?_
    · rintro i x d' H2 H3 hi hd' s2 ⟨rfl, hx⟩ R k
      obtain ⟨z, hz, dz⟩ := get_map hu1 hx
      have hdz : d' = dsp (z.1 + p, z.2) := by
        rw [List.getElem?_map, List.getElem?_map, hz] at hd'; exact (Option.some.inj hd').symm
      subst hdz
      have bz := hb z (List.mem_of_mem_take (List.mem_of_getElem? hz))
      obtain ⟨U, v1, v2, rfl, hU, d1, d2⟩ := dp_two (Dp_same s2 dz)
      refine ⟨U, [v1, v2], rfl, hU, rfl, v1, [v2], rfl, v2, [], rfl, rfl, rfl, ?_⟩
      refine ⟨_, rfl, _, rfl, u_add d1 (Dp_same (s1.trans s2) hp) bz.1.mono bp.mono fun v H4 s4 f => ?_⟩
      refine ⟨_, rfl, sizeLine2 (by simp), fun t nt => ?_⟩
      exact k _ _ (s4.trans (same_upd nt)) (dp_new nt (.cons f (.cons (Dp_same s4 d2) .nil)))
    · intro H2 ls s2 hD hls
      have s02 := s1.trans s2
      refine ⟨_, rfl, _, rfl, _, rfl, _, rfl, a, us, rfl, Evl.ex_l s02 ha, fun t nt => ?_⟩
      rw [cut_drop]
      have s3 := same_upd (o := HO.lst (us.drop d)) nt
      have ht : upd H2 t (.lst (us.drop d)) t = some (.lst (us.drop d)) := upd_same
      generalize upd H2 t (.lst (us.drop d)) = H3 at s3 ht
      refine ⟨t, _, rfl, .inl (.inl (.inl ht)), fun L nL => ?_⟩
      have s4 := same_upd (o := HO.lst (us.drop d)) nL
      refine ⟨_, _, .lst (.inl (.inl (s4 _ _ (s3 _ _ hD)))) (DpAll_same (s3.trans s4) hls), .lst (ds := (xs.drop d).map dsp) (.inl (.inl upd_same)) ?_, sh_Ldsp _, sh_Ldsp _, ?_⟩
      · rw [List.map_drop]; exact DpAll_drop d (DpAll_same ((s02.trans s3).trans s4) hu)
      · rw [eqv_Ldsp]; exact q _ ((s02.trans s3).trans s4)
def spLeastL (K : PySem.W.Frag) : Sp := fun vs H Q _ => ∃ (vpl vP : V) (pl P : Rat) (a : Addr) (us : List V) (xs : Sps), vs = [vpl, vP, .ref a] ∧ Dp K H vpl (dq pl) ∧ Dp K H vP (dq P) ∧ Bq 100 P ∧ SqL K H a us ∧ DpAll K H us (xs.map dsp) ∧ xs.length < 900 ∧ (∀ x ∈ xs, Bq 100 x.1 ∧ Bq 100 x.2) ∧ ∀ v H', Same H H' → Dp K H' v (dG pl (lfQ P xs).1 (lfQ P xs).2) → Q v H'
theorem ok_least_formL (T : Txt K mg) : FnOk P w K mg base CX0 5 T.f_least_form T.d_least_form Ps_least_form (spLeastL K) := by
  refine T.F_least_form.ok sc_least_form (fun vs H Q E h => ?_) (fun cdv A outer s H vs Q E hr h => ?_)
  · obtain ⟨x, _, _, _, _, _, _, rfl, _⟩ := h; rfl
  · obtain ⟨vpl, vP, pl, P, a, us, xs, rfl, hpl, hP, bP, ha, hu, hl, hb, q⟩ := h
    refine ⟨_, (pss_cons (ps_if (pt_cmpR op_eq (pe_callB call_len_seq (by rfl) T.m_len PySem.boot_len (pa_cons (pv 2) pa_nil)) pe_int (nomark _)) (pss_one (ps_ret (pe_tup (pa_cons (pv 0) (pa_cons (pe_glob (v := .ref T.k_ONE) (by rfl) T.gk_ONE rfl) (pa_cons (pe_tup pa_nil) pa_nil)))))) pss_nil)
      (pss_cons (ps_for PassesOwn.never rfl (pi_range2 rfl T.m_range (pa_cons pe_int (pa_cons (pe_callB call_len_seq (by rfl) T.m_len PySem.boot_len (pa_cons (pv 2) pa_nil)) pa_nil))) (pg_name (i := 3) sc_least_form.nd rfl (Or.inl rfl)) (pss_cons (ps_set (i := 4) sc_least_form.nd rfl (Or.inl rfl) (pe_call (ok_multiply T) (hr.mono (by decide)) (by rfl) T.g_multiply T.F_multiply.kp T.b_multiply .nil pass0 (pa_cons (pv 1) (pa_cons (pe_call (ok_fraction T) (hr.mono (by decide)) (by rfl) T.g_fraction T.F_fraction.kp T.b_fraction .nil pass0 (pa_cons (pv 3) (pa_cons (pe_callB call_len_seq (by rfl) T.m_len PySem.boot_len (pa_cons (pv 2) pa_nil)) pa_nil))) pa_nil))))
      (pss_one (ps_if (PW.pt (pw_and (pt_cmpR op_eq (pe_op op_mod (pe_callB call_len_seq (by rfl) T.m_len PySem.boot_len (pa_cons (pv 2) pa_nil)) (pv 3)) pe_int (nomark _)) (pw_and1 (pt_val (pe_call (ok_repeatsL T) hr (by rfl) T.g_repeats T.F_repeats.kp T.b_repeats .nil pass0 (pa_cons (pv 2) (pa_cons (pv 3) (pa_cons (pv 4) pa_nil)))))))) (pss_one (ps_ret (pe_tup (pa_cons (pv 0) (pa_cons (pv 4) (pa_cons (pe_callTy call_tuple_of (by rfl) T.m_tuple (by decide +kernel) (pa_cons (pe_slice sl_list (pv 2) po_none (po_some (pv 3))) pa_nil)) pa_nil)))))) pss_nil))))
      (pss_one (ps_ret (pe_tup (pa_cons (pv 0) (pa_cons (pv 1) (pa_cons (pe_callTy call_tuple_of (by rfl) T.m_tuple (by decide +kernel) (pa_cons (pv 2) pa_nil)) pa_nil)))))))), ?_⟩
    have el : us.length = xs.length := by rw [DpAll_len hu, List.length_map]
    refine ⟨_, rfl, a, us, rfl, .inl ha, rfl, _, rfl, brEq (fun h0 => ?_) (fun h0 => ?_)⟩
    · have h0 : xs.length = 0 := by omega
      have e : lfQ P xs = (1, []) := by unfold lfQ; rw [if_pos h0]
      rw [e] at q
      refine ⟨_, rfl, sizeLine2 (by simp), fun c nc => ?_⟩
      have s1 := same_upd (o := HO.tup []) nc
      refine ⟨sizeLine2 (by simp), fun c2 nc2 => ?_⟩
      refine q _ _ (s1.trans (same_upd nc2)) (dp_new nc2 (.cons (Dp_same s1 hpl) (.cons (T.o1 _) (.cons (dp_new nc .nil) .nil))))
    · have h0 : xs.length ≠ 0 := by omega
      refine ⟨_, rfl, a, us, rfl, .inl ha, _, _, rfl, ⟨by decide, by decide, by omega, by omega⟩, ?_⟩
      refine for_range (lo := 1) (fun i σ H' => Same H H' ∧ (List.range' 1 i).find? (hitB P xs) = none ∧ ∃ z3 z4, σ = [some vpl, some vP, some (.ref a), z3, z4]) ⟨Same.refl _, rfl, _, _, rfl⟩ ?_ ?_
      · rintro i σ H1 hi ⟨s1, hn, z3, z4, rfl⟩
        have hi2 : i + 1 < xs.length := by omega
        have hn0 : ((us.length : Int) : Rat) ≠ 0 := fun e => by have := Rat.intCast_eq_zero_iff.mp e; omega
        refine ⟨_, rfl, _, rfl, _, rfl, a, us, rfl, .inl (Evl.ex_l s1 ha), u_red (by omega) (B.mono (n := 10) (B.of (by omega))) (B.mono (n := 10) (B.of (by omega))) fun v H2 s2 f2 => ?_⟩
        have bd : Bq 20 (((1 + (i : Int) : Int) : Rat) / ((us.length : Int) : Rat)) := Bq.div hn0 (Bq.int (k := 10) (B.of (by omega))) (Bq.int (k := 10) (B.of (by omega)))
        refine u_mul (Dp_same (s1.trans s2) hP) f2 bP.mono bd.mono fun vp H3 s3 f3 => ?_
        have ep : P * (((1 + (i : Int) : Int) : Rat) / ((us.length : Int) : Rat)) = partQ P xs (1 + i) := by
          unfold partQ; rw [el]; rfl
        rw [ep] at f3
        have s03 := (s1.trans s2).trans s3
        refine ⟨_, rfl, a, us, rfl, .inl (Evl.ex_l s03 ha), _, rfl, _, _, rfl, rfl, (show (0 : Int) < 1 + i by omega), rfl, _, rfl, brEq (fun hm => ?_) (fun hm => ?_)⟩
        · have hm : decide (xs.length % (1 + i) = 0) = true := decide_eq_true (by
            have : ((us.length % (1 + i) : Nat) : Int) = 0 := by rw [Int.natCast_emod]; exact hm
            rw [el] at this; omega)
          refine ⟨_, rfl, _, rfl, _, rfl, a, us, xs, 1 + i, vp, _, ?_, Evl.ex_l s03 ha, DpAll_same s03 hu, f3, by omega, hl, hb, (b_part h0 hl (by omega) bP).mono, fun H4 s4 => ?_⟩
          · rw [show (1 + (i : Int)) = ((1 + i : Nat) : Int) by omega]; rfl
          refine ⟨_, rfl, brB (fun hr => ?_) (fun hr => ?_)⟩
          · have hh : hitB P xs (1 + i) = true := by unfold hitB; rw [hm, hr]; rfl
            rw [lf_some hi2 hn hh] at q
            have s04 := s03.trans s4
            refine ⟨_, rfl, _, rfl, _, rfl, _, rfl, _, rfl, a, us, rfl, Evl.ex_l s04 ha, fun t0 nt0 => ?_⟩
            rw [show (1 + (i : Int)) = ((1 + i : Nat) : Int) by omega, cut_to]
            have s50 := same_upd (o := HO.lst (us.take (1 + i))) nt0
            refine ⟨t0, _, rfl, .inl ⟨.inl (.inl upd_same), fun t nt => ?_⟩⟩
            have s5 := s50.trans (same_upd (o := HO.tup (us.take (1 + i))) nt)
            have ht : SqT K (upd (upd H4 t0 (.lst (us.take (1 + i)))) t (.tup (us.take (1 + i)))) t (us.take (1 + i)) := .inl (.inl upd_same)
            refine ⟨sizeLine2 (by simp), fun c nc => ?_⟩
            have s6 := same_upd (o := HO.tup [vpl, vp, .ref t]) nc
            refine q _ _ ((s04.trans s5).trans s6) (dp_new nc (.cons (Dp_same (s04.trans s5) hpl) (.cons (Dp_same (s4.trans s5) f3) (.cons (.tup ht ?_) .nil))))
            rw [List.map_take]; exact DpAll_take _ (DpAll_same (s04.trans s5) hu)
          · have hh : hitB P xs (1 + i) = false := by unfold hitB; rw [hm, hr]; rfl
            refine ⟨s03.trans s4, ?_, _, _, rfl⟩
            rw [List.range'_1_concat, List.find?_append, hn, List.find?_cons_of_neg (by rw [hh]; decide)]; rfl
        · have hm : decide (xs.length % (1 + i) = 0) = false := decide_eq_false (fun e => hm (by
            have : ((us.length % (1 + i) : Nat) : Int) = 0 := by rw [el]; omega
            rw [Int.natCast_emod] at this; exact this))
          have hh : hitB P xs (1 + i) = false := by unfold hitB; rw [hm]; rfl
          refine ⟨s03, ?_, _, _, rfl⟩
          rw [List.range'_1_concat, List.find?_append, hn, List.find?_cons_of_neg (by rw [hh]; decide)]; rfl
      · rintro σ H1 ⟨s1, hn, z3, z4, rfl⟩
        have e : ((us.length : Int) - 1).toNat = xs.length - 1 := by omega
        rw [e] at hn
        rw [lf_none h0 hn] at q
        refine ⟨_, rfl, _, rfl, _, rfl, a, us, rfl, .inl ⟨Evl.ex_l s1 ha, fun t nt => ?_⟩⟩
        have st := same_upd (o := HO.tup us) nt
        refine ⟨sizeLine2 (by simp), fun c nc => ?_⟩
        refine q _ _ ((s1.trans st).trans (same_upd nc)) (dp_new nc (.cons (Dp_same (s1.trans st) hpl) (.cons (Dp_same (s1.trans st) hP) (.cons (dp_new nt (DpAll_same s1 hu)) .nil))))
def spNormalL (K : PySem.W.Frag) : Sp := fun vs H Q _ => ∃ (v : V) (pl P : Rat) (xs : Sps), vs = [v] ∧ Dp K H v (.tuple [dq pl, dq P, .list (xs.map dsp)]) ∧ Gd P xs ∧ ∀ v' H', Same H H' → Dp K H' v' (dG pl (lfQ P xs).1 (lfQ P xs).2) → Q v' H'
theorem ok_normal_gateL (T : Txt K mg) : FnOk P w K mg base CX0 6 T.f_normal_gate T.d_normal_gate Ps_normal_gate (spNormalL K) := by
  refine T.F_normal_gate.ok sc_normal_gate (fun vs H Q E h => ?_) (fun cdv A outer s H vs Q E hr h => ?_)
  · obtain ⟨x, _, _, _, rfl, _⟩ := h; rfl
  · obtain ⟨v, pl, P, xs, rfl, hv, G, q⟩ := h
    have hl : xs.length < 900 := by have := G.g.len; omega
    refine ⟨_, PSs.nox ((pss_cons (ps_if (pt_not (pt_val (pe_call (ok_is_gateL T) hr (by rfl) T.g_is_gate T.F_is_gate.kp T.b_is_gate .nil pass0 (pa_cons (pv 0) pa_nil)))) (pss_one ps_never) pss_nil)
      (pss_cons (ps_asg (pv 0) (pg_tup (by rfl) (pgs_cons (pg_name (i := 1) sc_normal_gate.nd rfl (Or.inl rfl)) (pgs_cons (pg_name (i := 2) sc_normal_gate.nd rfl (Or.inl rfl)) (pgs_cons (pg_name (i := 3) sc_normal_gate.nd rfl (Or.inl rfl)) pgs_nil)))))
      (pss_one (ps_ret (pe_call (ok_least_formL T) hr (by rfl) T.g_least_form T.F_least_form.kp T.b_least_form .nil pass0 (pa_cons (pv 1) (pa_cons (pv 2) (pa_cons (pv 3) pa_nil))))))))), ?_⟩
    refine ⟨_, rfl, v, pl, P, xs, rfl, hv, G.p, hl, G.b, fun H1 s1 => ?_⟩
    rw [G.g.ok]
    refine ⟨_, rfl, iteF ?_⟩
    obtain ⟨U, v1, v2, v3, rfl, hU, d1, d2, d3⟩ := dp_three (Dp_same s1 hv)
    obtain ⟨a, us, rfl, ha, hu⟩ := dp_lstL d3
    refine ⟨_, rfl, U, _, rfl, hU, rfl, _, _, rfl, _, _, rfl, _, _, rfl, rfl, ?_⟩
    exact ⟨_, rfl, _, rfl, _, rfl, _, _, pl, P, a, us, xs, rfl, d1, d2, G.p, ha, hu, hl, G.b, fun v' H2 s2 h => q v' H2 (s1.trans s2) h⟩
end
end EP
namespace EP
open PySem PySem.Spec PyProof.Rows L2 EPX
section
variable {P : Program} {w : World} {K : PySem.W.Frag} {mg : Str → Option Value} {base : Heap}
def spShutL (K : PySem.W.Frag) : Sp := fun vs H Q _ => ∃ (v vm : V) (pl P : Rat) (xs : Sps) (m : Rat), vs = [v, vm] ∧ Dp K H v (.tuple [dq pl, dq P, .list (xs.map dsp)]) ∧ Gd P xs ∧ Dp K H vm (dq m) ∧ Bq 3620 m ∧ ∀ v' H', Same H H' → Dp K H' v' (dO (shutQ P xs m)) → Q v' H'
theorem ok_shut_untilL (T : Txt K mg) : FnOk P w K mg base CX0 7 T.f_shut_until T.d_shut_until Ps_shut_until (spShutL K) := by
  refine T.F_shut_until.ok sc_shut_until (fun vs H Q E h => ?_) (fun cdv A outer s H vs Q E hr h => ?_)
  · obtain ⟨x, _, _, _, _, _, rfl, _⟩ := h; rfl
  · obtain ⟨v, vm, pl, P, xs, m, rfl, hv, G, hm, bm, q⟩ := h
    refine ⟨_, (pss_cons (ps_asg (pe_call (ok_normal_gateL T) hr (by rfl) T.g_normal_gate T.F_normal_gate.kp T.b_normal_gate .nil pass0 (pa_cons (pv 0) pa_nil)) (pg_tup (by rfl) (pgs_cons (pg_name (i := 2) sc_shut_until.nd rfl (Or.inl rfl)) (pgs_cons (pg_name (i := 3) sc_shut_until.nd rfl (Or.inl rfl)) (pgs_cons (pg_name (i := 4) sc_shut_until.nd rfl (Or.inl rfl)) pgs_nil)))))
      (pss_cons (ps_for PassesOwn.never rfl (pi_tup (pv 4)) (pg_tup (by rfl) (pgs_cons (pg_name (i := 5) sc_shut_until.nd rfl (Or.inl rfl)) (pgs_cons (pg_name (i := 6) sc_shut_until.nd rfl (Or.inl rfl)) pgs_nil))) (pss_cons (ps_set (i := 7) sc_shut_until.nd rfl (Or.inl rfl) (pe_call (ok_remainderP T) (hr.mono (by decide)) (by rfl) T.g_remainder T.F_remainder.kp T.b_remainder .nil pass0 (pa_cons (pe_call (ok_subtract T) (hr.mono (by decide)) (by rfl) T.g_subtract T.F_subtract.kp T.b_subtract .nil pass0 (pa_cons (pv 1) (pa_cons (pv 5) pa_nil))) (pa_cons (pv 3) pa_nil))))
      (pss_one (ps_if (PW.pt (pw_and (pt_cmpR (op_neD hr.units) (pv 7) (pe_glob (v := .ref T.k_ZERO) (by rfl) T.gk_ZERO rfl) (nomark _)) (pw_and1 (pt_val (pe_call (ok_is_lessQ T) (hr.mono (by decide)) (by rfl) T.g_is_less T.F_is_less.kp T.b_is_less .nil pass0 (pa_cons (pv 7) (pa_cons (pv 6) pa_nil))))))) (pss_one (ps_ret (pe_call (ok_add T) (hr.mono (by decide)) (by rfl) T.g_add T.F_add.kp T.b_add .nil pass0 (pa_cons (pv 1) (pa_cons (pe_call (ok_subtract T) (hr.mono (by decide)) (by rfl) T.g_subtract T.F_subtract.kp T.b_subtract .nil pass0 (pa_cons (pv 6) (pa_cons (pv 7) pa_nil))) pa_nil))))) pss_nil))))
      (pss_one (ps_ret pe_non)))), ?_⟩
    refine ⟨_, rfl, v, pl, P, xs, rfl, hv, G, fun v' H1 s1 h1 => ?_⟩
    obtain ⟨g', sh⟩ := lf_ok G.g
    obtain ⟨bP, bx⟩ := lf_b G
    rw [← sh m] at q
    generalize (lfQ P xs).1 = P' at *
    generalize (lfQ P xs).2 = ys at *
    obtain ⟨U, v1, v2, v3, rfl, hU, d1, d2, d3⟩ := dp_three h1
    obtain ⟨a, us, rfl, ha, hu⟩ := dp_tup d3
    have el : us.length = ys.length := by rw [DpAll_len hu, List.length_map]
    refine ⟨U, _, rfl, hU, rfl, _, _, rfl, _, _, rfl, _, _, rfl, rfl, ?_⟩
    refine ⟨_, rfl, a, rfl, ⟨_, ha⟩, ?_⟩
    have hP0 := g'.pos
    refine for_tup (K := K) (xs := us) (fun i σ H' => Same H1 H' ∧ (ys.take i).find? (lateB P' m) = none ∧ ∃ z5 z6 z7, σ = [some v, some vm, some v1, some v2, some (.ref a), z5, z6, z7]) ⟨Same.refl _, rfl, _, _, _, rfl⟩ (fun i σ H' _ h => Evl.ex_t h.1 ha) ?_ ?_
    · rintro i x σ H2 hx ⟨s2, hn, z5, z6, z7, rfl⟩
      obtain ⟨z, hz, dz⟩ := get_map hu hx
      have bz := bx z (List.mem_of_getElem? hz)
      have hil : i < ys.length := (List.getElem?_eq_some_iff.mp hz).1
      obtain ⟨V', w1, w2, rfl, hV, e1, e2⟩ := dp_two (Dp_same s2 dz)
      have s02 := s1.trans s2
      refine ⟨V', _, rfl, hV, rfl, _, _, rfl, _, _, rfl, rfl, ?_⟩
      refine ⟨_, rfl, _, rfl, u_sub (Dp_same s02 hm) e1 bm.mono bz.1.mono fun v4 H3 s3 f3 => ?_⟩
      refine ⟨_, rfl, _, _, _, _, rfl, f3, Dp_same (s2.trans s3) d2, hP0, ((bm.sub bz.1).mono), bP.mono, fun v5 H4 s4 f4 => ?_⟩
      have s24 := s3.trans s4
      have br : Bq 3851 (remQ (m - z.1) P') := (Bq.rem hP0 (bm.sub bz.1) bP).mono
      have tk : ys.take (i + 1) = ys.take i ++ [z] := by rw [List.take_add_one, hz]; rfl
      have lt : lateB P' m z = (decide (remQ (m - z.1) P' ≠ 0) && decide (remQ (m - z.1) P' < z.2)) := rfl
      refine ⟨_, rfl, _, _, f4, T.z0 _, sh_dq _, sh_dq _, ?_⟩
      rw [eqv_dq]
      refine ⟨_, rfl, brNB (fun c => ?_) (fun c => ?_)⟩
      · refine ⟨_, rfl, _, rfl, _, _, _, _, rfl, f4, Dp_same s24 e2, br.mono, bz.2.mono, ?_⟩
        rintro _ _ rfl rfl
        refine ⟨_, rfl, brI (fun c2 => ?_) (fun c2 => ?_)⟩
        · have l1 : lateB P' m z = true := by rw [lt, decide_eq_true (of_decide_eq_false c), decide_eq_true c2]; rfl
          have : shutQ P' ys m = some (till P' m z) := by
            unfold shutQ
            have : ys = ys.take i ++ (z :: ys.drop (i + 1)) := by
              have h := List.take_append_drop (i + 1) ys
              rw [tk, List.append_assoc] at h; exact h.symm
            rw [this, List.find?_append, hn, List.find?_cons_of_pos l1]; rfl
          rw [this] at q
          refine ⟨_, rfl, _, rfl, _, rfl, u_sub (Dp_same s24 e2) f4 bz.2.mono br.mono fun v6 H5 s5 f5 => ?_⟩
          refine u_add (Dp_same ((s02.trans s24).trans s5) hm) f5 bm.mono (bz.2.sub br).mono fun v7 H6 s6 f6 => ?_
          exact q _ _ (((s02.trans s24).trans s5).trans s6) f6
        · have l1 : lateB P' m z = false := by rw [lt, decide_eq_false c2, Bool.and_false]
          refine ⟨s2.trans s24, ?_, _, _, _, rfl⟩
          rw [tk, List.find?_append, hn, List.find?_cons_of_neg (by rw [l1]; decide)]; rfl
      · have l1 : lateB P' m z = false := by rw [lt, decide_eq_false (fun h => h (of_decide_eq_true c)), Bool.false_and]
        refine iteF ?_
        refine ⟨s2.trans s24, ?_, _, _, _, rfl⟩
        rw [tk, List.find?_append, hn, List.find?_cons_of_neg (by rw [l1]; decide)]; rfl
    · rintro σ H2 ⟨s2, hn, z5, z6, z7, rfl⟩
      rw [el, List.take_length] at hn
      have : shutQ P' ys m = none := by unfold shutQ; rw [hn]; rfl
      rw [this] at q
      exact q _ _ (s1.trans s2) .non
def spOpenL (K : PySem.W.Frag) : Sp := fun vs H Q _ => ∃ (v vm : V) (pl P : Rat) (xs : Sps) (m : Rat), vs = [v, vm] ∧ Dp K H v (.tuple [dq pl, dq P, .list (xs.map dsp)]) ∧ Gd P xs ∧ Dp K H vm (dq m) ∧ Bq 3620 m ∧ ∀ v' H', Same H H' → v' = .bl (shutQ P xs m).isNone → Q v' H'
theorem ok_is_openL (T : Txt K mg) : FnOk P w K mg base CX0 8 T.f_is_open T.d_is_open Ps_is_open (spOpenL K) := by
  refine T.F_is_open.ok sc_is_open (fun vs H Q E h => ?_) (fun cdv A outer s H vs Q E hr h => ?_)
  · obtain ⟨x, _, _, _, _, _, rfl, _⟩ := h; rfl
  · obtain ⟨v, vm, pl, P, xs, m, rfl, hv, G, hm, bm, q⟩ := h
    refine ⟨_, (pss_one (ps_ret (pe_cmpR op_isN (pe_call (ok_shut_untilL T) hr (by rfl) T.g_shut_until T.F_shut_until.kp T.b_shut_until .nil pass0 (pa_cons (pv 0) (pa_cons (pv 1) pa_nil))) pe_non (nomark _)))), ?_⟩
    refine ⟨_, rfl, _, rfl, v, vm, pl, P, xs, m, rfl, hv, G, hm, bm, fun v' H1 s1 h1 => ?_⟩
    refine ⟨rfl, ?_⟩
    exact q _ _ s1 (by rw [dO_non h1])
end
end EP
namespace EP
open PySem PySem.Spec PyProof.Rows L2 EPX
section
variable {P : Program} {w : World} {K : PySem.W.Frag} {mg : Str → Option Value} {base : Heap}
theorem ok_paceInit (T : Txt K mg) : FnOk P w K mg base CX0 1 T.fi_PaceError T.di_PaceError ["self", "tag"] (spPaceInit K) := by
  refine T.Fi_PaceError.ok sci_PaceError (fun vs H Q E h => ?_) (fun cdv A outer s H vs Q E hr h => ?_)
  · obtain ⟨a, C, v, rfl, _⟩ := h; rfl
  · obtain ⟨a, C, v, rfl, hO, ha, hn, q⟩ := h
    refine ⟨_, pss_cons (ps_expr (pe_veinit (by rfl) T.m_ValueError T.vVE (pa_cons (pv 0) (pa_cons (pv 1) pa_nil)))) (pss_one (ps_ost (pv 0) (pv 1))), ?_⟩
    refine ⟨_, rfl, _, rfl, a, C, [v], rfl, by simp, hO, ha, ?_⟩
    exact ⟨_, rfl, _, rfl, a, C, rfl, hO, hn, .inl ⟨ha, fun dx nd ne => q dx nd ne⟩⟩
theorem ok_initInvalidGate (T : Txt K mg) : FnOk P w K mg base CX0 2 T.fi_InvalidGate T.di_InvalidGate ["self", "position"] (spFieldInit K "InvalidGate" "position") := by
  refine T.Fi_InvalidGate.ok sci_InvalidGate (fun vs H Q E h => ?_) (fun cdv A outer s H vs Q E hr h => ?_)
  · obtain ⟨a, C, v, rfl, _⟩ := h; rfl
  · obtain ⟨a, C, v, rfl, hO, ha, hn, hn2, q⟩ := h
    refine ⟨_, pss_cons (ps_expr (EPX.pe_ownfn (ok_paceInit T) T.ownP hr (by rfl) T.gc_PaceError T.bi_PaceError pass0 (pa_cons (pv 0) (pa_cons pe_str pa_nil)))) (pss_one (ps_ost (pv 0) (pv 1))), ?_⟩
    refine ⟨_, rfl, a, C, _, rfl, hO, ha, hn, fun dx nd ne => ?_⟩
    refine ⟨_, rfl, _, rfl, a, C, rfl, hO, hn2, .inr ⟨dx, [("tag", .str "InvalidGate")], upd_same, ?_, by simp, q dx nd ne⟩⟩
    rw [upd_ne ne, upd_same]
theorem ok_initNotBarring (T : Txt K mg) : FnOk P w K mg base CX0 2 T.fi_NotBarring T.di_NotBarring ["self", "place"] (spFieldInit K "NotBarring" "place") := by
  refine T.Fi_NotBarring.ok sci_NotBarring (fun vs H Q E h => ?_) (fun cdv A outer s H vs Q E hr h => ?_)
  · obtain ⟨a, C, v, rfl, _⟩ := h; rfl
  · obtain ⟨a, C, v, rfl, hO, ha, hn, hn2, q⟩ := h
    refine ⟨_, pss_cons (ps_expr (EPX.pe_ownfn (ok_paceInit T) T.ownP hr (by rfl) T.gc_PaceError T.bi_PaceError pass0 (pa_cons (pv 0) (pa_cons pe_str pa_nil)))) (pss_one (ps_ost (pv 0) (pv 1))), ?_⟩
    refine ⟨_, rfl, a, C, _, rfl, hO, ha, hn, fun dx nd ne => ?_⟩
    refine ⟨_, rfl, _, rfl, a, C, rfl, hO, hn2, .inr ⟨dx, [("tag", .str "NotBarring")], upd_same, ?_, by simp, q dx nd ne⟩⟩
    rw [upd_ne ne, upd_same]
def kindsE : List (Str × Str) := [("InvalidGate", "position"), ("NotBarring", "place")]
def spErrM (K : PySem.W.Frag) : SpE := fun a cls d vs H Q => ∃ p ∈ kindsE, spErrF K p.1 p.2 a cls d vs H Q
theorem ok_l_error_field (T : Txt K mg) : EPX.FnE P w K mg base 1 T.f_l_error_field T.d_l_error_field Ps_l_error_field (spErrM K) := by
  refine EPX.fn_ofE T.F_l_error_field sc_l_error_field (fun a cls d vs H Q h => ?_) (fun cdv A outer s H vs Q p cls d hz hfs hr h => ?_)
  · obtain ⟨_, _, rfl, _⟩ := h; rfl
  · obtain ⟨kd, hkd, rfl, C, dd, v, rfl, rfl, hxf, hnt, hnn, hdd, q⟩ := h
    have hp : p ∈ (L2H.cxH CX0 P w K mg base N_l_error_field (Str.ofString "_law_error_field") (defScope s_l_error_field) T.f_l_error_field cdv A outer s H E0 p).pn := List.mem_cons_self ..
    refine ⟨_, (pss_cons (ps_if (pt_cmpR op_in_seq (EPX.pe_xe hp hz hfs (pv 0)) (pe_tup (pa_cons pe_str (pa_cons pe_str pa_nil))) (by rfl)) (pss_one (ps_ret (EPX.pe_xe hp hz hfs (pv 0)))) pss_nil)
      (pss_cons (ps_if (pt_cmpR op_in_seq (EPX.pe_xe hp hz hfs (pv 0)) (pe_tup (pa_cons pe_str (pa_cons pe_str (pa_cons pe_str pa_nil)))) (by rfl)) (pss_one (ps_ret (EPX.pe_xe hp hz hfs (pv 0)))) pss_nil)
      (pss_cons (ps_if (pt_cmpR op_in_seq (EPX.pe_xe hp hz hfs (pv 0)) (pe_tup (pa_cons pe_str (pa_cons pe_str (pa_cons pe_str pa_nil)))) (by rfl)) (pss_one (ps_ret (EPX.pe_xe hp hz hfs (pv 0)))) pss_nil)
      (pss_cons (ps_if (pt_cmpR op_in_seq (EPX.pe_xe hp hz hfs (pv 0)) (pe_tup (pa_cons pe_str (pa_cons pe_str pa_nil))) (by rfl)) (pss_one (ps_ret (EPX.pe_xe hp hz hfs (pv 0)))) pss_nil)
      (pss_cons (ps_if (pt_cmpR op_in_seq (EPX.pe_xe hp hz hfs (pv 0)) (pe_tup (pa_cons pe_str (pa_cons pe_str pa_nil))) (by rfl)) (pss_one (ps_ret (pe_ifExp (pt_cmpR op_eq (EPX.pe_xe hp hz hfs (pv 0)) pe_str (nomark _)) (EPX.pe_xe hp hz hfs (pv 0)) (EPX.pe_xe hp hz hfs (pv 0))))) pss_nil)
      (pss_cons (ps_if (pt_cmpR op_in_seq (EPX.pe_xe hp hz hfs (pv 0)) (pe_tup (pa_cons pe_str (pa_cons pe_str pa_nil))) (by rfl)) (pss_one (ps_ret (pe_ifExp (pt_cmpR op_eq (EPX.pe_xe hp hz hfs (pv 0)) pe_str (nomark _)) (EPX.pe_xe hp hz hfs (pv 0)) (EPX.pe_xe hp hz hfs (pv 0))))) pss_nil)
      (pss_one (ps_ret (pe_ifExp (pt_cmpR op_eq (EPX.pe_xe hp hz hfs (pv 0)) pe_str (nomark _)) (EPX.pe_xe hp hz hfs (pv 0)) pe_non))))))))), ?_⟩
    simp only [kindsE, List.mem_cons, List.not_mem_nil, or_false] at hkd
    rcases hkd with rfl | rfl
    · dsimp only at hnn hdd q
      refine ⟨_, rfl, rfl, C, dd, _, _, rfl, rfl, hxf, hnt, hdd, rfl, sizeLine2 (by simp), fun p0 n0 => ?_⟩
      have s0 := same_upd (o := HO.tup [.str "InvalidGate", .str "ParseError"]) n0
      have hdd := s0 _ _ hdd
      refine ⟨p0, _, rfl, .inr (.inl (.inl upd_same)), rfl, by decide +kernel, _, rfl, brT (by decide +kernel) ?_⟩
      exact ⟨_, rfl, rfl, C, dd, _, _, rfl, rfl, hxf, hnn, hdd, rfl, q _ (s0)⟩
    · dsimp only at hnn hdd q
      refine ⟨_, rfl, rfl, C, dd, _, _, rfl, rfl, hxf, hnt, hdd, rfl, sizeLine2 (by simp), fun p0 n0 => ?_⟩
      have s0 := same_upd (o := HO.tup [.str "InvalidGate", .str "ParseError"]) n0
      have hdd := s0 _ _ hdd
      refine ⟨p0, _, rfl, .inr (.inl (.inl upd_same)), rfl, by decide +kernel, _, rfl, brF (by decide +kernel) ?_⟩
      refine ⟨_, rfl, rfl, C, dd, _, _, rfl, rfl, hxf, hnt, hdd, rfl, sizeLine2 (by simp), fun p1 n1 => ?_⟩
      have s1 := same_upd (o := HO.tup [.str "SamePlace", .str "NotBarring", .str "UnknownGate"]) n1
      have hdd := s1 _ _ hdd
      refine ⟨p1, _, rfl, .inr (.inl (.inl upd_same)), rfl, by decide +kernel, _, rfl, brT (by decide +kernel) ?_⟩
      exact ⟨_, rfl, rfl, C, dd, _, _, rfl, rfl, hxf, hnn, hdd, rfl, q _ ((s0).trans s1)⟩
/-- the errors that an outcome tells here -/
def okErrs (L : List (Addr × Str × Str)) : Value → Option Addr → Hp → V → V → Prop := fun cls d H tag v => ∃ p ∈ L, tag = .str p.2.1 ∧ ErrIs p.1 [(p.2.2, v), ("tag", .str p.2.1)] cls d H
abbrev Txt.kinds (T : Txt K mg) : List (Addr × Str × Str) := [(T.c_InvalidGate, "InvalidGate", "position"), (T.c_NotBarring, "NotBarring", "place")]
theorem ok_l_outcome (T : Txt K mg) {X : Cx} {q : Str} (hK : X.K = K) (hm : X.mg = mg) : EPX.Takes1 X 9 N_l_outcome "_law_outcome" s_l_outcome T.f_l_outcome "_law_ask" q (TOut (okErrs T.kinds)) := by
  subst hK hm
  intro cdg f c' A0 outer0 s0 H0 Q tl hr act hc h
  refine ⟨_, pss_cons (ps_asg (pe_tup (pa_cons pe_non (pa_cons pe_str (pa_cons pe_non pa_nil)))) (pg_tup (by rfl) (pgs_cons (pg_name (i := 1) sc_l_outcome.nd rfl (Or.inl rfl)) (pgs_cons (pg_name (i := 2) sc_l_outcome.nd rfl (Or.inl rfl)) (pgs_cons (pg_name (i := 3) sc_l_outcome.nd rfl (Or.inl rfl)) pgs_nil)))))
    (pss_cons (EPX.ps_try_pairs (i := 4)
        (ts := fun a cls d => tPar 2 3 (tCons (EPX.tXe X.K a cls d "tag" (tVar 4)) (tCons (fun σ H Q => tCons (tVar 4) tNil σ H fun vs H1 => spErrM X.K a cls d vs H1 Q) tNil)))
        (ts' := fun a cls d => tAsg (EPX.tXe X.K a cls d "tag" (tVar 4)) (gName 2))
        rfl rfl sc_l_outcome.nd rfl rfl ⟨by rfl, by decide, .inl T.gc_PaceError⟩ ⟨by rfl, by decide, .inl T.gc_NotFound⟩ ⟨by rfl, by decide, .inl T.gc_ZeroDenominator⟩ ⟨by rfl, by decide, .inl T.gc_EmptyHistory⟩
        (fun W pn xe tk _ => pss_one (ps_set (i := 1) sc_l_outcome.nd rfl (Or.inl rfl) (act W pn xe _ _ tk)))
        (fun a oe cls d pn hz hfs => pss_one (EPX.ps_parH (i := 2) (j := 3) ⟨(a, oe), ⟨rfl, hfs.elim fun vs hv => ⟨vs, hv, hz.2.2 vs hv⟩⟩, List.mem_cons_self ..⟩ sc_l_outcome.nd rfl rfl (by decide) rfl rfl (pa_cons (EPX.pe_xe (X := (cxOf CX0 X.prog X.w X.K X.mg X.base N_l_outcome (Str.ofString "_law_outcome") (defScope s_l_outcome) T.f_l_outcome cdg A0 outer0 s0 H0 E0).nox.suite a ((a, oe) :: pn)) (p := (a, oe)) (List.mem_cons_self ..) hz hfs (pv 4)) (pa_cons (EPX.pe_callE (X := (cxOf CX0 X.prog X.w X.K X.mg X.base N_l_outcome (Str.ofString "_law_outcome") (defScope s_l_outcome) T.f_l_outcome cdg A0 outer0 s0 H0 E0).nox.suite a ((a, oe) :: pn)) (p := (a, oe)) (ok_l_error_field T) (L2H.roomH_mark (hr.mono (by decide)) _) (List.mem_cons_self ..) hz hfs (by rfl) T.g_l_error_field T.F_l_error_field.kp T.b_l_error_field (pa_cons (pv 4) pa_nil)) pa_nil)) (by rfl)))
        (fun a oe cls d pn hz hfs => pss_one (ps_set (i := 2) sc_l_outcome.nd rfl (Or.inl rfl) (EPX.pe_xe (X := (cxOf CX0 X.prog X.w X.K X.mg X.base N_l_outcome (Str.ofString "_law_outcome") (defScope s_l_outcome) T.f_l_outcome cdg A0 outer0 s0 H0 E0).nox.suite a ((a, oe) :: pn)) (p := (a, oe)) (List.mem_cons_self ..) hz hfs (pv 4)))))
    (pss_one (ps_ret (pe_tup (pa_cons (pv 1) (pa_cons (pv 2) (pa_cons (pv 3) pa_nil))))))), ?_⟩
  refine ⟨sizeLine2 (by simp), fun p0 n0 => ⟨p0, _, rfl, .inl (.inl upd_same), rfl, _, _, rfl, _, _, rfl, _, _, rfl, rfl, ?_⟩⟩
  have s0' := same_upd (o := HO.tup [.non, .str "", .non]) n0
  refine ⟨rfl, s0' _ _ hc, ?_⟩
  refine h _ _ _ s0' (fun cls d H' hh => ?_) (fun v H' hh => ?_)
  · obtain ⟨tag, v, ⟨kd, hkd, rfl, rfl, dd, rfl, hdd⟩, k⟩ := hh
    simp only [Txt.kinds, List.mem_cons, List.not_mem_nil, or_false] at hkd
    rcases hkd with rfl | rfl
    · refine ⟨true, T.exAInvalidGate, fun _ a na => ?_, fun z => by cases z⟩
      refine ⟨_, rfl, rfl, _, dd, _, _, rfl, rfl, T.xfInvalidGate, T.nTagInvalidGate, hdd, rfl, ?_⟩
      refine ⟨_, rfl, ("InvalidGate", "position"), by simp [kindsE], rfl, _, dd, v, rfl, rfl, T.xfInvalidGate, T.nTagInvalidGate, T.nFldInvalidGate, hdd, fun H2 s2 => ?_⟩
      refine ⟨_, _, rfl, ?_⟩
      refine ⟨_, rfl, _, rfl, _, rfl, sizeLine2 (by simp), fun p np => ?_⟩
      exact k p _ (s2.trans (same_upd np)) upd_same
    · refine ⟨true, T.exANotBarring, fun _ a na => ?_, fun z => by cases z⟩
      refine ⟨_, rfl, rfl, _, dd, _, _, rfl, rfl, T.xfNotBarring, T.nTagNotBarring, hdd, rfl, ?_⟩
      refine ⟨_, rfl, ("NotBarring", "place"), by simp [kindsE], rfl, _, dd, v, rfl, rfl, T.xfNotBarring, T.nTagNotBarring, T.nFldNotBarring, hdd, fun H2 s2 => ?_⟩
      refine ⟨_, _, rfl, ?_⟩
      refine ⟨_, rfl, _, rfl, _, rfl, sizeLine2 (by simp), fun p np => ?_⟩
      exact k p _ (s2.trans (same_upd np)) upd_same
  · refine ⟨_, rfl, _, rfl, _, rfl, sizeLine2 (by simp), fun p np => ?_⟩
    exact hh p _ (same_upd np) upd_same

end
end EP
namespace EPZ
open PySem PySem.Spec PyProof.Rows
section
variable {prog : Program} {w : World} {A : Around} {E : Value → Shared → Prop} {s : Shared}
/-- a zip whose last tuple, at T, is still held by somebody -/
abbrev ZOut (h : Heap) (z TI TO T : Addr) (f : Bool) : Prop := h.get? z = some ⟨.type "zip", none, .fields #[rawInt T, .bool f, .bool false, .ref TI, .ref TO], #[]⟩
theorem out_free {z TI TO T : Addr} {f : Bool} {oT : Obj} {Q : Bool → Shared → Prop} (hz : ZOut s.heap z TI TO T f) (hT : s.heap.get? T = some oT) (nz : T ≠ z)
    (hQ : ∀ h', ZOut h' z TI TO T true → Heap.SameBut z s.heap h' → Q false { s with heap := h' }) :
    wpAny (model prog w) A (Builtin.SmallTypes.ownedTupleIsFree (.ref z)) Q E s := by
  unfold Builtin.SmallTypes.ownedTupleIsFree
  refine wpAny_bind (wpAny_field hz rfl (x := rawInt T) rfl ?_)
  show wpAny _ _ (loadIfAlive ((T : Int).toNat) >>= _) _ _ _
  rw [Int.toNat_natCast]
  refine wpAny_bind (PySem.W.kdx_alive hT ?_)
  simp only [Option.isNone_some, Bool.false_eq_true, if_false]
  refine wpAny_bind (wpAny_field hz rfl (x := .bool f) rfl ?_)
  cases f with
  | true =>
    rw [if_neg (show ¬ ((Value.bool true != Value.bool true) = true) from Bool.false_ne_true)]
    exact wpAny_pure (hQ _ hz (Heap.SameBut.refl _ _))
  | false =>
    rw [if_pos (show (Value.bool false != Value.bool true) = true from rfl)]
    refine wpAny_bind (wpAny_setField_rec hz (by simp) fun h1 e1 b1 => ?_)
    exact wpAny_pure (hQ h1 e1 b1)
theorem out_next {z TI TO T i1 i2 l1 l2 : Addr} {f : Bool} {oT : Obj} {k : Nat} {xs ys : Array Value} {x y : Value} {Q : Value → Shared → Prop} (D : ZipApart z TI TO i1 i2 l1 l2)
    (hz : ZOut s.heap z TI TO T f) (hT : s.heap.get? T = some oT) (nz : T ≠ z) (hTI : IsPair s.heap TI (.ref i1) (.ref i2))
    (h1 : s.heap.IsListIter i1 l1 k) (h2 : s.heap.IsListIter i2 l2 k) (hl1 : s.heap.IsList l1 xs) (hl2 : s.heap.IsList l2 ys) (hx : xs[k]? = some x) (hy : ys[k]? = some y)
    (hQ : ∀ h', ZOut h' z TI TO T true → h'.IsListIter i1 l1 (k + 1) → h'.IsListIter i2 l2 (k + 1) → IsPair h' s.heap.objs.size x y → h'.objs.size = s.heap.objs.size + 1 →
      (∀ c o, c ≠ z → c ≠ i1 → c ≠ i2 → s.heap.get? c = some o → h'.get? c = some o) → Q (.ref s.heap.objs.size) { s with heap := h' }) :
    wpAny (model prog w) A (Builtin.«zip.__next__» ⟨[.ref z], []⟩) (fun fin s' => ∃ v, fin = .done (.ret v) ∧ Q v s') E s := by
  show wpAny _ _ (field (.ref z) 2 >>= _) _ _ _
  refine wpAny_bind (wpAny_field hz rfl (x := .bool false) rfl ?_)
  show wpAny _ _ (field (.ref z) 3 >>= _) _ _ _
  refine wpAny_bind (wpAny_field hz rfl (x := .ref TI) rfl ?_)
  refine wpAny_bind (wpAny_seqItems hTI rfl ?_)
  show wpAny _ _ (Builtin.SmallTypes.ownedTupleIsFree (.ref z) >>= _) _ _ _
  refine wpAny_bind (out_free hz hT nz fun g z1 b1 => ?_)
  simp only [Bool.false_eq_true, if_false]
  rw [← Array.forIn_toList]
  simp only [List.forIn_cons, List.forIn_nil]
  refine wpAny_bind ?_
  refine wpAny_bind (wpAny_bind (wpAny_holding ?_))
  show wpAny _ _ (Builtin.SmallTypes.nextOf (.ref i1) >>= _) _ _ _
  refine wpAny_bind (wpAny_nextOf_list_item (h1.extBut b1.extBut D.i1z) (hl1.extBut b1.extBut D.l1z) hx fun g2 e2 b2 => wpAny_pure ?_)
  refine wpAny_pure ?_
  refine wpAny_bind (wpAny_bind (wpAny_holding ?_))
  show wpAny _ _ (Builtin.SmallTypes.nextOf (.ref i2) >>= _) _ _ _
  refine wpAny_bind (wpAny_nextOf_list_item ((h2.extBut b1.extBut D.i2z).extBut b2.extBut D.i12.symm) ((hl2.extBut b1.extBut D.l2z).extBut b2.extBut D.l2i1) hy fun g3 e3 b3 => wpAny_pure ?_)
  refine wpAny_pure (wpAny_pure ?_)
  show wpAny _ _ (newTuple [x, y] >>= _) _ _ _
  refine wpAny_bind (wpAny_newTuple ?_)
  have zs : g3.objs.size = s.heap.objs.size := by rw [b3.1, b2.1, b1.1]
  refine wpAny_pure ⟨_, rfl, ?_⟩
  have kp : ∀ c o, c ≠ z → c ≠ i1 → c ≠ i2 → s.heap.get? c = some o → g3.get? c = some o := fun c o a1 a2 a3 e => b3.extBut _ _ a3 (b2.extBut _ _ a2 (b1.extBut _ _ a1 e))
  have z3 : ZOut g3 z TI TO T true := b3.extBut _ _ D.i2z.symm (b2.extBut _ _ D.i1z.symm z1)
  have j1 : g3.IsListIter i1 l1 (k + 1) := e2.extBut b3.extBut D.i12
  have up : ∀ c o, g3.get? c = some o → (g3.push { cls := .type "tuple", data := .seq #[x, y] }).get? c = some o := fun c o e => Heap.get?_push_of_some _ e
  have tp : (g3.push { cls := .type "tuple", data := .seq #[x, y] }).get? s.heap.objs.size = some { cls := .type "tuple", data := .seq #[x, y] } := by rw [← zs]; exact Heap.get?_push_size _ rfl
  show Q (.ref g3.objs.size) _
  rw [zs]
  exact hQ _ (up _ _ z3) (j1.at fun o e => up _ o e) (e3.at fun o e => up _ o e) tp (by rw [Heap.size_push, zs]) fun c o a1 a2 a3 e => up _ _ (kp c o a1 a2 a3 e)
theorem out_end {z TI TO T i1 i2 l1 l2 : Addr} {f : Bool} {oT : Obj} {k : Nat} {xs ys : Array Value} {Q : Fin → Shared → Prop} (hh : A.handled = none) (D : ZipApart z TI TO i1 i2 l1 l2)
    (hz : ZOut s.heap z TI TO T f) (hT : s.heap.get? T = some oT) (nz : T ≠ z) (hTI : IsPair s.heap TI (.ref i1) (.ref i2))
    (h1 : s.heap.IsListIter i1 l1 k) (h2 : s.heap.IsListIter i2 l2 k) (hl1 : s.heap.IsList l1 xs) (hl2 : s.heap.IsList l2 ys) (hend : xs[k]? = none ∨ ys[k]? = none)
    (hE : ∀ h' e, (∀ c o, c ≠ z → c ≠ i1 → c ≠ i2 → s.heap.get? c = some o → h'.get? c = some o) → (∃ o, h'.get? e = some o ∧ o.cls = .type "StopIteration") → E (.ref e) { s with heap := h' }) :
    wpAny (model prog w) A (Builtin.«zip.__next__» ⟨[.ref z], []⟩) Q E s := by
  show wpAny _ _ (field (.ref z) 2 >>= _) _ _ _
  refine wpAny_bind (wpAny_field hz rfl (x := .bool false) rfl ?_)
  show wpAny _ _ (field (.ref z) 3 >>= _) _ _ _
  refine wpAny_bind (wpAny_field hz rfl (x := .ref TI) rfl ?_)
  refine wpAny_bind (wpAny_seqItems hTI rfl ?_)
  show wpAny _ _ (Builtin.SmallTypes.ownedTupleIsFree (.ref z) >>= _) _ _ _
  refine wpAny_bind (out_free hz hT nz fun g z1 b1 => ?_)
  simp only [Bool.false_eq_true, if_false]
  rw [← Array.forIn_toList]
  simp only [List.forIn_cons, List.forIn_nil]
  refine wpAny_bind ?_
  refine wpAny_bind (wpAny_bind (wpAny_holding ?_))
  show wpAny _ _ (Builtin.SmallTypes.nextOf (.ref i1) >>= _) _ _ _
  cases hx : xs[k]? with
  | none =>
    refine wpAny_bind (wpAny_nextOf_list_end hh (h1.extBut b1.extBut D.i1z) (hl1.extBut b1.extBut D.l1z) hx fun g2 e b2 he => ?_)
    exact hE g2 e (fun c o a1 a2 _ x => b2 _ _ a2 (b1.extBut _ _ a1 x)) he
  | some x =>
    have hy : ys[k]? = none := by
      rcases hend with h | h
      · rw [hx] at h; cases h
      · exact h
    refine wpAny_bind (wpAny_nextOf_list_item (h1.extBut b1.extBut D.i1z) (hl1.extBut b1.extBut D.l1z) hx fun g2 e2 b2 => wpAny_pure ?_)
    refine wpAny_pure ?_
    refine wpAny_bind (wpAny_bind (wpAny_holding ?_))
    show wpAny _ _ (Builtin.SmallTypes.nextOf (.ref i2) >>= _) _ _ _
    refine wpAny_bind (wpAny_nextOf_list_end hh ((h2.extBut b1.extBut D.i2z).extBut b2.extBut D.i12.symm) ((hl2.extBut b1.extBut D.l2z).extBut b2.extBut D.l2i1) hy fun g3 e b3 he => ?_)
    exact hE g3 e (fun c o a1 a2 a3 x => b3 _ _ a3 (b2.extBut _ _ a2 (b1.extBut _ _ a1 x))) he
/-- the zip at its turn i, while the list at S takes what it gives -/
def ZSt (S z TI TO i1 i2 l1 l2 : Addr) (i : Nat) (h : Heap) : Prop :=
  IsPair h TI (.ref i1) (.ref i2) ∧ (∃ a b, IsPair h TO a b) ∧ h.IsListIter i1 l1 i ∧ h.IsListIter i2 l2 i ∧ (IsZip h z TI TO .none ∨ ∃ T f oT, ZOut h z TI TO T f ∧ h.get? T = some oT ∧ T ≠ z ∧ T ≠ i1 ∧ T ≠ i2 ∧ T ≠ TO ∧ T ≠ S)
theorem ZSt.keep {S z TI TO i1 i2 l1 l2 : Addr} {i : Nat} {h h' : Heap} (x : ZSt S z TI TO i1 i2 l1 l2 i h) (nS : z ≠ S ∧ TI ≠ S ∧ TO ≠ S ∧ i1 ≠ S ∧ i2 ≠ S) (k : ∀ b o, b ≠ S → h.get? b = some o → h'.get? b = some o) : ZSt S z TI TO i1 i2 l1 l2 i h' := by
  obtain ⟨a1, ⟨p, q, a2⟩, a3, a4, a5⟩ := x
  refine ⟨k _ _ nS.2.1 a1, ⟨p, q, k _ _ nS.2.2.1 a2⟩, a3.at fun o e => k _ o nS.2.2.2.1 e, a4.at fun o e => k _ o nS.2.2.2.2 e, ?_⟩
  rcases a5 with z0 | ⟨T, f, oT, b1, b2, b3, b4, b5, b6, b7⟩
  · exact .inl (k _ _ nS.1 z0)
  · exact .inr ⟨T, f, oT, k _ _ nS.1 b1, k _ _ b7 b2, b3, b4, b5, b6, b7⟩
theorem zst_item {S z TI TO i1 i2 l1 l2 : Addr} {i : Nat} {xs ys : Array Value} {x y : Value} {Q : Option Value → Shared → Prop} (D : ZipApart z TI TO i1 i2 l1 l2) (st : ZSt S z TI TO i1 i2 l1 l2 i s.heap) (hS : S < s.heap.objs.size)
    (hl1 : s.heap.IsList l1 xs) (hl2 : s.heap.IsList l2 ys) (hx : xs[i]? = some x) (hy : ys[i]? = some y)
    (hQ : ∀ h', ZSt S z TI TO i1 i2 l1 l2 (i + 1) h' → IsPair h' s.heap.objs.size x y → h'.objs.size = s.heap.objs.size + 1 → (∀ c o, c ≠ z → c ≠ TO → c ≠ i1 → c ≠ i2 → s.heap.get? c = some o → h'.get? c = some o) → Q (some (.ref s.heap.objs.size)) { s with heap := h' }) :
    wpAny (model prog w) A (pyNext (.ref z)) Q E s := by
  obtain ⟨hTI, ⟨p, q, hTO⟩, h1, h2, hz⟩ := st
  have lt : ∀ {c : Addr} {o : Obj}, s.heap.get? c = some o → s.heap.objs.size ≠ c := fun e => Nat.ne_of_gt (Heap.lt_size e)
  rcases hz with hz | ⟨T, f, oT, hz, hT, n1, n2, n3, n4, n5⟩
  · refine wpAny_pyNext_zip_item D hz hTI hTO h1 h2 hl1 hl2 hx hy fun h' a1 a2 a3 a4 a5 a6 a7 => hQ h' ⟨a7 _ _ D.TIz D.TITO D.TIi1 D.TIi2 hTI, ⟨_, _, a2⟩, a3, a4, .inr ⟨s.heap.objs.size, false, _, a1, a5, lt hz, ?_, ?_, lt hTO, Nat.ne_of_gt hS⟩⟩ a5 a6 a7
    · obtain ⟨_, e, _⟩ := h1; exact lt e
    · obtain ⟨_, e, _⟩ := h2; exact lt e
  · have ty : s.TypeIs (.ref z) "zip" := ⟨_, hz, rfl⟩
    unfold pyNext
    refine wpAny_bind (wpAny_attempt (wpAny_callSpecial?_slot (name := Str.ofString "__next__") ty F.slot_zip_next (wpAny_call_entry F.slot_zip_next ty F.entry_zip_next
      (out_next D hz hT n1 hTI h1 h2 hl1 hl2 hx hy fun h' a1 a3 a4 a5 a6 a7 => wpAny_pure (hQ h' ⟨a7 _ _ D.TIz D.TIi1 D.TIi2 hTI, ⟨p, q, a7 _ _ D.TOz D.TOi1 D.TOi2 hTO⟩, a3, a4, .inr ⟨T, true, oT, a1, a7 _ _ n1 n2 n3 hT, n1, n2, n3, n4, n5⟩⟩ a5 a6 fun c o c1 _ c3 c4 e => a7 c o c1 c3 c4 e)) (F.args_zip_next_1 _))))
theorem zst_end {S z TI TO i1 i2 l1 l2 : Addr} {i : Nat} {xs ys : Array Value} {Q : Option Value → Shared → Prop} (hh : A.handled = none) (D : ZipApart z TI TO i1 i2 l1 l2) (st : ZSt S z TI TO i1 i2 l1 l2 i s.heap)
    (hl1 : s.heap.IsList l1 xs) (hl2 : s.heap.IsList l2 ys) (hend : xs[i]? = none ∨ ys[i]? = none)
    (hQ : ∀ h', (∀ c o, c ≠ z → c ≠ TO → c ≠ i1 → c ≠ i2 → s.heap.get? c = some o → h'.get? c = some o) → Q none { s with heap := h' }) :
    wpAny (model prog w) A (pyNext (.ref z)) Q E s := by
  obtain ⟨hTI, ⟨p, q, hTO⟩, h1, h2, hz⟩ := st
  rcases hz with hz | ⟨T, f, oT, hz, hT, n1, n2, n3, n4, n5⟩
  · exact wpAny_pyNext_zip_end hh D hz hTI hTO h1 h2 hl1 hl2 hend hQ
  · have ty : s.TypeIs (.ref z) "zip" := ⟨_, hz, rfl⟩
    unfold pyNext
    refine wpAny_bind (wpAny_attempt (wpAny_callSpecial?_slot (name := Str.ofString "__next__") ty F.slot_zip_next (wpAny_call_entry F.slot_zip_next ty F.entry_zip_next
      (out_end hh D hz hT n1 hTI h1 h2 hl1 hl2 hend fun h' e k he => ?_) (F.args_zip_next_1 _))))
    obtain ⟨o, ho, hc⟩ := he
    refine wpAny_bind (wpAny_isInstance (T := "StopIteration") (b := true) ⟨o, ho, hc⟩ isSubtype_stop ?_)
    exact wpAny_pure (hQ h' fun c o c1 _ c3 c4 e => k c o c1 c3 c4 e)
end
end EPZ
namespace EPZ
open PySem PySem.Spec PyProof.Rows PySem.W
/-- the tuples that were made so far: above lo, ascending, each with its two items -/
structure ZG (xs ys : Array Value) (lo : Addr) (h : Heap) (ts : List Addr) : Prop where
  up : ts.Pairwise (· < ·)
  lo : ∀ a ∈ ts, lo < a
  at_ : ∀ (j : Nat) (a : Addr), ts[j]? = some a → ∃ x y, xs[j]? = some x ∧ ys[j]? = some y ∧ IsPair h a x y
theorem ZG.lt {xs ys : Array Value} {lo : Addr} {h : Heap} {ts : List Addr} (g : ZG xs ys lo h ts) {a : Addr} (ha : a ∈ ts) : a < h.objs.size := by
  obtain ⟨j, hj⟩ := List.mem_iff_getElem?.mp ha
  obtain ⟨_, _, _, _, e⟩ := g.at_ j a hj
  exact Heap.lt_size e
theorem ZG.mono {xs ys : Array Value} {lo lo' : Addr} {h h' : Heap} {ts : List Addr} (g : ZG xs ys lo h ts) (l : lo' ≤ lo) (k : ∀ a o, lo < a → h.get? a = some o → h'.get? a = some o) : ZG xs ys lo' h' ts :=
  ⟨g.up, fun a ha => Nat.lt_of_le_of_lt l (g.lo a ha), fun j a hj => by
    obtain ⟨x, y, e1, e2, e3⟩ := g.at_ j a hj
    exact ⟨x, y, e1, e2, k a _ (g.lo a (List.mem_of_getElem? hj)) e3⟩⟩
theorem ab {c lo a : Addr} (k : c ≤ lo) (h : lo < a) : a ≠ c := Nat.ne_of_gt (Nat.lt_of_le_of_lt k h)
section
variable {prog : Program} {w : World} {A : Around} {s : Shared} {R : Result → Shared → Prop}
theorem zl_loop {S z TI TO i1 i2 l1 l2 : Addr} {xs ys : Array Value} {n : Nat} (hh : A.handled = none) (D : ZipApart z TI TO i1 i2 l1 l2) (hn : n = min xs.size ys.size) (hs : n ≤ sizeLine) (nS : z ≠ S ∧ TI ≠ S ∧ TO ≠ S ∧ i1 ≠ S ∧ i2 ≠ S) (nl : l1 ≠ S ∧ l2 ≠ S)
    (lo : Addr) (hlo : z ≤ lo ∧ TI ≤ lo ∧ TO ≤ lo ∧ i1 ≤ lo ∧ i2 ≤ lo ∧ S ≤ lo) (res : Value) {h0 : Heap}
    (hR : ∀ h' tk acc c ts, (∀ b o, b ≠ S → b ≠ z → b ≠ TO → b ≠ i1 → b ≠ i2 → h0.get? b = some o → h'.get? b = some o) → h'.get? S = some ⟨.type "list", none, .seq acc c, #[]⟩ → ts.length = n → ZG xs ys lo h' ts →
      acc.toList = ts.map Value.ref → R (.ok (.ret res)) { s with heap := h', toks := tk }) :
    ∀ (k i : Nat) (h : Heap) (tk c : Nat) (acc : Array Value) (ts : List Addr), n - i = k → i ≤ n → ZSt S z TI TO i1 i2 l1 l2 i h → h.IsList l1 xs → h.IsList l2 ys →
      (∀ b o, b ≠ S → b ≠ z → b ≠ TO → b ≠ i1 → b ≠ i2 → h0.get? b = some o → h.get? b = some o) →
      h.get? S = some ⟨.type "list", none, .seq acc c, #[]⟩ → acc.toList = ts.map Value.ref → ts.length = i → ZG xs ys lo h ts → lo < h.objs.size →
      codeAny (model prog w) A (.builtin "list.extend.loop" ⟨[.ref S, .ref z, res], []⟩) R { s with heap := h, toks := tk } := by
  intro k
  induction k with
  | zero =>
    intro i h tk c acc ts hk hi st q1 q2 kp hS ha hl g hlt
    have hin : i = n := by omega
    refine codeAny_builtin F.entry_extend_loop ?_
    rw [Around.under_plainId F.plain_extend_loop _]
    refine wpAny_bind (zst_end (s := { s with heap := h, toks := tk }) (A := A.in1) hh D st q1 q2 ?_ fun h' e => ?_)
    · rcases Nat.le_total xs.size ys.size with z | z
      · exact .inl (Array.getElem?_eq_none (by omega))
      · exact .inr (Array.getElem?_eq_none (by omega))
    · exact wpAny_pure (hR h' tk acc c ts (fun b o a1 a2 a3 a4 a5 x => e b o a2 a3 a4 a5 (kp b o a1 a2 a3 a4 a5 x)) (e S _ nS.1.symm nS.2.2.1.symm nS.2.2.2.1.symm nS.2.2.2.2.symm hS) (by omega) (g.mono (Nat.le_refl _) fun a o x y => e a o (ab hlo.1 x) (ab hlo.2.2.1 x) (ab hlo.2.2.2.1 x) (ab hlo.2.2.2.2.1 x) y) ha)
  | succ k ih =>
    intro i h tk c acc ts hk hi st q1 q2 kp hS ha hl g hlt
    have hlt1 : i < xs.size := by omega
    have hlt2 : i < ys.size := by omega
    have hsz : acc.size = i := by rw [← Array.length_toList, ha, List.length_map, hl]
    refine codeAny_builtin F.entry_extend_loop ?_
    rw [Around.under_plainId F.plain_extend_loop _]
    refine wpAny_bind (zst_item (s := { s with heap := h, toks := tk }) (A := A.in1) (S := S) D st (Heap.lt_size hS) q1 q2 (Array.getElem?_eq_getElem hlt1) (Array.getElem?_eq_getElem hlt2) fun h' st' ht hz e => ?_)
    dsimp only at ht hz e ⊢
    have eS := e S _ nS.1.symm nS.2.2.1.symm nS.2.2.2.1.symm nS.2.2.2.2.symm hS
    have up : ∀ b o, b ≠ S → h'.get? b = some o → (h'.update S (Obj.mapSeq (·.push (Value.ref h.objs.size)))).get? b = some o := fun b o hb x => (Heap.get?_update_other _ _ (Ne.symm hb)).trans x
    have hSl : S < h.objs.size := Heap.lt_size hS
    refine wpAny_bind ?_
    have e1 : ∀ o, h.get? l1 = some o → h'.get? l1 = some o := fun o x => e l1 o D.l1z D.l1TO D.l1i1 D.l1i2 x
    have e2 : ∀ o, h.get? l2 = some o → h'.get? l2 = some o := fun o x => e l2 o D.l2z D.l2TO D.l2i1 D.l2i2 x
    refine wpAny_updateSeq eS rfl (wpAny_pure ⟨plainId_quiet F.plain_extend_loop _, ih (i + 1) _ tk _ (acc.push (Value.ref h.objs.size)) (ts ++ [h.objs.size]) (by omega) (by omega) (st'.keep nS up) (q1.at fun o x => up l1 o nl.1 (e1 o x)) (q2.at fun o x => up l2 o nl.2 (e2 o x))
      (fun b o a1 a2 a3 a4 a5 x => up b o a1 (e b o a2 a3 a4 a5 (kp b o a1 a2 a3 a4 a5 x))) (Heap.get?_update_self _ eS rfl) (by rw [Array.toList_push, ha, List.map_append]; rfl) (by rw [List.length_append, hl]; rfl) ⟨?_, ?_, ?_⟩ ?_⟩) (by rw [hsz]; omega) (by show (acc.push (Value.ref h.objs.size)).size ≤ sizeLine + 1; rw [Array.size_push, hsz]; omega)
    · refine List.pairwise_append.mpr ⟨g.up, List.pairwise_singleton _ _, fun a x b y => ?_⟩
      rw [List.mem_singleton.mp y]; exact g.lt x
    · intro a x
      rcases List.mem_append.mp x with x | x
      · exact g.lo a x
      · rw [List.mem_singleton.mp x]; exact hlt
    · intro j b hj
      rcases Nat.lt_or_ge j ts.length with u | u
      · rw [List.getElem?_append_left u] at hj
        obtain ⟨x, y, f1, f2, f3⟩ := g.at_ j b hj
        have hb := g.lo b (List.mem_of_getElem? hj)
        exact ⟨x, y, f1, f2, up b _ (ab hlo.2.2.2.2.2 hb) (e b _ (ab hlo.1 hb) (ab hlo.2.2.1 hb) (ab hlo.2.2.2.1 hb) (ab hlo.2.2.2.2.1 hb) f3)⟩
      · rw [List.getElem?_append_right u] at hj
        rcases Nat.eq_zero_or_pos (j - ts.length) with v | v
        · rw [v] at hj
          have hj : h.objs.size = b := by simpa using hj
          subst hj
          have ej : j = i := by omega
          subst ej
          exact ⟨_, _, Array.getElem?_eq_getElem hlt1, Array.getElem?_eq_getElem hlt2, up _ _ (Nat.ne_of_gt hSl) ht⟩
        · obtain ⟨m, hm⟩ : ∃ m, j - ts.length = m + 1 := ⟨j - ts.length - 1, by omega⟩
          rw [hm] at hj; simp at hj
    · exact Nat.lt_trans hlt (Heap.lt_size (up _ _ (Nat.ne_of_gt hSl) ht))
theorem zip_noLen : typeLookup (.type "zip") "__len__" = pure none := by rw [typeLookup_type, builtinLookup_eq_fast]; kernel_rfl
theorem zip_noHint : typeLookup (.type "zip") "__length_hint__" = pure none := by rw [typeLookup_type, builtinLookup_eq_fast]; kernel_rfl
end
section
variable {prog : Program} {w : World} {A : Around} {E : Value → Shared → Prop} {s : Shared}
theorem zl_hint {z : Addr} (hT : s.TypeIs (.ref z) "zip") {Q : Bool → Shared → Prop} (h : Q true s) : wpAny (model prog w) A (Builtin.List.listLengthHint (.ref z)) Q E s := by
  unfold Builtin.List.listLengthHint
  refine wpAny_bind (wpAny_specialOf hT zip_noLen ?_)
  dsimp only
  refine wpAny_ite_split (fun hab => absurd hab (by decide)) (fun _ => ?_)
  refine wpAny_ite_split (fun hab => absurd hab (by decide)) (fun _ => ?_)
  refine wpAny_bind (wpAny_specialOf hT zip_noHint ?_)
  exact wpAny_pure h
theorem zl_extend {R : Result → Shared → Prop} {S z TI TO i1 i2 l1 l2 : Addr} {xs ys : Array Value} {n c0 : Nat} (hh : A.handled = none) (D : ZipApart z TI TO i1 i2 l1 l2) (hn : n = min xs.size ys.size) (hs : n ≤ sizeLine) (nS : z ≠ S ∧ TI ≠ S ∧ TO ≠ S ∧ i1 ≠ S ∧ i2 ≠ S) (nl : l1 ≠ S ∧ l2 ≠ S)
    (hlo : z ≤ S ∧ TI ≤ S ∧ TO ≤ S ∧ i1 ≤ S ∧ i2 ≤ S) (res : Value) (hz : IsZip s.heap z TI TO .none) (hTI : IsPair s.heap TI (.ref i1) (.ref i2)) (hTO : ∃ a b, IsPair s.heap TO a b) (h1 : s.heap.IsListIter i1 l1 0) (h2 : s.heap.IsListIter i2 l2 0) (q1 : s.heap.IsList l1 xs) (q2 : s.heap.IsList l2 ys)
    (hS : s.heap.get? S = some { cls := .type "list", data := .seq #[] c0 })
    (hR : ∀ h' tk acc c ts, (∀ b o, b ≠ S → b ≠ z → b ≠ TO → b ≠ i1 → b ≠ i2 → s.heap.get? b = some o → h'.get? b = some o) → h'.get? S = some ⟨.type "list", none, .seq acc c, #[]⟩ → ts.length = n → ZG xs ys S h' ts →
      acc.toList = ts.map Value.ref → R (.ok (.ret res)) { s with heap := h', toks := tk }) :
    wpAny (model prog w) A.in1 (Builtin.List.listExtendWith (.ref S) (.ref z) res)
      (fun fin s' => match fin with | .done f => R (.ok f) s' | .again c' => c'.quiet = true ∧ codeAny (model prog w) A c' R s') (fun e s' => R (.error e) s') s := by
  have ty : s.TypeIs (.ref z) "zip" := ⟨_, hz, rfl⟩
  have key : ∀ (h : Heap) (c1 tk : Nat), (∀ b o, b ≠ S → s.heap.get? b = some o → h.get? b = some o) → h.get? S = some { cls := .type "list", data := .seq #[] c1 } →
      codeAny (model prog w) A (.builtin "list.extend.loop" ⟨[.ref S, .ref z, res], []⟩) R { s with heap := h, toks := tk } := by
    intro h c1 tk k hS1
    obtain ⟨a, b, hTO⟩ := hTO
    exact zl_loop (s := s) (h0 := s.heap) hh D hn hs nS nl S ⟨hlo.1, hlo.2.1, hlo.2.2.1, hlo.2.2.2.1, hlo.2.2.2.2, Nat.le_refl _⟩ res hR n 0 h tk c1 #[] [] (Nat.sub_zero _) (Nat.zero_le _)
      ⟨k _ _ nS.2.1 hTI, ⟨a, b, k _ _ nS.2.2.1 hTO⟩, h1.at fun o e => k _ o nS.2.2.2.1 e, h2.at fun o e => k _ o nS.2.2.2.2 e, .inl (k _ _ nS.1 hz)⟩ (q1.at fun o e => k _ o nl.1 e) (q2.at fun o e => k _ o nl.2 e) (fun b o a1 _ _ _ _ e => k b o a1 e) hS1 rfl rfl
      ⟨List.Pairwise.nil, (fun _ x => nomatch x), (fun j a x => by simp at x)⟩ (Heap.lt_size hS1)
  unfold Builtin.List.listExtendWith
  refine wpAny_bind (wpAny_typeOf (T := "zip") ty ?_)
  have u1 : Builtin.List.listSameRef (.ref S) (.ref z) = false := by simp [Builtin.List.listSameRef, nS.1.symm]
  have u2 : (Value.type "zip" == Value.type "list") = false := by decide
  have u3 : (Value.type "zip" == Value.type "tuple") = false := by decide
  simp only [u1, u2, u3, Bool.or_false, Bool.false_eq_true, if_false]
  refine wpAny_bind (wpAny_pyIter_zip hz ?_)
  refine wpAny_bind (wpAny_holding (zl_hint ty ?_))
  refine wpAny_ite_split (fun _ => ?_) (fun hab => absurd (by simp) hab)
  refine wpAny_bind (wpAny_rule ?_)
  refine wpAny_bind ?_
  show wpAny _ _ (updateSeq S (·.push .none) >>= fun _ => updateSeq S (·.pop)) _ _ _
  refine wpAny_bind (wpAny_updateSeq hS rfl ?_)
  have e2 := Heap.get?_update_self (Obj.mapSeq (·.push Value.none)) hS rfl
  refine wpAny_updateSeq (hz := by seq_fits) e2 rfl ?_
  have e3 := Heap.get?_update_self (Obj.mapSeq (·.pop)) e2 rfl
  refine wpAny_pure ⟨plainId_quiet F.plain_extend_loop _, key _ _ _ (fun b o hb e => ?_) e3⟩
  exact (Heap.get?_update_other _ _ (Ne.symm hb)).trans ((Heap.get?_update_other _ _ (Ne.symm hb)).trans e)
theorem zl_call {Q : Value → Shared → Prop} {z TI TO i1 i2 l1 l2 : Addr} {xs ys : Array Value} {n : Nat} (hh : A.handled = none) (D : ZipApart z TI TO i1 i2 l1 l2) (hn : n = min xs.size ys.size) (hs : n ≤ sizeLine)
    (hz : IsZip s.heap z TI TO .none) (hTI : IsPair s.heap TI (.ref i1) (.ref i2)) (hTO : ∃ a b, IsPair s.heap TO a b) (h1 : s.heap.IsListIter i1 l1 0) (h2 : s.heap.IsListIter i2 l2 0) (q1 : s.heap.IsList l1 xs) (q2 : s.heap.IsList l2 ys)
    (hQ : ∀ h' tk acc c ts, (∀ b o, b ≠ z → b ≠ TO → b ≠ i1 → b ≠ i2 → s.heap.get? b = some o → h'.get? b = some o) → h'.get? s.heap.objs.size = some ⟨.type "list", none, .seq acc c, #[]⟩ → ts.length = n → ZG xs ys s.heap.objs.size h' ts →
      acc.toList = ts.map Value.ref → Q (.ref s.heap.objs.size) { s with heap := h', toks := tk }) :
    wpAny (model prog w) A (call (.type "list") [.ref z]) Q E s := by
  refine callType_codes (Q₁ := fun obj s₁ => obj = .ref s.heap.objs.size ∧ s₁ = { s with heap := s.heap.push { cls := .type "list", data := .seq #[] } }) F.called_list (F.typeCall_list_1 _) F.entry_list_init (code_list_new _ ⟨rfl, rfl⟩) fun obj sn hsn => ?_
  obtain ⟨rfl, rfl⟩ := hsn
  have hS : (s.heap.push { cls := .type "list", data := .seq #[] }).get? s.heap.objs.size = some { cls := .type "list", data := .seq #[] } := Heap.get?_push_size _ rfl
  refine ⟨⟨_, hS, rfl⟩, F.args_list_init_2 _ _, ?_⟩
  show wpAny _ _ (do let old ← Builtin.List.listItems (.ref s.heap.objs.size); Builtin.List.listUpdate (.ref s.heap.objs.size) (fun _ => #[]); letGo old.toList.reverse; Builtin.List.listExtendWith (.ref s.heap.objs.size) (.ref z) .none) _ _ _
  refine wpAny_bind ?_
  unfold Builtin.List.listItems
  refine wpAny_bind (wpAny_seqItems hS rfl (wpAny_pure ?_))
  refine wpAny_bind (wpAny_updateSeq hS rfl ?_)
  have e2 := Heap.get?_update_self (Obj.mapSeq (fun _ => (#[] : Array Value))) hS rfl
  have lt : ∀ {c : Addr} {o : Obj}, s.heap.get? c = some o → c < s.heap.objs.size := fun e => Heap.lt_size e
  have up : ∀ b o, s.heap.get? b = some o → ((s.heap.push { cls := .type "list", data := .seq #[] }).update s.heap.objs.size (Obj.mapSeq (fun _ => (#[] : Array Value)))).get? b = some o :=
    fun b o e => (Heap.get?_update_other _ _ (Nat.ne_of_gt (lt e))).trans (Heap.get?_push_of_some _ e)
  refine wpAny_bind (wpAny_letGo ?_)
  have lz := lt hz
  have lT := lt hTI
  obtain ⟨a, b, hTO⟩ := hTO
  have lO := lt hTO
  have li1 : i1 < s.heap.objs.size := by obtain ⟨_, e, _⟩ := h1; exact lt e
  have li2 : i2 < s.heap.objs.size := by obtain ⟨_, e, _⟩ := h2; exact lt e
  have ll1 : l1 < s.heap.objs.size := by obtain ⟨_, e, _⟩ := q1; exact lt e
  have ll2 : l2 < s.heap.objs.size := by obtain ⟨_, e, _⟩ := q2; exact lt e
  refine zl_extend (A := A.in1) hh D hn hs ⟨Nat.ne_of_lt lz, Nat.ne_of_lt lT, Nat.ne_of_lt lO, Nat.ne_of_lt li1, Nat.ne_of_lt li2⟩ ⟨Nat.ne_of_lt ll1, Nat.ne_of_lt ll2⟩ ⟨Nat.le_of_lt lz, Nat.le_of_lt lT, Nat.le_of_lt lO, Nat.le_of_lt li1, Nat.le_of_lt li2⟩ .none
    (up _ _ hz) (up _ _ hTI) ⟨a, b, up _ _ hTO⟩ (h1.at fun o e => up _ o e) (h2.at fun o e => up _ o e) (q1.at fun o e => up _ o e) (q2.at fun o e => up _ o e) e2 (fun h' tk acc c ts k hS' hl g ha => ?_)
  exact ⟨rfl, hQ h' tk acc c ts (fun b o a2 a3 a4 a5 e => k b o (Nat.ne_of_lt (lt e)) a2 a3 a4 a5 (up b o e)) hS' hl g ha⟩
end
end EPZ
namespace EPZ
open PySem PySem.Spec PyProof.Rows L2
/-- new things are told of: they lie behind the old end of the heap -/
theorem inv_more {X : Cx} {pins : List (Addr × Obj)} {σ : L2.St} {H Hn : Hp} {s : Shared} {h' : Heap} {tk : Nat} (I : Inv X pins σ H s) (k : ∀ b o, s.heap.get? b = some o → h'.get? b = some o)
    (up : ∀ b u, H b = some u → Hn b = some u) (old : ∀ b, b < s.heap.objs.size → Hn b = H b) (new : ∀ b u, s.heap.objs.size ≤ b → Hn b = some u → ObjOk X.prog X.w Hn h' b u) : Inv X pins σ Hn { s with heap := h', toks := tk } := by
  refine I.call' (ch := []) rfl ⟨fun b o q _ _ _ => k b o q, fun b o q _ _ _ => ⟨o.slots, k b o q⟩, fun b o q n _ => by rw [old b (Heap.lt_size q)]; exact n, fun b o q _ => ⟨o, k b o q⟩, fun b xs q => up b _ q, fun b o u q => up b _ q, fun b ps q => ⟨#[], by rw [up b _ q]; simp⟩⟩ (fun b u q => ?_) I.bare fun b z => by simp at z
  rcases Nat.lt_or_ge b s.heap.objs.size with z | z
  · rw [old b z] at q
    exact (I.hok b u q).stay (fun d v _ y => k d v y) (fun d y => up d _ y) fun d xs y => up d _ y
  · exact new b u z q
/-- the list at S and its tuples -/
def Zh (H : Hp) (S : Addr) (ts : List Addr) (ps : List (V × V)) : Hp := fun b => if b = S then some (.lst (ts.map V.ref)) else match (ts.zip ps).lookup b with | some p => some (.tup [p.1, p.2]) | none => H b
theorem look_none {b : Addr} : ∀ (ts : List Addr) (ps : List (V × V)), b ∉ ts → (ts.zip ps).lookup b = none
  | [], _, _ => by simp
  | _ :: _, [], _ => by simp
  | t :: ts, p :: ps, h => by
    simp only [List.mem_cons, not_or] at h
    rw [List.zip_cons_cons, List.lookup_cons, show (b == t) = false from beq_false_of_ne h.1]
    exact look_none ts ps h.2
theorem look_at : ∀ (ts : List Addr) (ps : List (V × V)), ts.Nodup → ∀ {i : Nat} {t : Addr} {p : V × V}, ts[i]? = some t → ps[i]? = some p → (ts.zip ps).lookup t = some p
  | [], _, _, i, t, p, h, _ => by simp at h
  | _ :: _, [], _, i, t, p, _, h => by simp at h
  | a :: ts, q :: ps, hn, 0, t, p, h1, h2 => by
    cases Option.some.inj h1; cases Option.some.inj h2
    rw [List.zip_cons_cons, List.lookup_cons, show (a == a) = true from beq_self_eq_true a]
  | a :: ts, q :: ps, hn, i + 1, t, p, h1, h2 => by
    have hn := List.nodup_cons.mp hn
    have e : t ≠ a := fun z => hn.1 (by rw [← z]; exact List.mem_of_getElem? (show ts[i]? = some t from h1))
    rw [List.zip_cons_cons, List.lookup_cons, show (t == a) = false from beq_false_of_ne e]
    exact look_at ts ps hn.2 (i := i) h1 h2
def tListZip (K : PySem.W.Frag) (ta : TA) : TE := fun σ H Q => ta σ H fun vs H1 => ∃ (a b : Addr) (xs ys : List V), vs = [.ref a, .ref b] ∧ SqL K H1 a xs ∧ SqL K H1 b ys ∧
  ∀ (H' : Hp) (p : Addr) (ts : List Addr), Same H1 H' → H' p = some (.lst (ts.map V.ref)) → ts.length = min xs.length ys.length → (∀ (i : Nat) (t : Addr) (x y : V), ts[i]? = some t → xs[i]? = some x → ys[i]? = some y → H' t = some (.tup [x, y])) → Q (.ref p) H'
theorem vals_ref : ∀ ts : List Addr, Vals (ts.map V.ref) (ts.map Value.ref)
  | [] => .nil
  | _ :: ts => .cons rfl (vals_ref ts)
/-- list(zip(a, b)) -/
theorem pe_listZip {X : Cx} {e e2 : Expr} {ta : TA} {p p2 pos q : Pos} (hc : X.calm = true) (hgl : Gl X "list") (hml : X.mg "list" = none) (hg : Gl X "zip") (hm : X.mg "zip" = none) (ha : PA X [e, e2] ta)
    (hs : starEach [e, e2] X.env = (false, eval e X.env) :: starEach [e2] X.env := by rfl) (hpl : (backTo q (starEach [e2] X.env)).any (·.1) = false := by rfl)
    (hs1 : starEach [.Call (.Name "zip" p2) [e, e2] [] q] X.env = (false, eval (.Call (.Name "zip" p2) [e, e2] [] q) X.env) :: starEach [] X.env := by rfl) :
    PE X (.Call (.Name "list" p) [.Call (.Name "zip" p2) [e, e2] [] q] [] pos) (tListZip X.K ta) := by
  refine ⟨fun pins s σ H Q I h => ?_⟩
  refine wpAny_Call_Name_kw (ld_blt I hgl hml (show bootBuiltins "list" = some (.type "list") by decide +kernel) ?_)
  refine callWith_type1 ?_ hs1 rfl
  rw [hs1]
  show wpAny _ _ (spliced ((false, eval (.Call (.Name "zip" p2) [e, e2] [] q) X.env) :: backTo pos (starEach [] X.env))) _ _ s
  refine Calls.spliced_cons ?_
  refine Call_ (ld_blt I hg hm boot_zip (callWith_type1 (thn (ha.run q pins s σ H _ I h) fun us s1 ⟨vs, H1, I1, r1, q1⟩ => ?_) hs hpl))
  obtain ⟨a, b, xs, ys, ex, hqx, hqy, q1⟩ := q1
  subst ex
  cases r1 with
  | cons r rr =>
    cases rr with
    | cons r' rr =>
      cases rr
      cases r
      cases r'
      obtain ⟨its, rv, pA, sA⟩ := I1.list hqx
      obtain ⟨its2, rv2, pB, sB⟩ := I1.list hqy
      have lx := rv.length
      have ly := rv2.length
      refine call_zip_2 pA.isList pB.isList fun h1 hz hTI hTO j1 j2 hsz hk => ?_
      refine Calls.spliced_nil ?_
      have lt : ∀ {c : Addr} {o : Obj}, s1.heap.get? c = some o → c < s1.heap.objs.size := fun e => Heap.lt_size e
      have D := PySem.W.ktu_apart s1.heap.objs.size a b pA.lt pB.lt
      have up1 : ∀ {l : Addr} {as : Array Value}, s1.heap.IsList l as → h1.IsList l as := fun x => x.at fun o y => hk _ o y
      refine zl_call (s := { s1 with heap := h1 }) (n := min its.length its2.length) (I1.ok.hd hc) D (by simp) (Nat.le_trans (Nat.min_le_left _ _) (by omega)) hz hTI ⟨_, _, hTO⟩ j1 j2 (up1 pA.isList) (up1 pB.isList) fun h' tk acc c ts k hS hl g hacc => ?_
      dsimp only at k hS g ⊢
      have lo : ∀ b : Addr, h1.objs.size ≤ b → s1.heap.objs.size ≤ b := fun b z => Nat.le_trans (by rw [hsz]; exact Nat.le_add_right _ _) z
      have kp : ∀ b o, s1.heap.get? b = some o → h'.get? b = some o := fun b o e => by
        have z := lt e
        exact k b o (Nat.ne_of_lt (Nat.lt_of_lt_of_le z (Nat.le_add_right _ _))) (Nat.ne_of_lt (Nat.lt_of_lt_of_le z (Nat.le_add_right _ _))) (Nat.ne_of_lt z) (Nat.ne_of_lt (Nat.lt_of_lt_of_le z (Nat.le_add_right _ _))) (hk b o e)
      have nd : ts.Nodup := g.up.imp fun {a b} h => Nat.ne_of_lt h
      have nSt : h1.objs.size ∉ ts := fun z => Nat.lt_irrefl _ (g.lo _ z)
      have fresh : ∀ b : Addr, s1.heap.objs.size ≤ b → H1 b = none := fun b z => I1.hok.fresh z
      have nt : ∀ b, b ∈ ts → s1.heap.objs.size ≤ b := fun b z => lo b (Nat.le_of_lt (g.lo b z))
      have hlen : ts.length = min xs.length ys.length := by rw [hl, lx, ly]
      have eS : Zh H1 h1.objs.size ts (xs.zip ys) h1.objs.size = some (.lst (ts.map V.ref)) := if_pos rfl
      have eT : ∀ {i : Nat} {t : Addr} {p : V × V}, ts[i]? = some t → (xs.zip ys)[i]? = some p → Zh H1 h1.objs.size ts (xs.zip ys) t = some (.tup [p.1, p.2]) := fun {i t p} e1 e2 => by
        unfold Zh
        rw [if_neg (fun z => nSt (by rw [← z]; exact List.mem_of_getElem? e1)), look_at ts _ nd e1 e2]
      have eO : ∀ b, b ≠ h1.objs.size → b ∉ ts → Zh H1 h1.objs.size ts (xs.zip ys) b = H1 b := fun b e1 e2 => by
        unfold Zh
        rw [if_neg e1, look_none ts _ e2]
      have upH : ∀ b u, H1 b = some u → Zh H1 h1.objs.size ts (xs.zip ys) b = some u := fun b u e => by
        rw [eO b (fun z => by rw [z, fresh _ (lo _ (Nat.le_refl _))] at e; cases e) (fun z => by rw [fresh b (nt b z)] at e; cases e)]; exact e
      have I2 : Inv X pins σ (Zh H1 h1.objs.size ts (xs.zip ys)) { s1 with heap := h', toks := tk } := by
        refine inv_more I1 kp upH (fun b z => eO b (fun y => ?_) (fun y => ?_)) (fun b u z e => ?_)
        · exact Nat.not_le.mpr z (by rw [y]; exact lo _ (Nat.le_refl _))
        · exact Nat.not_le.mpr z (nt b y)
        · by_cases hb : b = h1.objs.size
          · rw [hb, eS] at e
            cases Option.some.inj e
            refine ⟨by rw [List.length_map]; omega, acc.toList, c, by rw [hacc]; exact vals_ref ts, ?_⟩
            rw [Array.toArray_toList, hb]; exact hS
          · by_cases hb2 : b ∈ ts
            · obtain ⟨i, hi⟩ := List.mem_iff_getElem?.mp hb2
              have hil : i < ts.length := (List.getElem?_eq_some_iff.mp hi).1
              have h1i : i < xs.length := by omega
              have h2i : i < ys.length := by omega
              have ep : (xs.zip ys)[i]? = some (xs[i], ys[i]) := by rw [List.getElem?_eq_getElem (by rw [List.length_zip]; omega), List.getElem_zip]
              rw [eT hi ep] at e
              cases Option.some.inj e
              obtain ⟨x, y, g1, g2, g3⟩ := g.at_ i b hi
              obtain ⟨u1, w1, r1⟩ := rv.get (List.getElem?_eq_getElem h1i)
              obtain ⟨u2, w2, r2⟩ := rv2.get (List.getElem?_eq_getElem h2i)
              have c1 : x = u1 := by
                have : its[i]? = some x := by simpa using g1
                rw [w1] at this; exact (Option.some.inj this).symm
              have c2 : y = u2 := by
                have : its2[i]? = some y := by simpa using g2
                rw [w2] at this; exact (Option.some.inj this).symm
              subst c1 c2
              exact ⟨by show 2 ≤ sizeLine; decide, [x, y], .cons r1 (.cons r2 .nil), ⟨_, g3, rfl, _, rfl⟩⟩
            · rw [eO b hb hb2, fresh b z] at e; cases e
      refine ⟨.ref h1.objs.size, _, I2, rfl, q1 _ _ ts upH eS hlen fun i t x y a1 a2 a3 => ?_⟩
      exact eT (p := (x, y)) a1 (by
        have h1i := (List.getElem?_eq_some_iff.mp a2).1
        have h2i := (List.getElem?_eq_some_iff.mp a3).1
        rw [List.getElem?_eq_getElem (by rw [List.length_zip]; omega), List.getElem_zip]
        rw [List.getElem?_eq_getElem h1i] at a2; rw [List.getElem?_eq_getElem h2i] at a3
        rw [Option.some.inj a2, Option.some.inj a3])
end EPZ
namespace EP
open PySem PySem.Spec PyProof.Rows L2
section
variable {P : Program} {w : World} {K : PySem.W.Frag} {mg : Str → Option Value} {base : Heap}
theorem DpAll_of {H : Hp} : ∀ {us : List V} {ds : List PyData}, us.length = ds.length → (∀ (i : Nat) (u : V) (d : PyData), us[i]? = some u → ds[i]? = some d → Dp K H u d) → DpAll K H us ds
  | [], [], _, _ => .nil
  | [], _ :: _, h, _ => by simp at h
  | _ :: _, [], h, _ => by simp at h
  | u :: us, d :: ds, h, k => .cons (k 0 u d rfl rfl) (DpAll_of (by simpa using h) fun i v e h1 h2 => k (i + 1) v e h1 h2)
def spFirstW (K : PySem.W.Frag) : Sp := fun vs H Q _ => ∃ (v : V) (pl P : Rat) (xs : Sps), vs = [v] ∧ Dp K H v (dG pl P xs) ∧ Gd P xs ∧ 0 < (lfQ P xs).2.length ∧ ∀ v' H', Same H H' → Dp K H' v' (.tuple [dq (lfQ P xs).1, .list ((wins (lfQ P xs).1 (lfQ P xs).2).map dsp)]) → Q v' H'
theorem ok_first_windows (T : Txt K mg) : FnOk P w K mg base CX0 7 T.f_first_windows T.d_first_windows Ps_first_windows (spFirstW K) := by
  refine T.F_first_windows.ok sc_first_windows (fun vs H Q E h => ?_) (fun cdv A outer s H vs Q E hr h => ?_)
  · obtain ⟨x, _, _, _, rfl, _⟩ := h; rfl
  · obtain ⟨v, pl, P, xs, rfl, hv, G, h0, q⟩ := h
    refine ⟨_, PSs.nox ((pss_cons (ps_asg (pe_call (ok_normal_gate T) hr (by rfl) T.g_normal_gate T.F_normal_gate.kp T.b_normal_gate .nil pass0 (pa_cons (pv 0) pa_nil)) (pg_tup (by rfl) (pgs_cons (pg_name (i := 1) sc_first_windows.nd rfl (Or.inl rfl)) (pgs_cons (pg_name (i := 2) sc_first_windows.nd rfl (Or.inl rfl)) (pgs_cons (pg_name (i := 3) sc_first_windows.nd rfl (Or.inl rfl)) pgs_nil)))))
      (pss_cons (ps_if (pt_cmpR op_eq (pe_callB call_len_seq (by rfl) T.m_len PySem.boot_len (pa_cons (pv 3) pa_nil)) pe_int (nomark _)) (pss_one ps_never) pss_nil)
      (pss_one (ps_ret (pe_tup (pa_cons (pv 2) (pa_cons (EPZ.pe_listZip rfl (by rfl) T.m_list (by rfl) T.m_zip (pa_cons (pe_call (ok_span_ends T) (hr.mono (by decide)) (by rfl) T.g_span_ends T.F_span_ends.kp T.b_span_ends .nil pass0 (pa_cons (pv 3) pa_nil)) (pa_cons (pe_call (ok_next_begins T) (hr.mono (by decide)) (by rfl) T.g_next_begins T.F_next_begins.kp T.b_next_begins .nil pass0 (pa_cons (pv 2) (pa_cons (pv 3) pa_nil))) pa_nil))) pa_nil)))))))), ?_⟩
    refine ⟨_, rfl, v, pl, P, xs, rfl, hv, G, fun v' H1 s1 h1 => ?_⟩
    obtain ⟨g', sh⟩ := lf_ok G.g
    have lb := lf_bits G.g.len G.p (by decide)
    obtain ⟨_, bx⟩ := lf_b G
    generalize (lfQ P xs).1 = P' at *
    generalize (lfQ P xs).2 = ys at *
    obtain ⟨U, v1, v2, v3, rfl, hU, d1, d2, d3⟩ := dp_three h1
    obtain ⟨a, us, rfl, ha, hu⟩ := dp_tup d3
    have el : us.length = ys.length := by rw [DpAll_len hu, List.length_map]
    have l6 := g'.len
    refine ⟨U, _, rfl, hU, rfl, _, _, rfl, _, _, rfl, _, _, rfl, rfl, ?_⟩
    refine ⟨_, rfl, a, us, rfl, .inr ha, rfl, _, rfl, brEq (fun z => ?_) (fun _ => ?_)⟩
    · omega
    refine ⟨_, rfl, _, rfl, a, us, ys, rfl, ha, hu, by omega, bx, fun D es H2 s2 hD hes => ?_⟩
    refine ⟨_, rfl, _, rfl, _, P', a, us, ys, rfl, Dp_same s2 d2, lb.mono, Evl.ex_t s2 ha, DpAll_same s2 hu, by omega, bx, fun D2 ns H3 s3 hD2 hns => ?_⟩
    have e1 : es.length = ys.length := by rw [DpAll_len hes, List.length_map, ends_len]
    have e2 : ns.length = ys.length := by rw [DpAll_len hns, List.length_map, nexts_len]
    have hes := DpAll_same s3 hes
    refine ⟨D, D2, es, ns, rfl, .inl (.inl (s3 _ _ hD)), .inl (.inl hD2), fun H4 p ts s4 hp hl ht => ?_⟩
    have hw : DpAll K H4 (ts.map V.ref) ((wins P' ys).map dsp) := by
      refine DpAll_of (by rw [List.length_map, List.length_map, wins_len]; omega) fun i u d hi hd => ?_
      rw [List.getElem?_map] at hi hd
      obtain ⟨t, ht1, rfl⟩ := Option.map_eq_some_iff.mp hi
      obtain ⟨x, hx1, rfl⟩ := Option.map_eq_some_iff.mp hd
      have hit : i < ts.length := (List.getElem?_eq_some_iff.mp ht1).1
      have h1i : i < es.length := by omega
      have h2i : i < ns.length := by omega
      have hT := ht i t _ _ ht1 (List.getElem?_eq_getElem h1i) (List.getElem?_eq_getElem h2i)
      obtain ⟨z1, hz1, dz1⟩ := get_map hes (List.getElem?_eq_getElem h1i)
      obtain ⟨z2, hz2, dz2⟩ := get_map hns (List.getElem?_eq_getElem h2i)
      have hx : x = (z1, z2) := by
        have := (List.getElem?_zip_eq_some (z := (z1, z2))).mpr ⟨hz1, hz2⟩
        unfold wins at hx1
        rw [hx1] at this; exact Option.some.inj this
      subst hx
      exact .tup (.inl (.inl hT)) (.cons (Dp_same s4 dz1) (.cons (Dp_same s4 dz2) .nil))
    refine ⟨sizeLine2 (by simp), fun c nc => ?_⟩
    have s5 := same_upd (o := HO.tup [v2, .ref p]) nc
    refine q _ _ ((((s1.trans s2).trans s3).trans s4).trans s5) (dp_new nc (.cons (Dp_same ((s2.trans s3).trans s4) d2) (.cons (.lst (.inl (.inl hp)) hw) .nil)))
def spLaterP (K : PySem.W.Frag) : Sp := fun vs H Q _ => ∃ (vm vP : V) (m P : Rat) (n : Int), vs = [vm, .int n, vP] ∧ Dp K H vm (dq m) ∧ Dp K H vP (dq P) ∧ Bq 400 m ∧ Bq 130 P ∧ B 1600 n ∧ ∀ v' H', Same H H' → Dp K H' v' (dq (m + (n : Rat) * P)) → Q v' H'
theorem ok_periods_later (T : Txt K mg) : FnOk P w K mg base CX0 4 T.f_periods_later T.d_periods_later Ps_periods_later (spLaterP K) := by
  refine T.F_periods_later.ok sc_periods_later (fun vs H Q E h => ?_) (fun cdv A outer s H vs Q E hr h => ?_)
  · obtain ⟨x, _, _, _, _, rfl, _⟩ := h; rfl
  · obtain ⟨vm, vP, m, P, n, rfl, hm, hP, bm, bP, bn, q⟩ := h
    refine ⟨_, (pss_one (ps_ret (pe_call (ok_add T) hr (by rfl) T.g_add T.F_add.kp T.b_add .nil pass0 (pa_cons (pv 0) (pa_cons (pe_call (ok_multiply T) hr (by rfl) T.g_multiply T.F_multiply.kp T.b_multiply .nil pass0 (pa_cons (pe_tup (pa_cons (pv 1) (pa_cons pe_int pa_nil))) (pa_cons (pv 2) pa_nil))) pa_nil))))), ?_⟩
    refine ⟨_, rfl, _, rfl, sizeLine2 (by simp), fun c nc => ?_⟩
    have s1 := same_upd (o := HO.tup [.int n, .int 1]) nc
    have fn : Dp K _ (.ref c) (dq (n : Rat)) := dq_lit (a := n) (b := 1) nc rfl rfl
    have bN : Bq 1600 (n : Rat) := Bq.int bn
    refine ⟨_, rfl, u_mul fn (Dp_same s1 hP) bN.mono bP.mono fun v2 H2 s2 f2 => ?_⟩
    exact u_add (Dp_same (s1.trans s2) hm) f2 bm.mono (bN.mul bP).mono fun v3 H3 s3 f3 => q _ _ ((s1.trans s2).trans s3) f3
def spWin (K : PySem.W.Frag) : Sp := fun vs H Q _ => ∃ (v : V) (pl P : Rat) (xs : Sps) (n : Int), vs = [v, .int n] ∧ Dp K H v (dG pl P xs) ∧ Gd P xs ∧ 0 < (lfQ P xs).2.length ∧ B 1500 n ∧ ∀ v' H', Same H H' → Dp K H' v' (dsp (winQ (lfQ P xs).1 (lfQ P xs).2 n)) → Q v' H'
theorem b_wins {P : Rat} {xs : Sps} (bP : Bq 103 P) (b : ∀ x ∈ xs, Bq 100 x.1 ∧ Bq 100 x.2) {x : Rat × Rat} (h : x ∈ wins P xs) : Bq 204 x.1 ∧ Bq 204 x.2 := by
  obtain ⟨h1, h2⟩ := List.of_mem_zip h
  constructor
  · obtain ⟨w, hw, e⟩ := List.mem_map.mp h1
    rw [← e]; exact ((b w hw).1.add (b w hw).2).mono
  · unfold nexts at h2
    rcases List.mem_append.mp h2 with h | h
    · obtain ⟨w, hw, e⟩ := List.mem_map.mp (List.mem_of_mem_drop h)
      rw [← e]; exact (b w hw).1.mono
    · obtain ⟨y, hy, e⟩ := List.mem_map.mp h
      obtain ⟨w, hw, rfl⟩ := List.mem_map.mp (List.mem_of_mem_take hy)
      rw [← e]; exact ((b w hw).1.add bP).mono
theorem ok_window (T : Txt K mg) : FnOk P w K mg base CX0 8 T.f_window T.d_window Ps_window (spWin K) := by
  refine T.F_window.ok sc_window (fun vs H Q E h => ?_) (fun cdv A outer s H vs Q E hr h => ?_)
  · obtain ⟨x, _, _, _, _, rfl, _⟩ := h; rfl
  · obtain ⟨v, pl, P, xs, n, rfl, hv, G, h0, bn, q⟩ := h
    refine ⟨_, (pss_cons (ps_asg (pe_call (ok_first_windows T) hr (by rfl) T.g_first_windows T.F_first_windows.kp T.b_first_windows .nil pass0 (pa_cons (pv 0) pa_nil)) (pg_tup (by rfl) (pgs_cons (pg_name (i := 2) sc_window.nd rfl (Or.inl rfl)) (pgs_cons (pg_name (i := 3) sc_window.nd rfl (Or.inl rfl)) pgs_nil))))
      (pss_cons (ps_asg (pe_callB call_divmod (by rfl) T.m_divmod (by decide +kernel) (pa_cons (pv 1) (pa_cons (pe_callB call_len_seq (by rfl) T.m_len PySem.boot_len (pa_cons (pv 3) pa_nil)) pa_nil))) (pg_tup (by rfl) (pgs_cons (pg_name (i := 4) sc_window.nd rfl (Or.inl rfl)) (pgs_cons (pg_name (i := 5) sc_window.nd rfl (Or.inl rfl)) pgs_nil))))
      (pss_cons (ps_asg (pe_ix ix_list (pv 3) (pv 5) (fun _ _ => rfl)) (pg_tup (by rfl) (pgs_cons (pg_name (i := 6) sc_window.nd rfl (Or.inl rfl)) (pgs_cons (pg_name (i := 7) sc_window.nd rfl (Or.inl rfl)) pgs_nil))))
      (pss_one (ps_ret (pe_tup (pa_cons (pe_call (ok_periods_later T) (hr.mono (by decide)) (by rfl) T.g_periods_later T.F_periods_later.kp T.b_periods_later .nil pass0 (pa_cons (pv 6) (pa_cons (pv 4) (pa_cons (pv 2) pa_nil)))) (pa_cons (pe_call (ok_periods_later T) (hr.mono (by decide)) (by rfl) T.g_periods_later T.F_periods_later.kp T.b_periods_later .nil pass0 (pa_cons (pv 7) (pa_cons (pv 4) (pa_cons (pv 2) pa_nil)))) pa_nil)))))))), ?_⟩
    refine ⟨_, rfl, v, pl, P, xs, rfl, hv, G, h0, fun v' H1 s1 h1 => ?_⟩
    have g' := (lf_ok G.g).1
    have lb := lf_bits G.g.len G.p (by decide)
    obtain ⟨_, bx⟩ := lf_b G
    generalize (lfQ P xs).1 = P' at *
    generalize (lfQ P xs).2 = ys at *
    obtain ⟨U, v1, v2, rfl, hU, d1, d2⟩ := dp_two h1
    obtain ⟨a, us, rfl, ha, hu⟩ := dp_lst d2
    have el : us.length = ys.length := by rw [DpAll_len hu, List.length_map, wins_len]
    have l6 := g'.len
    refine ⟨U, _, rfl, hU, rfl, _, _, rfl, _, _, rfl, rfl, ?_⟩
    refine ⟨_, rfl, _, rfl, a, us, rfl, .inl ha, n, (us.length : Int), rfl, ⟨by omega, by omega⟩, fun c nc => ?_⟩
    have s2 := same_upd (o := HO.tup [.int (n / (us.length : Int)), .int (n % (us.length : Int))]) nc
    refine ⟨c, _, rfl, .inl (.inl upd_same), rfl, _, _, rfl, _, _, rfl, rfl, ?_⟩
    have hk := wNo_lt h0 n
    have ek : n % (us.length : Int) = ((wNo ys n : Nat) : Int) := by
      rw [el]; unfold wNo
      have := Int.emod_nonneg n (show (ys.length : Int) ≠ 0 by omega)
      omega
    have ej : n / (us.length : Int) = wPer ys n := by rw [el]; rfl
    rw [ek, ej]
    have hi : wNo ys n < us.length := by omega
    obtain ⟨z, hz, dz⟩ := get_map hu (List.getElem?_eq_getElem hi)
    have ez : z = (wB ys (wNo ys n), wE P' ys (wNo ys n)) := by rw [wins_at hk] at hz; exact (Option.some.inj hz).symm
    have bz := b_wins lb bx (List.mem_of_getElem? hz)
    rw [ez] at dz bz
    obtain ⟨V', w1, w2, eV, hV, f1, f2⟩ := dp_two (Dp_same s2 dz)
    rw [ek, ej] at s2 hV
    refine ⟨_, rfl, _, rfl, a, us, _, us[wNo ys n], rfl, rfl, Evl.ex_l s2 ha, atI_nat (List.getElem?_eq_getElem hi), ?_⟩
    rw [eV]
    refine ⟨V', _, rfl, hV, rfl, _, _, rfl, _, _, rfl, rfl, ?_⟩
    have bj : B 1500 (wPer ys n) := bn.le (div_abs (by omega))
    have f1 := f1; have f2 := f2
    rw [ek, ej] at f1 f2
    refine ⟨_, rfl, _, rfl, _, rfl, _, _, _, _, _, rfl, f1, Dp_same s2 d1, bz.1.mono, lb.mono, bj.mono, fun v3 H3 s3 f3 => ?_⟩
    refine ⟨_, rfl, _, rfl, _, rfl, _, _, _, _, _, rfl, Dp_same s3 f2, Dp_same (s2.trans s3) d1, bz.2.mono, lb.mono, bj.mono, fun v4 H4 s4 f4 => ?_⟩
    refine ⟨sizeLine2 (by simp), fun c2 nc2 => ?_⟩
    exact q _ _ ((((s1.trans s2).trans s3).trans s4).trans (same_upd nc2)) (dp_new nc2 (.cons (Dp_same s4 f3) (.cons f4 .nil)))
def vI : Option Int → V
  | none => .non
  | some n => .int n
def spWinAt (K : PySem.W.Frag) : Sp := fun vs H Q _ => ∃ (v vm : V) (pl P : Rat) (xs : Sps) (m : Rat), vs = [v, vm] ∧ Dp K H v (dG pl P xs) ∧ Gd P xs ∧ 0 < (lfQ P xs).2.length ∧ Dp K H vm (dq m) ∧ Bq 1190 m ∧ ∀ v' o H', Same H H' → v' = vI o → WAns (lfQ P xs).1 (lfQ P xs).2 m o → (∀ n, o = some n → B 1600 n) → Q v' H'
theorem ok_window_at (T : Txt K mg) : FnOk P w K mg base CX0 8 T.f_window_at T.d_window_at Ps_window_at (spWinAt K) := by
  refine T.F_window_at.ok sc_window_at (fun vs H Q E h => ?_) (fun cdv A outer s H vs Q E hr h => ?_)
  · obtain ⟨x, _, _, _, _, _, rfl, _⟩ := h; rfl
  · obtain ⟨v, vm, pl, P, xs, m, rfl, hv, G, h0, hm, bm, q⟩ := h
    refine ⟨_, (pss_cons (ps_asg (pe_call (ok_first_windows T) hr (by rfl) T.g_first_windows T.F_first_windows.kp T.b_first_windows .nil pass0 (pa_cons (pv 0) pa_nil)) (pg_tup (by rfl) (pgs_cons (pg_name (i := 2) sc_window_at.nd rfl (Or.inl rfl)) (pgs_cons (pg_name (i := 3) sc_window_at.nd rfl (Or.inl rfl)) pgs_nil))))
      (pss_cons (ps_for PassesOwn.never rfl (pi_enum (by rfl) T.m_enumerate (pa_cons (pv 3) pa_nil)) (pg_tup (by rfl) (pgs_cons (pg_name (i := 4) sc_window_at.nd rfl (Or.inl rfl)) (pgs_cons (pg_tup (by rfl) (pgs_cons (pg_name (i := 5) sc_window_at.nd rfl (Or.inl rfl)) (pgs_cons (pg_name (i := 6) sc_window_at.nd rfl (Or.inl rfl)) pgs_nil))) pgs_nil))) (pss_cons (ps_set (i := 7) sc_window_at.nd rfl (Or.inl rfl) (pe_call (ok_floor_ofQ T) (hr.mono (by decide)) (by rfl) T.g_floor_of T.F_floor_of.kp T.b_floor_of .nil pass0 (pa_cons (pe_call (ok_divide T) (hr.mono (by decide)) (by rfl) T.g_divide T.F_divide.kp T.b_divide .nil pass0 (pa_cons (pe_call (ok_subtract T) (hr.mono (by decide)) (by rfl) T.g_subtract T.F_subtract.kp T.b_subtract .nil pass0 (pa_cons (pv 1) (pa_cons (pv 5) pa_nil))) (pa_cons (pv 2) pa_nil))) pa_nil)))
      (pss_one (ps_if (pt_not (pt_val (pe_call (ok_is_lessQ T) (hr.mono (by decide)) (by rfl) T.g_is_less T.F_is_less.kp T.b_is_less .nil pass0 (pa_cons (pe_call (ok_periods_later T) (hr.mono (by decide)) (by rfl) T.g_periods_later T.F_periods_later.kp T.b_periods_later .nil pass0 (pa_cons (pv 6) (pa_cons (pv 7) (pa_cons (pv 2) pa_nil)))) (pa_cons (pv 1) pa_nil))))) (pss_one (ps_ret (pe_op op_add (pv 4) (pe_op op_mulW (pv 7) (pe_callB call_len_seq (by rfl) T.m_len PySem.boot_len (pa_cons (pv 3) pa_nil)))))) pss_nil))))
      (pss_one (ps_ret pe_non)))), ?_⟩
    refine ⟨_, rfl, v, pl, P, xs, rfl, hv, G, h0, fun v' H1 s1 h1 => ?_⟩
    have g' := (lf_ok G.g).1
    have lb := lf_bits G.g.len G.p (by decide)
    obtain ⟨_, bx⟩ := lf_b G
    generalize (lfQ P xs).1 = P' at *
    generalize (lfQ P xs).2 = ys at *
    have hP := g'.pos
    have hne : P' ≠ 0 := by grind
    obtain ⟨U, v1, v2, rfl, hU, d1, d2⟩ := dp_two h1
    obtain ⟨a, us, rfl, ha, hu⟩ := dp_lst d2
    have el : us.length = ys.length := by rw [DpAll_len hu, List.length_map, wins_len]
    have l6 := g'.len
    refine ⟨U, _, rfl, hU, rfl, _, _, rfl, _, _, rfl, rfl, ?_⟩
    refine ⟨_, rfl, a, us, rfl, ha, ?_⟩
    refine for_it (walk_enum (xs := us)) (fun i σ H' => Same H1 H' ∧ (∀ k, k < i → k < ys.length → ∀ j, ¬ Win P' ys m k j) ∧ ∃ z4 z5 z6 z7, σ = [some v, some vm, some v1, some (.ref a), z4, z5, z6, z7]) ⟨Same.refl _, (fun k h => by omega), _, _, _, _, rfl⟩ (fun i σ H' _ h => Evl.ex_l h.1 ha) ?_ ?_
    · rintro i x σ H2 H3 hi ⟨s2, hn, z4, z5, z6, z7, rfl⟩ ⟨C, x1, x2, rfl, nC, rfl, g1, g2⟩
      cases g1
      have s3 := same_upd (o := HO.tup [.int (i : Int), x2]) nC
      have hi' : i < ys.length := by omega
      obtain ⟨z, hz, dz⟩ := get_map hu g2
      have ez : z = (wB ys i, wE P' ys i) := by rw [wins_at hi'] at hz; exact (Option.some.inj hz).symm
      have bz := b_wins lb bx (List.mem_of_getElem? hz)
      subst ez
      have s23 := s2.trans s3
      obtain ⟨V', w1, w2, rfl, hV, f1, f2⟩ := dp_two (Dp_same s23 dz)
      refine ⟨C, _, rfl, .inl (.inl upd_same), rfl, _, _, rfl, _, _, rfl, V', _, rfl, hV, rfl, _, _, rfl, _, _, rfl, rfl, rfl, ?_⟩
      have s03 := s1.trans s23
      refine ⟨_, rfl, _, rfl, u_sub (Dp_same s03 hm) f1 bm.mono bz.1.mono fun v4 H4 s4 f4 => ?_⟩
      have b4 : Bq 1395 (m - wB ys i) := bm.sub bz.1
      refine ⟨_, rfl, u_div f4 (Dp_same (s23.trans s4) d1) hne b4.mono lb.mono fun v5 H5 s5 f5 => ?_⟩
      have b5 : Bq 1498 ((m - wB ys i) / P') := Bq.div hne b4 lb
      refine ⟨v5, _, rfl, f5, b5.mono, ?_⟩
      rintro _ _ rfl rfl
      have bf := b5.floor
      have s25 := s23.trans (s4.trans s5)
      have fl1 := Rat.floor_le ((m - wB ys i) / P')
      have fl2 := Rat.lt_floor_add_one ((m - wB ys i) / P')
      have dv : (m - wB ys i) / P' * P' = m - wB ys i := Rat.div_mul_cancel hne
      generalize hj : ((m - wB ys i) / P').floor = j at *
      have m1 := Rat.mul_le_mul_of_nonneg_right fl1 (Rat.le_of_lt hP)
      have m2 := Rat.mul_lt_mul_of_pos_right fl2 hP
      rw [dv] at m1 m2
      refine ⟨_, rfl, _, rfl, _, rfl, _, _, _, _, _, rfl, Dp_same (s4.trans s5) f2, Dp_same s25 d1, bz.2.mono, lb.mono, bf.mono, fun v6 H6 s6 f6 => ?_⟩
      have b6 : Bq 1806 (wE P' ys i + (j : Rat) * P') := bz.2.add (Bq.times bf lb)
      have s26 := s25.trans s6
      refine ⟨_, rfl, _, _, _, _, rfl, f6, Dp_same (s1.trans s26) hm, b6.mono, bm.mono, ?_⟩
      rintro _ _ rfl rfl
      refine ⟨_, rfl, brNB (fun c => ?_) (fun c => ?_)⟩
      · have c := of_decide_eq_false c
        refine ⟨_, rfl, _, rfl, _, rfl, a, us, rfl, .inl (Evl.ex_l s26 ha), _, _, rfl, rfl, cm (n := 1498) (m := 10) bf (B.of (by omega)), _, _, rfl, rfl, ?_⟩
        refine q _ (some ((i : Int) + j * (us.length : Int))) _ (s1.trans s26) rfl (.inl ⟨i, j, ⟨hi', by grind, by grind⟩, by rw [el]⟩) (fun n hn => ?_)
        cases Option.some.inj hn
        have b1 : B 1508 (j * (us.length : Int)) := bf.mul (m := 10) (B.of (by omega))
        exact ((B.mono (n := 10) (B.of (by omega)) (by decide) : B 1508 (i : Int)).add b1).mono
      · have c := of_decide_eq_true c
        refine ⟨s26, fun k hk hl j' wj => ?_, _, _, _, _, rfl⟩
        rcases Nat.lt_or_ge k i with z | z
        · exact hn k z hl j' wj
        · have : k = i := by omega
          subst this
          have w1 := wj.lo; have w2 := wj.hi
          have le : j' ≤ j := by
            rcases (show j' ≤ j ∨ j + 1 ≤ j' by omega) with y | y
            · exact y
            · have := cast_le (Rat.le_of_lt hP) y
              rw [Rat.intCast_add, Rat.intCast_one] at this
              grind
          have := cast_le (Rat.le_of_lt hP) le
          grind
    · rintro σ H2 ⟨s2, hn, z4, z5, z6, z7, rfl⟩
      refine q _ none _ (s1.trans s2) rfl (.inr ⟨rfl, fun o => ?_⟩) (fun n h => nomatch h)
      obtain ⟨k, j, wj⟩ := g'.win h0 o
      exact hn k (by rw [el]; exact wj.lt) wj.lt j wj
end
end EP
namespace EP
open PySem PySem.Spec PyProof.Rows L2
section
variable {P : Program} {w : World} {K : PySem.W.Frag} {mg : Str → Option Value} {base : Heap}
theorem ok_common_denominator (T : Txt K mg) : FnOk P w K mg base CX0 2 T.f_common_denominator T.d_common_denominator Ps_common_denominator (spCden K) := by
  refine T.F_common_denominator.ok sc_common_denominator (fun vs H Q E h => ?_) (fun cdv A outer s H vs Q E hr h => ?_)
  · obtain ⟨l, xs, qs, k, rfl, _⟩ := h; rfl
  · obtain ⟨l, xs, qs, k, rfl, hx, hf, hb, hk, hl, q⟩ := h
    have el := hf.len
    have hqpos := hf.pos
    have turn : ∀ (i : Nat) (x : V), xs[i]? = some x → ∃ a b, Fr K H x a b ∧ 0 < b ∧ B k b ∧ cden (qs.take (i + 1)) 1 = lstep (cden (qs.take i) 1) b := fun i x hx => by
      obtain ⟨a, b, e1, f, p⟩ := hf.get hx
      exact ⟨a, b, f, p, hb _ (List.mem_of_getElem? e1), cden_take e1⟩
    have bstep : ∀ {i : Nat} {r b : Int}, 0 < r → 0 < b → B (1 + k * i) r → B k b → B (1 + k * (i + 1)) (lstep r b) := fun h1 h2 h3 h4 => by
      have := (h3.mul h4).le (lstep_le h1 h2)
      rw [Nat.mul_add, Nat.mul_one, ← Nat.add_assoc]; exact this
    rcases hx with hx | hx
    · refine ⟨_, (pss_cons (ps_set (i := 1) sc_common_denominator.nd rfl (Or.inl rfl) pe_int)
      (pss_cons (ps_for PassesOwn.never rfl (pi_list (pv 0)) (pg_name (i := 2) sc_common_denominator.nd rfl (Or.inl rfl)) (pss_one (ps_set (i := 1) sc_common_denominator.nd rfl (Or.inl rfl) (pe_op op_mulW (pe_op op_fdivW (pv 1) (pe_call (ok_gcd T) hr (by rfl) T.g_gcd T.F_gcd.kp T.b_gcd .nil pass0 (pa_cons (pv 1) (pa_cons (pe_ix ix_tup (pv 2) pe_int (fun _ _ => rfl)) pa_nil)))) (pe_ix ix_tup (pv 2) pe_int (fun _ _ => rfl))))))
      (pss_one (ps_ret (pv 1))))), ?_⟩
      refine ⟨_, rfl, l, rfl, ⟨_, hx⟩, ?_⟩
      refine for_list (K := K) (xs := xs) (fun i σ H' => H' = H ∧ ∃ (r : Int) (z : Option V), σ = [some (.ref l), some (.int r), z] ∧ r = cden (qs.take i) 1 ∧ 0 < r ∧ B (1 + k * i) r) ⟨rfl, 1, none, rfl, rfl, by decide, B.one⟩ (fun i σ H' _ h => h.1 ▸ hx) ?_ ?_
      · rintro i x σ H' hxi ⟨rfl, r, z, rfl, er, hr0, br⟩
        obtain ⟨a, b, ⟨p, rfl, f⟩, pb, bb, e⟩ := turn i x hxi
        have hil : i < qs.length := by have := (List.getElem?_eq_some_iff.mp hxi).1; omega
        have hle : k * i ≤ k * qs.length := Nat.mul_le_mul_left k (by omega)
        have hk1 : k * 1 ≤ k * qs.length := Nat.mul_le_mul_left k (by omega)
        have bg : B k (Int.gcd r b : Int) := bb.le (gcd_le (by omega))
        have bg2 : B 8000 (Int.gcd r b : Int) := bg.mono (by have : k * 1 ≤ k * qs.length := Nat.mul_le_mul_left k (by omega); omega)
        have bq : B (1 + k * i) (r / (Int.gcd r b : Int)) := br.le (div_abs (gcd_posI pb))
        refine ⟨_, rfl, _, rfl, _, rfl, _, _, _, _, rfl, rfl, f, ix1, r, b, rfl, _, _, rfl, rfl, cdW (gcd_posI pb) bg2, _, rfl, _, _, _, _, rfl, rfl, f, ix1, _, _, rfl, rfl, cm bq bb (by omega) hk (by omega), rfl, lstep r b, _, rfl, ?_, lstep_pos hr0 pb, bstep hr0 pb br bb⟩
        rw [e, er]
      · rintro σ H' ⟨rfl, r, z, rfl, er, _⟩
        refine ⟨_, rfl, ?_⟩
        rw [er, el, List.take_length]; exact q
    · refine ⟨_, (pss_cons (ps_set (i := 1) sc_common_denominator.nd rfl (Or.inl rfl) pe_int)
      (pss_cons (ps_for PassesOwn.never rfl (pi_tup (pv 0)) (pg_name (i := 2) sc_common_denominator.nd rfl (Or.inl rfl)) (pss_one (ps_set (i := 1) sc_common_denominator.nd rfl (Or.inl rfl) (pe_op op_mulW (pe_op op_fdivW (pv 1) (pe_call (ok_gcd T) hr (by rfl) T.g_gcd T.F_gcd.kp T.b_gcd .nil pass0 (pa_cons (pv 1) (pa_cons (pe_ix ix_tup (pv 2) pe_int (fun _ _ => rfl)) pa_nil)))) (pe_ix ix_tup (pv 2) pe_int (fun _ _ => rfl))))))
      (pss_one (ps_ret (pv 1))))), ?_⟩
      refine ⟨_, rfl, l, rfl, ⟨_, hx⟩, ?_⟩
      refine for_tup (K := K) (xs := xs) (fun i σ H' => H' = H ∧ ∃ (r : Int) (z : Option V), σ = [some (.ref l), some (.int r), z] ∧ r = cden (qs.take i) 1 ∧ 0 < r ∧ B (1 + k * i) r) ⟨rfl, 1, none, rfl, rfl, by decide, B.one⟩ (fun i σ H' _ h => h.1 ▸ hx) ?_ ?_
      · rintro i x σ H' hxi ⟨rfl, r, z, rfl, er, hr0, br⟩
        obtain ⟨a, b, ⟨p, rfl, f⟩, pb, bb, e⟩ := turn i x hxi
        have hil : i < qs.length := by have := (List.getElem?_eq_some_iff.mp hxi).1; omega
        have hle : k * i ≤ k * qs.length := Nat.mul_le_mul_left k (by omega)
        have hk1 : k * 1 ≤ k * qs.length := Nat.mul_le_mul_left k (by omega)
        have bg : B k (Int.gcd r b : Int) := bb.le (gcd_le (by omega))
        have bg2 : B 8000 (Int.gcd r b : Int) := bg.mono (by have : k * 1 ≤ k * qs.length := Nat.mul_le_mul_left k (by omega); omega)
        have bq : B (1 + k * i) (r / (Int.gcd r b : Int)) := br.le (div_abs (gcd_posI pb))
        refine ⟨_, rfl, _, rfl, _, rfl, _, _, _, _, rfl, rfl, f, ix1, r, b, rfl, _, _, rfl, rfl, cdW (gcd_posI pb) bg2, _, rfl, _, _, _, _, rfl, rfl, f, ix1, _, _, rfl, rfl, cm bq bb (by omega) hk (by omega), rfl, lstep r b, _, rfl, ?_, lstep_pos hr0 pb, bstep hr0 pb br bb⟩
        rw [e, er]
      · rintro σ H' ⟨rfl, r, z, rfl, er, _⟩
        refine ⟨_, rfl, ?_⟩
        rw [er, el, List.take_length]; exact q
def spWhole (K : PySem.W.Frag) : Sp := fun vs H Q _ => ∃ (x : V) (m a b : Int) (n k : Nat), vs = [x, .int m] ∧ Fr K H x a b ∧ 0 < b ∧ B n a ∧ B n b ∧ B k m ∧ 0 < n ∧ 0 < k ∧ n ≤ 9000 ∧ n + k ≤ 1000000 ∧ ∀ v H', v = .int (a * (m / b)) → H' = H → Q v H'
theorem ok_whole (T : Txt K mg) : FnOk P w K mg base CX0 1 T.f_whole T.d_whole Ps_whole (spWhole K) := by
  refine T.F_whole.ok sc_whole (fun vs H Q E h => ?_) (fun cdv A outer s H vs Q E hr h => ?_)
  · obtain ⟨_, _, _, _, _, _, rfl, _⟩ := h; rfl
  · obtain ⟨x, m, a, b, n, k, rfl, ⟨p, rfl, f⟩, pb, ba, bb, bm, n0, k0, h9, h10, q⟩ := h
    refine ⟨_, (pss_one (ps_ret (pe_op op_mulW (pe_ix ix_tup (pv 0) pe_int (fun _ _ => rfl)) (pe_op op_fdivW (pv 1) (pe_ix ix_tup (pv 0) pe_int (fun _ _ => rfl)))))), ?_⟩
    refine ⟨_, rfl, _, _, _, _, rfl, rfl, f, ix0, _, rfl, _, rfl, _, _, _, _, rfl, rfl, f, ix1, _, _, rfl, rfl, cdW pb bb n0 h9, _, _, rfl, rfl, cm ba (bm.le (div_abs pb)) n0 k0 h10, ?_⟩
    exact q _ _ rfl rfl
structure Tb (T : Txt K mg) (base : Heap) where
  c : Addr
  P : Addr
  cL : Addr
  PT : Addr
  hc : T.d_in_order.code = .ref c
  hcL : T.d_law.code = .ref cL
  tb : LamX.TabB base mg c P
  tbL : LamX.TabB base mg cL PT
  ne : P ≠ PT
abbrev lamI : Str := (envOfC (Str.ofString "in_order") (defScope s_in_order) 0 0 .none).qual ++ "<lambda>"
abbrev lamL : Str := (envOfC (Str.ofString "law") (defScope s_law) 0 0 .none).qual ++ "<lambda>"
abbrev Tb.TT {T : Txt K mg} (Y : Tb T base) : List (Addr × Str) := [(Y.P, lamI), (Y.PT, lamL)]
theorem Tb.memI {T : Txt K mg} (Y : Tb T base) : (Y.P, lamI) ∈ Y.TT := by simp
theorem Tb.memL {T : Txt K mg} (Y : Tb T base) : (Y.PT, lamL) ∈ Y.TT := by simp
theorem Tb.uI {T : Txt K mg} (Y : Tb T base) : ∀ p ∈ Y.TT, p.1 = Y.P → p.2 = lamI := fun p hp e => by
  rcases List.mem_cons.mp hp with rfl | hp
  · rfl
  · rw [List.mem_singleton.mp hp] at e; exact absurd e.symm Y.ne
theorem Tb.uL {T : Txt K mg} (Y : Tb T base) : ∀ p ∈ Y.TT, p.1 = Y.PT → p.2 = lamL := fun p hp e => by
  rcases List.mem_cons.mp hp with rfl | hp
  · exact absurd e Y.ne
  · rw [List.mem_singleton.mp hp]
theorem fun_okT {CX : CXT} {x qual : Str} {st : Stmt} {f c : Addr} {fd : FuncData} {N ps : List Str} {k : Nat} {sp : Sp} (F : Fun K x qual st f fd) (hc : fd.code = .ref c) (S : FnScope N ps (defScope st)) (len : ∀ vs H Q E, sp vs H Q E → vs.length = ps.length)
    (hbody : ∀ (A : Around) (outer : List Env) (s : Shared) (H : Hp) (vs : List V) (Q : VK) (E : XK), Room k (A.deeper (envOfC qual (defScope st) s.heap.objs.size f (.ref c))) → sp vs H Q E →
      ∃ t, PSs (cxOf CX P w K mg base N qual (defScope st) f (.ref c) A outer s H E).nox (defBody st) t ∧ t { nx := fun _ H' => Q .non H', rt := Q } (L2.start N vs) H) : FnOk P w K mg base CX (k + 1) f fd ps sp := by
  obtain ⟨oc, od, kV, doc, pm, an, cdv, ct, osl, rfl, lk, hcd⟩ := F.ex
  obtain rfl : cdv = .ref c := hc
  exact fn_of lk hcd S len fun A outer s H vs Q E hr hsp => by
    obtain ⟨t, h1, h2⟩ := hbody A outer s H vs Q E hr hsp
    exact ⟨t, h1.nox, h2⟩
def spInOrder (K : PySem.W.Frag) (TT : List (Addr × Str)) : Sp := fun vs H Q _ => ∃ (α : Type) (f : α → PyData) (q : α → Rat) (l : Addr) (us : List V) (rows : List α), vs = [.ref l] ∧ SqL K H l us ∧ DpAll K H us (rows.map f) ∧ (∀ x, ∃ rest, f x = .tuple (dq (q x) :: rest)) ∧ rows.length ≤ 9 ∧ (∀ x ∈ rows, Bq 700 (q x)) ∧ Tbs TT H ∧
  ∀ p ys H', Xt H H' → Tbs TT H' → EPS.Fz H p → H' p = some (.lst ys) → DpAll K H' ys ((ordQ q rows).map f) → Q (.ref p) H'
theorem ok_in_order (T : Txt K mg) (Y : Tb T base) : FnOk P w K mg base CX0 3 T.f_in_order T.d_in_order Ps_in_order (spInOrder K Y.TT) := by
  refine fun_okT T.F_in_order Y.hc sc_in_order (fun vs H Q E h => ?_) (fun A outer s H vs Q E hr h => ?_)
  · obtain ⟨_, _, _, _, _, _, rfl, _⟩ := h; rfl
  · obtain ⟨α, f, q, l, us, rows, rfl, hl, hu, hf, hn, hb, hT, k⟩ := h
    refine ⟨_, (pss_cons (ps_set (i := 1) sc_in_order.nd rfl (Or.inr rfl) (pe_call (ok_common_denominator T) hr (by rfl) T.g_common_denominator T.F_common_denominator.kp T.b_common_denominator .nil pass0 (pa_cons (pe_lc (own := [("row", 2)]) (g := (gName 2)) (tt := tYes) rfl sc_in_order.nd (pi_list (pv 0)) (blkOk_by (N := N_in_order) (sc := defScope s_in_order) (by decide +kernel)) (fun _ _ _ _ _ => (pg_name (i := 2) sc_in_order.nd rfl (Or.inl rfl))) (fun _ _ _ _ _ => pts_nil) (fun _ _ _ _ _ => (pe_ix (r := rIxT K) ix_tup (pv 2) pe_int (fun _ _ => rfl)))) pa_nil)))
      (pss_one (ps_ret (EPS.pe_sortLam (i := 2) (Tt := Y.TT) (by rfl) T.m_sorted (pa_cons (pv 0) pa_nil) Y.tb rfl Y.memI Y.uI hr (EPS.lamP_by (by rfl)) (by rfl) (fun _ _ _ _ _ _ => by rfl) rfl sc_in_order.nd (by rfl) (EPS.pk_call2 T.F_whole sc_whole T.b_whole (by rfl) (by rfl) (by rfl) (by rfl) (by rfl) (by rfl) T.g_whole (by rfl) (EPS.pk_mul (EPS.pk_ix (EPS.pk_nm (i := 0) rfl (by rfl)) EPS.pk_int (fun _ _ => rfl)) (EPS.pk_fdiv (EPS.pk_nm (i := 1) rfl (by rfl)) (EPS.pk_ix (EPS.pk_nm (i := 0) rfl (by rfl)) EPS.pk_int (fun _ _ => rfl)))) (EPS.pk_ix (EPS.pk_nm (i := 2) rfl (by rfl)) EPS.pk_int (fun _ _ => rfl)) (EPS.pk_nm (i := 1) rfl (by rfl))))))), ?_⟩
    have el : us.length = rows.length := by rw [DpAll_len hu, List.length_map]
    refine ⟨_, rfl, l, rfl, ⟨_, hl⟩, fun D nD => ?_⟩
    refine lc_map (K := K) (walk_list (xs := us)) ((rows.map q).map dq) nD (by rw [List.length_map, List.length_map, el]) (by omega) (noLs_dq _) (fun H' s => Evl.ex_l s hl) ?_ ?_
    · rintro i x d H1 H2 hi hd s1 ⟨rfl, hx⟩ R k
      obtain ⟨z, hz, dz⟩ := get_map hu hx
      have hdz : d = dq (q z) := by
        rw [List.getElem?_map, List.getElem?_map, hz] at hd; exact (Option.some.inj hd).symm
      subst hdz
      obtain ⟨rest, er⟩ := hf z
      rw [er] at dz
      obtain ⟨U, v1, vr, rfl, hU, d1, _⟩ := dp_head (Dp_same s1 dz)
      refine ⟨rfl, _, rfl, U, _, _, _, rfl, rfl, hU, ix0, ?_⟩
      exact k _ _ (Same.refl _) d1
    intro H1 bs s1 hD hbs
    have hq1 : ∀ p ∈ (rows.map q).map (fun q => (q.num, (q.den : Int))), 0 < p.2 := fun p hp => by
      obtain ⟨z, _, rfl⟩ := List.mem_map.mp hp
      exact den_pos z
    have hC := cden_pos (qs := (rows.map q).map (fun q => (q.num, (q.den : Int)))) (r := 1) (by decide) hq1
    have hdv : ∀ x ∈ rows, ((q x).den : Int) ∣ cden ((rows.map q).map (fun q => (q.num, (q.den : Int)))) 1 := fun x hx => cden_dvd hq1 _ (List.mem_map.mpr ⟨q x, List.mem_map.mpr ⟨x, hx, rfl⟩, rfl⟩)
    have bC : B 6400 (cden ((rows.map q).map (fun q => (q.num, (q.den : Int)))) 1) := by
      have := cden_B (k := 700) (qs := (rows.map q).map (fun q => (q.num, (q.den : Int)))) (r := 1) (n := 1) (by decide) B.one (fun p hp => ⟨hq1 p hp, by
        obtain ⟨z, hz, rfl⟩ := List.mem_map.mp hp
        obtain ⟨x, hx, rfl⟩ := List.mem_map.mp hz
        exact (hb x hx).b⟩)
      rw [List.length_map, List.length_map] at this
      exact this.mono (by have : 700 * rows.length ≤ 700 * 9 := Nat.mul_le_mul_left _ hn; omega)
    refine ⟨D, bs, (rows.map q).map (fun q => (q.num, (q.den : Int))), 700, rfl, .inl (.inl (.inl hD)), frs_of hbs, (fun p hp => ?_), by decide, by rw [List.length_map, List.length_map]; have : 700 * rows.length ≤ 700 * 9 := Nat.mul_le_mul_left _ hn; omega, ?_⟩
    · obtain ⟨z, hz, rfl⟩ := List.mem_map.mp hp
      obtain ⟨x, hx, rfl⟩ := List.mem_map.mp hz
      exact (hb x hx).b
    generalize cden ((rows.map q).map (fun q => (q.num, (q.den : Int)))) 1 = C at *
    refine ⟨_, rfl, hT.same s1, l, us, rows.map (fun x => qkey C (q x)), rfl, Evl.ex_l s1 hl, by rw [List.length_map, el], (fun j y n hy hn2 H2 e2 => ?_), fun H2 p e2 t2 fz hp => ?_⟩
    · obtain ⟨z, hz, dz⟩ := get_map hu hy
      rw [List.getElem?_map, hz] at hn2
      obtain rfl : qkey C (q z) = n := Option.some.inj hn2
      obtain ⟨rest, er⟩ := hf z
      rw [er] at dz
      obtain ⟨U, v1, vr, rfl, hU, d1, _⟩ := dp_head (DpX (s1.xt.trans e2) dz)
      obtain ⟨U1, rfl, hU1⟩ := dq_fr d1
      have hz' := List.mem_of_getElem? hz
      have bz := hb z hz'
      have dvz := hdv z hz'
      refine ⟨_, rfl, U, _, _, _, rfl, rfl, hU, ix0, _, rfl, ?_⟩
      refine ⟨_, rfl, U1, _, _, _, rfl, rfl, hU1, ix0, _, rfl, _, rfl, U1, _, _, _, rfl, rfl, hU1, ix1, _, _, rfl, rfl, cdW (n := 700) (den_pos _) bz.b, ?_⟩
      exact ⟨_, _, rfl, rfl, cm (n := 700) (m := 6400) bz.a (bC.le (div_abs (den_pos _))), rfl⟩
    · refine k p _ H2 (s1.xt.trans e2) t2 (fz.xt s1.xt) hp ?_
      have e : ordQ q rows = rows.mergeSort fun a b => decide (qkey C (q a) ≤ qkey C (q b)) :=
        sort_congr fun a ha b hb2 => decide_eq_decide.mpr (qkey_le hC (hdv a ha) (hdv b hb2)).symm
      rw [e]
      exact sorted_data (fun x => qkey C (q x)) (DpAllX (s1.xt.trans e2) hu)
def spDelayed (K : PySem.W.Frag) (TT : List (Addr × Str)) : Sp := fun vs H Q _ => ∃ (v vd : V) (pl P : Rat) (xs : Sps) (d : Rat), vs = [v, vd] ∧ Dp K H v (dG pl P xs) ∧ Gd P xs ∧ Dp K H vd (dq d) ∧ Bq 450 d ∧ Tbs TT H ∧ ∀ v' H', Xt H H' → Tbs TT H' → Dp K H' v' (dG pl (lfQ P xs).1 (dlQ (lfQ P xs).1 (lfQ P xs).2 d)) → Q v' H'
theorem ok_delayed_gate (T : Txt K mg) (Y : Tb T base) : FnOk P w K mg base CX0 7 T.f_delayed_gate T.d_delayed_gate Ps_delayed_gate (spDelayed K Y.TT) := by
  refine T.F_delayed_gate.ok sc_delayed_gate (fun vs H Q E h => ?_) (fun cdv A outer s H vs Q E hr h => ?_)
  · obtain ⟨_, _, _, _, _, _, rfl, _⟩ := h; rfl
  · obtain ⟨v, vd, pl, P, xs, d, rfl, hv, G, hd, bd, hT, q⟩ := h
    refine ⟨_, (pss_cons (ps_asg (pe_call (ok_normal_gate T) hr (by rfl) T.g_normal_gate T.F_normal_gate.kp T.b_normal_gate .nil pass0 (pa_cons (pv 0) pa_nil)) (pg_tup (by rfl) (pgs_cons (pg_name (i := 2) sc_delayed_gate.nd rfl (Or.inl rfl)) (pgs_cons (pg_name (i := 3) sc_delayed_gate.nd rfl (Or.inr rfl)) (pgs_cons (pg_name (i := 4) sc_delayed_gate.nd rfl (Or.inl rfl)) pgs_nil)))))
      (pss_cons (ps_setLc (i := 5) (own := [("begin", 6), ("length", 7)]) (g := (gTup K 2 (gCons (gName 6) (gCons (gName 7) gNil)))) (tt := tYes) rfl sc_delayed_gate.nd rfl rfl (sw_true rfl rfl rfl (by decide +kernel)) (pi_tup (pv 4)) (blkOk_by (N := N_delayed_gate) (sc := defScope s_delayed_gate) (by decide +kernel)) (fun _ _ _ _ _ => (pg_tup rfl (pgs_cons (pg_name (i := 6) sc_delayed_gate.nd rfl (Or.inl rfl)) (pgs_cons (pg_name (i := 7) sc_delayed_gate.nd rfl (Or.inl rfl)) pgs_nil)))) (fun _ _ _ _ _ => pts_nil) (fun _ _ _ _ _ => (pe_tup (pa_cons (pe_call (ok_remainder T) (hr.mono (by decide)) (by rfl) T.g_remainder T.F_remainder.kp T.b_remainder .nil pass0 (pa_cons (pe_call (ok_add T) (hr.mono (by decide)) (by rfl) T.g_add T.F_add.kp T.b_add .nil pass0 (pa_cons (pv 6) (pa_cons (pv 1) pa_nil))) (pa_cons (pv 3) pa_nil))) (pa_cons (pv 7) pa_nil)))))
      (pss_one (ps_ret (pe_tup (pa_cons (pv 2) (pa_cons (pv 3) (pa_cons (pe_callTy call_tuple_of (by rfl) T.m_tuple (by decide +kernel) (pa_cons (pe_call (ok_in_order T Y) (hr.mono (by decide)) (by rfl) T.g_in_order T.F_in_order.kp T.b_in_order .nil pass0 (pa_cons (pv 5) pa_nil)) pa_nil)) pa_nil)))))))), ?_⟩
    refine ⟨_, rfl, v, pl, P, xs, rfl, hv, G, fun v' H1 s1 h1 => ?_⟩
    have g' := (lf_ok G.g).1
    have lb := lf_bits G.g.len G.p (by decide)
    obtain ⟨_, bx⟩ := lf_b G
    generalize (lfQ P xs).1 = P' at *
    generalize (lfQ P xs).2 = ys at *
    have hP := g'.pos
    obtain ⟨U, v1, v2, v3, rfl, hU, d1, d2, d3⟩ := dp_three h1
    obtain ⟨a, us, rfl, ha, hu⟩ := dp_tup d3
    have el : us.length = ys.length := by rw [DpAll_len hu, List.length_map]
    have l6 := g'.len
    refine ⟨U, _, rfl, hU, rfl, _, _, rfl, _, _, rfl, _, _, rfl, rfl, ?_⟩
    refine ⟨_, rfl, a, rfl, ⟨_, ha⟩, fun D nD => ?_⟩
    refine lc_map (K := K) (walk_tup (xs := us)) ((ys.map (mvQ P' d)).map dsp) nD (by rw [List.length_map, List.length_map, el]) (by omega) (noLs_dsp _) (fun H' s => Evl.ex_t s ha) ?_ ?_
    · rintro i x dd H2 H3 hi hdd s2 ⟨rfl, hx⟩ R k
      obtain ⟨z, hz, dz⟩ := get_map hu hx
      have hdz : dd = dsp (mvQ P' d z) := by
        rw [List.getElem?_map, List.getElem?_map, hz] at hdd; exact (Option.some.inj hdd).symm
      subst hdz
      have bz := bx z (List.mem_of_getElem? hz)
      obtain ⟨V', w1, w2, rfl, hV, e1, e2⟩ := dp_two (Dp_same s2 dz)
      refine ⟨V', _, rfl, hV, rfl, _, _, rfl, _, _, rfl, rfl, rfl, ?_⟩
      refine ⟨_, rfl, _, rfl, u_add e1 (Dp_same (s1.trans s2) hd) bz.1.mono bd.mono fun v4 H4 s4 f4 => ?_⟩
      refine ⟨_, rfl, _, _, _, _, rfl, f4, Dp_same (s2.trans s4) d2, hP, (bz.1.add bd).mono, lb.mono, fun v5 H5 s5 f5 => ?_⟩
      refine ⟨_, rfl, sizeLine2 (by simp), fun t nt => ?_⟩
      exact k _ _ ((s4.trans s5).trans (same_upd nt)) (dp_new nt (.cons f5 (.cons (Dp_same (s4.trans s5) e2) .nil)))
    intro H2 ls s2 hD hls
    have s02 := s1.trans s2
    refine ⟨_, rfl, _, rfl, _, rfl, Rat × Rat, dsp, (·.1), D, ls, ys.map (mvQ P' d), rfl, .inl (.inl hD), hls, (fun x => ⟨[dq x.2], rfl⟩), by rw [List.length_map]; omega, (fun x hx => ?_), hT.same s02, fun p ws H3 e3 t3 _ hp hw => ?_⟩
    · obtain ⟨z, hz, rfl⟩ := List.mem_map.mp hx
      have bz := bx z hz
      exact (Bq.rem hP (bz.1.add bd) lb).mono
    refine ⟨p, ws, rfl, .inl ⟨.inl (.inl hp), fun t nt => ?_⟩⟩
    have s4 := same_upd (o := HO.tup ws) nt
    refine ⟨sizeLine2 (by simp), fun c nc => ?_⟩
    have s5 := same_upd (o := HO.tup [v1, v2, .ref t]) nc
    have e25 : Xt H1 _ := s2.xt.trans e3
    refine q _ _ ((s02.xt.trans e3).trans (s4.trans s5).xt) (t3.same (s4.trans s5)) (dp_new nc (.cons (Dp_same s4 (DpX e25 d1)) (.cons (Dp_same s4 (DpX e25 d2)) (.cons (dp_new nt hw) .nil))))
end
end EP
namespace EP
open PySem PySem.Spec PyProof.Rows L2 EPX
section
variable {P : Program} {w : World} {K : PySem.W.Frag} {mg : Str → Option Value} {base : Heap}
/-- what is wanted of the error of what is no gate, of a gate without spans -/
def EI (T : Txt K mg) (i : Int) (E : XK) (H : Hp) : Prop := ∀ cls d H', Same H H' → ErrIs T.c_InvalidGate [("position", .int i), ("tag", .str "InvalidGate")] cls d H' → E cls d H'
def EN (T : Txt K mg) (q : Rat) (E : XK) (H : Hp) : Prop := ∀ v cls d H', Same H H' → Dp K H' v (dq q) → ErrIs T.c_NotBarring [("place", v), ("tag", .str "NotBarring")] cls d H' → E cls d H'
theorem EI.same {T : Txt K mg} {i : Int} {E : XK} {H H' : Hp} (h : EI T i E H) (s : Same H H') : EI T i E H' := fun cls d H2 s2 e => h cls d H2 (s.trans s2) e
theorem EN.same {T : Txt K mg} {q : Rat} {E : XK} {H H' : Hp} (h : EN T q E H) (s : Same H H') : EN T q E H' := fun v cls d H2 s2 dv e => h v cls d H2 (s.trans s2) dv e
/-- v is laid as a gate, but it is none -/
def NoG (T : Txt K mg) (v : V) (E : XK) (H : Hp) : Prop := ∃ (pl P : Rat) (xs : Sps), Dp K H v (dG pl P xs) ∧ Bq 100 P ∧ xs.length < 900 ∧ (∀ x ∈ xs, Bq 100 x.1 ∧ Bq 100 x.2) ∧ gateB P xs = false ∧ EI T 0 E H
def spE1 (T : Txt K mg) : Sp := fun vs H _ E => ∃ v, vs = [v] ∧ NoG T v E H
def spE2 (T : Txt K mg) : Sp := fun vs H _ E => ∃ v w, vs = [v, w] ∧ NoG T v E H
theorem ok_normal_gateE (T : Txt K mg) : FnOk P w K mg base (L2N.CX P w) 6 T.f_normal_gate T.d_normal_gate Ps_normal_gate (spE1 T) := by
  refine fun_okC T.F_normal_gate sc_normal_gate (fun vs H Q E h => ?_) (fun cdv A outer s H vs Q E hr h => ?_)
  · obtain ⟨v, rfl, _⟩ := h; rfl
  · obtain ⟨v, rfl, pl, P, xs, hv, bP, hl, hb, gb, qe⟩ := h
    refine ⟨_, (pss_cons (ps_if (pt_not (pt_val (pe_call (ok_is_gate T) hr (by rfl) T.g_is_gate T.F_is_gate.kp T.b_is_gate .nil pass0 (pa_cons (pv 0) pa_nil)))) (pss_one (L2N.ps_raise rfl (L2N.takes_of rfl rfl rfl rfl) (EPX.pmk_oexN T.clsInvalidGate T.iInvalidGate T.tInvalidGate (ok_initInvalidGate T) (hr.mono (by decide)) T.bi_InvalidGate (by rfl) T.gc_InvalidGate (pa_cons pe_int pa_nil)))) pss_nil)
      (PSs.nox (pss_cons (ps_asg (pv 0) (pg_tup (by rfl) (pgs_cons (pg_name (i := 1) sc_normal_gate.nd rfl (Or.inl rfl)) (pgs_cons (pg_name (i := 2) sc_normal_gate.nd rfl (Or.inl rfl)) (pgs_cons (pg_name (i := 3) sc_normal_gate.nd rfl (Or.inl rfl)) pgs_nil)))))
      (pss_one (ps_ret (pe_call (ok_least_form T) hr (by rfl) T.g_least_form T.F_least_form.kp T.b_least_form .nil pass0 (pa_cons (pv 1) (pa_cons (pv 2) (pa_cons (pv 3) pa_nil))))))))), ?_⟩
    refine ⟨_, rfl, v, pl, P, xs, rfl, hv, bP, hl, hb, fun H1 s1 => ?_⟩
    rw [gb]
    refine ⟨_, rfl, iteT ?_⟩
    refine ⟨by simp, fun e ne => ?_⟩
    refine ⟨e, _, _, rfl, T.clsInvalidGate, upd_same, T.nTagInvalidGate, T.nFldInvalidGate, fun dx nd ned => ⟨rfl, dx, _, ?_, upd_same, ?_, ?_⟩⟩
    · rw [upd_ne ned.symm, upd_same]
    · rw [upd_ne ned] at nd; exact nd
    · have nd' := nd
      rw [upd_ne ned] at nd'
      exact qe _ _ _ (raised s1 ne nd' ned) ⟨rfl, dx, rfl, upd_same⟩
theorem ok_shut_untilE (T : Txt K mg) : FnOk P w K mg base (L2N.CX P w) 7 T.f_shut_until T.d_shut_until Ps_shut_until (spE2 T) := by
  refine fun_okC T.F_shut_until sc_shut_until (fun vs H Q E h => ?_) (fun cdv A outer s H vs Q E hr h => ?_)
  · obtain ⟨v, w, rfl, _⟩ := h; rfl
  · obtain ⟨v, w, rfl, h⟩ := h
    refine ⟨_, (pss_cons (ps_asg (pe_call (ok_normal_gateE T) hr (by rfl) T.g_normal_gate T.F_normal_gate.kp T.b_normal_gate .nil (L2N.passes_call (L2N.takes_of rfl rfl rfl rfl) (fun _ _ _ _ h => h)) (pa_cons (pv 0) pa_nil)) (pg_tup (by rfl) (pgs_cons (pg_name (i := 2) sc_shut_until.nd rfl (Or.inl rfl)) (pgs_cons (pg_name (i := 3) sc_shut_until.nd rfl (Or.inl rfl)) (pgs_cons (pg_name (i := 4) sc_shut_until.nd rfl (Or.inl rfl)) pgs_nil)))))
      (PSs.nox (pss_cons (ps_for PassesOwn.never rfl (pi_tup (pv 4)) (pg_tup (by rfl) (pgs_cons (pg_name (i := 5) sc_shut_until.nd rfl (Or.inl rfl)) (pgs_cons (pg_name (i := 6) sc_shut_until.nd rfl (Or.inl rfl)) pgs_nil))) (pss_cons (ps_set (i := 7) sc_shut_until.nd rfl (Or.inl rfl) (pe_call (ok_remainderP T) (hr.mono (by decide)) (by rfl) T.g_remainder T.F_remainder.kp T.b_remainder .nil pass0 (pa_cons (pe_call (ok_subtract T) (hr.mono (by decide)) (by rfl) T.g_subtract T.F_subtract.kp T.b_subtract .nil pass0 (pa_cons (pv 1) (pa_cons (pv 5) pa_nil))) (pa_cons (pv 3) pa_nil))))
      (pss_one (ps_if (PW.pt (pw_and (pt_cmpR (op_neD hr.units) (pv 7) (pe_glob (v := .ref T.k_ZERO) (by rfl) T.gk_ZERO rfl) (nomark _)) (pw_and1 (pt_val (pe_call (ok_is_lessQ T) (hr.mono (by decide)) (by rfl) T.g_is_less T.F_is_less.kp T.b_is_less .nil pass0 (pa_cons (pv 7) (pa_cons (pv 6) pa_nil))))))) (pss_one (ps_ret (pe_call (ok_add T) (hr.mono (by decide)) (by rfl) T.g_add T.F_add.kp T.b_add .nil pass0 (pa_cons (pv 1) (pa_cons (pe_call (ok_subtract T) (hr.mono (by decide)) (by rfl) T.g_subtract T.F_subtract.kp T.b_subtract .nil pass0 (pa_cons (pv 6) (pa_cons (pv 7) pa_nil))) pa_nil))))) pss_nil))))
      (pss_one (ps_ret pe_non))))), ?_⟩
    exact ⟨_, rfl, v, rfl, h⟩
theorem ok_is_openE (T : Txt K mg) : FnOk P w K mg base (L2N.CX P w) 8 T.f_is_open T.d_is_open Ps_is_open (spE2 T) := by
  refine fun_okC T.F_is_open sc_is_open (fun vs H Q E h => ?_) (fun cdv A outer s H vs Q E hr h => ?_)
  · obtain ⟨v, w, rfl, _⟩ := h; rfl
  · obtain ⟨v, w, rfl, h⟩ := h
    refine ⟨_, (pss_one (ps_ret (pe_cmpR op_isN (pe_call (ok_shut_untilE T) hr (by rfl) T.g_shut_until T.F_shut_until.kp T.b_shut_until .nil (L2N.passes_call (L2N.takes_of rfl rfl rfl rfl) (fun _ _ _ _ h => h)) (pa_cons (pv 0) (pa_cons (pv 1) pa_nil))) pe_non (nomark _)))), ?_⟩
    exact ⟨_, rfl, _, rfl, v, w, rfl, h⟩
theorem ok_next_openE (T : Txt K mg) : FnOk P w K mg base (L2N.CX P w) 8 T.f_next_open T.d_next_open Ps_next_open (spE2 T) := by
  refine fun_okC T.F_next_open sc_next_open (fun vs H Q E h => ?_) (fun cdv A outer s H vs Q E hr h => ?_)
  · obtain ⟨v, w, rfl, _⟩ := h; rfl
  · obtain ⟨v, w, rfl, h⟩ := h
    refine ⟨_, (pss_cons (ps_set (i := 2) sc_next_open.nd rfl (Or.inl rfl) (pe_call (ok_shut_untilE T) hr (by rfl) T.g_shut_until T.F_shut_until.kp T.b_shut_until .nil (L2N.passes_call (L2N.takes_of rfl rfl rfl rfl) (fun _ _ _ _ h => h)) (pa_cons (pv 0) (pa_cons (pv 1) pa_nil))))
      (PSs.nox (pss_one (ps_ret (pe_ifExp (pt_cmpR op_isN (pv 2) pe_non (nomark _)) (pv 1) (pv 2)))))), ?_⟩
    exact ⟨_, rfl, _, rfl, v, w, rfl, h⟩
theorem ok_delayed_gateE (T : Txt K mg) (Y : Tb T base) : FnOk P w K mg base (L2N.CX P w) 7 T.f_delayed_gate T.d_delayed_gate Ps_delayed_gate (spE2 T) := by
  refine fun_okC T.F_delayed_gate sc_delayed_gate (fun vs H Q E h => ?_) (fun cdv A outer s H vs Q E hr h => ?_)
  · obtain ⟨v, w, rfl, _⟩ := h; rfl
  · obtain ⟨v, w, rfl, h⟩ := h
    refine ⟨_, (pss_cons (ps_asg (pe_call (ok_normal_gateE T) hr (by rfl) T.g_normal_gate T.F_normal_gate.kp T.b_normal_gate .nil (L2N.passes_call (L2N.takes_of rfl rfl rfl rfl) (fun _ _ _ _ h => h)) (pa_cons (pv 0) pa_nil)) (pg_tup (by rfl) (pgs_cons (pg_name (i := 2) sc_delayed_gate.nd rfl (Or.inl rfl)) (pgs_cons (pg_name (i := 3) sc_delayed_gate.nd rfl (Or.inr rfl)) (pgs_cons (pg_name (i := 4) sc_delayed_gate.nd rfl (Or.inl rfl)) pgs_nil)))))
      (PSs.nox (pss_cons (ps_setLc (i := 5) (own := [("begin", 6), ("length", 7)]) (g := (gTup K 2 (gCons (gName 6) (gCons (gName 7) gNil)))) (tt := tYes) rfl sc_delayed_gate.nd rfl rfl (sw_true rfl rfl rfl (by decide +kernel)) (pi_tup (pv 4)) (blkOk_by (N := N_delayed_gate) (sc := defScope s_delayed_gate) (by decide +kernel)) (fun _ _ _ _ _ => (pg_tup rfl (pgs_cons (pg_name (i := 6) sc_delayed_gate.nd rfl (Or.inl rfl)) (pgs_cons (pg_name (i := 7) sc_delayed_gate.nd rfl (Or.inl rfl)) pgs_nil)))) (fun _ _ _ _ _ => pts_nil) (fun _ _ _ _ _ => (pe_tup (pa_cons (pe_call (ok_remainder T) (hr.mono (by decide)) (by rfl) T.g_remainder T.F_remainder.kp T.b_remainder .nil pass0 (pa_cons (pe_call (ok_add T) (hr.mono (by decide)) (by rfl) T.g_add T.F_add.kp T.b_add .nil pass0 (pa_cons (pv 6) (pa_cons (pv 1) pa_nil))) (pa_cons (pv 3) pa_nil))) (pa_cons (pv 7) pa_nil)))))
      (pss_one (ps_ret (pe_tup (pa_cons (pv 2) (pa_cons (pv 3) (pa_cons (pe_callTy call_tuple_of (by rfl) T.m_tuple (by decide +kernel) (pa_cons (pe_call (ok_in_order T Y) (hr.mono (by decide)) (by rfl) T.g_in_order T.F_in_order.kp T.b_in_order .nil pass0 (pa_cons (pv 5) pa_nil)) pa_nil)) pa_nil))))))))), ?_⟩
    exact ⟨_, rfl, v, rfl, h⟩
/-- v is no gate, or one without spans -/
def NoW (T : Txt K mg) (v : V) (E : XK) (H : Hp) : Prop := NoG T v E H ∨ ∃ (pl P : Rat), Dp K H v (dG pl P []) ∧ Gd P [] ∧ EN T pl E H
def spW1 (T : Txt K mg) : Sp := fun vs H _ E => ∃ v, vs = [v] ∧ NoW T v E H
def spW2 (T : Txt K mg) : Sp := fun vs H _ E => ∃ v w, vs = [v, w] ∧ NoW T v E H
theorem FnOk.or {CX : CXT} {k : Nat} {f : Addr} {fd : FuncData} {ps : List Str} {sp sp' : Sp} (F : FnOk P w K mg base CX k f fd ps sp) (G : FnOk P w K mg base CX k f fd ps sp') : FnOk P w K mg base CX k f fd ps (fun vs H Q E => sp vs H Q E ∨ sp' vs H Q E) :=
  ⟨fun vs H Q E h => h.elim (F.len vs H Q E) (G.len vs H Q E), fun A outer s H args us vs Q E hr he hb hv hs => hs.elim (F.run A outer s H args us vs Q E hr he hb hv) (G.run A outer s H args us vs Q E hr he hb hv)⟩
/-- a def that raises nothing, where an error would be heard -/
theorem FnOk.hear {k : Nat} {f : Addr} {fd : FuncData} {ps : List Str} {sp : Sp} (F : FnOk P w K mg base CX0 k f fd ps sp) : FnOk P w K mg base (L2N.CX P w) k f fd ps sp :=
  ⟨F.len, fun A outer s H args us vs Q E hr he hb hv hs => codeAny_mono (F.run A outer s H args us vs Q E hr he hb hv hs) fun res s' hq => by
    cases res with
    | error e => exact (show False from hq).elim
    | ok fl => cases fl <;> exact hq⟩
def spNW (T : Txt K mg) : Sp := fun vs H Q E => (∃ v, vs = [v] ∧ NoG T v E H) ∨ ∃ v, vs = [v] ∧ ∃ (pl P : Rat), Dp K H v (dG pl P []) ∧ Gd P [] ∧ ∀ v' H', Same H H' → Dp K H' v' (dG pl (lfQ P []).1 (lfQ P []).2) → Q v' H'
theorem ok_normal_gateW (T : Txt K mg) : FnOk P w K mg base (L2N.CX P w) 6 T.f_normal_gate T.d_normal_gate Ps_normal_gate (spNW T) :=
  (FnOk.or (ok_normal_gateE T) (FnOk.hear (ok_normal_gate T))).imp fun vs H Q E h => h.imp id fun ⟨v, e, pl, P, hv, g, q⟩ => ⟨v, pl, P, [], e, hv, g, q⟩
theorem ok_first_windowsE (T : Txt K mg) : FnOk P w K mg base (L2N.CX P w) 7 T.f_first_windows T.d_first_windows Ps_first_windows (spW1 T) := by
  refine fun_okC T.F_first_windows sc_first_windows (fun vs H Q E h => ?_) (fun cdv A outer s H vs Q E hr h => ?_)
  · obtain ⟨v, rfl, _⟩ := h; rfl
  · obtain ⟨v, rfl, h⟩ := h
    refine ⟨_, (pss_cons (ps_asg (pe_call (ok_normal_gateW T) hr (by rfl) T.g_normal_gate T.F_normal_gate.kp T.b_normal_gate .nil (L2N.passes_call (L2N.takes_of rfl rfl rfl rfl) (fun _ _ _ _ h => h)) (pa_cons (pv 0) pa_nil)) (pg_tup (by rfl) (pgs_cons (pg_name (i := 1) sc_first_windows.nd rfl (Or.inl rfl)) (pgs_cons (pg_name (i := 2) sc_first_windows.nd rfl (Or.inl rfl)) (pgs_cons (pg_name (i := 3) sc_first_windows.nd rfl (Or.inl rfl)) pgs_nil)))))
      (pss_cons (ps_if (pt_cmpR op_eq (pe_callB call_len_seq (by rfl) T.m_len PySem.boot_len (pa_cons (pv 3) pa_nil)) pe_int (nomark _)) (pss_one (L2N.ps_raise rfl (L2N.takes_of rfl rfl rfl rfl) (EPX.pmk_oexN T.clsNotBarring T.iNotBarring T.tNotBarring (ok_initNotBarring T) (hr.mono (by decide)) T.bi_NotBarring (by rfl) T.gc_NotBarring (pa_cons (pv 1) pa_nil)))) pss_nil)
      (PSs.nox (pss_one (ps_ret (pe_tup (pa_cons (pv 2) (pa_cons (EPZ.pe_listZip rfl (by rfl) T.m_list (by rfl) T.m_zip (pa_cons (pe_call (ok_span_ends T) (hr.mono (by decide)) (by rfl) T.g_span_ends T.F_span_ends.kp T.b_span_ends .nil pass0 (pa_cons (pv 3) pa_nil)) (pa_cons (pe_call (ok_next_begins T) (hr.mono (by decide)) (by rfl) T.g_next_begins T.F_next_begins.kp T.b_next_begins .nil pass0 (pa_cons (pv 2) (pa_cons (pv 3) pa_nil))) pa_nil))) pa_nil)))))))), ?_⟩
    rcases h with h | ⟨pl, P, hv, g, qe⟩
    · exact ⟨_, rfl, .inl ⟨v, rfl, h⟩⟩
    refine ⟨_, rfl, .inr ⟨v, rfl, pl, P, hv, g, fun v' H1 s1 h1 => ?_⟩⟩
    obtain ⟨U, v1, v2, v3, rfl, hU, d1, d2, d3⟩ := dp_three h1
    obtain ⟨a, us, rfl, ha, hu⟩ := dp_tup d3
    have el : us.length = 0 := by rw [DpAll_len hu]; rfl
    refine ⟨U, _, rfl, hU, rfl, _, _, rfl, _, _, rfl, _, _, rfl, rfl, ?_⟩
    refine ⟨_, rfl, a, us, rfl, .inr ha, rfl, _, rfl, brEq (fun z => ?_) (fun z => absurd (by rw [el]; rfl) z)⟩
    refine ⟨_, rfl, by simp, fun e ne => ?_⟩
    refine ⟨e, _, _, rfl, T.clsNotBarring, upd_same, T.nTagNotBarring, T.nFldNotBarring, fun dx nd ned => ⟨rfl, dx, _, ?_, upd_same, ?_, ?_⟩⟩
    · rw [upd_ne ned.symm, upd_same]
    · rw [upd_ne ned] at nd; exact nd
    · have nd' := nd
      rw [upd_ne ned] at nd'
      exact qe _ _ _ _ (raised s1 ne nd' ned) (Dp_same (raised (Same.refl _) ne nd' ned) d1) ⟨rfl, dx, rfl, upd_same⟩
theorem ok_windowE (T : Txt K mg) : FnOk P w K mg base (L2N.CX P w) 8 T.f_window T.d_window Ps_window (spW2 T) := by
  refine fun_okC T.F_window sc_window (fun vs H Q E h => ?_) (fun cdv A outer s H vs Q E hr h => ?_)
  · obtain ⟨v, w, rfl, _⟩ := h; rfl
  · obtain ⟨v, w, rfl, h⟩ := h
    refine ⟨_, (pss_cons (ps_asg (pe_call (ok_first_windowsE T) hr (by rfl) T.g_first_windows T.F_first_windows.kp T.b_first_windows .nil (L2N.passes_call (L2N.takes_of rfl rfl rfl rfl) (fun _ _ _ _ h => h)) (pa_cons (pv 0) pa_nil)) (pg_tup (by rfl) (pgs_cons (pg_name (i := 2) sc_window.nd rfl (Or.inl rfl)) (pgs_cons (pg_name (i := 3) sc_window.nd rfl (Or.inl rfl)) pgs_nil))))
      (PSs.nox (pss_cons (ps_asg (pe_callB call_divmod (by rfl) T.m_divmod (by decide +kernel) (pa_cons (pv 1) (pa_cons (pe_callB call_len_seq (by rfl) T.m_len PySem.boot_len (pa_cons (pv 3) pa_nil)) pa_nil))) (pg_tup (by rfl) (pgs_cons (pg_name (i := 4) sc_window.nd rfl (Or.inl rfl)) (pgs_cons (pg_name (i := 5) sc_window.nd rfl (Or.inl rfl)) pgs_nil))))
      (pss_cons (ps_asg (pe_ix ix_list (pv 3) (pv 5) (fun _ _ => rfl)) (pg_tup (by rfl) (pgs_cons (pg_name (i := 6) sc_window.nd rfl (Or.inl rfl)) (pgs_cons (pg_name (i := 7) sc_window.nd rfl (Or.inl rfl)) pgs_nil))))
      (pss_one (ps_ret (pe_tup (pa_cons (pe_call (ok_periods_later T) (hr.mono (by decide)) (by rfl) T.g_periods_later T.F_periods_later.kp T.b_periods_later .nil pass0 (pa_cons (pv 6) (pa_cons (pv 4) (pa_cons (pv 2) pa_nil)))) (pa_cons (pe_call (ok_periods_later T) (hr.mono (by decide)) (by rfl) T.g_periods_later T.F_periods_later.kp T.b_periods_later .nil pass0 (pa_cons (pv 7) (pa_cons (pv 4) (pa_cons (pv 2) pa_nil)))) pa_nil))))))))), ?_⟩
    exact ⟨_, rfl, v, rfl, h⟩
theorem ok_window_atE (T : Txt K mg) : FnOk P w K mg base (L2N.CX P w) 8 T.f_window_at T.d_window_at Ps_window_at (spW2 T) := by
  refine fun_okC T.F_window_at sc_window_at (fun vs H Q E h => ?_) (fun cdv A outer s H vs Q E hr h => ?_)
  · obtain ⟨v, w, rfl, _⟩ := h; rfl
  · obtain ⟨v, w, rfl, h⟩ := h
    refine ⟨_, (pss_cons (ps_asg (pe_call (ok_first_windowsE T) hr (by rfl) T.g_first_windows T.F_first_windows.kp T.b_first_windows .nil (L2N.passes_call (L2N.takes_of rfl rfl rfl rfl) (fun _ _ _ _ h => h)) (pa_cons (pv 0) pa_nil)) (pg_tup (by rfl) (pgs_cons (pg_name (i := 2) sc_window_at.nd rfl (Or.inl rfl)) (pgs_cons (pg_name (i := 3) sc_window_at.nd rfl (Or.inl rfl)) pgs_nil))))
      (PSs.nox (pss_cons (ps_for PassesOwn.never rfl (pi_enum (by rfl) T.m_enumerate (pa_cons (pv 3) pa_nil)) (pg_tup (by rfl) (pgs_cons (pg_name (i := 4) sc_window_at.nd rfl (Or.inl rfl)) (pgs_cons (pg_tup (by rfl) (pgs_cons (pg_name (i := 5) sc_window_at.nd rfl (Or.inl rfl)) (pgs_cons (pg_name (i := 6) sc_window_at.nd rfl (Or.inl rfl)) pgs_nil))) pgs_nil))) (pss_cons (ps_set (i := 7) sc_window_at.nd rfl (Or.inl rfl) (pe_call (ok_floor_ofQ T) (hr.mono (by decide)) (by rfl) T.g_floor_of T.F_floor_of.kp T.b_floor_of .nil pass0 (pa_cons (pe_call (ok_divide T) (hr.mono (by decide)) (by rfl) T.g_divide T.F_divide.kp T.b_divide .nil pass0 (pa_cons (pe_call (ok_subtract T) (hr.mono (by decide)) (by rfl) T.g_subtract T.F_subtract.kp T.b_subtract .nil pass0 (pa_cons (pv 1) (pa_cons (pv 5) pa_nil))) (pa_cons (pv 2) pa_nil))) pa_nil)))
      (pss_one (ps_if (pt_not (pt_val (pe_call (ok_is_lessQ T) (hr.mono (by decide)) (by rfl) T.g_is_less T.F_is_less.kp T.b_is_less .nil pass0 (pa_cons (pe_call (ok_periods_later T) (hr.mono (by decide)) (by rfl) T.g_periods_later T.F_periods_later.kp T.b_periods_later .nil pass0 (pa_cons (pv 6) (pa_cons (pv 7) (pa_cons (pv 2) pa_nil)))) (pa_cons (pv 1) pa_nil))))) (pss_one (ps_ret (pe_op op_add (pv 4) (pe_op op_mulW (pv 7) (pe_callB call_len_seq (by rfl) T.m_len PySem.boot_len (pa_cons (pv 3) pa_nil)))))) pss_nil))))
      (pss_one (ps_ret pe_non))))), ?_⟩
    exact ⟨_, rfl, v, rfl, h⟩
end
end EP
set_option maxHeartbeats 4000000
namespace EPD
open PySem PySem.Spec PyProof.Rows L2 L2H EPX
/-! ### a lambda whose one parameter has a default: x(lambda a=0: body), called without an argument -/
abbrev dfn (q : Str) (params : Arguments) (body : Expr) (scope : Scope) (cl : List (Str × Addr)) (T : Addr) (doc pm cv ctv : Value) : FuncData := PySem.W.kdv_fn "<lambda>" q params (.expr body) scope cl (.ref T) doc pm cv ctv
abbrev dobj (q : Str) (params : Arguments) (body : Expr) (scope : Scope) (cl : List (Str × Addr)) (T : Addr) (doc pm : Value) (c' : Addr) (ctv : Value) : Obj := PySem.W.kdv_obj "<lambda>" q params (.expr body) scope cl (.ref T) doc pm c' ctv
section
variable {X : Cx} {pins : List (Addr × Obj)} {σ : L2.St} {H : Hp} {s : Shared}
theorem lam_makeD {T : List (Addr × Str)} {c P : Addr} {params : Arguments} {body d : Expr} {n : Int} {scope : Scope} {pos : Pos} {E : Value → Shared → Prop} {Q : Value → Shared → Prop} (I : Inv X pins σ H s) (TB : LamX.TabB X.base X.mg c P) (hcode : X.env.code = .ref c)
    (hm : (P, X.env.qual ++ "<lambda>") ∈ T) (hu : ∀ p ∈ T, p.1 = P → p.2 = X.env.qual ++ "<lambda>") (hT : LamX.Tabs T H) (hdf : params.defaults = [d]) (hk0 : params.kw_defaults = []) (hd : ∀ (s1 : Shared) (E : Value → Shared → Prop) (Q : Value → Shared → Prop), (∀ t tk, Q (.int n t) { s1 with toks := tk }) → wpAny (model X.prog X.w) X.A (eval d X.env) Q E s1)
    (hfree : ∀ y ∈ scope.names, y.2 = .free → ∃ c, X.env.cells.lookup y.1 = some c)
    (h : ∀ (f c' D : Addr) (v doc pm ctv : Value) (H1 : Hp) (s' : Shared), Inv X pins σ H1 s' → LamX.ExtN H H1 → LamX.Tabs T H1 →
      s'.heap.get? f = some (dobj (X.env.qual ++ "<lambda>") params body scope (cloFrom X.env.cells scope.names []) D doc pm c' ctv) → H1 f = none → f ∉ frs X.stack →
      s'.heap.get? D = some (PySem.W.kdv_tup [v]) → H1 D = none → D ∉ frs X.stack → H1 c' = some (LamX.CodeO c' (X.env.qual ++ "<lambda>")) → Q (.ref f) s') :
    wpAny (model X.prog X.w) X.A (eval (.Lambda params body scope pos) X.env) Q E s := by
  obtain ⟨ps, hP, ht, ha⟩ := hT _ hm
  refine PySem.W.kdv_lam (by rw [hdf]; rfl) hk0 ?_
  rw [hdf]
  refine PySem.W.kdv_all1 (hd s _ _ fun t0 tk0 => PySem.W.kdv_all0 ?_)
  rw [makeFunction_eq]
  simp only [List.zip_nil_right, List.filterMap_nil, List.isEmpty_nil, List.isEmpty_cons, if_true, pure_bind, Bool.false_eq_true, if_false]
  refine wpAny_bind (wpAny_newTextTuple ?_)
  have I0 : Inv X pins σ H { s with heap := s.heap.push (PySem.W.kdv_tup [.int n t0]), toks := tk0 } := I.kept fun b o e => Heap.get?_push_of_some _ e
  have gD : (s.heap.push (PySem.W.kdv_tup [.int n t0])).get? s.heap.objs.size = some (PySem.W.kdv_tup [.int n t0]) := Heap.get?_push_size _ rfl
  have hsz0 : s.heap.objs.size < (s.heap.push (PySem.W.kdv_tup [.int n t0])).objs.size := by rw [Heap.size_push]; omega
  have nofr : ∀ f, s.heap.objs.size ≤ f → f ∉ frs X.stack := fun f hf z => by
    rcases List.mem_cons.mp (I.stkSub _ z) with e | e
    · have h1 := I.lt
      rw [← e] at h1
      exact Nat.lt_irrefl _ (Nat.lt_of_lt_of_le h1 hf)
    · exact I.nofs hf e
  have nD : H s.heap.objs.size = none := I.hok.fresh (Nat.le_refl _)
  have hPs : P < s.heap.objs.size := Heap.lt_size (I.hok P _ hP)
  have frD := nofr s.heap.objs.size (Nat.le_refl _)
  show wpAny (model X.prog X.w) X.A (makeTail "<lambda>" (X.env.qual ++ "<lambda>") params (.expr body) scope X.env (.ref s.heap.objs.size) .none none pos pos.line) Q E { s with heap := s.heap.push (PySem.W.kdv_tup [.int n t0]), toks := tk0 }
  generalize hs2 : ({ s with heap := s.heap.push (PySem.W.kdv_tup [.int n t0]), toks := tk0 } : Shared) = s2 at *
  have eh : s2.heap = s.heap.push (PySem.W.kdv_tup [.int n t0]) := by rw [← hs2]
  rw [← eh] at gD hsz0
  generalize hDD : s.heap.objs.size = D at *
  have bP : s2.heap.BuiltinsAt X.mg P := TB.bm.keeps I0.bk
  have hP' : s2.heap.get? P = some { cls := .none, data := .fields ps } := I0.hok P _ hP
  cases hc : codeAmong pos ps.toList with
  | none =>
    refine PySem.W.kdv_makeTail (mg := X.mg) (c := c) (P := P) (ps := ps) (closure_ok hfree) I0.ok.glob (I0.mod.glob.keeps I0.bk) hcode (TB.code.keeps I0.bk) hP' ht hc TB.gP bP fun c' ctv doc h' tk hx hge hlt hrec htb => ?_
    obtain ⟨c2, oc, vs, t, e2, hoc, hd, hv⟩ := hrec
    cases e2
    have hsz : s2.heap.objs.size ≤ h'.objs.size := Nat.le_trans hge (Nat.le_of_lt hlt)
    have nC : H c' = none := I0.hok.fresh hge
    have I1 := LamX.inv_table (t' := tk) (more := #[rawInt pos.line, rawInt pos.col, .ref c']) (h' := h'.push (dobj (X.env.qual ++ "<lambda>") params body scope (cloFrom X.env.cells scope.names []) D doc ((X.mg "__name__").getD .none) c' ctv)) I0 hP
      (fun b o hb e => Heap.get?_push_of_some _ (hx b o hb e)) (Heap.get?_push_of_some _ htb) hge ⟨oc, vs, t, Heap.get?_push_of_some _ hoc, hd, hv⟩
    have hE : LamX.ExtN H (upd (upd H P (.tbl (ps ++ #[rawInt pos.line, rawInt pos.col, .ref c']))) c' (LamX.CodeO c' (X.env.qual ++ "<lambda>"))) := fun b o e n => by
      rw [upd_ne (ne_of_none e nC), upd_ne (fun z => n ps (Option.some.inj (e.symm.trans (by rw [z]; exact hP))))]
      exact e
    have eL : (ps ++ #[rawInt pos.line, rawInt pos.col, .ref c']).toList = ps.toList ++ [rawInt pos.line, rawInt pos.col, .ref c'] := by simp
    have DP : D ≠ P := Nat.ne_of_gt hPs
    have Dc : D ≠ c' := Nat.ne_of_lt (Nat.lt_of_lt_of_le hsz0 hge)
    refine h h'.objs.size c' D _ doc ((X.mg "__name__").getD .none) ctv _ _ I1 hE (fun p hp => ?_) (Heap.get?_push_size _ rfl) ?_ (nofr _ (Nat.le_trans (Nat.le_of_lt hsz0) hsz)) (Heap.get?_push_of_some _ (hx D _ DP gD)) (by rw [upd_ne Dc, upd_ne DP]; exact nD) frD upd_same
    · by_cases hb : p.1 = P
      · rw [hu p hp hb, hb]
        refine ⟨_, by rw [upd_ne (ne_of_none hP nC), upd_same], by rw [eL]; exact PySem.TriplesOk_snoc _ _ _ _ ht, fun p' cv hcv => ?_⟩
        rw [eL] at hcv
        rcases LamX.among_app _ ht hcv with z | z
        · obtain ⟨c0, e1, e2⟩ := ha p' cv z
          exact ⟨c0, e1, hE _ _ e2 LamX.codeO_ne⟩
        · exact ⟨c', z, upd_same⟩
      · obtain ⟨ps', a1, a2, a3⟩ := hT p hp
        refine ⟨ps', by rw [upd_ne (ne_of_none a1 nC), upd_ne hb]; exact a1, a2, fun p' cv hcv => ?_⟩
        obtain ⟨c0, e1, e2⟩ := a3 p' cv hcv
        exact ⟨c0, e1, hE _ _ e2 LamX.codeO_ne⟩
    · have n1 : h'.objs.size ≠ c' := Nat.ne_of_gt hlt
      have n2 : h'.objs.size ≠ P := Nat.ne_of_gt (Nat.lt_of_lt_of_le (Heap.lt_size hP') hsz)
      rw [upd_ne n1, upd_ne n2]
      exact I0.hok.fresh hsz
  | some cv =>
    obtain ⟨c', e, hco⟩ := ha pos cv hc
    subst e
    refine PySem.W.kdv_makeTailHit (mg := X.mg) (c := c) (P := P) (ps := ps) (closure_ok hfree) I0.ok.glob (I0.mod.glob.keeps I0.bk) hcode (TB.code.keeps I0.bk) hP' ht hc bP fun ctv doc h' tk hx hsz => ?_
    have I1 : Inv X pins σ H { s2 with heap := h'.push (dobj (X.env.qual ++ "<lambda>") params body scope (cloFrom X.env.cells scope.names []) D doc ((X.mg "__name__").getD .none) c' ctv), toks := tk } := I0.kept fun b o e => Heap.get?_push_of_some _ (hx b o e)
    exact h h'.objs.size c' D _ doc ((X.mg "__name__").getD .none) ctv H _ I1 (LamX.ExtN.refl H) hT (Heap.get?_push_size _ rfl) (I0.hok.fresh hsz) (nofr _ (Nat.le_trans (Nat.le_of_lt hsz0) hsz)) (Heap.get?_push_of_some _ (hx D _ gD)) nD frD hco
end
/-- one parameter with a default; captured names and globals else -/
structure LamD (sc scope : Scope) (a : Str) : Prop where
  kind : scope.kind = .function
  co : scope.isCoroutine = false
  gen : scope.isGenerator = false
  cell : ∀ y ∈ scope.names, y.2 ≠ .cell
  loc : ∀ y ∈ scope.names, y.2 = .local → y.1 = a
  par : scope.names.lookup a = some .local
  free : ∀ y ∈ scope.names, y.2 = .free → sc.names.lookup y.1 = some .cell ∨ sc.names.lookup y.1 = some .free
def lamDB (sc scope : Scope) (a : Str) : Bool :=
  decide (scope.kind = .function) && !scope.isCoroutine && !scope.isGenerator && decide (scope.names.lookup a = some .local) && scope.names.all fun y => !decide (y.2 = .cell) && (!decide (y.2 = .local) || decide (y.1 = a)) && (!decide (y.2 = .free) || decide (sc.names.lookup y.1 = some .cell) || decide (sc.names.lookup y.1 = some .free))
theorem lamD_by {sc scope : Scope} {a : Str} (h : lamDB sc scope a = true) : LamD sc scope a := by
  unfold lamDB at h
  simp only [Bool.and_eq_true, Bool.or_eq_true, Bool.not_eq_true', decide_eq_true_eq, decide_eq_false_iff_not, List.all_eq_true] at h
  obtain ⟨⟨⟨⟨h1, h2⟩, h3⟩, h0⟩, h4⟩ := h
  refine ⟨h1, h2, h3, fun y hy => (h4 y hy).1.1, fun y hy e => ?_, h0, fun y hy e => ?_⟩
  · rcases (h4 y hy).1.2 with z | z
    · exact absurd e z
    · exact z
  · rcases (h4 y hy).2 with (z | z) | z
    · exact absurd e z
    · exact .inl z
    · exact .inr z
theorem LamD.has {X : Cx} {scope : Scope} {a : Str} (L : LamD X.env.scope scope a) (ok : X.Ok) : ∀ y ∈ scope.names, y.2 = .free → ∃ c, X.env.cells.lookup y.1 = some c := fun y hy e => by
  rcases L.free y hy e with k | k
  · exact ok.has _ (.inl k)
  · exact ok.has _ (.inr k)
section
variable {X : Cx} {pins : List (Addr × Obj)} {σ : L2.St} {H HZ : Hp} {s s1 : Shared}
theorem lam_startD {a : Str} {va : Value} {A : Around} {outer : List Env} {E : XK} {scope : Scope} {f c' : Addr} {h₁ : Heap} {tk : Nat} (I : Inv X pins σ H s) (L : LamD X.env.scope scope a) (hNa : a ∉ X.N) (e0 : Env0 X.prog X.w X.K X.mg X.base A outer s1 HZ) (hd : A.handled = none)
    (un : Un (frs X.stack) [] H HZ s.heap s1.heap) (hns : h₁.Ns s1.heap.objs.size fun y => ([(a, va)] : List (Str × Value)).reverse.lookup y) (kp : ∀ b o, s1.heap.get? b = some o → h₁.get? b = some o) :
    Inv (LamX.lamCx X A outer s1 HZ E scope f c') [] σ HZ { s1 with heap := h₁, toks := tk } := by
  have hfree := L.has I.ok
  have cm : ∀ {y c}, (cloFrom X.env.cells scope.names []).lookup y = some c → X.env.cells.lookup y = some c := fun {y c} e => by
    rcases cloFrom_mem (PySem.mem_of_lookup e) with hm | ⟨h1, h2⟩
    · cases hm
    · obtain ⟨c1, hc⟩ := hfree _ h1 rfl
      have hc : X.env.cells.lookup y = some c1 := hc
      have e2 : c = c1 := by
        rw [h2, hc] <;> rfl
      rw [e2]
      exact hc
  have look : ∀ {y}, scope.names.lookup y = some .free → ∃ c, (cloFrom X.env.cells scope.names []).lookup y = some c := fun {y} hl => by
    have hy : (y, NameKind.free) ∈ scope.names := PySem.mem_of_lookup hl
    exact mem_lookup (cloFrom_has (cells := X.env.cells) (acc := []) hy)
  have cellK : ∀ {c : Addr} {v : Option Value}, H c = none → s.heap.IsCell c v → h₁.IsCell c v := fun {c v} n ⟨o, ho, hd⟩ => by
    obtain ⟨sl, q⟩ := un.any ho n (by simp)
    exact ⟨_, kp _ _ q, hd⟩
  have noA : ∀ b : Addr, b ∉ (LamX.lamCx X A outer s1 HZ E scope f c').ex := fun b z => absurd (show b ∈ ([] : List Addr) from z) (by simp)
  refine ⟨⟨e0.mod, L.kind, rfl, rfl, Nat.le_refl _, fun y z c e1 e2 => I.ok.inj y z c (cm e1) (cm e2), fun y hy => ?_, fun y c z _ => ?_, fun _ => hd, Around.frames_deeper e0.frames, .inr ⟨rfl, rfl⟩, fun b z => absurd z (noA b), e0.bs, e0.bsz, fun b _ _ => noA b,
      fun b z => absurd z (noA b), e0.funs, e0.frf⟩,
    rfl, e0.bare, Un.kept kp, ⟨_, hns, fun i y v e1 e2 e3 => ?_⟩, fun y c e => ?_, e0.hok.fresh (Nat.le_refl _), fun y c e => ?_, fun q hq => absurd (show q ∈ ([] : List (Addr × Obj)) ++ [] from hq) (by simp), e0.hok.kept kp, I.len⟩
  · have hy : scope.names.lookup y = some .cell ∨ scope.names.lookup y = some .free := hy
    rcases hy with hy | hy
    · exact absurd rfl (L.cell _ (PySem.mem_of_lookup hy))
    · exact look hy
  · have z : false = true := z
    cases z
  · have e3 : Vis scope y := e3
    rcases e3 with k | k | k
    · have ey : y = a := L.loc _ (PySem.mem_of_lookup k) rfl
      have e1 : X.N[i]? = some y := e1
      rw [ey] at e1
      exact absurd (List.mem_of_getElem? e1) hNa
    · exact absurd rfl (L.cell _ (PySem.mem_of_lookup k))
    · obtain ⟨m, hn, hl⟩ := I.loc
      have hvis : Vis X.env.scope y := (L.free _ (PySem.mem_of_lookup k) rfl).elim (fun k => .inr (.inl k)) (fun k => .inr (.inr k))
      obtain ⟨w', r, q⟩ := hl i y v e1 e2 hvis
      obtain ⟨c2, h2⟩ := look k
      refine ⟨w', r, .inr ⟨.inr k, c2, h2, ?_⟩⟩
      have c1 := cm h2
      rcases q with ⟨k', _⟩ | ⟨_, c3, e', z⟩
      · have k' : X.env.scope.names.lookup y = some .local := k'
        rcases L.free _ (PySem.mem_of_lookup k) rfl with k2 | k2 <;> rw [show X.env.scope.names.lookup y = _ from k2] at k' <;> cases k'
      · rw [c1] at e'
        cases e'
        exact cellK (I.freeC y _ c1) z
  · obtain ⟨w', z⟩ := I.cell y c (cm e)
    exact ⟨w', cellK (I.freeC y c (cm e)) z⟩
  · obtain ⟨v, o, ho, hd⟩ := I.cell y c (cm e)
    exact un.free c o ho (I.freeC y c (cm e)) (by simp)
end
section
variable {X : Cx} {pins : List (Addr × Obj)} {σ : L2.St} {H : Hp} {s : Shared}
/-- a lambda made at s runs, wherever it is called while X's frame waits -/
theorem lam_runsD {f c' D : Addr} {a0 : Str} {v0 : Value} {doc pm ctv : Value} {params : Arguments} {body : Expr} {scope : Scope} {k : Nat} {E : XK} {tb : TE} {A : Around} {outer : List Env} {s1 : Shared} {HZ : Hp} {Q : VK}
    (I : Inv X pins σ H s) (L : LamD X.env.scope scope a0) (hNa : a0 ∉ X.N) (hD : s.heap.get? D = some (PySem.W.kdv_tup [v0])) (hDn : H D = none) (hDr : D ∉ frs X.stack) (hf : s.heap.get? f = some (dobj (X.env.qual ++ "<lambda>") params body scope (cloFrom X.env.cells scope.names []) D doc pm c' ctv)) (hfn : H f = none) (hfr : f ∉ frs X.stack)
    (hbind : ∃ k, bindArgs (dfn (X.env.qual ++ "<lambda>") params body scope (cloFrom X.env.cells scope.names []) D doc pm (.ref c') ctv) ⟨[], []⟩ = seqItems? (.ref D) >>= k ∧ k (some #[v0]) = pure [(a0, v0)])
    (hbody : ∀ (A : Around) (outer : List Env) (s : Shared) (H : Hp), Room k (A.deeper (LamX.lamEnv X scope s.heap.objs.size f c')) → PE (lamN X A outer s H E scope f c') body tb)
    (hr : Room (k + 1) A) (e0 : Env0 X.prog X.w X.K X.mg X.base A outer s1 HZ) (un : Un (frs X.stack) [] H HZ s.heap s1.heap) (hc : HZ c' = some (LamX.CodeO c' (X.env.qual ++ "<lambda>"))) (ht : tb σ HZ Q) :
    codeAny (model X.prog X.w) A (.call (.ref f) ⟨[], []⟩) (CR (L2N.CX X.prog X.w) outer X.prog X.w HZ s1 Q E) s1 := by
  have of1 := un.keep f _ hf hfn hfr (fun z => nomatch (show f ∈ ([] : List Addr) from z))
  obtain ⟨⟨oc, vs, t, hoc, hdc, hvc⟩, _, _⟩ := e0.hok c' _ hc
  have lim : s1.heap.NoLimit := e0.mod.nolimit.keeps fun b o e => (e0.bs b o e).1
  refine PySem.W.kla_callFunE hr.depth of1 rfl L.co L.gen rfl ⟨c', oc, vs, t, rfl, hoc, hdc, hvc⟩ ?_
  obtain ⟨kb, hb1, hb2⟩ := hbind
  rw [hb1]
  refine wpAny_bind (wpAny_seqItems (un.keep D _ hD hDn hDr (fun z => nomatch (show D ∈ ([] : List Addr) from z))) rfl ?_)
  rw [hb2]
  refine wpAny_pure (wpAny_newFunctionEnv (fun y hy => L.cell y hy) (fun y hy => by rw [List.mem_singleton.mp hy]; exact L.par) (fun h1 hns hsb => ⟨lim.fresh _ hsb, ?_⟩) L.kind)
  show codeAny _ _ (.expr body (LamX.lamEnv X scope s1.heap.objs.size f c')) _ _
  have kp : ∀ b o, s1.heap.get? b = some o → h1.get? b = some o := fun b o e => hsb.extBut b o (Nat.ne_of_lt (Heap.lt_size e)) (Heap.get?_push_of_some _ e)
  have J0 := lam_startD (E := fun _ _ _ => False) (f := f) (c' := c') (va := v0) (tk := s1.toks + ([(a0, v0)] : List (Str × Value)).length) I L hNa e0 hr.hd un hns kp
  have J : Inv (lamN X A outer s1 HZ E scope f c') [] σ HZ _ := J0.toTry _
  refine PySem.W.kla_codeExpr (wpAny_mono ((hbody _ _ s1 HZ (hr.deeper _)).run [] _ _ HZ Q J ht) (fun v s' got => ?_) fun _ _ hq => hq)
  obtain ⟨v', H', J', rv, q⟩ := got
  exact ⟨v', H', J'.os, J'.bare, J'.base, J'.hok, rv, q⟩
/-- a() in a def that was entered at s0 -/
theorem pe_actD {Ng : List Str} {qg : Str} {sg : Scope} {g f c' D : Addr} {a0 : Str} {v0 : Value} {cdg doc pm ctv : Value} {params : Arguments} {body : Expr} {scope : Scope} {k : Nat} {a : Str} {pn : List (Addr × Obj)} {xe : Value → Shared → Prop} {W : WX} {tb : XK → TE} {p1 p2 : Pos} {A0 : Around} {outer0 : List Env} {s0 : Shared} {H0 : Hp}
    (I : Inv X pins σ H s) (L : LamD X.env.scope scope a0) (hNa : a0 ∉ X.N) (hD : s.heap.get? D = some (PySem.W.kdv_tup [v0])) (hDn : H D = none) (hDr : D ∉ frs X.stack) (hf : s.heap.get? f = some (dobj (X.env.qual ++ "<lambda>") params body scope (cloFrom X.env.cells scope.names []) D doc pm c' ctv)) (hfn : H f = none) (hfr : f ∉ frs X.stack)
    (hbind : ∃ k, bindArgs (dfn (X.env.qual ++ "<lambda>") params body scope (cloFrom X.env.cells scope.names []) D doc pm (.ref c') ctv) ⟨[], []⟩ = seqItems? (.ref D) >>= k ∧ k (some #[v0]) = pure [(a0, v0)])
    (hbody : ∀ (A : Around) (outer : List Env) (s : Shared) (H : Hp) (E : XK), Room k (A.deeper (LamX.lamEnv X scope s.heap.objs.size f c')) → PE (lamN X A outer s H E scope f c') body (tb E))
    (far : Un (frs X.stack) [] H H0 s.heap s0.heap) (sub : ∀ c ∈ frs outer0, c ∈ frs X.stack ∨ s.heap.get? c = none)
    (tk : L2N.Takes ((cxOf CX0 X.prog X.w X.K X.mg X.base Ng qg sg g cdg A0 outer0 s0 H0 E0).tr pn xe) W) (hr : Room (k + 1) (A0.deeper (envOfC qg sg s0.heap.objs.size g cdg)))
    (hN : Ng[0]? = some a) (hv : Vis sg a) (hd : (a == ("__debug__" : Str)) = false) (hcd : (a == ("__classdict__" : Str)) = false) :
    PE ((cxOf CX0 X.prog X.w X.K X.mg X.base Ng qg sg g cdg A0 outer0 s0 H0 E0).tr pn xe) (.Call (.Name a p1) [] [] p2)
      (fun σZ HZ Q => σZ[0]? = some (some (.ref f)) ∧ HZ c' = some (LamX.CodeO c' (X.env.qual ++ "<lambda>")) ∧ tb (fun cls d H' => W cls d σZ H') σ HZ Q) := by
  refine ⟨fun pinsZ sZ σZ HZ Q IZ h => ?_⟩
  obtain ⟨hs, hc, ht⟩ := h
  refine wpAny_Call_Name_kw (thn ((pe_var (pos := p1) (i := 0) hN hv hd hcd).run pinsZ sZ σZ HZ (fun v H1 => v = .ref f ∧ H1 = HZ) IZ ⟨.ref f, hs, rfl, rfl⟩) fun u s1 got => ?_)
  obtain ⟨v, H1, I1, r1, rfl, eH⟩ := got
  rw [eH] at I1
  obtain rfl : u = Value.ref f := r1
  have un : Un (frs X.stack) [] H HZ s.heap s1.heap := un_over far I1.base sub
  have of1 := un.keep f _ hf hfn hfr (fun z => nomatch (show f ∈ ([] : List Addr) from z))
  refine PySem.W.callWith_F0 ⟨_, _, _, _, of1⟩ ?_
  refine wpAny_call (codeAny_mono (lam_runsD (X := X) I L hNa hD hDn hDr hf hfn hfr hbind (fun A outer s H hr => hbody A outer s H _ hr) hr I1.env0 un hc ht) fun res s' hq => ?_)
  cases res with
  | error e => exact L2N.passAt tk σZ pinsZ HZ s1 e s' I1 hq
  | ok fl =>
    cases fl with
    | ret u => exact I1.after hq
    | next => exact False.elim hq
    | brk => exact False.elim hq
    | cont => exact False.elim hq
/-- x(lambda: body) where x hands its argument on: return y(b)[1:] -/
theorem pe_lam2D {T : List (Addr × Str)} {TT : (XK → Hp → VK → Prop) → Hp → VK → Prop} {x a y b : Str} {g gy c P : Addr} {k : Nat} {fd fdy : FuncData} {st sty : Stmt} {Ng Ny : List Str} {params : Arguments} {body d : Expr} {n : Int} {a0 : Str} {scope : Scope} {t : XK → TE} {p lpos pos : Pos}
    (F : Fun X.K x x st g fd) (hg : Gl X x) (hm : X.mg x = some (.ref g)) (hb : L2.Binds X.K fd [a] []) (Sg : FnScope Ng [a] (defScope st)) (hNg : Ng[0]? = some a) (hva : Vis (defScope st) a)
    (Fy : Fun X.K y y sty gy fdy) (hgy : (defScope st).names.lookup y = some .globalImplicit) (hmy : X.mg y = some (.ref gy)) (hby : L2.Binds X.K fdy [b] []) (Sy : FnScope Ny [b] (defScope sty)) (hNy : Ny[0]? = some b) (hvb : Vis (defScope sty) b)
    (hG : Takes1 X k Ny y sty gy b (X.env.qual ++ "<lambda>") TT)
    (hrest : ∀ (cdg : Value) (f c' : Addr) (A0 : Around) (outer0 : List Env) (s0 : Shared) (H0 : Hp) (Q : VK) (tl : XK → Hp → VK → Prop),
      (∀ (q1 q2 q3 : Pos), PE (cxOf CX0 X.prog X.w X.K X.mg X.base Ng x (defScope st) g cdg A0 outer0 s0 H0 E0).nox (.Call (.Name y q1) [.Name a q2] [] q3) (fun σZ HZ Q => σZ[0]? = some (some (.ref f)) ∧ HZ c' = some (LamX.CodeO c' (X.env.qual ++ "<lambda>")) ∧ TT tl HZ Q)) →
      H0 c' = some (LamX.CodeO c' (X.env.qual ++ "<lambda>")) → TT tl H0 (fun v H' => ∃ p xs, v = .ref p ∧ SqT X.K H' p xs ∧ 1 < xs.length ∧ xs.length < 1000 ∧ ∀ l, H' l = none → Q (.ref l) (upd H' l (.tup (xs.drop 1)))) →
      ∃ t, PSs (cxOf CX0 X.prog X.w X.K X.mg X.base Ng x (defScope st) g cdg A0 outer0 s0 H0 E0).nox (defBody st) t ∧ t { nx := fun _ H' => Q .non H', rt := Q } (L2.start Ng [.ref f]) H0)
    (TB : LamX.TabB X.base X.mg c P) (hcode : X.env.code = .ref c) (hmT : (P, X.env.qual ++ "<lambda>") ∈ T) (hu : ∀ p ∈ T, p.1 = P → p.2 = X.env.qual ++ "<lambda>") (hr : Room (k + 3) X.A) (L : LamD X.env.scope scope a0) (hNa : a0 ∉ X.N) (hdf : params.defaults = [d]) (hk0 : params.kw_defaults = []) (hd0 : ∀ (s1 : Shared) (E : Value → Shared → Prop) (Q : Value → Shared → Prop), (∀ t tk, Q (.int n t) { s1 with toks := tk }) → wpAny (model X.prog X.w) X.A (eval d X.env) Q E s1)
    (hbind : ∀ (q : Str) (cl : List (Str × Addr)) (D : Addr) (v0 doc pm cv ctv : Value), ∃ k, bindArgs (dfn q params body scope cl D doc pm cv ctv) ⟨[], []⟩ = seqItems? (.ref D) >>= k ∧ k (some #[v0]) = pure [(a0, v0)])
    (hbody : ∀ (A : Around) (outer : List Env) (s : Shared) (H : Hp) (E : XK) (f c' : Addr), Room k (A.deeper (LamX.lamEnv X scope s.heap.objs.size f c')) → PE (lamN X A outer s H E scope f c') body (t E))
    (hdb : (x == ("__debug__" : Str)) = false := by decide) (hda : (a == ("__debug__" : Str)) = false := by decide) (hca : (a == ("__classdict__" : Str)) = false := by decide) (hdy : (y == ("__debug__" : Str)) = false := by decide) (hd : (b == ("__debug__" : Str)) = false := by decide) (hcd : (b == ("__classdict__" : Str)) = false := by decide) :
    PE X (.Call (.Name x p) [.Lambda params body scope lpos] [] pos)
      (LamX.tLam T (fun tl H Q => TT tl H (fun v H' => ∃ p xs, v = .ref p ∧ SqT X.K H' p xs ∧ 1 < xs.length ∧ xs.length < 1000 ∧ ∀ l, H' l = none → Q (.ref l) (upd H' l (.tup (xs.drop 1))))) t) := by
  obtain ⟨oc, od, kV, doc, pm, an, cdv, ct, osl, rfl, lk, hcg⟩ := F.ex
  obtain ⟨ocy, ody, kVy, docy, pmy, any, cdvy, cty, osly, rfl, lky, hcgy⟩ := Fy.ex
  refine ⟨fun pins s σ H Q I h => ?_⟩
  obtain ⟨hT, h⟩ := h
  refine wpAny_Call_Name_kw (ld_glob I hg hm ?_ hdb)
  refine PySem.W.callWith_K (h₀ := X.base) I.ok.mod.kin F.kp ?_ (by rfl) (by rfl)
  show wpAny _ _ (spliced ((false, eval (.Lambda params body scope lpos) X.env) :: backTo pos (starEach [] X.env))) _ _ s
  refine Calls.spliced_cons (lam_makeD I TB hcode hmT hu hT hdf hk0 hd0 (L.has I.ok) fun f c' D v0 doc' pm' ctv H1 s' I1 eN T1 hf hfn hfr hD hDn hDr hco => ?_)
  refine Calls.spliced_nil ⟨I1.kIn, ?_⟩
  have rc : codeAny (model X.prog X.w) X.A (.call (.ref g) ⟨[.ref f], []⟩) (CR CX0 X.stack X.prog X.w H1 s' Q E0) s' := by
    refine LamX.run_ofS (k := k + 2) (N := Ng) (ps := [a]) (us := [.ref f]) (vs := [.ref f]) lk hcg Sg hr I1.env0 (hb s' [.ref f] I1.kIn rfl) (.cons rfl .nil) rfl fun hr' => ?_
    have callY : ∀ (q1 q2 q3 : Pos), PE (cxOf CX0 X.prog X.w X.K X.mg X.base Ng x (defScope st) g cdv X.A X.stack s' H1 E0).nox (.Call (.Name y q1) [.Name a q2] [] q3) (fun σZ HZ Q => σZ[0]? = some (some (.ref f)) ∧ HZ c' = some (LamX.CodeO c' (X.env.qual ++ "<lambda>")) ∧ TT (fun E H' Q' => t E σ H' Q') HZ Q) := by
      refine fun q1 q2 q3 => ⟨fun pinsZ sZ σZ HZ QZ IZ hz => ?_⟩
      obtain ⟨z1, z2, z3⟩ := hz
      refine wpAny_Call_Name_kw (ld_glob IZ hgy hmy ?_ hdy)
      refine PySem.W.callWith_K (h₀ := X.base) IZ.ok.mod.kin Fy.kp ?_ (by rfl) (by rfl)
      refine thn ((pa_cons (pe_var (pos := q2) (i := 0) hNg hva hda hca) pa_nil).run q3 pinsZ sZ σZ HZ (fun vs H2 => vs = [.ref f] ∧ H2 = HZ) IZ ⟨.ref f, z1, rfl, rfl⟩) fun us s2 got => ?_
      obtain ⟨vs2, H2, I2, r2, rfl, eH⟩ := got
      rw [eH] at I2
      obtain rfl : us = [Value.ref f] := by
        cases r2 with
        | cons q1' q2' => cases q2'; cases q1'; rfl
      refine ⟨I2.kIn, ?_⟩
      have ry : codeAny (model X.prog X.w) (X.A.deeper (envOfC x (defScope st) s'.heap.objs.size g cdv)) (.call (.ref gy) ⟨[.ref f], []⟩) (CR CX0 (envOfC x (defScope st) s'.heap.objs.size g cdv :: X.stack) X.prog X.w HZ s2 QZ E0) s2 := by
        refine LamX.run_ofS (k := k + 1) (N := Ny) (ps := [b]) (us := [.ref f]) (vs := [.ref f]) lky hcgy Sy hr' I2.env0 (hby s2 [.ref f] I2.kIn rfl) (.cons rfl .nil) rfl fun hr2 => ?_
        have sub : ∀ c0 ∈ frs (envOfC x (defScope st) s'.heap.objs.size g cdv :: X.stack), c0 ∈ frs X.stack ∨ s'.heap.get? c0 = none := fun c0 hc0 => by
          obtain ⟨ev, hev, e1⟩ := List.mem_filterMap.mp hc0
          rcases List.mem_cons.mp hev with rfl | hin
          · have : s'.heap.objs.size = c0 := Option.some.inj e1
            right
            cases hq : s'.heap.get? c0 with
            | none => rfl
            | some o => exact absurd (Heap.lt_size hq) (by rw [← this]; exact Nat.lt_irrefl _)
          · exact .inl (List.mem_filterMap.mpr ⟨ev, hin, e1⟩)
        have act : Acts X Ny y (defScope sty) gy cdvy b (X.env.qual ++ "<lambda>") f c' (X.A.deeper (envOfC x (defScope st) s'.heap.objs.size g cdv)) (envOfC x (defScope st) s'.heap.objs.size g cdv :: X.stack) s2 HZ (fun E H' Q' => t E σ H' Q') := fun W pn xe p1 p2 tk =>
          pe_actD (tb := t) I1 L hNa hD hDn hDr hf hfn hfr (hbind _ _ _ _ _ _ _ _) (fun A outer s H E hr3 => hbody A outer s H E f c' hr3) I2.base sub tk hr2 hNy hvb hd hcd
        obtain ⟨t2, ht2, hq2⟩ := hG cdvy f c' _ _ s2 HZ QZ _ hr2 act z2 z3
        exact ⟨t2, ht2.nox, hq2⟩
      refine wpAny_call (codeAny_mono ry fun res s3 hq => ?_)
      cases res with
      | error e => exact (show False from hq).elim
      | ok fl =>
        cases fl with
        | ret u => exact I2.after hq
        | next => exact False.elim hq
        | brk => exact False.elim hq
        | cont => exact False.elim hq
    obtain ⟨t', ht', hq'⟩ := hrest cdv f c' X.A X.stack s' H1 Q (fun E H' Q' => t E σ H' Q') callY hco (h H1 eN T1)
    exact ⟨t', ht'.nox, hq'⟩
  refine wpAny_call (codeAny_mono rc fun res s2 hq => ?_)
  cases res with
  | error e => exact (show False from hq).elim
  | ok fl =>
    cases fl with
    | ret u => exact I1.after hq
    | next => exact False.elim hq
    | brk => exact False.elim hq
    | cont => exact False.elim hq
end
end EPD
namespace EPC
open PySem PySem.Spec PyProof.Rows L2
/-! ### comprehensions whose element may raise -/
abbrev blkE (X : Cx) (s : Shared) (H : Hp) (scope : Scope) (cenv : Env) (fp : List Addr) (xe : Value → Shared → Prop) : Cx := { X.blk s H scope cenv fp with xe := xe }
section
variable {X : Cx} {pins : List (Addr × Obj)} {σ : L2.St} {H : Hp} {s : Shared}
theorem inv_xe {a b : Value → Shared → Prop} (I : Inv { X with xe := a } pins σ H s) : Inv { X with xe := b } pins σ H s :=
  ⟨⟨I.ok.mod, I.ok.kind, I.ok.glob, I.ok.blt, I.ok.above, I.ok.inj, I.ok.has, I.ok.cab, I.ok.hd, I.ok.frames, I.ok.stk, I.ok.exf, I.ok.bs, I.ok.bsz, I.ok.noex, I.ok.exfs, I.ok.funs, I.ok.frf⟩,
    I.os, I.bare, I.base, I.loc, I.cell, I.free, I.freeC, I.pin, I.hok, I.len⟩
end
theorem sky_note {M : Model} {A : Around} {E₁ : Value → Shared → Prop} {env : Env} {outer : List Env} {B : Heap} {s : Shared} {L a : Addr} {Z : Obj → Prop} {Q : Unit → Shared → Prop} (hZ : PXN.Steady1 Z) (hfr : A.frames = some (env :: outer)) (hf : env.frame = some L)
    (x : Sky B (env :: outer) a Z L s.heap) (hQ : ∀ h1, HandSPX.HeldZ B (env :: outer) a Z L h1 → s.heap.UpToSlots h1 → Q () { s with heap := h1 }) :
    wpAny M A (noteFrame (.ref a) env) Q E₁ s := by
  rcases x with ⟨hB, hn, hl, oe, vs, he, hz, hd, h1⟩ | fl | hh
  · exact PXN.look_newZ hZ hfr hl hf he hB hn hd h1 hz hQ
  · exact PXN.looks_onZ hZ hfr hf fl hQ
  · exact HandSPX.againZ hf hh.2.2.2 (hQ s.heap hh (Heap.UpToSlots.refl _))
theorem ff_sub {h B B' : Heap} (k : ∀ b, B.get? b = none → B'.get? b = none) : ∀ {l : List Env}, h.FunFrames B l → h.FunFrames B' l
  | [], _ => trivial
  | _ :: _, ⟨a, ⟨L, o, e1, e2, e3⟩, r⟩ => ⟨a, ⟨L, o, e1, k L e2, e3⟩, ff_sub k r⟩
theorem traced_sub {h B B' : Heap} (k : ∀ b, B.get? b = none → B'.get? b = none) {a : Addr} {Z : Obj → Prop} {v : Value} (t : HandSPX.TracedZ h B a Z v) : HandSPX.TracedZ h B' a Z v := by
  obtain ⟨oe, vs, T, oT, ts, h1, h2, h3, h4, h5, r⟩ := t
  exact ⟨oe, vs, T, oT, ts, h1, h2, h3, h4, k T h5, r⟩
theorem sky_sub {B B' h : Heap} {l : List Env} {a L : Addr} {Z : Obj → Prop} (k : ∀ b o, B'.get? b = some o → B.get? b = some o) (x : Sky B l a Z L h) : Sky B' l a Z L h := by
  have kn : ∀ b, B.get? b = none → B'.get? b = none := fun b e => by
    cases q : B'.get? b with
    | none => rfl
    | some o => rw [k b o q] at e; cases e
  rcases x with ⟨h1, h2, h3, r⟩ | ⟨h1, h2, h3, r⟩ | ⟨h1, h2, h3, r⟩
  · exact .inl ⟨fun b o e => h1 b o (k b o e), kn _ h2, ff_sub kn h3, r⟩
  · exact .inr (.inl ⟨fun b o e => h1 b o (k b o e), kn _ h2, ff_sub kn h3, traced_sub kn r⟩)
  · exact .inr (.inr ⟨fun b o e => h1 b o (k b o e), kn _ h2, ff_sub kn h3, traced_sub kn r⟩)
theorem held_but {B h1 h2 : Heap} {l : List Env} {a L C : Addr} {Z : Obj → Prop} {m m2 : Str → Option Value} (hC : B.get? C = none) (n1 : h1.Ns C m) (n2 : h2.Ns C m2) (sb : Heap.SameBut C h1 h2) (hh : HandSPX.HeldZ B l a Z L h1) : HandSPX.HeldZ B l a Z L h2 := by
  obtain ⟨b1, b0, f1, oe, vs, T, oT, ts, he, hz, hd, hv, hT, hTa, hoT, hdT, h3⟩ := hh
  obtain ⟨oL, es, ep, hoL, hdL, _⟩ := n1
  have ne : ∀ b o (us : Array Value), h1.get? b = some o → o.data = .fields us → b ≠ C := fun b o us e z q => by
    rw [q, hoL] at e; cases e; rw [hdL] at z; cases z
  exact ⟨fun b o hb => (sb.2 b fun q => by rw [q, hC] at hb; cases hb).trans (b1 b o hb), b0, Heap.FunFrames.sameBut sb n2 f1, oe, vs, T, oT, ts, (sb.2 a (ne a oe vs he hd)).trans he, hz, hd, hv, hT, hTa, (sb.2 T (ne T oT ts hoT hdT)).trans hoT, hdT, h3⟩
section
variable {X : Cx} {pins pins5 : List (Addr × Obj)} {σ σ5 : L2.St} {H3 H5 : Hp} {s3 s5 s' : Shared} {scope : Scope} {ce : Env} {fp : List Addr} {E : XK} {u : Value}
/-- a call within the block let an exception out: the block lets go, the def goes on -/
theorem block_fails (hs0 : X.stack = X.env :: X.outer) (hf : X.env.frame = some X.env.locals) (tk : L2N.Takes X (fun cls d _ H => E cls d H)) (I3 : Inv X pins σ H3 s3) (cL : ce.locals = s3.heap.objs.size) (cF : ce.frame = X.env.frame)
    (f3 : ∀ b ∈ fp, FpOk X pins H3 b) (I5 : Inv (X.blk s3 H3 scope ce fp) pins5 σ5 H5 s5) (c : L2N.CX X.prog X.w X.stack H5 s5 E u s') :
    notedBy (model X.prog X.w) X.A ce (CompFails (model X.prog X.w) X.A X.xe ce) u s' := by
  have I7 : Inv X pins σ H5 s5 := I3.call' (ch := fp) I5.os I5.base I5.hok I5.bare fun b hb => ⟨(f3 b hb).2.2.2.1, (f3 b hb).2.1, (f3 b hb).2.2.2.2.1, (f3 b hb).2.2.2.2.2⟩
  have nC : H5 ce.locals = none := I5.free
  obtain ⟨m, hn, _⟩ := I5.loc
  have hn : s5.heap.Ns ce.locals m := hn
  obtain ⟨f0, f1, f2, f3', f4, f5⟩ := I3.fpOk (H' := H5) (b := ce.locals) (by rw [cL]; exact Nat.le_refl _) nC
  have nfr : ce.locals ∉ frs X.stack := fun z => by
    rcases List.mem_cons.mp (I3.stkSub _ z) with z | z
    · exact f1 z
    · exact f2 z
  obtain ⟨oC, es, ep, hoC, hdC, hr⟩ := id hn
  have cc : L2N.CX X.prog X.w X.stack H5 s5 (fun cls d H => E cls d H ∧ H ce.locals = none) u s' ∧ s'.heap.Ns ce.locals m := by
    obtain ⟨a, B, H', cls, d, rfl, fl, hok, ub, na, os, ag, hE⟩ := c
    exact ⟨⟨a, B, H', cls, d, rfl, fl, hok, ub, na, os, ag, hE, ub.free _ _ hoC nC⟩, oC, es, ep, fl.1 _ _ (ub.keep _ _ hoC nC nfr), hdC, hr⟩
  obtain ⟨a, B, sI, pins2, σ2, H2, cls, d, rfl, J, nb, up, sky, na, os, ag, w, hC⟩ := L2N.XE.of_call (W := fun cls d _ H => E cls d H ∧ H ce.locals = none) I7 (fun _ _ _ h => h) cc.1
  have hn' := cc.2
  have J : Inv X [] σ2 H2 sI := (J : Inv X ([] ++ pins2) σ2 H2 sI).unpinned
  -- without the block's names
  obtain ⟨G, g1, g2⟩ := restrict sI.heap fun b => decide (b ≠ ce.locals)
  obtain ⟨B', b1, b2⟩ := restrict B fun b => decide (b ≠ ce.locals)
  have back : ∀ b o, B'.get? b = some o → b ≠ ce.locals ∧ B.get? b = some o := fun b o e => by
    by_cases hb : b = ce.locals
    · rw [b2 b (by simp [hb])] at e; cases e
    · exact ⟨hb, by rw [← b1 b (by simp [hb])]; exact e⟩
  have backG : ∀ b o, G.get? b = some o → b ≠ ce.locals ∧ sI.heap.get? b = some o := fun b o e => by
    by_cases hb : b = ce.locals
    · rw [g2 b (by simp [hb])] at e; cases e
    · exact ⟨hb, by rw [← g1 b (by simp [hb])]; exact e⟩
  have J' : Inv X [] σ2 H2 { sI with heap := G, toks := sI.toks } := J.turned (it := ce.locals) (fun b o hb e => (g1 b (by simp [hb])).trans e) hC f1 f3' f4 fun p hp => f5 p (List.mem_append_left _ (by simpa using hp))
  have nBC : B'.get? ce.locals = none := b2 _ (by simp)
  have sky' : Sky B' (X.env :: X.outer) a (L2N.Zn cls d) X.env.locals s'.heap := by
    rw [← hs0]
    exact sky_sub (fun b o e => (back b o e).2) sky
  have hfr : X.A.frames = some (X.env :: X.outer) := by rw [I3.ok.frames, hs0]
  show wpAny _ X.A (noteFrame (.ref a) ce) _ _ s'
  rw [noteFrame_env _ cF]
  refine sky_note L2N.Zn.steady hfr hf sky' fun h1 hh1 up1 => ?_
  have n1 : h1.Ns ce.locals m := hn'.upToSlots up1
  refine ⟨m, n1, fun h2 m2 n2 sb => ?_⟩
  have hh2 := held_but nBC n1 n2 sb hh1
  obtain ⟨_, _, _, oe, vs, T', oT, ts, he, _, hd, hv, _⟩ := id hh2
  unfold PySem.passOn
  refine wpAny_bind (wpAny_field he hd hv ?_)
  rw [if_neg (show ¬ ((Value.ref T' == Value.none) = true) from by simp), cF, hf]
  refine wpAny_bind (HandSPX.setFlight_onZ hh2 fun h3 hh3 up3 => wpAny_throw ?_)
  refine tk _ _ ⟨a, B', { sI with heap := G, toks := sI.toks }, [], σ2, H2, cls, d, rfl, J', fun b o e hb => ?_, fun b o e nf => ?_, .inr (.inr (by rw [hs0]; exact hh3)), na, os, ag, w⟩
  · obtain ⟨hbC, e'⟩ := backG b o e
    rw [b1 b (by simp [hbC])]
    exact nb b o e' hb
  · obtain ⟨hbC, e'⟩ := backG b o e
    obtain ⟨sl1, e1⟩ := up b o e' nf
    obtain ⟨sl2, e2⟩ := up1 b _ e1 nf
    exact up3 b { o with slots := sl2 } ((sb.2 b hbC).trans e2) nf
end
section
variable {X : Cx}
/-- [elt for target in iter if ..] where the element calls what may raise (E: what is wanted of the error) -/
theorem pe_lcR {elt tg iter : Expr} {ifs : List Expr} {scope : Scope} {own : List (Str × Nat)} {pos : Pos} {wi : TI} {g : TG} {tt : TT} {te : TE} {E : XK} (hc : X.calm = true) (hN : X.N.Nodup) (hs0 : X.stack = X.env :: X.outer) (hf : X.env.frame = some X.env.locals) (tk : L2N.Takes X (fun cls d _ H => E cls d H))
    (hi : PI X tg iter wi) (ok : BlkOk X.N X.env.scope scope own)
    (hg : ∀ (s : Shared) (H : Hp) (C : Addr) (cl : List (Str × Addr)) (fp : List Addr), PG (X.blk s H scope (compEnvC scope cl C X.env) fp) tg g) (ht : ∀ (s : Shared) (H : Hp) (C : Addr) (cl : List (Str × Addr)) (fp : List Addr), PTs (X.blk s H scope (compEnvC scope cl C X.env) fp) ifs tt)
    (he : ∀ (s : Shared) (H : Hp) (C : Addr) (cl : List (Str × Addr)) (fp : List Addr) (xe : Value → Shared → Prop), Passes (L2N.CX X.prog X.w) (blkE X s H scope (compEnvC scope cl C X.env) fp xe) E → PE (blkE X s H scope (compEnvC scope cl C X.env) fp xe) elt te)
    (hs : ∀ x, foldedSetIterable iter X.env x = pure x := by intro _; rfl) :
    PE X (.ListComp elt [⟨tg, iter, ifs, 0⟩] scope pos) (tLc wi g tt te (own.map (·.2))) := by
  refine ⟨fun pins s σ H Q I h => ?_⟩
  rw [eval_ListComp]
  have hfree : ∀ y ∈ scope.names, y.2 = .free → ∃ c, X.env.cells.lookup y.1 = some c := fun y hy e =>
    (ok.free y hy e).elim (fun k => I.ok.has _ (.inl k)) fun k => I.ok.has _ (.inr k)
  refine comprehension_at (use := none) rfl hs (closure_ok hfree) ok.kind (fun y hy e => by rw [ok.uniq y hy, e]) (thn (hi.run pins s σ H _ I h) fun xv s1 hx => thn hx fun itv s2 h2 => ?_)
  obtain ⟨it, fp, tn, J, H2, rfl, I2, T, st2, f2, q⟩ := h2
  refine wpAny_newObj_type (newEnv_comp ?_) (by show 0 ≤ sizeLine; decide)
  obtain ⟨D, hD⟩ : ∃ D, D = s2.heap.objs.size := ⟨_, rfl⟩
  have hDn : H2 D = none := I2.hok.fresh (Nat.le_of_eq hD.symm)
  obtain ⟨W, ⟨m0, w0⟩, turn⟩ := q D hDn
  rw [← hD]
  obtain ⟨s3, hs3⟩ : ∃ s3 : Shared, s3 = { s2 with heap := s2.heap.push { cls := .type "list", data := .seq ([] : List Value).toArray } } := ⟨_, rfl⟩
  have h3 : s3.heap = s2.heap.push { cls := .type "list", data := .seq ([] : List Value).toArray } := by rw [hs3]
  have I3 : Inv X pins σ (upd H2 D (.lst [])) s3 := by
    rw [hs3]
    exact I2.laid (t' := s2.toks) (fun b o e => Heap.get?_push_of_some _ e) (Nat.le_of_eq hD.symm) ⟨Nat.zero_le _, [], 0, .nil, by rw [hD]; exact Heap.get?_push_size _ rfl⟩
  have f3 : ∀ b ∈ fp, FpOk X pins (upd H2 D (.lst [])) b ∧ b < s3.heap.objs.size := fun b hb => by
    obtain ⟨o, e, _⟩ := T.obj _ _ st2 b hb
    have hlt := Heap.lt_size e
    exact ⟨⟨by rw [upd_ne (by rw [hD]; exact Nat.ne_of_lt hlt)]; exact (f2 b hb).1, (f2 b hb).2⟩, by rw [h3, Heap.size_push]; exact Nat.lt_succ_of_lt hlt⟩
  have I4 := block_start I3 ok hN f3
  have st3 : tn 0 s3.heap := T.keep _ _ _ st2 fun b _ o e => by rw [h3]; exact Heap.get?_push_of_some _ e
  rw [← hs3]
  show codeAny _ _ (.compStart (.ListComp elt [⟨tg, iter, ifs, 0⟩] scope pos) 0 (.ref it) (.ref D) (compEnvC scope (cellsFrom (s3.heap.objs.size + 1) scope.names (cloFrom X.env.cells scope.names [])) s3.heap.objs.size X.env)) (compEnds (model X.prog X.w) X.A X.xe none _ (.ref D) (compEnvC scope (cellsFrom (s3.heap.objs.size + 1) scope.names (cloFrom X.env.cells scope.names [])) s3.heap.objs.size X.env)) { s3 with heap := pushCells (s3.heap.push { cls := .type "dict", data := .dict #[] }) scope.names }
  have pg := hg s3 (upd H2 D (.lst [])) s3.heap.objs.size (cellsFrom (s3.heap.objs.size + 1) scope.names (cloFrom X.env.cells scope.names [])) fp
  have pt := ht s3 (upd H2 D (.lst [])) s3.heap.objs.size (cellsFrom (s3.heap.objs.size + 1) scope.names (cloFrom X.env.cells scope.names [])) fp
  have pe := he s3 (upd H2 D (.lst [])) s3.heap.objs.size (cellsFrom (s3.heap.objs.size + 1) scope.names (cloFrom X.env.cells scope.names [])) fp
  have cL : (compEnvC scope (cellsFrom (s3.heap.objs.size + 1) scope.names (cloFrom X.env.cells scope.names [])) s3.heap.objs.size X.env).locals = s3.heap.objs.size := rfl
  have cF : (compEnvC scope (cellsFrom (s3.heap.objs.size + 1) scope.names (cloFrom X.env.cells scope.names [])) s3.heap.objs.size X.env).frame = X.env.frame := rfl
  generalize compEnvC scope (cellsFrom (s3.heap.objs.size + 1) scope.names (cloFrom X.env.cells scope.names [])) s3.heap.objs.size X.env = ce at I4 pg pt pe cL cF ⊢
  have nfp : ∀ b ∈ fp, (upd H2 D (.lst [])) b = none := fun b hb => (f3 b hb).1.1
  generalize upd H2 D (.lst []) = H3 at I3 I4 pg pt pe w0 nfp f3
  have st4 : tn 0 (pushCells (s3.heap.push { cls := .type "dict", data := .dict #[] }) scope.names) := T.keep _ _ _ st3 fun b _ o e => pushCells_keeps _ _ _ _ (Heap.get?_push_of_some _ e)
  generalize hs4 : ({ s3 with heap := pushCells (s3.heap.push { cls := .type "dict", data := .dict #[] }) scope.names } : Shared) = s4 at I4 ⊢
  have st4 : tn 0 s4.heap := by rw [← hs4]; exact st4
  -- what an error of the element leaves
  let xe : Value → Shared → Prop := fun u s' => ∃ (pins5 : List (Addr × Obj)) (σ5 : L2.St) (H5 : Hp) (s5 : Shared), Inv (X.blk s3 H3 scope ce fp) pins5 σ5 H5 s5 ∧ L2N.CX X.prog X.w X.stack H5 s5 E u s'
  have pe := pe xe fun pins5 σ5 H5 s5 u s' I c => ⟨pins5, σ5, H5, s5, inv_xe (X := X.blk s3 H3 scope ce fp) I, c⟩
  have fails : ∀ u s', xe u s' → notedBy (model X.prog X.w) X.A ce (CompFails (model X.prog X.w) X.A X.xe ce) u s' := fun u s' hx => by
    obtain ⟨pins5, σ5, H5, s5, I5, c⟩ := hx
    exact block_fails hs0 hf tk I3 cL cF (fun b hb => (f3 b hb).1) I5 c
  have stat : ∀ {σ' : L2.St} {H' : Hp} {s' : Shared}, Inv (X.blk s3 H3 scope ce fp) [] σ' H' s' → (∀ b ∈ fp, H' b = none) → ∀ b ∈ fp, FpOk (X.blk s3 H3 scope ce fp) [] H' b := fun {σ' H' s'} I' hn b hb =>
    ⟨hn b hb, (I'.ok.exf b hb).1, I'.ok.exfs b hb, .inl hb, fun x c e => (I'.ok.exf b hb).2 x c e, fun p hp => absurd (show p ∈ ([] : List (Addr × Obj)) ++ [] from hp) (by simp)⟩
  have loop : codeAny (model X.prog X.w) X.A (.compLoop (.ListComp elt [⟨tg, iter, ifs, 0⟩] scope pos) 0 (.ref it) (.ref D) ce) (compEnds (model X.prog X.w) X.A X.xe none (EP X pins σ Q) (.ref D) ce) s4 := by
    refine compLoop_any (fun n s' => ∃ i H', Inv (X.blk s3 H3 scope ce fp) [] (wipe σ (own.map (·.2))) H' s' ∧ tn i s'.heap ∧ (∀ b ∈ fp, H' b = none) ∧ W i n H') ?_ m0 ⟨0, H3, I4, st4, nfp, w0⟩
    rintro n s5 ⟨i, H5, I5, st5, n5, w5⟩
    rcases turn i n H5 w5 with ⟨stop, qq⟩ | ⟨go, Nx, hNx, step⟩
    · refine thnF (T.done (X.blk s3 H3 scope ce fp) rfl rfl rfl hc i [] s5 _ H5 (fun _ _ => False) I5 (stat I5 n5) st5 stop) fun r s6 ⟨hr, I6⟩ => ?_
      subst hr
      have I7 : Inv X pins σ H5 s6 := I3.call' (ch := fp) I6.os I6.base I6.hok I6.bare fun b hb => ⟨(f3 b hb).1.2.2.2.1, (f3 b hb).1.2.1, (f3 b hb).1.2.2.2.2.1, (f3 b hb).1.2.2.2.2.2⟩
      have nC : H5 ce.locals = none := I6.free
      obtain ⟨m, hn, _⟩ := I6.loc
      obtain ⟨f0, f1, f2', f3', f4, f5⟩ := I3.fpOk (H' := H5) (b := ce.locals) (by rw [cL]; exact Nat.le_refl _) nC
      exact ⟨m, hn, fun h'' sb => ⟨.ref D, H5, I7.turned (t' := s6.toks) (fun b o hb e => (sb.2 b hb).trans e) f0 f1 f3' f4 f5, rfl, qq⟩⟩
    · refine thnF (T.item (X.blk s3 H3 scope ce fp) rfl rfl rfl hc i [] s5 _ H5 (fun _ _ => False) I5 (stat I5 n5) st5 go) fun r s6 ⟨u, hr, h6⟩ => ?_
      subst hr
      refine thnF h6 fun _ s7 ⟨x, H7, I7, r7, y7, st7, n7⟩ => ?_
      have I7' := I7.pinned (stat I7 n7) (T.obj _ _ st7)
      refine thnF (pg.run _ s7 _ H7 x u _ I7' r7 (step x H7 y7)) fun _ s8 ⟨σ8, H8, I8, hw8, q8⟩ => ?_
      refine thnF (pt.run _ s8 σ8 H8 _ I8 q8) fun b s9 ⟨H9, I9, q9⟩ => ?_
      have fin : ∀ {s' : Shared} {H' : Hp}, Inv (X.blk s3 H3 scope ce fp) ([] ++ pinsAt fp s7.heap) σ8 H' s' → Nx H' → ∃ m, m < n ∧ ∃ i H', Inv (X.blk s3 H3 scope ce fp) [] (wipe σ (own.map (·.2))) H' s' ∧ tn i s'.heap ∧ (∀ b ∈ fp, H' b = none) ∧ W i m H' := fun {s' H'} I' nx => by
        obtain ⟨m', hm, w'⟩ := hNx H' nx
        have pin' : ∀ b ∈ fp, ∀ o, s7.heap.get? b = some o → s'.heap.get? b = some o ∧ H' b = none := fun b hb o e =>
          let z := I'.pin (b, o) (List.mem_append_right _ (List.mem_append_right _ (mem_pinsAt hb e)))
          ⟨z.1, z.2.1⟩
        refine ⟨m', hm, i + 1, H', (I'.unpinned (pins := [])).weak (by rw [← hw8, wipe_length]) (fun j v e => ?_), T.keep _ _ _ st7 fun b hb o e => (pin' b hb o e).1, fun b hb => ?_, w'⟩
        · rw [← hw8] at e
          exact (wipe_some e).1
        · obtain ⟨o, e, _⟩ := T.obj _ _ st7 b hb
          exact (pin' b hb o e).2
      cases b with
      | false =>
        simp only [Bool.false_eq_true, if_false] at q9 ⊢
        exact fin I9 q9
      | true =>
        simp only [if_true] at q9 ⊢
        refine wpAny_mono (pe.run _ s9 σ8 H9 _ (inv_xe (X := X.blk s3 H3 scope ce fp) I9) q9) (fun z s10 hz => ?_) fun u s' hx => fails u s' hx
        obtain ⟨yv, H10, I10, r10, acc, hD10, hz10, nx⟩ := hz
        exact app_ok (X := X.blk s3 H3 scope ce fp) (inv_xe (X := X.blk s3 H3 scope ce fp) I10) hD10 hz10 r10 fun s11 I11 => fin I11 nx
  exact codeAny_compStart_list loop (T.self X.A 0 _ _ _ st4 loop)
end
end EPC
set_option maxHeartbeats 4000000
namespace EPL
open PySem PySem.Spec PyProof.Rows L2 L2H EPX EPD EPC
/-! ### lambdas that are kept: their objects stay known to the abstract heap -/
def FnO (f : Addr) (o : Obj) : HO := .frz o (.ext fun h => ∃ o, h.get? f = some o)
theorem fnO_ok {P : Program} {w : World} {H : Hp} {h : Heap} {f : Addr} {o : Obj} (e : h.get? f = some o) : ObjOk P w H h f (FnO f o) :=
  ⟨e, ⟨o, e⟩, ⟨o, e⟩, fun _ _ ⟨o, a⟩ st => ⟨o, st _ a⟩⟩
theorem fnO_ne {f : Addr} {o : Obj} (ps : Array Value) : FnO f o ≠ .tbl ps := fun z => by
  unfold FnO at z
  cases z
theorem fnO_at {P : Program} {w : World} {H : Hp} {h : Heap} {f : Addr} {o : Obj} (x : HOk P w H h) (e : H f = some (FnO f o)) : h.get? f = some o := (x f _ e).1
def LamP (X : Cx) (params : Arguments) (body : Expr) (scope : Scope) (H : Hp) (f : Addr) : Prop :=
  ∃ (c' : Addr) (pm ctv : Value), H f = some (FnO f (PySem.W.kla_obj "<lambda>" (X.env.qual ++ "<lambda>") params body scope (cloFrom X.env.cells scope.names []) pm c' ctv)) ∧ H c' = some (LamX.CodeO c' (X.env.qual ++ "<lambda>"))
def LamQ (X : Cx) (params : Arguments) (body : Expr) (scope : Scope) (H : Hp) (f : Addr) : Prop :=
  ∃ (c' D : Addr) (v doc pm ctv : Value), H f = some (FnO f (dobj (X.env.qual ++ "<lambda>") params body scope (cloFrom X.env.cells scope.names []) D doc pm c' ctv)) ∧ H D = some (FnO D (PySem.W.kdv_tup [v])) ∧ H c' = some (LamX.CodeO c' (X.env.qual ++ "<lambda>"))
theorem LamP.ext {X : Cx} {params : Arguments} {body : Expr} {scope : Scope} {H H' : Hp} {f : Addr} (x : LamP X params body scope H f) (e : LamX.ExtN H H') : LamP X params body scope H' f := by
  obtain ⟨c', pm, ctv, h1, h2⟩ := x
  exact ⟨c', pm, ctv, e _ _ h1 fnO_ne, e _ _ h2 LamX.codeO_ne⟩
theorem LamQ.ext {X : Cx} {params : Arguments} {body : Expr} {scope : Scope} {H H' : Hp} {f : Addr} (x : LamQ X params body scope H f) (e : LamX.ExtN H H') : LamQ X params body scope H' f := by
  obtain ⟨c', D, v, doc, pm, ctv, h1, h3, h2⟩ := x
  exact ⟨c', D, v, doc, pm, ctv, e _ _ h1 fnO_ne, e _ _ h3 fnO_ne, e _ _ h2 LamX.codeO_ne⟩
theorem extN_new {H : Hp} {a : Addr} {o : HO} (h : H a = none) : LamX.ExtN H (upd H a o) := fun b u e _ => by
  rw [upd_ne (ne_of_none e h)]; exact e
theorem tabs_new {T : List (Addr × Str)} {H : Hp} {a : Addr} {o : HO} (t : LamX.Tabs T H) (h : H a = none) : LamX.Tabs T (upd H a o) := t.ext fun b u e => by
  rw [upd_ne (ne_of_none e h)]; exact e
section
variable {X : Cx} {pins : List (Addr × Obj)} {σ : L2.St} {H : Hp} {s : Shared}
/-- the table of code objects grows by one; all that it tells is kept -/
theorem tabs_more {T : List (Addr × Str)} {P c' : Addr} {q : Str} {ps : Array Value} {pos : Pos} (hm : (P, q) ∈ T) (hu : ∀ p ∈ T, p.1 = P → p.2 = q) (hT : LamX.Tabs T H) (hP : H P = some (.tbl ps)) (nC : H c' = none) :
    LamX.ExtN H (upd (upd H P (.tbl (ps ++ #[rawInt pos.line, rawInt pos.col, .ref c']))) c' (LamX.CodeO c' q)) ∧ LamX.Tabs T (upd (upd H P (.tbl (ps ++ #[rawInt pos.line, rawInt pos.col, .ref c']))) c' (LamX.CodeO c' q)) := by
  obtain ⟨ps0, hP0, ht, ha⟩ := hT _ hm
  obtain rfl : ps0 = ps := by
    have hP0 : H P = some (.tbl ps0) := hP0
    rw [hP] at hP0; cases hP0; rfl
  have hE : LamX.ExtN H (upd (upd H P (.tbl (ps0 ++ #[rawInt pos.line, rawInt pos.col, .ref c']))) c' (LamX.CodeO c' q)) := fun b o e n => by
    rw [upd_ne (ne_of_none e nC), upd_ne (fun z => n ps0 (Option.some.inj (e.symm.trans (by rw [z]; exact hP))))]; exact e
  refine ⟨hE, fun p hp => ?_⟩
  have eL : (ps0 ++ #[rawInt pos.line, rawInt pos.col, .ref c']).toList = ps0.toList ++ [rawInt pos.line, rawInt pos.col, .ref c'] := by simp
  by_cases hb : p.1 = P
  · rw [hu p hp hb, hb]
    refine ⟨_, by rw [upd_ne (ne_of_none hP nC), upd_same], by rw [eL]; exact PySem.TriplesOk_snoc _ _ _ _ ht, fun p' cv hcv => ?_⟩
    rw [eL] at hcv
    exact (LamX.among_app _ ht hcv).elim (fun z => (ha p' cv z).elim fun c0 z => ⟨c0, z.1, hE _ _ z.2 LamX.codeO_ne⟩) fun z => ⟨c', z, upd_same⟩
  · obtain ⟨ps', a1, a2, a3⟩ := hT p hp
    exact ⟨ps', by rw [upd_ne (ne_of_none a1 nC), upd_ne hb]; exact a1, a2, fun p' cv hcv => (a3 p' cv hcv).elim fun c0 z => ⟨c0, z.1, hE _ _ z.2 LamX.codeO_ne⟩⟩
/-- a lambda without a parameter as a value -/
theorem pe_lamP {T : List (Addr × Str)} {c P : Addr} {params : Arguments} {body : Expr} {scope : Scope} {pos : Pos} (TB : LamX.TabB X.base X.mg c P) (hcode : X.env.code = .ref c)
    (hm : (P, X.env.qual ++ "<lambda>") ∈ T) (hu : ∀ p ∈ T, p.1 = P → p.2 = X.env.qual ++ "<lambda>") (L : LamX.LamS X.env.scope scope) (hdef : defaultsOf params X.env = ([], [])) :
    PE X (.Lambda params body scope pos) (fun _ H Q => LamX.Tabs T H ∧ ∀ f H1, LamX.ExtN H H1 → LamX.Tabs T H1 → LamP X params body scope H1 f → Q (.ref f) H1) := by
  refine ⟨fun pins s σ H Q I h => ?_⟩
  obtain ⟨hT, h⟩ := h
  obtain ⟨ps, hP, ht, ha⟩ := hT _ hm
  refine PySem.W.kla_eval hdef ?_
  have bP : s.heap.BuiltinsAt X.mg P := TB.bm.keeps I.bk
  have hP' : s.heap.get? P = some { cls := .none, data := .fields ps } := I.hok P _ hP
  cases hc : codeAmong pos ps.toList with
  | none =>
    refine PySem.W.kla_makeFunction (mg := X.mg) (c := c) (P := P) (ps := ps) (closure_ok (L.has I.ok)) I.ok.glob (I.mod.glob.keeps I.bk) hcode (TB.code.keeps I.bk) hP' ht hc TB.gP bP fun c' ctv h' tk hx hge hlt hrec htb => ?_
    obtain ⟨c2, oc, vs, t, e2, hoc, hd, hv⟩ := hrec
    cases e2
    have nC : H c' = none := I.hok.fresh hge
    have I1 := LamX.inv_table (t' := tk) (q := X.env.qual ++ "<lambda>") (more := #[rawInt pos.line, rawInt pos.col, .ref c']) (h' := h') I hP (fun b o hb e => hx b o hb e) htb hge ⟨oc, vs, t, hoc, hd, hv⟩
    obtain ⟨hE, hT1⟩ := tabs_more (pos := pos) hm hu hT hP nC
    have hco : upd (upd H P (.tbl (ps ++ #[rawInt pos.line, rawInt pos.col, .ref c']))) c' (LamX.CodeO c' (X.env.qual ++ "<lambda>")) c' = some (LamX.CodeO c' (X.env.qual ++ "<lambda>")) := upd_same
    generalize upd (upd H P (.tbl (ps ++ #[rawInt pos.line, rawInt pos.col, .ref c']))) c' (LamX.CodeO c' (X.env.qual ++ "<lambda>")) = H1 at I1 hE hT1 hco
    have nf : H1 h'.objs.size = none := I1.hok.fresh (Nat.le_refl _)
    refine ⟨.ref h'.objs.size, _, I1.laid (t' := tk) (a := h'.objs.size) (o := FnO h'.objs.size (PySem.W.kla_obj "<lambda>" (X.env.qual ++ "<lambda>") params body scope (cloFrom X.env.cells scope.names []) ((X.mg "__name__").getD .none) c' ctv)) (fun b o e => Heap.get?_push_of_some _ e) (Nat.le_refl _) (fnO_ok (Heap.get?_push_size _ rfl)), rfl, ?_⟩
    exact h _ _ (hE.trans (extN_new nf)) (tabs_new hT1 nf) ⟨c', _, ctv, upd_same, extN_new nf _ _ hco LamX.codeO_ne⟩
  | some cv =>
    obtain ⟨c', e, hco⟩ := ha pos cv hc
    subst e
    refine PySem.W.kla_makeFunctionHit (mg := X.mg) (c := c) (P := P) (ps := ps) (closure_ok (L.has I.ok)) I.ok.glob (I.mod.glob.keeps I.bk) hcode (TB.code.keeps I.bk) hP' ht hc bP fun ctv h' tk hx hsz => ?_
    have nf : H h'.objs.size = none := I.hok.fresh hsz
    refine ⟨.ref h'.objs.size, _, I.laid (t' := tk) (a := h'.objs.size) (h' := h'.push (PySem.W.kla_obj "<lambda>" (X.env.qual ++ "<lambda>") params body scope (cloFrom X.env.cells scope.names []) ((X.mg "__name__").getD .none) c' ctv)) (o := FnO h'.objs.size (PySem.W.kla_obj "<lambda>" (X.env.qual ++ "<lambda>") params body scope (cloFrom X.env.cells scope.names []) ((X.mg "__name__").getD .none) c' ctv)) (fun b o e => Heap.get?_push_of_some _ (hx b o e)) hsz (fnO_ok (Heap.get?_push_size _ rfl)), rfl, ?_⟩
    exact h _ _ (extN_new nf) (tabs_new hT nf) ⟨c', _, ctv, upd_same, extN_new nf _ _ hco LamX.codeO_ne⟩
/-- a lambda whose one parameter has a default, as a value -/
theorem pe_lamQ {T : List (Addr × Str)} {c P : Addr} {params : Arguments} {body d : Expr} {n : Int} {a0 : Str} {scope : Scope} {pos : Pos} (TB : LamX.TabB X.base X.mg c P) (hcode : X.env.code = .ref c)
    (hm : (P, X.env.qual ++ "<lambda>") ∈ T) (hu : ∀ p ∈ T, p.1 = P → p.2 = X.env.qual ++ "<lambda>") (L : LamD X.env.scope scope a0) (hdf : params.defaults = [d]) (hk0 : params.kw_defaults = []) (hd : ∀ (s1 : Shared) (E : Value → Shared → Prop) (Q : Value → Shared → Prop), (∀ t tk, Q (.int n t) { s1 with toks := tk }) → wpAny (model X.prog X.w) X.A (eval d X.env) Q E s1) :
    PE X (.Lambda params body scope pos) (fun _ H Q => LamX.Tabs T H ∧ ∀ f H1, LamX.ExtN H H1 → LamX.Tabs T H1 → LamQ X params body scope H1 f → Q (.ref f) H1) := by
  refine ⟨fun pins s σ H Q I h => ?_⟩
  obtain ⟨hT, h⟩ := h
  have hP0 : ∃ ps, H P = some (.tbl ps) := (hT _ hm).elim fun ps z => ⟨ps, z.1⟩
  refine PySem.W.kdv_lam (by rw [hdf]; rfl) hk0 ?_
  rw [hdf]
  refine PySem.W.kdv_all1 (hd s _ _ fun t0 tk0 => PySem.W.kdv_all0 ?_)
  rw [makeFunction_eq]
  simp only [List.zip_nil_right, List.filterMap_nil, List.isEmpty_nil, List.isEmpty_cons, if_true, pure_bind, Bool.false_eq_true, if_false]
  refine wpAny_bind (wpAny_newTextTuple ?_)
  have nD : H s.heap.objs.size = none := I.hok.fresh (Nat.le_refl _)
  have I0 : Inv X pins σ (upd H s.heap.objs.size (FnO s.heap.objs.size (PySem.W.kdv_tup [.int n t0]))) { s with heap := s.heap.push (PySem.W.kdv_tup [.int n t0]), toks := tk0 } :=
    I.laid (t' := tk0) (fun b o e => Heap.get?_push_of_some _ e) (Nat.le_refl _) (fnO_ok (Heap.get?_push_size _ rfl))
  have hE0 : LamX.ExtN H (upd H s.heap.objs.size (FnO s.heap.objs.size (PySem.W.kdv_tup [.int n t0]))) := extN_new nD
  have hT0 := tabs_new (o := FnO s.heap.objs.size (PySem.W.kdv_tup [.int n t0])) hT nD
  show wpAny (model X.prog X.w) X.A (makeTail "<lambda>" (X.env.qual ++ "<lambda>") params (.expr body) scope X.env (.ref s.heap.objs.size) .none none pos pos.line) _ _ { s with heap := s.heap.push (PySem.W.kdv_tup [.int n t0]), toks := tk0 }
  have hDH : upd H s.heap.objs.size (FnO s.heap.objs.size (PySem.W.kdv_tup [.int n t0])) s.heap.objs.size = some (FnO s.heap.objs.size (PySem.W.kdv_tup [.int n t0])) := upd_same
  generalize hs2 : ({ s with heap := s.heap.push (PySem.W.kdv_tup [.int n t0]), toks := tk0 } : Shared) = s2 at *
  generalize upd H s.heap.objs.size (FnO s.heap.objs.size (PySem.W.kdv_tup [.int n t0])) = H0 at *
  generalize hDD : s.heap.objs.size = D at *
  obtain ⟨ps, hP, ht, ha⟩ := hT0 _ hm
  have bP : s2.heap.BuiltinsAt X.mg P := TB.bm.keeps I0.bk
  have hP' : s2.heap.get? P = some { cls := .none, data := .fields ps } := I0.hok P _ hP
  cases hc : codeAmong pos ps.toList with
  | none =>
    refine PySem.W.kdv_makeTail (mg := X.mg) (c := c) (P := P) (ps := ps) (closure_ok (L.has I.ok)) I0.ok.glob (I0.mod.glob.keeps I0.bk) hcode (TB.code.keeps I0.bk) hP' ht hc TB.gP bP fun c' ctv doc h' tk hx hge hlt hrec htb => ?_
    obtain ⟨c2, oc, vs, t, e2, hoc, hd, hv⟩ := hrec
    cases e2
    have nC : H0 c' = none := I0.hok.fresh hge
    have I1 := LamX.inv_table (t' := tk) (q := X.env.qual ++ "<lambda>") (more := #[rawInt pos.line, rawInt pos.col, .ref c']) (h' := h') I0 hP (fun b o hb e => hx b o hb e) htb hge ⟨oc, vs, t, hoc, hd, hv⟩
    obtain ⟨hE, hT1⟩ := tabs_more (pos := pos) hm hu hT0 hP nC
    have hco : upd (upd H0 P (.tbl (ps ++ #[rawInt pos.line, rawInt pos.col, .ref c']))) c' (LamX.CodeO c' (X.env.qual ++ "<lambda>")) c' = some (LamX.CodeO c' (X.env.qual ++ "<lambda>")) := upd_same
    generalize upd (upd H0 P (.tbl (ps ++ #[rawInt pos.line, rawInt pos.col, .ref c']))) c' (LamX.CodeO c' (X.env.qual ++ "<lambda>")) = H1 at I1 hE hT1 hco
    have nf : H1 h'.objs.size = none := I1.hok.fresh (Nat.le_refl _)
    refine ⟨.ref h'.objs.size, _, I1.laid (t' := tk) (a := h'.objs.size) (o := FnO h'.objs.size (dobj (X.env.qual ++ "<lambda>") params body scope (cloFrom X.env.cells scope.names []) D doc ((X.mg "__name__").getD .none) c' ctv)) (fun b o e => Heap.get?_push_of_some _ e) (Nat.le_refl _) (fnO_ok (Heap.get?_push_size _ rfl)), rfl, ?_⟩
    exact h _ _ ((hE0.trans hE).trans (extN_new nf)) (tabs_new hT1 nf) ⟨c', D, _, doc, _, ctv, upd_same, extN_new nf _ _ (hE _ _ hDH fnO_ne) fnO_ne, extN_new nf _ _ hco LamX.codeO_ne⟩
  | some cv =>
    obtain ⟨c', e, hco⟩ := ha pos cv hc
    subst e
    refine PySem.W.kdv_makeTailHit (mg := X.mg) (c := c) (P := P) (ps := ps) (closure_ok (L.has I.ok)) I0.ok.glob (I0.mod.glob.keeps I0.bk) hcode (TB.code.keeps I0.bk) hP' ht hc bP fun ctv doc h' tk hx hsz => ?_
    have nf : H0 h'.objs.size = none := I0.hok.fresh hsz
    refine ⟨.ref h'.objs.size, _, I0.laid (t' := tk) (a := h'.objs.size) (h' := h'.push (dobj (X.env.qual ++ "<lambda>") params body scope (cloFrom X.env.cells scope.names []) D doc ((X.mg "__name__").getD .none) c' ctv)) (o := FnO h'.objs.size (dobj (X.env.qual ++ "<lambda>") params body scope (cloFrom X.env.cells scope.names []) D doc ((X.mg "__name__").getD .none) c' ctv)) (fun b o e => Heap.get?_push_of_some _ (hx b o e)) hsz (fnO_ok (Heap.get?_push_size _ rfl)), rfl, ?_⟩
    exact h _ _ (hE0.trans (extN_new nf)) (tabs_new hT0 nf) ⟨c', D, _, doc, _, ctv, upd_same, extN_new nf _ _ hDH fnO_ne, extN_new nf _ _ hco LamX.codeO_ne⟩
end
/-! ### such a lambda is called -/
/-- known at (s, H), the function object at f runs, wherever X's frame waits; c' its code object -/
def Runs (X : Cx) (σ : L2.St) (H : Hp) (s : Shared) (k : Nat) (f c' : Addr) (t : XK → TE) : Prop :=
  ∀ {A : Around} {outer : List Env} {s1 : Shared} {HZ : Hp} {E : XK} {Q : VK}, Room (k + 1) A → Env0 X.prog X.w X.K X.mg X.base A outer s1 HZ → Un (frs X.stack) [] H HZ s.heap s1.heap → HZ c' = some (LamX.CodeO c' (X.env.qual ++ "<lambda>")) → t E σ HZ Q →
    PySem.W.FnAt f s1.heap ∧ codeAny (model X.prog X.w) A (.call (.ref f) ⟨[], []⟩) (CR (L2N.CX X.prog X.w) outer X.prog X.w HZ s1 Q E) s1
section
variable {X : Cx} {pins : List (Addr × Obj)} {σ : L2.St} {H : Hp} {s : Shared}
theorem runsP {params : Arguments} {body : Expr} {scope : Scope} {k : Nat} {t : XK → TE} {f : Addr} (I : Inv X pins σ H s) (L : LamX.LamS X.env.scope scope) (hL : LamP X params body scope H f)
    (hbind : ∀ (q : Str) (cl : List (Str × Addr)) (pm cv ctv : Value), bindArgs (PySem.W.kla_fn "<lambda>" q params body scope cl pm cv ctv) ⟨[], []⟩ = pure [])
    (hbody : ∀ (A : Around) (outer : List Env) (s : Shared) (H : Hp) (E : XK) (f c' : Addr), Room k (A.deeper (LamX.lamEnv X scope s.heap.objs.size f c')) → PE (lamN X A outer s H E scope f c') body (t E)) :
    ∃ c', H c' = some (LamX.CodeO c' (X.env.qual ++ "<lambda>")) ∧ Runs X σ H s k f c' t := by
  obtain ⟨c', pm, ctv, hf, hc0⟩ := hL
  refine ⟨c', hc0, fun {A outer s1 HZ E Q} hr e0 un hc ht => ?_⟩
  have of1 := fnO_at e0.hok (un.frzs _ _ _ hf)
  refine ⟨⟨_, _, _, _, of1⟩, ?_⟩
  obtain ⟨⟨oc, vs, t', hoc, hdc, hvc⟩, _, _⟩ := e0.hok c' _ hc
  have lim : s1.heap.NoLimit := e0.mod.nolimit.keeps fun b o e => (e0.bs b o e).1
  refine PySem.W.kla_callFunE hr.depth of1 rfl L.co L.gen rfl ⟨c', oc, vs, t', rfl, hoc, hdc, hvc⟩ ?_
  rw [hbind]
  refine wpAny_pure (wpAny_newFunctionEnv (fun y hy => (L.own y hy).2) (fun y hy => absurd hy (by simp)) (fun h1 hns hsb => ⟨lim.fresh _ hsb, ?_⟩) L.kind)
  show codeAny _ _ (.expr body (LamX.lamEnv X scope s1.heap.objs.size f c')) _ _
  have J0 := LamX.lam_start2 (E := fun _ _ _ => False) (f := f) (c' := c') (tk := s1.toks + ([] : List (Str × Value)).length) I L e0 hr.hd un hns fun b o e => hsb.extBut b o (Nat.ne_of_lt (Heap.lt_size e)) (Heap.get?_push_of_some _ e)
  have J : Inv (lamN X A outer s1 HZ E scope f c') [] σ HZ _ := J0.toTry _
  refine PySem.W.kla_codeExpr (wpAny_mono ((hbody _ _ s1 HZ _ _ _ (hr.deeper _)).run [] _ _ HZ Q J ht) (fun v s' ⟨v', H', J', rv, q⟩ => ⟨v', H', J'.os, J'.bare, J'.base, J'.hok, rv, q⟩) fun _ _ hq => hq)
theorem runsQ {params : Arguments} {body : Expr} {scope : Scope} {a0 : Str} {k : Nat} {t : XK → TE} {f : Addr} (I : Inv X pins σ H s) (L : LamD X.env.scope scope a0) (hNa : a0 ∉ X.N) (hL : LamQ X params body scope H f)
    (hbind : ∀ (q : Str) (cl : List (Str × Addr)) (D : Addr) (v0 doc pm cv ctv : Value), ∃ k, bindArgs (dfn q params body scope cl D doc pm cv ctv) ⟨[], []⟩ = seqItems? (.ref D) >>= k ∧ k (some #[v0]) = pure [(a0, v0)])
    (hbody : ∀ (A : Around) (outer : List Env) (s : Shared) (H : Hp) (E : XK) (f c' : Addr), Room k (A.deeper (LamX.lamEnv X scope s.heap.objs.size f c')) → PE (lamN X A outer s H E scope f c') body (t E)) :
    ∃ c', H c' = some (LamX.CodeO c' (X.env.qual ++ "<lambda>")) ∧ Runs X σ H s k f c' t := by
  obtain ⟨c', D, v0, doc, pm, ctv, hf, hD, hc0⟩ := hL
  refine ⟨c', hc0, fun {A outer s1 HZ E Q} hr e0 un hc ht => ?_⟩
  have of1 := fnO_at e0.hok (un.frzs _ _ _ hf)
  refine ⟨⟨_, _, _, _, of1⟩, ?_⟩
  obtain ⟨⟨oc, vs, t', hoc, hdc, hvc⟩, _, _⟩ := e0.hok c' _ hc
  have lim : s1.heap.NoLimit := e0.mod.nolimit.keeps fun b o e => (e0.bs b o e).1
  refine PySem.W.kla_callFunE hr.depth of1 rfl L.co L.gen rfl ⟨c', oc, vs, t', rfl, hoc, hdc, hvc⟩ ?_
  obtain ⟨kb, hb1, hb2⟩ := hbind (X.env.qual ++ "<lambda>") (cloFrom X.env.cells scope.names []) D v0 doc pm (.ref c') ctv
  rw [hb1]
  refine wpAny_bind (wpAny_seqItems (fnO_at e0.hok (un.frzs _ _ _ hD)) rfl ?_)
  rw [hb2]
  refine wpAny_pure (wpAny_newFunctionEnv (fun y hy => L.cell y hy) (fun y hy => by rw [List.mem_singleton.mp hy]; exact L.par) (fun h1 hns hsb => ⟨lim.fresh _ hsb, ?_⟩) L.kind)
  show codeAny _ _ (.expr body (LamX.lamEnv X scope s1.heap.objs.size f c')) _ _
  have J0 := lam_startD (E := fun _ _ _ => False) (f := f) (c' := c') (va := v0) (tk := s1.toks + ([(a0, v0)] : List (Str × Value)).length) I L hNa e0 hr.hd un hns fun b o e => hsb.extBut b o (Nat.ne_of_lt (Heap.lt_size e)) (Heap.get?_push_of_some _ e)
  have J : Inv (lamN X A outer s1 HZ E scope f c') [] σ HZ _ := J0.toTry _
  refine PySem.W.kla_codeExpr (wpAny_mono ((hbody _ _ s1 HZ _ _ _ (hr.deeper _)).run [] _ _ HZ Q J ht) (fun v s' ⟨v', H', J', rv, q⟩ => ⟨v', H', J'.os, J'.bare, J'.base, J'.hok, rv, q⟩) fun _ _ hq => hq)
/-- a() in a def that was entered at s0 -/
theorem pe_actR {Ng : List Str} {qg : Str} {sg : Scope} {g f c' : Addr} {cdg : Value} {k : Nat} {a : Str} {pn : List (Addr × Obj)} {xe : Value → Shared → Prop} {W : WX} {t : XK → TE} {p1 p2 : Pos} {A0 : Around} {outer0 : List Env} {s0 : Shared} {H0 : Hp}
    (R : Runs X σ H s k f c' t) (far : Un (frs X.stack) [] H H0 s.heap s0.heap) (sub : ∀ c ∈ frs outer0, c ∈ frs X.stack ∨ s.heap.get? c = none)
    (tk : L2N.Takes ((cxOf CX0 X.prog X.w X.K X.mg X.base Ng qg sg g cdg A0 outer0 s0 H0 E0).tr pn xe) W) (hr : Room (k + 1) (A0.deeper (envOfC qg sg s0.heap.objs.size g cdg)))
    (hN : Ng[0]? = some a) (hv : Vis sg a) (hd : (a == ("__debug__" : Str)) = false) (hcd : (a == ("__classdict__" : Str)) = false) :
    PE ((cxOf CX0 X.prog X.w X.K X.mg X.base Ng qg sg g cdg A0 outer0 s0 H0 E0).tr pn xe) (.Call (.Name a p1) [] [] p2)
      (fun σZ HZ Q => σZ[0]? = some (some (.ref f)) ∧ HZ c' = some (LamX.CodeO c' (X.env.qual ++ "<lambda>")) ∧ t (fun cls d H' => W cls d σZ H') σ HZ Q) := by
  refine ⟨fun pinsZ sZ σZ HZ Q IZ h => ?_⟩
  obtain ⟨hs, hc, ht⟩ := h
  refine wpAny_Call_Name_kw (thn ((pe_var (pos := p1) (i := 0) hN hv hd hcd).run pinsZ sZ σZ HZ (fun v H1 => v = .ref f ∧ H1 = HZ) IZ ⟨.ref f, hs, rfl, rfl⟩) fun u s1 got => ?_)
  obtain ⟨v, H1, I1, r1, rfl, eH⟩ := got
  rw [eH] at I1
  obtain rfl : u = Value.ref f := r1
  obtain ⟨of1, run⟩ := R hr I1.env0 (un_over far I1.base sub) hc ht
  refine PySem.W.callWith_F0 of1 ?_
  refine wpAny_call (codeAny_mono run fun res s' hq => ?_)
  cases res with
  | error e => exact L2N.passAt tk σZ pinsZ HZ s1 e s' I1 hq
  | ok fl =>
    cases fl with
    | ret u => exact I1.after hq
    | next => exact False.elim hq
    | brk => exact False.elim hq
    | cont => exact False.elim hq
/-- what the call of a kept lambda reads: its name's slot, what is known of it, what x makes of it -/
def tCallK (K : PySem.W.Frag) (i : Nat) (Lam : Hp → Addr → Prop) (TT : (XK → Hp → VK → Prop) → Hp → VK → Prop) (tl : XK → Hp → VK → Prop) : TE := fun σb Hb Q =>
  ∃ f, σb[i]? = some (some (.ref f)) ∧ Lam Hb f ∧ TT tl Hb (fun v H' => ∃ p xs, v = .ref p ∧ SqT K H' p xs ∧ 1 < xs.length ∧ xs.length < 1000 ∧ ∀ l, H' l = none → Q (.ref l) (upd H' l (.tup (xs.drop 1))))
def tOr2 (t1 t2 : TE) : TE := fun σ H Q => t1 σ H Q ∨ t2 σ H Q
/-- x(name) within a comprehension: the name holds a kept lambda; x hands it on (return y(b)[1:]) -/
theorem pe_callK {TT : (XK → Hp → VK → Prop) → Hp → VK → Prop} {x a y b nm : Str} {g gy : Addr} {k i : Nat} {fd fdy : FuncData} {st sty : Stmt} {Ng Ny : List Str} {t : XK → TE} {Lam : Hp → Addr → Prop} {p q pos : Pos} {s0 : Shared} {scope : Scope} {ce : Env} {fp : List Addr} {xe : Value → Shared → Prop}
    (I0 : Inv X pins σ H s0) (f0 : ∀ b ∈ fp, FpOk X pins H b)
    (F : Fun X.K x x st g fd) (hg : Gl (blkE X s0 H scope ce fp xe) x) (hm : X.mg x = some (.ref g)) (hb : L2.Binds X.K fd [a] []) (Sg : FnScope Ng [a] (defScope st)) (hNg : Ng[0]? = some a) (hva : Vis (defScope st) a)
    (Fy : Fun X.K y y sty gy fdy) (hgy : (defScope st).names.lookup y = some .globalImplicit) (hmy : X.mg y = some (.ref gy)) (hby : L2.Binds X.K fdy [b] []) (Sy : FnScope Ny [b] (defScope sty)) (hNy : Ny[0]? = some b) (hvb : Vis (defScope sty) b)
    (hG : Takes1 X k Ny y sty gy b (X.env.qual ++ "<lambda>") TT)
    (hrest : ∀ (cdg : Value) (f c' : Addr) (A0 : Around) (outer0 : List Env) (s0 : Shared) (H0 : Hp) (Q : VK) (tl : XK → Hp → VK → Prop),
      (∀ (q1 q2 q3 : Pos), PE (cxOf CX0 X.prog X.w X.K X.mg X.base Ng x (defScope st) g cdg A0 outer0 s0 H0 E0).nox (.Call (.Name y q1) [.Name a q2] [] q3) (fun σZ HZ Q => σZ[0]? = some (some (.ref f)) ∧ HZ c' = some (LamX.CodeO c' (X.env.qual ++ "<lambda>")) ∧ TT tl HZ Q)) →
      H0 c' = some (LamX.CodeO c' (X.env.qual ++ "<lambda>")) → TT tl H0 (fun v H' => ∃ p xs, v = .ref p ∧ SqT X.K H' p xs ∧ 1 < xs.length ∧ xs.length < 1000 ∧ ∀ l, H' l = none → Q (.ref l) (upd H' l (.tup (xs.drop 1)))) →
      ∃ t, PSs (cxOf CX0 X.prog X.w X.K X.mg X.base Ng x (defScope st) g cdg A0 outer0 s0 H0 E0).nox (defBody st) t ∧ t { nx := fun _ H' => Q .non H', rt := Q } (L2.start Ng [.ref f]) H0)
    (hr : Room (k + 3) X.A) (hR : ∀ (pins : List (Addr × Obj)) (H : Hp) (s : Shared) (f : Addr), Inv X pins σ H s → Lam H f → ∃ c', H c' = some (LamX.CodeO c' (X.env.qual ++ "<lambda>")) ∧ Runs X σ H s k f c' t)
    (hnm : X.N[i]? = some nm) (hvn : Vis ce.scope nm)
    (hdb : (x == ("__debug__" : Str)) = false := by decide) (hda : (a == ("__debug__" : Str)) = false := by decide) (hca : (a == ("__classdict__" : Str)) = false := by decide) (hdy : (y == ("__debug__" : Str)) = false := by decide) (hd : (b == ("__debug__" : Str)) = false := by decide) (hcd : (b == ("__classdict__" : Str)) = false := by decide) (hn1 : (nm == ("__debug__" : Str)) = false := by decide) (hn2 : (nm == ("__classdict__" : Str)) = false := by decide) :
    PE (blkE X s0 H scope ce fp xe) (.Call (.Name x p) [.Name nm q] [] pos)
      (tCallK X.K i Lam TT (fun E H' Q' => t E σ H' Q')) := by
  obtain ⟨oc, od, kV, doc, pm, an, cdv, ct, osl, rfl, lk, hcg⟩ := F.ex
  obtain ⟨ocy, ody, kVy, docy, pmy, any, cdvy, cty, osly, rfl, lky, hcgy⟩ := Fy.ex
  refine ⟨fun pinsB s σb Hb Q I h => ?_⟩
  obtain ⟨f, hsf, hLam, h⟩ := h
  refine wpAny_Call_Name_kw (ld_glob I hg hm ?_ hdb)
  refine PySem.W.callWith_K (h₀ := X.base) I.ok.mod.kin F.kp ?_ (by rfl) (by rfl)
  refine thn ((pa_cons (pe_var (X := blkE X s0 H scope ce fp xe) (pos := q) (i := i) hnm hvn hn1 hn2) pa_nil).run pos pinsB s σb Hb (fun vs H2 => vs = [.ref f] ∧ H2 = Hb) I ⟨.ref f, hsf, rfl, rfl⟩) fun us s' got => ?_
  obtain ⟨vs2, H2, I1, r2, rfl, eH⟩ := got
  rw [eH] at I1
  obtain rfl : us = [Value.ref f] := by
    cases r2 with
    | cons q1' q2' => cases q2'; cases q1'; rfl
  refine ⟨I1.kIn, ?_⟩
  -- the law's frame at this very state
  have IX : Inv X pins σ Hb s' := I0.call' (ch := fp) I1.os I1.base I1.hok I1.bare fun b hb => ⟨(f0 b hb).2.2.2.1, (f0 b hb).2.1, (f0 b hb).2.2.2.2.1, (f0 b hb).2.2.2.2.2⟩
  obtain ⟨c', hco, R⟩ := hR pins Hb s' f IX hLam
  have rc : codeAny (model X.prog X.w) X.A (.call (.ref g) ⟨[.ref f], []⟩) (CR CX0 X.stack X.prog X.w Hb s' Q E0) s' := by
    refine LamX.run_ofS (k := k + 2) (N := Ng) (ps := [a]) (us := [.ref f]) (vs := [.ref f]) lk hcg Sg hr IX.env0 (hb s' [.ref f] IX.kIn rfl) (.cons rfl .nil) rfl fun hr' => ?_
    have callY : ∀ (q1 q2 q3 : Pos), PE (cxOf CX0 X.prog X.w X.K X.mg X.base Ng x (defScope st) g cdv X.A X.stack s' Hb E0).nox (.Call (.Name y q1) [.Name a q2] [] q3) (fun σZ HZ Q => σZ[0]? = some (some (.ref f)) ∧ HZ c' = some (LamX.CodeO c' (X.env.qual ++ "<lambda>")) ∧ TT (fun E H' Q' => t E σ H' Q') HZ Q) := by
      refine fun q1 q2 q3 => ⟨fun pinsZ sZ σZ HZ QZ IZ hz => ?_⟩
      obtain ⟨z1, z2, z3⟩ := hz
      refine wpAny_Call_Name_kw (ld_glob IZ hgy hmy ?_ hdy)
      refine PySem.W.callWith_K (h₀ := X.base) IZ.ok.mod.kin Fy.kp ?_ (by rfl) (by rfl)
      refine thn ((pa_cons (pe_var (pos := q2) (i := 0) hNg hva hda hca) pa_nil).run q3 pinsZ sZ σZ HZ (fun vs H2 => vs = [.ref f] ∧ H2 = HZ) IZ ⟨.ref f, z1, rfl, rfl⟩) fun us s2 got => ?_
      obtain ⟨vs2, H2, I2, r2, rfl, eH⟩ := got
      rw [eH] at I2
      obtain rfl : us = [Value.ref f] := by
        cases r2 with
        | cons q1' q2' => cases q2'; cases q1'; rfl
      refine ⟨I2.kIn, ?_⟩
      have ry : codeAny (model X.prog X.w) (X.A.deeper (envOfC x (defScope st) s'.heap.objs.size g cdv)) (.call (.ref gy) ⟨[.ref f], []⟩) (CR CX0 (envOfC x (defScope st) s'.heap.objs.size g cdv :: X.stack) X.prog X.w HZ s2 QZ E0) s2 := by
        refine LamX.run_ofS (k := k + 1) (N := Ny) (ps := [b]) (us := [.ref f]) (vs := [.ref f]) lky hcgy Sy hr' I2.env0 (hby s2 [.ref f] I2.kIn rfl) (.cons rfl .nil) rfl fun hr2 => ?_
        have sub : ∀ c0 ∈ frs (envOfC x (defScope st) s'.heap.objs.size g cdv :: X.stack), c0 ∈ frs X.stack ∨ s'.heap.get? c0 = none := fun c0 hc0 => by
          obtain ⟨ev, hev, e1⟩ := List.mem_filterMap.mp hc0
          rcases List.mem_cons.mp hev with rfl | hin
          · have : s'.heap.objs.size = c0 := Option.some.inj e1
            right
            cases hq : s'.heap.get? c0 with
            | none => rfl
            | some o => exact absurd (Heap.lt_size hq) (by rw [← this]; exact Nat.lt_irrefl _)
          · exact .inl (List.mem_filterMap.mpr ⟨ev, hin, e1⟩)
        have act : Acts X Ny y (defScope sty) gy cdvy b (X.env.qual ++ "<lambda>") f c' (X.A.deeper (envOfC x (defScope st) s'.heap.objs.size g cdv)) (envOfC x (defScope st) s'.heap.objs.size g cdv :: X.stack) s2 HZ (fun E H' Q' => t E σ H' Q') := fun W pn xe p1 p2 tk =>
          pe_actR R I2.base sub tk hr2 hNy hvb hd hcd
        obtain ⟨t2, ht2, hq2⟩ := hG cdvy f c' _ _ s2 HZ QZ _ hr2 act z2 z3
        exact ⟨t2, ht2.nox, hq2⟩
      refine wpAny_call (codeAny_mono ry fun res s3 hq => ?_)
      cases res with
      | error e => exact (show False from hq).elim
      | ok fl =>
        cases fl with
        | ret u => exact I2.after hq
        | next => exact False.elim hq
        | brk => exact False.elim hq
        | cont => exact False.elim hq
    obtain ⟨t', ht', hq'⟩ := hrest cdv f c' X.A X.stack s' Hb Q (fun E H' Q' => t E σ H' Q') callY hco h
    exact ⟨t', ht'.nox, hq'⟩
  refine wpAny_call (codeAny_mono rc fun res s2 hq => ?_)
  cases res with
  | error e => exact (show False from hq).elim
  | ok fl =>
    cases fl with
    | ret u => exact I1.after hq
    | next => exact False.elim hq
    | brk => exact False.elim hq
    | cont => exact False.elim hq
end
/-- a kept lambda: wherever X's frame stands later, it runs as t tells -/
def LamR (X : Cx) (k : Nat) (t : XK → TE) (H : Hp) (f : Addr) : Prop :=
  ∀ (H' : Hp), LamX.ExtN H H' → ∀ (pins : List (Addr × Obj)) (σ : L2.St) (s : Shared), Inv X pins σ H' s → ∃ c', H' c' = some (LamX.CodeO c' (X.env.qual ++ "<lambda>")) ∧ Runs X σ H' s k f c' t
theorem LamR.ext {X : Cx} {k : Nat} {t : XK → TE} {H H' : Hp} {f : Addr} (x : LamR X k t H f) (e : LamX.ExtN H H') : LamR X k t H' f := fun H2 e2 => x H2 (e.trans e2)
theorem LamR.imp {X : Cx} {k : Nat} {t t' : XK → TE} {H : Hp} {f : Addr} (x : LamR X k t H f) (h : ∀ E σ H Q, t' E σ H Q → t E σ H Q) : LamR X k t' H f := fun H2 e2 pins σ s I =>
  (x H2 e2 pins σ s I).elim fun c' z => ⟨c', z.1, fun hr e0 un hc ht => z.2 hr e0 un hc (h _ _ _ _ ht)⟩
section
variable {X : Cx}
theorem pe_lamPR {T : List (Addr × Str)} {c P : Addr} {params : Arguments} {body : Expr} {scope : Scope} {pos : Pos} {k : Nat} {t : XK → TE} (TB : LamX.TabB X.base X.mg c P) (hcode : X.env.code = .ref c)
    (hm : (P, X.env.qual ++ "<lambda>") ∈ T) (hu : ∀ p ∈ T, p.1 = P → p.2 = X.env.qual ++ "<lambda>") (L : LamX.LamS X.env.scope scope) (hdef : defaultsOf params X.env = ([], []))
    (hbind : ∀ (q : Str) (cl : List (Str × Addr)) (pm cv ctv : Value), bindArgs (PySem.W.kla_fn "<lambda>" q params body scope cl pm cv ctv) ⟨[], []⟩ = pure [])
    (hbody : ∀ (A : Around) (outer : List Env) (s : Shared) (H : Hp) (E : XK) (f c' : Addr), Room k (A.deeper (LamX.lamEnv X scope s.heap.objs.size f c')) → PE (lamN X A outer s H E scope f c') body (t E)) :
    PE X (.Lambda params body scope pos) (fun _ H Q => LamX.Tabs T H ∧ ∀ f H1, LamX.ExtN H H1 → LamX.Tabs T H1 → LamR X k t H1 f → Q (.ref f) H1) :=
  ⟨fun pins s σ H Q I h => (pe_lamP TB hcode hm hu L hdef).run pins s σ H Q I ⟨h.1, fun f H1 e t1 l => h.2 f H1 e t1 fun _ e' _ _ _ I' => runsP I' L (l.ext e') hbind hbody⟩⟩
theorem pe_lamQR {T : List (Addr × Str)} {c P : Addr} {params : Arguments} {body d : Expr} {n : Int} {a0 : Str} {scope : Scope} {pos : Pos} {k : Nat} {t : XK → TE} (TB : LamX.TabB X.base X.mg c P) (hcode : X.env.code = .ref c)
    (hm : (P, X.env.qual ++ "<lambda>") ∈ T) (hu : ∀ p ∈ T, p.1 = P → p.2 = X.env.qual ++ "<lambda>") (L : LamD X.env.scope scope a0) (hNa : a0 ∉ X.N) (hdf : params.defaults = [d]) (hk0 : params.kw_defaults = []) (hd : ∀ (s1 : Shared) (E : Value → Shared → Prop) (Q : Value → Shared → Prop), (∀ t tk, Q (.int n t) { s1 with toks := tk }) → wpAny (model X.prog X.w) X.A (eval d X.env) Q E s1)
    (hbind : ∀ (q : Str) (cl : List (Str × Addr)) (D : Addr) (v0 doc pm cv ctv : Value), ∃ k, bindArgs (dfn q params body scope cl D doc pm cv ctv) ⟨[], []⟩ = seqItems? (.ref D) >>= k ∧ k (some #[v0]) = pure [(a0, v0)])
    (hbody : ∀ (A : Around) (outer : List Env) (s : Shared) (H : Hp) (E : XK) (f c' : Addr), Room k (A.deeper (LamX.lamEnv X scope s.heap.objs.size f c')) → PE (lamN X A outer s H E scope f c') body (t E)) :
    PE X (.Lambda params body scope pos) (fun _ H Q => LamX.Tabs T H ∧ ∀ f H1, LamX.ExtN H H1 → LamX.Tabs T H1 → LamR X k t H1 f → Q (.ref f) H1) :=
  ⟨fun pins s σ H Q I h => (pe_lamQ TB hcode hm hu L hdf hk0 hd).run pins s σ H Q I ⟨h.1, fun f H1 e t1 l => h.2 f H1 e t1 fun _ e' _ _ _ I' => runsQ I' L hNa (l.ext e') hbind hbody⟩⟩
end
theorem pe_or {X : Cx} {e : Expr} {t1 t2 : TE} (h1 : PE X e t1) (h2 : PE X e t2) : PE X e (tOr2 t1 t2) :=
  ⟨fun pins s σ H Q I h => h.elim (fun h => h1.run pins s σ H Q I h) fun h => h2.run pins s σ H Q I h⟩
section
variable {X : Cx}
/-- [elt for target in iter if ..], the frame's own state at the start handed to the element -/
theorem pe_lcI {elt tg iter : Expr} {ifs : List Expr} {scope : Scope} {own : List (Str × Nat)} {pos : Pos} {wi : TI} {g : TG} {tt : TT} {te : L2.St → TE} (hc : X.calm = true) (hN : X.N.Nodup) 
    (hi : PI X tg iter wi) (ok : BlkOk X.N X.env.scope scope own)
    (hg : ∀ (s : Shared) (H : Hp) (C : Addr) (cl : List (Str × Addr)) (fp : List Addr), PG (X.blk s H scope (compEnvC scope cl C X.env) fp) tg g) (ht : ∀ (s : Shared) (H : Hp) (C : Addr) (cl : List (Str × Addr)) (fp : List Addr), PTs (X.blk s H scope (compEnvC scope cl C X.env) fp) ifs tt)
    (he : ∀ (s : Shared) (H : Hp) (C : Addr) (cl : List (Str × Addr)) (fp : List Addr) (xe : Value → Shared → Prop) (pins : List (Addr × Obj)) (σ : L2.St), Inv X pins σ H s → (∀ b ∈ fp, FpOk X pins H b) → PE (blkE X s H scope (compEnvC scope cl C X.env) fp xe) elt (te σ))
    (hs : ∀ x, foldedSetIterable iter X.env x = pure x := by intro _; rfl) :
    PE X (.ListComp elt [⟨tg, iter, ifs, 0⟩] scope pos) (fun σ H Q => tLc wi g tt (te σ) (own.map (·.2)) σ H Q) := by
  refine ⟨fun pins s σ H Q I h => ?_⟩
  rw [eval_ListComp]
  have hfree : ∀ y ∈ scope.names, y.2 = .free → ∃ c, X.env.cells.lookup y.1 = some c := fun y hy e =>
    (ok.free y hy e).elim (fun k => I.ok.has _ (.inl k)) fun k => I.ok.has _ (.inr k)
  refine comprehension_at (use := none) rfl hs (closure_ok hfree) ok.kind (fun y hy e => by rw [ok.uniq y hy, e]) (thn (hi.run pins s σ H _ I h) fun xv s1 hx => thn hx fun itv s2 h2 => ?_)
  obtain ⟨it, fp, tn, J, H2, rfl, I2, T, st2, f2, q⟩ := h2
  refine wpAny_newObj_type (newEnv_comp ?_) (by show 0 ≤ sizeLine; decide)
  obtain ⟨D, hD⟩ : ∃ D, D = s2.heap.objs.size := ⟨_, rfl⟩
  have hDn : H2 D = none := I2.hok.fresh (Nat.le_of_eq hD.symm)
  obtain ⟨W, ⟨m0, w0⟩, turn⟩ := q D hDn
  rw [← hD]
  obtain ⟨s3, hs3⟩ : ∃ s3 : Shared, s3 = { s2 with heap := s2.heap.push { cls := .type "list", data := .seq ([] : List Value).toArray } } := ⟨_, rfl⟩
  have h3 : s3.heap = s2.heap.push { cls := .type "list", data := .seq ([] : List Value).toArray } := by rw [hs3]
  have I3 : Inv X pins σ (upd H2 D (.lst [])) s3 := by
    rw [hs3]
    exact I2.laid (t' := s2.toks) (fun b o e => Heap.get?_push_of_some _ e) (Nat.le_of_eq hD.symm) ⟨Nat.zero_le _, [], 0, .nil, by rw [hD]; exact Heap.get?_push_size _ rfl⟩
  have f3 : ∀ b ∈ fp, FpOk X pins (upd H2 D (.lst [])) b ∧ b < s3.heap.objs.size := fun b hb => by
    obtain ⟨o, e, _⟩ := T.obj _ _ st2 b hb
    have hlt := Heap.lt_size e
    exact ⟨⟨by rw [upd_ne (by rw [hD]; exact Nat.ne_of_lt hlt)]; exact (f2 b hb).1, (f2 b hb).2⟩, by rw [h3, Heap.size_push]; exact Nat.lt_succ_of_lt hlt⟩
  have I4 := block_start I3 ok hN f3
  have st3 : tn 0 s3.heap := T.keep _ _ _ st2 fun b _ o e => by rw [h3]; exact Heap.get?_push_of_some _ e
  rw [← hs3]
  show codeAny _ _ (.compStart (.ListComp elt [⟨tg, iter, ifs, 0⟩] scope pos) 0 (.ref it) (.ref D) (compEnvC scope (cellsFrom (s3.heap.objs.size + 1) scope.names (cloFrom X.env.cells scope.names [])) s3.heap.objs.size X.env)) (compEnds (model X.prog X.w) X.A X.xe none _ (.ref D) (compEnvC scope (cellsFrom (s3.heap.objs.size + 1) scope.names (cloFrom X.env.cells scope.names [])) s3.heap.objs.size X.env)) { s3 with heap := pushCells (s3.heap.push { cls := .type "dict", data := .dict #[] }) scope.names }
  have pg := hg s3 (upd H2 D (.lst [])) s3.heap.objs.size (cellsFrom (s3.heap.objs.size + 1) scope.names (cloFrom X.env.cells scope.names [])) fp
  have pt := ht s3 (upd H2 D (.lst [])) s3.heap.objs.size (cellsFrom (s3.heap.objs.size + 1) scope.names (cloFrom X.env.cells scope.names [])) fp
  have pe := he s3 (upd H2 D (.lst [])) s3.heap.objs.size (cellsFrom (s3.heap.objs.size + 1) scope.names (cloFrom X.env.cells scope.names [])) fp (fun _ _ => False) pins σ I3 fun b hb => (f3 b hb).1
  have cL : (compEnvC scope (cellsFrom (s3.heap.objs.size + 1) scope.names (cloFrom X.env.cells scope.names [])) s3.heap.objs.size X.env).locals = s3.heap.objs.size := rfl
  have cF : (compEnvC scope (cellsFrom (s3.heap.objs.size + 1) scope.names (cloFrom X.env.cells scope.names [])) s3.heap.objs.size X.env).frame = X.env.frame := rfl
  generalize compEnvC scope (cellsFrom (s3.heap.objs.size + 1) scope.names (cloFrom X.env.cells scope.names [])) s3.heap.objs.size X.env = ce at I4 pg pt pe cL cF ⊢
  have nfp : ∀ b ∈ fp, (upd H2 D (.lst [])) b = none := fun b hb => (f3 b hb).1.1
  generalize upd H2 D (.lst []) = H3 at I3 I4 pg pt pe w0 nfp f3
  have st4 : tn 0 (pushCells (s3.heap.push { cls := .type "dict", data := .dict #[] }) scope.names) := T.keep _ _ _ st3 fun b _ o e => pushCells_keeps _ _ _ _ (Heap.get?_push_of_some _ e)
  generalize hs4 : ({ s3 with heap := pushCells (s3.heap.push { cls := .type "dict", data := .dict #[] }) scope.names } : Shared) = s4 at I4 ⊢
  have st4 : tn 0 s4.heap := by rw [← hs4]; exact st4
  have stat : ∀ {σ' : L2.St} {H' : Hp} {s' : Shared}, Inv (X.blk s3 H3 scope ce fp) [] σ' H' s' → (∀ b ∈ fp, H' b = none) → ∀ b ∈ fp, FpOk (X.blk s3 H3 scope ce fp) [] H' b := fun {σ' H' s'} I' hn b hb =>
    ⟨hn b hb, (I'.ok.exf b hb).1, I'.ok.exfs b hb, .inl hb, fun x c e => (I'.ok.exf b hb).2 x c e, fun p hp => absurd (show p ∈ ([] : List (Addr × Obj)) ++ [] from hp) (by simp)⟩
  have loop : codeAny (model X.prog X.w) X.A (.compLoop (.ListComp elt [⟨tg, iter, ifs, 0⟩] scope pos) 0 (.ref it) (.ref D) ce) (compEnds (model X.prog X.w) X.A X.xe none (EP X pins σ Q) (.ref D) ce) s4 := by
    refine compLoop_any (fun n s' => ∃ i H', Inv (X.blk s3 H3 scope ce fp) [] (wipe σ (own.map (·.2))) H' s' ∧ tn i s'.heap ∧ (∀ b ∈ fp, H' b = none) ∧ W i n H') ?_ m0 ⟨0, H3, I4, st4, nfp, w0⟩
    rintro n s5 ⟨i, H5, I5, st5, n5, w5⟩
    rcases turn i n H5 w5 with ⟨stop, qq⟩ | ⟨go, Nx, hNx, step⟩
    · refine thnF (T.done (X.blk s3 H3 scope ce fp) rfl rfl rfl hc i [] s5 _ H5 (fun _ _ => False) I5 (stat I5 n5) st5 stop) fun r s6 ⟨hr, I6⟩ => ?_
      subst hr
      have I7 : Inv X pins σ H5 s6 := I3.call' (ch := fp) I6.os I6.base I6.hok I6.bare fun b hb => ⟨(f3 b hb).1.2.2.2.1, (f3 b hb).1.2.1, (f3 b hb).1.2.2.2.2.1, (f3 b hb).1.2.2.2.2.2⟩
      have nC : H5 ce.locals = none := I6.free
      obtain ⟨m, hn, _⟩ := I6.loc
      obtain ⟨f0, f1, f2', f3', f4, f5⟩ := I3.fpOk (H' := H5) (b := ce.locals) (by rw [cL]; exact Nat.le_refl _) nC
      exact ⟨m, hn, fun h'' sb => ⟨.ref D, H5, I7.turned (t' := s6.toks) (fun b o hb e => (sb.2 b hb).trans e) f0 f1 f3' f4 f5, rfl, qq⟩⟩
    · refine thnF (T.item (X.blk s3 H3 scope ce fp) rfl rfl rfl hc i [] s5 _ H5 (fun _ _ => False) I5 (stat I5 n5) st5 go) fun r s6 ⟨u, hr, h6⟩ => ?_
      subst hr
      refine thnF h6 fun _ s7 ⟨x, H7, I7, r7, y7, st7, n7⟩ => ?_
      have I7' := I7.pinned (stat I7 n7) (T.obj _ _ st7)
      refine thnF (pg.run _ s7 _ H7 x u _ I7' r7 (step x H7 y7)) fun _ s8 ⟨σ8, H8, I8, hw8, q8⟩ => ?_
      refine thnF (pt.run _ s8 σ8 H8 _ I8 q8) fun b s9 ⟨H9, I9, q9⟩ => ?_
      have fin : ∀ {s' : Shared} {H' : Hp}, Inv (X.blk s3 H3 scope ce fp) ([] ++ pinsAt fp s7.heap) σ8 H' s' → Nx H' → ∃ m, m < n ∧ ∃ i H', Inv (X.blk s3 H3 scope ce fp) [] (wipe σ (own.map (·.2))) H' s' ∧ tn i s'.heap ∧ (∀ b ∈ fp, H' b = none) ∧ W i m H' := fun {s' H'} I' nx => by
        obtain ⟨m', hm, w'⟩ := hNx H' nx
        have pin' : ∀ b ∈ fp, ∀ o, s7.heap.get? b = some o → s'.heap.get? b = some o ∧ H' b = none := fun b hb o e =>
          let z := I'.pin (b, o) (List.mem_append_right _ (List.mem_append_right _ (mem_pinsAt hb e)))
          ⟨z.1, z.2.1⟩
        refine ⟨m', hm, i + 1, H', (I'.unpinned (pins := [])).weak (by rw [← hw8, wipe_length]) (fun j v e => ?_), T.keep _ _ _ st7 fun b hb o e => (pin' b hb o e).1, fun b hb => ?_, w'⟩
        · rw [← hw8] at e
          exact (wipe_some e).1
        · obtain ⟨o, e, _⟩ := T.obj _ _ st7 b hb
          exact (pin' b hb o e).2
      cases b with
      | false =>
        simp only [Bool.false_eq_true, if_false] at q9 ⊢
        exact fin I9 q9
      | true =>
        simp only [if_true] at q9 ⊢
        refine wpAny_mono (pe.run _ s9 σ8 H9 _ (inv_xe (X := X.blk s3 H3 scope ce fp) I9) q9) (fun z s10 hz => ?_) fun u s' hx => hx.elim
        obtain ⟨yv, H10, I10, r10, acc, hD10, hz10, nx⟩ := hz
        exact app_ok (X := X.blk s3 H3 scope ce fp) (inv_xe (X := X.blk s3 H3 scope ce fp) I10) hD10 hz10 r10 fun s11 I11 => fin I11 nx
  exact codeAny_compStart_list loop (T.self X.A 0 _ _ _ st4 loop)
end
end EPL
namespace EP
open PySem PySem.Spec PyProof.Rows L2 EPX
section
variable {P : Program} {w : World} {K : PySem.W.Frag} {mg : Str → Option Value} {base : Heap}
theorem tout_mono {ok : Value → Option Addr → Hp → V → V → Prop} {tl : XK → Hp → VK → Prop} {H : Hp} {Q Q' : VK} (h : TOut ok tl H Q) (k : ∀ v H', Q v H' → Q' v H') : TOut ok tl H Q' :=
  fun E Qn H1 s hE hQ => h E Qn H1 s (fun cls d H' ⟨tag, v, o, z⟩ => hE cls d H' ⟨tag, v, o, fun p H2 a b => k _ _ (z p H2 a b)⟩) (fun v H' z => hQ v H' fun p H2 a b => k _ _ (z p H2 a b))
theorem cut1 {xs : List V} (h : 1 < xs.length) : cutV xs (some 1) none = xs.drop 1 := by
  unfold cutV
  rw [HT.sIx_none, show HT.sIx xs.length 0 (some 1) = min 1 xs.length from HT.sIx_nat _ _ 1, Nat.min_eq_left (by omega), List.take_of_length_le]
  rw [List.length_drop]; omega
theorem ok_l_error (T : Txt K mg) {X : Cx} {q : Str} {ok : Value → Option Addr → Hp → V → V → Prop} (hK : X.K = K) (hm : X.mg = mg) (cdg : Value) (f c' : Addr) (A0 : Around) (outer0 : List Env) (s0 : Shared) (H0 : Hp) (Q : VK) (tl : XK → Hp → VK → Prop)
    (callY : ∀ (q1 q2 q3 : Pos), PE (cxOf CX0 X.prog X.w X.K X.mg X.base N_l_error "_law_error" (defScope s_l_error) T.f_l_error cdg A0 outer0 s0 H0 E0).nox (.Call (.Name "_law_outcome" q1) [.Name "_law_ask" q2] [] q3) (fun σZ HZ Q => σZ[0]? = some (some (.ref f)) ∧ HZ c' = some (LamX.CodeO c' q) ∧ TOut ok tl HZ Q))
    (hc : H0 c' = some (LamX.CodeO c' q)) (h : TOut ok tl H0 (fun v H' => ∃ p xs, v = .ref p ∧ SqT X.K H' p xs ∧ 1 < xs.length ∧ xs.length < 1000 ∧ ∀ l, H' l = none → Q (.ref l) (upd H' l (.tup (xs.drop 1))))) :
    ∃ t, PSs (cxOf CX0 X.prog X.w X.K X.mg X.base N_l_error "_law_error" (defScope s_l_error) T.f_l_error cdg A0 outer0 s0 H0 E0).nox (defBody s_l_error) t ∧ t { nx := fun _ H' => Q .non H', rt := Q } (L2.start N_l_error [.ref f]) H0 := by
  refine ⟨_, pss_one (ps_ret (pe_slice sl_tup (callY _ _ _) (po_some pe_int) po_none)), ?_⟩
  refine ⟨rfl, hc, tout_mono h fun v H' hh => ?_⟩
  obtain ⟨p, xs, rfl, hx, h1, _, k⟩ := hh
  refine ⟨1, rfl, p, xs, rfl, hx, fun z => ?_, fun l nl => ?_⟩
  · have := z.1
    rw [show HT.sIx xs.length 0 (some 1) = min 1 xs.length from HT.sIx_nat _ _ 1] at this
    omega
  · rw [cut1 h1]; exact k l nl
/-- what a kept lambda gives: an answer, or the error that is due -/
def tA1 (T : Txt K mg) (Y : Tb T base) : XK → TE := fun E σ H Q => ∃ (v vm : V) (pl P : Rat) (xs : Sps) (m : Rat), σ[9]? = some (some v) ∧ σ[10]? = some (some vm) ∧ Dp K H v (dG pl P xs) ∧ Dp K H vm (dq m) ∧ Bq 5 m ∧ Bq 100 P ∧ (∀ x ∈ xs, Bq 100 x.1 ∧ Bq 100 x.2) ∧ xs.length < 900 ∧ Tbs Y.TT H ∧
  ((GV P xs ∧ ∀ v' H', Xt H H' → Tbs Y.TT H' → Q v' H') ∨ (gateB P xs = false ∧ EI T 0 E H))
def tA2 (T : Txt K mg) (Y : Tb T base) : XK → TE := fun E σ H Q => ∃ (v vm : V) (pl P : Rat) (xs : Sps) (m : Rat), σ[9]? = some (some v) ∧ σ[10]? = some (some vm) ∧ Dp K H v (dG pl P xs) ∧ Dp K H vm (dq m) ∧ Bq 5 m ∧ Bq 100 P ∧ (∀ x ∈ xs, Bq 100 x.1 ∧ Bq 100 x.2) ∧ xs.length < 900 ∧ Tbs Y.TT H ∧
  ((GV P xs ∧ 0 < xs.length ∧ ∀ v' H', Xt H H' → Tbs Y.TT H' → Q v' H') ∨ (GV P xs ∧ xs = [] ∧ EN T pl E H) ∨ (gateB P xs = false ∧ EI T 0 E H))
def dDue (b : Bool) : PyData := if b then .tuple [.str "", .none] else .tuple [.str "InvalidGate", .int 0]
def dBare (pl : Rat) (b : Bool) (xs : Sps) : PyData := if b = true ∧ xs = [] then .tuple [.str "NotBarring", dq pl] else dDue b
theorem noL_due (b : Bool) : noL (dDue b) = true := by cases b <;> rfl
theorem noL_bare (pl : Rat) (b : Bool) (xs : Sps) : noL (dBare pl b xs) = true := by
  unfold dBare
  split
  · simp only [noL, noLs, noL_dq, Bool.and_self]
  · exact noL_due b
theorem dep_dG (pl P : Rat) (xs : Sps) : dep (dG pl P xs) ≤ 4 := by
  have h : ∀ xs : Sps, deps (xs.map dsp) ≤ 2 := by
    intro xs
    induction xs with
    | nil => simp [deps]
    | cons x xs ih => simp only [List.map_cons, deps, dsp, dq, dep]; omega
  have := h xs
  simp only [dG, dep, deps, dq]; omega
theorem wd_dG (pl P : Rat) {xs : Sps} (hl : xs.length ≤ 6) : wd (dG pl P xs) < 1000000 := by
  have h : ∀ xs : Sps, wds (xs.map dsp) ≤ 2 := by
    intro xs
    induction xs with
    | nil => simp [wds]
    | cons x xs ih => simp only [List.map_cons, wds, dsp, dq, wd, List.length_cons, List.length_nil]; omega
  have := h xs
  simp only [dG, wd, wds, dq, List.length_map, List.length_cons, List.length_nil]; omega
theorem dep_asks (pl : Rat) (b : Bool) (xs : Sps) : dep (.list [dDue b, dDue b, dDue b, dDue b, dBare pl b xs, dBare pl b xs]) < 7 ∧ wd (.list [dDue b, dDue b, dDue b, dDue b, dBare pl b xs, dBare pl b xs]) < 1000000 := by
  unfold dBare
  split <;> cases b <;> simp [dDue, dq, dep, deps, wd, wds]
theorem lf_pos {P : Rat} {xs : Sps} (h : 0 < xs.length) : 0 < (lfQ P xs).2.length := by
  unfold lfQ
  rw [if_neg (by omega)]
  cases hf : (List.range' 1 (xs.length - 1)).find? (hitB P xs) with
  | none => exact h
  | some d =>
    have h2 := List.mem_range'_1.mp (List.mem_of_find?_eq_some hf)
    show 0 < (xs.take d).length
    rw [List.length_take]; omega
theorem gateB_ff {P : Rat} {xs : Sps} (h : ¬ GV P xs) : gateB P xs = false := by
  cases e : gateB P xs with
  | true => exact absurd (gv_of e) h
  | false => rfl
/-- what the law has at hand of the gate and the moment -/
structure Hd (T : Txt K mg) (Y : Tb T base) (v vm : V) (pl P : Rat) (xs : Sps) (m : Rat) (H : Hp) : Prop where
  fv : Dp K H v (dG pl P xs)
  fm : Dp K H vm (dq m)
  t : Tbs Y.TT H
  bm : Bq 5 m
  bP : Bq 100 P
  bx : ∀ x ∈ xs, Bq 100 x.1 ∧ Bq 100 x.2
  l : xs.length < 900
theorem Hd.xt {T : Txt K mg} {Y : Tb T base} {v vm : V} {pl P : Rat} {xs : Sps} {m : Rat} {H H' : Hp} (h : Hd T Y v vm pl P xs m H) (e : Xt H H') (t : Tbs Y.TT H') : Hd T Y v vm pl P xs m H' := ⟨DpX e h.fv, DpX e h.fm, t, h.bm, h.bP, h.bx, h.l⟩
theorem Hd.same {T : Txt K mg} {Y : Tb T base} {v vm : V} {pl P : Rat} {xs : Sps} {m : Rat} {H H' : Hp} (h : Hd T Y v vm pl P xs m H) (s : Same H H') : Hd T Y v vm pl P xs m H' := h.xt s.xt (h.t.same s)
theorem ask1 {T : Txt K mg} {Y : Tb T base} {v vm : V} {pl P : Rat} {xs : Sps} {m : Rat} {H : Hp} {σ : L2.St} {R : VK} (D : Hd T Y v vm pl P xs m H) (h9 : σ[9]? = some (some v)) (h10 : σ[10]? = some (some vm))
    (k : ∀ y H4, Xt H H4 → Tbs Y.TT H4 → Dp K H4 y (dDue (gateB P xs)) → R y H4) :
    TOut (okErrs T.kinds) (fun E H' Q' => tA1 T Y E σ H' Q') H (fun v H' => ∃ p xs, v = .ref p ∧ SqT K H' p xs ∧ 1 < xs.length ∧ xs.length < 1000 ∧ ∀ l, H' l = none → R (.ref l) (upd H' l (.tup (xs.drop 1)))) := by
  intro E Qn H1 s1 hE hQ
  have D1 := D.same s1
  refine ⟨v, vm, pl, P, xs, m, h9, h10, D1.fv, D1.fm, D1.bm, D1.bP, D1.bx, D1.l, D1.t, ?_⟩
  by_cases g : GV P xs
  · rw [g.ok] at k
    refine .inl ⟨g, fun v' H2 e2 t2 => hQ v' H2 fun p H3 s3 hp => ⟨p, _, rfl, .inl (.inl hp), by simp, by simp, fun l nl => ?_⟩⟩
    exact k _ _ ((s1.xt.trans e2).trans (s3.trans (same_upd nl)).xt) (t2.same (s3.trans (same_upd nl))) (dp_new nl (vs := [.str "", .non]) (.cons (.str _) (.cons .non .nil)))
  · rw [gateB_ff g] at k
    refine .inr ⟨gateB_ff g, fun cls d H2 s2 er => hE _ _ _ ⟨_, _, ⟨(T.c_InvalidGate, "InvalidGate", "position"), by simp, rfl, er⟩, fun p H3 s3 hp => ⟨p, _, rfl, .inl (.inl hp), by simp, by simp, fun l nl => ?_⟩⟩⟩
    exact k _ _ ((s1.trans s2).trans (s3.trans (same_upd nl))).xt (D.t.same ((s1.trans s2).trans (s3.trans (same_upd nl)))) (dp_new nl (vs := [.str "InvalidGate", .int 0]) (.cons (.str _) (.cons (.int _) .nil)))
theorem ask2 {T : Txt K mg} {Y : Tb T base} {v vm : V} {pl P : Rat} {xs : Sps} {m : Rat} {H : Hp} {σ : L2.St} {R : VK} (D : Hd T Y v vm pl P xs m H) (h9 : σ[9]? = some (some v)) (h10 : σ[10]? = some (some vm))
    (k : ∀ y H4, Xt H H4 → Tbs Y.TT H4 → Dp K H4 y (dBare pl (gateB P xs) xs) → R y H4) :
    TOut (okErrs T.kinds) (fun E H' Q' => tA2 T Y E σ H' Q') H (fun v H' => ∃ p xs, v = .ref p ∧ SqT K H' p xs ∧ 1 < xs.length ∧ xs.length < 1000 ∧ ∀ l, H' l = none → R (.ref l) (upd H' l (.tup (xs.drop 1)))) := by
  intro E Qn H1 s1 hE hQ
  have D1 := D.same s1
  refine ⟨v, vm, pl, P, xs, m, h9, h10, D1.fv, D1.fm, D1.bm, D1.bP, D1.bx, D1.l, D1.t, ?_⟩
  by_cases g : GV P xs
  · rw [g.ok] at k
    by_cases hx : xs = []
    · rw [show dBare pl true xs = .tuple [.str "NotBarring", dq pl] from if_pos ⟨rfl, hx⟩] at k
      refine .inr (.inl ⟨g, hx, fun vp cls d H2 s2 dv er => hE _ _ _ ⟨_, _, ⟨(T.c_NotBarring, "NotBarring", "place"), by simp, rfl, er⟩, fun p H3 s3 hp => ⟨p, _, rfl, .inl (.inl hp), by simp, by simp, fun l nl => ?_⟩⟩⟩)
      exact k _ _ ((s1.trans s2).trans (s3.trans (same_upd nl))).xt (D.t.same ((s1.trans s2).trans (s3.trans (same_upd nl)))) (dp_new nl (vs := [.str "NotBarring", vp]) (.cons (.str _) (.cons (Dp_same s3 dv) .nil)))
    · rw [show dBare pl true xs = dDue true from if_neg fun z => hx z.2] at k
      refine .inl ⟨g, List.length_pos_iff.mpr hx, fun v' H2 e2 t2 => hQ v' H2 fun p H3 s3 hp => ⟨p, _, rfl, .inl (.inl hp), by simp, by simp, fun l nl => ?_⟩⟩
      exact k _ _ ((s1.xt.trans e2).trans (s3.trans (same_upd nl)).xt) (t2.same (s3.trans (same_upd nl))) (dp_new nl (vs := [.str "", .non]) (.cons (.str _) (.cons .non .nil)))
  · rw [gateB_ff g, show dBare pl false xs = dDue false from if_neg fun z => by cases z.1] at k
    refine .inr (.inr ⟨gateB_ff g, fun cls d H2 s2 er => hE _ _ _ ⟨_, _, ⟨(T.c_InvalidGate, "InvalidGate", "position"), by simp, rfl, er⟩, fun p H3 s3 hp => ⟨p, _, rfl, .inl (.inl hp), by simp, by simp, fun l nl => ?_⟩⟩⟩)
    exact k _ _ ((s1.trans s2).trans (s3.trans (same_upd nl))).xt (D.t.same ((s1.trans s2).trans (s3.trans (same_upd nl)))) (dp_new nl (vs := [.str "InvalidGate", .int 0]) (.cons (.str _) (.cons (.int _) .nil)))
/-- the size of a begin behind so many changes -/
def bb : Nat → Nat
  | 0 => 40
  | 1 => 65
  | _ => 93
def spLawT (K : PySem.W.Frag) (PI PT : Addr) : Sp := fun vs H Q _ => ∃ (a : Addr) (ns : List Int), vs = [.ref a] ∧ SqL K H a (ns.map V.int) ∧ ns.length ≤ 63 ∧ H PI = some (.tbl #[]) ∧ H PT = some (.tbl #[]) ∧ ∀ H', Q (.bl true) H'
set_option maxHeartbeats 8000000 in
theorem ok_law (T : Txt K mg) (Y : Tb T base) : FnOk P w K mg base CX0 17 T.f_law T.d_law Ps_law (spLawT K Y.P Y.PT) := by
  refine fun_okT T.F_law Y.hcL sc_law (fun vs H Q E h => ?_) (fun A outer s H vs Q E hr h => ?_)
  · obtain ⟨a, ns, rfl, _⟩ := h; rfl
  · obtain ⟨sc, ns, rfl, hS, hlen, hPI, hPT, q⟩ := h
    refine ⟨_, (pss_cons (ps_set (i := 1) sc_law.nd rfl (Or.inl rfl) (pe_call (ok_l_source T) (hr.mono (by decide)) (by rfl) T.g_l_source T.F_l_source.kp T.b_l_source .nil pass0 (pa_cons (pv 0) pa_nil)))
      (pss_cons (ps_for PassesOwn.never rfl (pi_range1 rfl T.m_range (pa_cons pe_int pa_nil)) (pg_name (i := 2) sc_law.nd rfl (Or.inl rfl)) (pss_cons (ps_set (i := 9) sc_law.nd rfl (Or.inr rfl) (pe_call (ok_l_gateZ T) (hr.mono (by decide)) (by rfl) T.g_l_gate T.F_l_gate.kp T.b_l_gate .nil pass0 (pa_cons (pv 1) (pa_cons (pe_call (ok_l_smallQ T) (hr.mono (by decide)) (by rfl) T.g_l_small T.F_l_small.kp T.b_l_small .nil pass0 (pa_cons (pv 1) pa_nil)) (pa_cons pe_int pa_nil)))))
      (pss_cons (ps_for PassesOwn.never rfl (pi_range1 rfl T.m_range (pa_cons (pe_call (ok_l_draw T) (hr.mono (by decide)) (by rfl) T.g_l_draw T.F_l_draw.kp T.b_l_draw .nil pass0 (pa_cons (pv 1) (pa_cons pe_int pa_nil))) pa_nil)) (pg_name (i := 3) sc_law.nd rfl (Or.inl rfl)) (pss_one (ps_set (i := 9) sc_law.nd rfl (Or.inr rfl) (pe_call (ok_l_bent T) (hr.mono (by decide)) (by rfl) T.g_l_bent T.F_l_bent.kp T.b_l_bent .nil pass0 (pa_cons (pv 1) (pa_cons (pv 9) pa_nil))))))
      (pss_cons (ps_asg (pe_tup (pa_cons (pe_call (ok_l_is_gate T) (hr.mono (by decide)) (by rfl) T.g_l_is_gate T.F_l_is_gate.kp T.b_l_is_gate .nil pass0 (pa_cons (pv 9) pa_nil)) (pa_cons (pe_call (ok_l_smallQ T) (hr.mono (by decide)) (by rfl) T.g_l_small T.F_l_small.kp T.b_l_small .nil pass0 (pa_cons (pv 1) pa_nil)) pa_nil))) (pg_tup (by rfl) (pgs_cons (pg_name (i := 4) sc_law.nd rfl (Or.inl rfl)) (pgs_cons (pg_name (i := 10) sc_law.nd rfl (Or.inr rfl)) pgs_nil))))
      (pss_cons (ps_if (pt_not (pt_val (pe_call (ok_l_equal T 7) (hr.mono (by decide)) (by rfl) T.g_l_equal T.F_l_equal.kp T.b_l_equal .nil pass0 (pa_cons (pe_call (ok_is_gate T) (hr.mono (by decide)) (by rfl) T.g_is_gate T.F_is_gate.kp T.b_is_gate .nil pass0 (pa_cons (pv 9) pa_nil)) (pa_cons (pv 4) pa_nil))))) (pss_one (ps_ret pe_bl)) pss_nil)
      (pss_cons (ps_set (i := 5) sc_law.nd rfl (Or.inl rfl) (pe_ifExp (pt_val (pv 4)) (pe_tup (pa_cons pe_str (pa_cons pe_non pa_nil))) (pe_tup (pa_cons pe_str (pa_cons pe_int pa_nil)))))
      (pss_cons (ps_set (i := 6) sc_law.nd rfl (Or.inl rfl) (pe_ifExp (PW.pt (pw_or (pt_cmpR op_ne (pe_ix ix_tup (pv 5) pe_int (fun _ _ => rfl)) pe_str (nomark _)) (pw_or1 (pt_cmpR op_gt (pe_callB call_len_seq (by rfl) T.m_len PySem.boot_len (pa_cons (pe_ix ix_tup (pv 9) pe_int (fun _ _ => rfl)) pa_nil)) pe_int (nomark _))))) (pv 5) (pe_tup (pa_cons pe_str (pa_cons (pe_ix ix_tup (pv 9) pe_int (fun _ _ => rfl)) pa_nil)))))
      (pss_cons (ps_set (i := 7) sc_law.nd rfl (Or.inl rfl) (pe_lst (pa_cons (EPL.pe_lamPR (T := Y.TT) (k := 9) Y.tbL rfl Y.memL Y.uL (LamX.lamS_by (by rfl)) (by rfl) (fun _ _ _ _ _ => by rfl) (fun AL outerL sL HL EL fL cL hrL => (pe_call (FnOk.or (FnOk.hear (ok_normal_gate T)) (ok_normal_gateE T)) (hrL.mono (by decide)) (by rfl) T.g_normal_gate T.F_normal_gate.kp T.b_normal_gate .nil (L2N.passes_call (L2N.takes_of rfl rfl rfl rfl) (fun _ _ _ _ h => h)) (pa_cons (pv 9) pa_nil)))) (pa_cons (EPL.pe_lamQR (T := Y.TT) (k := 9) Y.tbL rfl Y.memL Y.uL (EPD.lamD_by (a := "_law_a") (by rfl)) (show ("_law_a" : Str) ∉ N_law by decide +kernel) rfl rfl (fun _ _ _ h => wpAny_Constant_int (h _ _)) (fun _ _ _ _ _ _ _ _ => ⟨_, rfl, rfl⟩) (fun AL outerL sL HL EL fL cL hrL => (pe_call (FnOk.or (FnOk.hear (ok_is_open T)) (ok_is_openE T)) (hrL.mono (by decide)) (by rfl) T.g_is_open T.F_is_open.kp T.b_is_open .nil (L2N.passes_call (L2N.takes_of rfl rfl rfl rfl) (fun _ _ _ _ h => h)) (pa_cons (pv 9) (pa_cons (pv 10) pa_nil))))) (pa_cons (EPL.pe_lamQR (T := Y.TT) (k := 9) Y.tbL rfl Y.memL Y.uL (EPD.lamD_by (a := "_law_b") (by rfl)) (show ("_law_b" : Str) ∉ N_law by decide +kernel) rfl rfl (fun _ _ _ h => wpAny_Constant_int (h _ _)) (fun _ _ _ _ _ _ _ _ => ⟨_, rfl, rfl⟩) (fun AL outerL sL HL EL fL cL hrL => (pe_call (FnOk.or (FnOk.hear (ok_next_open T)) (ok_next_openE T)) (hrL.mono (by decide)) (by rfl) T.g_next_open T.F_next_open.kp T.b_next_open .nil (L2N.passes_call (L2N.takes_of rfl rfl rfl rfl) (fun _ _ _ _ h => h)) (pa_cons (pv 9) (pa_cons (pv 10) pa_nil))))) pa_nil)))))
      (pss_cons (ps_set (i := 7) sc_law.nd rfl (Or.inl rfl) (pe_op op_cat (pv 7) (pe_lst (pa_cons (EPL.pe_lamPR (T := Y.TT) (k := 9) Y.tbL rfl Y.memL Y.uL (LamX.lamS_by (by rfl)) (by rfl) (fun _ _ _ _ _ => by rfl) (fun AL outerL sL HL EL fL cL hrL => (pe_call (FnOk.or (FnOk.hear (ok_delayed_gate T Y)) (ok_delayed_gateE T Y)) (hrL.mono (by decide)) (by rfl) T.g_delayed_gate T.F_delayed_gate.kp T.b_delayed_gate .nil (L2N.passes_call (L2N.takes_of rfl rfl rfl rfl) (fun _ _ _ _ h => h)) (pa_cons (pv 9) (pa_cons (pv 10) pa_nil))))) (pa_cons (EPL.pe_lamQR (T := Y.TT) (k := 9) Y.tbL rfl Y.memL Y.uL (EPD.lamD_by (a := "_law_a") (by rfl)) (show ("_law_a" : Str) ∉ N_law by decide +kernel) rfl rfl (fun _ _ _ h => wpAny_Constant_int (h _ _)) (fun _ _ _ _ _ _ _ _ => ⟨_, rfl, rfl⟩) (fun AL outerL sL HL EL fL cL hrL => (pe_call (FnOk.or (FnOk.hear (ok_window T)) (ok_windowE T)) (hrL.mono (by decide)) (by rfl) T.g_window T.F_window.kp T.b_window .nil (L2N.passes_call (L2N.takes_of rfl rfl rfl rfl) (fun _ _ _ _ h => h)) (pa_cons (pv 9) (pa_cons pe_int pa_nil))))) (pa_cons (EPL.pe_lamQR (T := Y.TT) (k := 9) Y.tbL rfl Y.memL Y.uL (EPD.lamD_by (a := "_law_b") (by rfl)) (show ("_law_b" : Str) ∉ N_law by decide +kernel) rfl rfl (fun _ _ _ h => wpAny_Constant_int (h _ _)) (fun _ _ _ _ _ _ _ _ => ⟨_, rfl, rfl⟩) (fun AL outerL sL HL EL fL cL hrL => (pe_call (FnOk.or (FnOk.hear (ok_window_at T)) (ok_window_atE T)) (hrL.mono (by decide)) (by rfl) T.g_window_at T.F_window_at.kp T.b_window_at .nil (L2N.passes_call (L2N.takes_of rfl rfl rfl rfl) (fun _ _ _ _ h => h)) (pa_cons (pv 9) (pa_cons (pv 10) pa_nil))))) pa_nil))))))
      (pss_cons (ps_if (pt_not (pt_val (pe_call (ok_l_equal T 7) (hr.mono (by decide)) (by rfl) T.g_l_equal T.F_l_equal.kp T.b_l_equal .nil pass0 (pa_cons (EPL.pe_lcI (own := [("_law_ask", 11)]) (g := (gName 11)) (tt := tYes) rfl sc_law.nd (pi_list (pv 7)) (blkOk_by (N := N_law) (sc := defScope s_law) (by decide +kernel)) (fun _ _ _ _ _ => (pg_name (i := 11) sc_law.nd rfl (Or.inl rfl))) (fun _ _ _ _ _ => pts_nil) (fun sK HK CK cK fpK xeK pinsK σK IK fK => (EPL.pe_or (EPL.pe_callK (i := 11) (Lam := EPL.LamR _ 9 (tA1 T Y)) IK fK T.F_l_error (by rfl) T.g_l_error T.b_l_error sc_l_error rfl (Or.inl rfl) T.F_l_outcome rfl T.g_l_outcome T.b_l_outcome sc_l_outcome rfl (Or.inl rfl) (ok_l_outcome T rfl rfl) (ok_l_error T rfl rfl) (hr.mono (by decide)) (fun pK HK sK fK2 I2 h2 => h2 HK (LamX.ExtN.refl HK) pK _ sK I2) rfl (Or.inl rfl)) (EPL.pe_callK (i := 11) (Lam := EPL.LamR _ 9 (tA2 T Y)) IK fK T.F_l_error (by rfl) T.g_l_error T.b_l_error sc_l_error rfl (Or.inl rfl) T.F_l_outcome rfl T.g_l_outcome T.b_l_outcome sc_l_outcome rfl (Or.inl rfl) (ok_l_outcome T rfl rfl) (ok_l_error T rfl rfl) (hr.mono (by decide)) (fun pK HK sK fK2 I2 h2 => h2 HK (LamX.ExtN.refl HK) pK _ sK I2) rfl (Or.inl rfl))))) (pa_cons (pe_op op_cat (pe_op op_rep (pe_lst (pa_cons (pv 5) pa_nil)) pe_int) (pe_op op_rep (pe_lst (pa_cons (pv 6) pa_nil)) pe_int)) pa_nil))))) (pss_one (ps_ret pe_bl)) pss_nil)
      (pss_cons (ps_set (i := 8) sc_law.nd rfl (Or.inl rfl) (pe_tup (pa_cons (pe_ix ix_tup (pv 9) pe_int (fun _ _ => rfl)) (pa_cons (pe_ix ix_tup (pv 9) pe_int (fun _ _ => rfl)) (pa_cons (pe_callTy call_list_of (by rfl) T.m_list (by decide +kernel) (pa_cons (pe_ix ix_tup (pv 9) pe_int (fun _ _ => rfl)) pa_nil)) pa_nil)))))
      (pss_cons (ps_if (pt_not (pt_val (pe_call (ok_l_equal T 7) (hr.mono (by decide)) (by rfl) T.g_l_equal T.F_l_equal.kp T.b_l_equal .nil pass0 (pa_cons (pe_call (ok_is_gateL T) (hr.mono (by decide)) (by rfl) T.g_is_gate T.F_is_gate.kp T.b_is_gate .nil pass0 (pa_cons (pv 8) pa_nil)) (pa_cons (pv 4) pa_nil))))) (pss_one (ps_ret pe_bl)) pss_nil)
      (pss_one (ps_if (PW.pt (pw_and (pt_val (pv 4)) (pw_and1 (pt_not (pt_val (pe_call (ok_l_equal T 7) (hr.mono (by decide)) (by rfl) T.g_l_equal T.F_l_equal.kp T.b_l_equal .nil pass0 (pa_cons (pe_lst (pa_cons (pe_call (ok_normal_gateL T) (hr.mono (by decide)) (by rfl) T.g_normal_gate T.F_normal_gate.kp T.b_normal_gate .nil pass0 (pa_cons (pv 8) pa_nil)) (pa_cons (pe_call (ok_is_openL T) (hr.mono (by decide)) (by rfl) T.g_is_open T.F_is_open.kp T.b_is_open .nil pass0 (pa_cons (pv 8) (pa_cons (pv 10) pa_nil))) pa_nil))) (pa_cons (pe_lst (pa_cons (pe_call (ok_normal_gate T) (hr.mono (by decide)) (by rfl) T.g_normal_gate T.F_normal_gate.kp T.b_normal_gate .nil pass0 (pa_cons (pv 9) pa_nil)) (pa_cons (pe_call (ok_is_open T) (hr.mono (by decide)) (by rfl) T.g_is_open T.F_is_open.kp T.b_is_open .nil pass0 (pa_cons (pv 9) (pa_cons (pv 10) pa_nil))) pa_nil))) pa_nil)))))))) (pss_one (ps_ret pe_bl)) pss_nil))))))))))))))
      (pss_one (ps_ret (pe_cmpR op_eq (pe_glob (v := .int 6) (by rfl) T.gk_MAX_SPANS ⟨_, rfl⟩) pe_int (nomark _)))))), ?_⟩
    have hT : Tbs Y.TT H := fun p hp => by
      rcases List.mem_cons.mp hp with rfl | hp
      · exact LamX.TabS.nil hPI
      · obtain rfl := List.mem_singleton.mp hp
        exact LamX.TabS.nil hPT
    refine ⟨_, rfl, sc, ns, rfl, hS, hlen, fun r0 H0 s0 hR => ?_⟩
    refine ⟨5, rfl, by decide, by decide, ?_⟩
    refine for_range (n := 5) (fun i σ H' => Rng H' r0 ∧ Tbs Y.TT H' ∧ ∃ (z2 z3 z4 z5 z6 z7 z8 z9 z10 : Option V), σ = [some (.ref sc), some (.ref r0), z2, z3, z4, z5, z6, z7, z8, z9, z10, none]) ⟨hR, hT.same s0, _, _, _, _, _, _, _, _, _, rfl⟩ ?_ ?_
    · rintro i σ H1 hi ⟨R1, T1, z2, z3, z4, z5, z6, z7, z8, z9, z10, rfl⟩
      refine ⟨_, rfl, _, rfl, r0, rfl, R1, fun vp pl H2 m2 fp bp => ?_⟩
      refine ⟨r0, vp, pl, 6, rfl, m2.b, fp, by decide, by decide, fun v P xs D H3 m3 hv G hl bD gz => ?_⟩
      dsimp only [gName]
      have T3 := (T1.mo m2).mo m3
      have gd0 : D ≠ 0 := by have := gz.d; omega
      have bP0 : Bq 21 P := gz.p.bq gd0 (bD.mono (n := 17)) 
      have bx0 : ∀ x ∈ xs, Bq 21 x.1 ∧ Bq 21 x.2 := fun x hx => ⟨(gz.b x hx).1.bq gd0 (bD.mono (n := 17)), (gz.b x hx).2.bq gd0 (bD.mono (n := 17))⟩
      have R3 := m3.b
      clear m2 m3 fp bp gz G R1 T1 hS hT hPI hPT hR s0
      -- the changes
      refine seq_by (t := tFor _ _ _) (u := tSeq _ _) (fun σ H' => Rng H' r0 ∧ Tbs Y.TT H' ∧ ∃ (z3 : Option V) (v : V) (P : Rat) (xs : Sps), Dp K H' v (dG pl P xs) ∧ Bq 100 P ∧ (∀ x ∈ xs, Bq 100 x.1 ∧ Bq 100 x.2) ∧ xs.length < 900 ∧ σ = [some (.ref sc), some (.ref r0), some (.int (0 + (i : Int))), z3, z4, z5, z6, z7, z8, some v, z10, none]) ?_ fun k => ?_
      rotate_left
      · refine ⟨_, rfl, r0, 3, rfl, by decide, (B.of (n := 5) (by decide)).mono, R3, fun n H4 n0 n1 m4 => ?_⟩
        obtain ⟨n, rfl⟩ := Int.eq_ofNat_of_zero_le n0
        refine ⟨n, rfl, by omega, by omega, ?_⟩
        refine for_range (n := n) (fun j σ H' => Rng H' r0 ∧ Tbs Y.TT H' ∧ ∃ (z3 : Option V) (v : V) (P : Rat) (xs : Sps), Dp K H' v (dG pl P xs) ∧ Bq (21 + 3 * j) P ∧ (∀ x ∈ xs, Bq (bb j) x.1 ∧ Bq (bb j) x.2) ∧ xs.length ≤ 6 + j ∧ σ = [some (.ref sc), some (.ref r0), some (.int (0 + (i : Int))), z3, z4, z5, z6, z7, z8, some v, z10, none]) ⟨m4.b, T3.mo m4, _, v, P, xs, Dp_mo m4 hv (noL_dG _ _ _), bP0, fun x hx => ⟨(bx0 x hx).1.mono, (bx0 x hx).2.mono⟩, by omega, rfl⟩ ?_ ?_
        · rintro j σ H5 hj ⟨R5, T5, z3, v5, P5, xs5, hv5, bP5, bx5, hl5, rfl⟩
          have hj2 : j = 0 ∨ j = 1 := by omega
          refine ⟨_, rfl, _, rfl, r0, v5, pl, P5, xs5, 21 + 3 * j, bb j, rfl, R5, hv5, bP5, bx5, by omega, by omega, by omega, ?_, ?_, fun v6 P6 xs6 H6 m6 hv6 bP6 bx6 hl6 => ?_⟩
          · rcases hj2 with rfl | rfl <;> decide
          · rcases hj2 with rfl | rfl <;> decide
          have eb : bb j + (21 + 3 * j) + 4 = bb (j + 1) := by rcases hj2 with rfl | rfl <;> rfl
          rw [eb] at bx6
          exact ⟨m6.b, T5.mo m6, _, v6, P6, xs6, hv6, bP6, bx6, by omega, rfl⟩
        · rintro σ H5 ⟨R5, T5, z3, v5, P5, xs5, hv5, bP5, bx5, hl5, rfl⟩
          have hn : n = 0 ∨ n = 1 ∨ n = 2 := by omega
          have hb : bb n ≤ 100 := by rcases hn with rfl | rfl | rfl <;> decide
          exact k _ _ ⟨R5, T5, _, v5, P5, xs5, hv5, bP5.mono (by omega), fun x hx => ⟨(bx5 x hx).1.mono hb, (bx5 x hx).2.mono hb⟩, by omega, rfl⟩
      clear bx0 bP0 gd0 T3 R3 hv hl bD
      rintro σ H4 ⟨R4, T4, z3, v, P, xs, hv, bP, bx, hl, rfl⟩
      have hv4 := hv
      refine ⟨_, rfl, v, pl, P, xs, rfl, hv, bP, hl, bx, fun H5 s5 => ?_⟩
      refine ⟨_, rfl, r0, rfl, R4.same s5, fun vm m H6 m6 hm bm => ?_⟩
      have D6 : Hd T Y v vm pl P xs m H6 := ⟨Dp_mo m6 (Dp_same s5 hv) (noL_dG _ _ _), hm, (T4.same s5).mo m6, bm, bP, bx, hl⟩
      have R6 := m6.b
      clear hv hv4 bP bx hm bm m6 s5 T4 R4
      refine ⟨sizeLine2 (by simp), fun c nc => ?_⟩
      have D7 := D6.same (same_upd (o := HO.tup [.bl (gateB P xs), vm]) nc)
      have R7 := R6.same (same_upd (o := HO.tup [.bl (gateB P xs), vm]) nc)
      have hc := upd_same (H := H6) (a := c) (o := HO.tup [.bl (gateB P xs), vm])
      generalize upd H6 c (HO.tup [.bl (gateB P xs), vm]) = H7 at *
      refine ⟨c, _, rfl, .inl (.inl hc), rfl, _, _, rfl, _, _, rfl, rfl, ?_⟩
      dsimp only
      refine ⟨_, rfl, v, pl, P, xs, rfl, D7.fv, D7.bP, D7.l, D7.bx, fun H8 s8 => ?_⟩
      refine ⟨_, rfl, _, _, .bool (gateB P xs), rfl, .bl _, .bl _, by simp [dep], by simp [wd], fun H9 s9 => ⟨_, rfl, iteF ?_⟩⟩
      have D9 := D7.same (s8.trans s9)
      have R9 := R7.same (s8.trans s9)
      clear D6 D7 R6 R7 s8 s9 hc nc
      generalize hb : gateB P xs = b at *
      -- what is due
      dsimp only [tNext]
      refine seq_by (t := tAsg _ _) (u := tSeq _ _) (fun σ H' => Hd T Y v vm pl P xs m H' ∧ Rng H' r0 ∧ ∃ (p : Addr) (f : V), SqT K H' p [.str (if b then "" else "InvalidGate"), f] ∧ Dp K H' (.ref p) (dDue b) ∧ σ = [some (.ref sc), some (.ref r0), some (.int (0 + (i : Int))), z3, some (.bl b), some (.ref p), z6, z7, z8, some v, some vm, none]) ?_ fun k => ?_
      rotate_left
      · refine ⟨_, rfl, b, rfl, ?_⟩
        cases b with
        | true =>
          refine iteT ⟨sizeLine2 (by simp), fun p np => ?_⟩
          have s1 := same_upd (o := HO.tup [.str "", .non]) np
          exact k _ _ ⟨D9.same s1, R9.same s1, p, .non, .inl (.inl upd_same), dp_new np (vs := [.str "", .non]) (.cons (.str _) (.cons .non .nil)), rfl⟩
        | false =>
          refine iteF ⟨sizeLine2 (by simp), fun p np => ?_⟩
          have s1 := same_upd (o := HO.tup [.str "InvalidGate", .int 0]) np
          exact k _ _ ⟨D9.same s1, R9.same s1, p, .int 0, .inl (.inl upd_same), dp_new np (vs := [.str "InvalidGate", .int 0]) (.cons (.str _) (.cons (.int _) .nil)), rfl⟩
      rintro σ H10 ⟨D10, R10, p, f, hp, dp, rfl⟩
      clear D9 R9
      refine seq_by (t := tAsg _ _) (u := tSeq _ _) (fun σ H' => Hd T Y v vm pl P xs m H' ∧ Rng H' r0 ∧ ∃ (vb : V), Dp K H' (.ref p) (dDue b) ∧ Dp K H' vb (dBare pl b xs) ∧ σ = [some (.ref sc), some (.ref r0), some (.int (0 + (i : Int))), z3, some (.bl b), some (.ref p), some vb, z7, z8, some v, some vm, none]) ?_ fun k => ?_
      rotate_left
      · refine ⟨_, rfl, p, _, _, _, rfl, rfl, hp, ix0, ?_⟩
        obtain ⟨U, vpl, vP, v3, eU, hU, hpl, _, d3⟩ := dp_three D10.fv
        obtain ⟨a, us, rfl, ha, hu⟩ := dp_tup d3
        have el : us.length = xs.length := by rw [DpAll_len hu, List.length_map]
        cases b with
        | false =>
          refine ⟨rfl, _, rfl, brT (by decide +kernel) (iteT ⟨_, rfl, ?_⟩)⟩
          exact k _ _ ⟨D10, R10, _, dp, by rw [show dBare pl false xs = dDue false from if_neg fun z => by cases z.1]; exact dp, rfl⟩
        | true =>
          refine ⟨rfl, _, rfl, brF (by decide +kernel) ?_⟩
          refine ⟨_, rfl, U, _, _, _, eU, rfl, hU, ix2, a, us, rfl, .inr ha, _, _, rfl, rfl, _, rfl, ?_⟩
          rw [el]
          by_cases hx : xs = []
          · subst hx
            refine brF (by decide) ?_
            refine ⟨_, rfl, U, _, _, _, eU, rfl, hU, ix0, sizeLine2 (by simp), fun q1 nq => ?_⟩
            have s1 := same_upd (o := HO.tup [.str "NotBarring", vpl]) nq
            exact k _ _ ⟨D10.same s1, R10.same s1, _, Dp_same s1 dp, by rw [show dBare pl true [] = .tuple [.str "NotBarring", dq pl] from if_pos ⟨rfl, rfl⟩]; exact dp_new nq (vs := [.str "NotBarring", vpl]) (.cons (.str _) (.cons hpl .nil)), rfl⟩
          · have := List.length_pos_iff.mpr hx
            rw [decide_eq_true (show (0 : Int) < (xs.length : Int) by omega)]
            refine iteT ?_
            refine ⟨_, rfl, ?_⟩
            exact k _ _ ⟨D10, R10, _, dp, by rw [show dBare pl true xs = dDue true from if_neg fun z => hx z.2]; exact dp, rfl⟩
      rintro σ H11 ⟨D11, R11, vb, fdue, fbare, rfl⟩
      clear D10 R10 hp dp
      -- the questions
      refine ⟨D11.t, fun f1 H12 e1 t1 L1 => ⟨t1, fun f2 H13 e2 t2 L2 => ⟨t2, fun f3 H14 e3 t3 L3 => ⟨sizeLine2 (by simp), fun l1 n1 => ?_⟩⟩⟩⟩
      have x1 : Xt H14 _ := (same_upd (o := HO.lst [.ref f1, .ref f2, .ref f3]) n1).xt
      have t15 := LamX.Tabs.ext t3 (same_upd (o := HO.lst [.ref f1, .ref f2, .ref f3]) n1)
      have hl1 := upd_same (H := H14) (a := l1) (o := HO.lst [.ref f1, .ref f2, .ref f3])
      generalize upd H14 l1 (HO.lst [.ref f1, .ref f2, .ref f3]) = H15 at *
      dsimp only [gName]
      refine ⟨_, rfl, t15, fun f4 H16 e4 t4 L4 => ⟨t4, fun f5 H17 e5 t5 L5 => ⟨t5, fun f6 H18 e6 t6 L6 => ⟨sizeLine2 (by simp), fun l2 n2 => ?_⟩⟩⟩⟩
      have x2 : Xt H18 _ := (same_upd (o := HO.lst [.ref f4, .ref f5, .ref f6]) n2).xt
      have t19 := LamX.Tabs.ext t6 (same_upd (o := HO.lst [.ref f4, .ref f5, .ref f6]) n2)
      have hl2 := upd_same (H := H18) (a := l2) (o := HO.lst [.ref f4, .ref f5, .ref f6])
      generalize upd H18 l2 (HO.lst [.ref f4, .ref f5, .ref f6]) = H19 at *
      have x69 := (e4.trans e5).trans (e6.trans x2)
      have hl1' := x69 _ _ hl1 (fun ps z => by cases z)
      refine ⟨l1, l2, _, _, rfl, rfl, hl1', hl2, sizeLine2 (by simp), fun l3 n3 => ?_⟩
      have x3 : Xt H19 _ := (same_upd (o := HO.lst ([.ref f1, .ref f2, .ref f3] ++ [.ref f4, .ref f5, .ref f6])) n3).xt
      have t20 : Tbs Y.TT _ := LamX.Tabs.ext t19 (same_upd (o := HO.lst ([.ref f1, .ref f2, .ref f3] ++ [.ref f4, .ref f5, .ref f6])) n3)
      have hl3 := upd_same (H := H19) (a := l3) (o := HO.lst ([.ref f1, .ref f2, .ref f3] ++ [.ref f4, .ref f5, .ref f6]))
      generalize upd H19 l3 (HO.lst ([.ref f1, .ref f2, .ref f3] ++ [.ref f4, .ref f5, .ref f6])) = H20 at *
      have y6 : Xt H18 H20 := x2.trans x3
      have y5 := e6.trans y6
      have y4 := e5.trans y5
      have y15 := e4.trans y4
      have y3 := x1.trans y15
      have y2 := e3.trans y3
      have y1 := e2.trans y2
      have y0 := e1.trans y1
      have L1 := (L1.ext y1).imp (t' := tA1 T Y) (fun E σ H Q h => by
        obtain ⟨v, vm, pl, P, xs, m, h9, h10, fv, fm, bm, bP, bx, l, t, h⟩ := h
        exact ⟨v, h9, h.elim (fun ⟨g, q⟩ => .inl ⟨v, pl, P, xs, rfl, fv, ⟨g, bP, bx⟩, fun v' H' s _ => q v' H' s.xt (t.same s)⟩) fun ⟨g, q⟩ => .inr ⟨v, rfl, pl, P, xs, fv, bP, l, bx, g, q⟩⟩)
      have L2 := (L2.ext y2).imp (t' := tA1 T Y) (fun E σ H Q h => by
        obtain ⟨v, vm, pl, P, xs, m, h9, h10, fv, fm, bm, bP, bx, l, t, h⟩ := h
        exact ⟨v, h9, vm, h10, h.elim (fun ⟨g, q⟩ => .inl ⟨v, vm, pl, P, xs, m, rfl, fv, ⟨g, bP, bx⟩, fm, bm.mono, fun v' H' s _ => q v' H' s.xt (t.same s)⟩) fun ⟨g, q⟩ => .inr ⟨v, vm, rfl, pl, P, xs, fv, bP, l, bx, g, q⟩⟩)
      have L3 := (L3.ext y3).imp (t' := tA1 T Y) (fun E σ H Q h => by
        obtain ⟨v, vm, pl, P, xs, m, h9, h10, fv, fm, bm, bP, bx, l, t, h⟩ := h
        exact ⟨v, h9, vm, h10, h.elim (fun ⟨g, q⟩ => .inl ⟨v, vm, pl, P, xs, m, rfl, fv, ⟨g, bP, bx⟩, fm, bm.mono, fun v' H' s _ => q v' H' s.xt (t.same s)⟩) fun ⟨g, q⟩ => .inr ⟨v, vm, rfl, pl, P, xs, fv, bP, l, bx, g, q⟩⟩)
      have L4 := (L4.ext y4).imp (t' := tA1 T Y) (fun E σ H Q h => by
        obtain ⟨v, vm, pl, P, xs, m, h9, h10, fv, fm, bm, bP, bx, l, t, h⟩ := h
        exact ⟨v, h9, vm, h10, h.elim (fun ⟨g, q⟩ => .inl ⟨v, vm, pl, P, xs, m, rfl, fv, ⟨g, bP, bx⟩, fm, bm.mono, t, fun v' H' e t _ => q v' H' e t⟩) fun ⟨g, q⟩ => .inr ⟨v, vm, rfl, pl, P, xs, fv, bP, l, bx, g, q⟩⟩)
      have L5 := (L5.ext y5).imp (t' := tA2 T Y) (fun E σ H Q h => by
        obtain ⟨v, vm, pl, P, xs, m, h9, h10, fv, fm, bm, bP, bx, l, t, h⟩ := h
        refine ⟨v, h9, ?_⟩
        rcases h with ⟨g, h0, q⟩ | ⟨g, rfl, q⟩ | ⟨g, q⟩
        · exact .inl ⟨v, pl, P, xs, 3, rfl, fv, ⟨g, bP, bx⟩, lf_pos h0, (B.of (n := 5) (by decide)).mono, fun v' H' s _ => q v' H' s.xt (t.same s)⟩
        · exact .inr ⟨v, _, rfl, .inr ⟨pl, P, fv, ⟨g, bP, bx⟩, q⟩⟩
        · exact .inr ⟨v, _, rfl, .inl ⟨pl, P, xs, fv, bP, l, bx, g, q⟩⟩)
      have L6 := (L6.ext y6).imp (t' := tA2 T Y) (fun E σ H Q h => by
        obtain ⟨v, vm, pl, P, xs, m, h9, h10, fv, fm, bm, bP, bx, l, t, h⟩ := h
        refine ⟨v, h9, vm, h10, ?_⟩
        rcases h with ⟨g, h0, q⟩ | ⟨g, rfl, q⟩ | ⟨g, q⟩
        · exact .inl ⟨v, vm, pl, P, xs, m, rfl, fv, ⟨g, bP, bx⟩, lf_pos h0, fm, bm.mono, fun v' o H' s _ _ _ => q v' H' s.xt (t.same s)⟩
        · exact .inr ⟨v, _, rfl, .inr ⟨pl, P, fv, ⟨g, bP, bx⟩, q⟩⟩
        · exact .inr ⟨v, _, rfl, .inl ⟨pl, P, xs, fv, bP, l, bx, g, q⟩⟩)
      have D20 := D11.xt y0 t20
      have R20 := R11.xt y0
      have fdue := DpX y0 fdue
      have fbare := DpX y0 fbare
      clear x1 x2 x3 x69 y0 y1 y2 y3 y4 y5 y6 y15 e1 e2 e3 e4 e5 e6 t1 t2 t3 t4 t5 t6 t15 t19 hl1 hl2 hl1' D11 R11
      dsimp only [gName]
      generalize hds : [dDue b, dDue b, dDue b, dDue b, dBare pl b xs, dBare pl b xs] = ds
      refine ⟨_, rfl, l3, rfl, ⟨_, .inl (.inl hl3)⟩, fun D nD => ?_⟩
      refine lc_mapX (K := K) (TT' := Y.TT) (walk_list (xs := [V.ref f1, .ref f2, .ref f3] ++ [.ref f4, .ref f5, .ref f6])) ds nD (by rw [← hds]; rfl) (by simp) (by rw [← hds]; simp only [noLs, noL_due, noL_bare, Bool.and_self]) t20 (fun H' s => sqlX (.inl (.inl hl3)) s) ?_ ?_
      · rintro j x d H21 H22 hj hd e21 t21 ⟨rfl, hx⟩ R k
        refine ⟨rfl, ?_⟩
        have D21 := D20.xt e21 t21
        rw [← hds] at hd
        have h6 : j = 0 ∨ j = 1 ∨ j = 2 ∨ j = 3 ∨ j = 4 ∨ j = 5 := by
          have : j < 6 := hj
          omega
        rcases h6 with rfl | rfl | rfl | rfl | rfl | rfl
        · cases Option.some.inj hd; cases Option.some.inj hx
          exact .inl ⟨f1, rfl, L1.ext e21, ask1 D21 rfl rfl (by rw [hb]; exact k)⟩
        · cases Option.some.inj hd; cases Option.some.inj hx
          exact .inl ⟨f2, rfl, L2.ext e21, ask1 D21 rfl rfl (by rw [hb]; exact k)⟩
        · cases Option.some.inj hd; cases Option.some.inj hx
          exact .inl ⟨f3, rfl, L3.ext e21, ask1 D21 rfl rfl (by rw [hb]; exact k)⟩
        · cases Option.some.inj hd; cases Option.some.inj hx
          exact .inl ⟨f4, rfl, L4.ext e21, ask1 D21 rfl rfl (by rw [hb]; exact k)⟩
        · cases Option.some.inj hd; cases Option.some.inj hx
          exact .inr ⟨f5, rfl, L5.ext e21, ask2 D21 rfl rfl (by rw [hb]; exact k)⟩
        · cases Option.some.inj hd; cases Option.some.inj hx
          exact .inr ⟨f6, rfl, L6.ext e21, ask2 D21 rfl rfl (by rw [hb]; exact k)⟩
      intro H21 us e21 t21 hD hus
      have D21 := D20.xt e21 t21
      have R21 := R20.xt e21
      have fdue := DpX e21 fdue
      have fbare := DpX e21 fbare
      clear D20 R20 L1 L2 L3 L4 L5 L6 hl3 nD t20
      refine ⟨_, rfl, sizeLine2 (by simp), fun q1 n1 => ⟨q1, 4, _, rfl, rfl, upd_same, by decide, by decide, sizeLine2 (by simp), fun q2 n2 => ?_⟩⟩
      have s1 := same_upd (o := HO.lst [.ref p]) n1
      have s2 := same_upd (o := HO.lst [.ref p, .ref p, .ref p, .ref p]) n2
      have hq2 := upd_same (H := upd H21 q1 (HO.lst [.ref p])) (a := q2) (o := HO.lst [.ref p, .ref p, .ref p, .ref p])
      refine ⟨_, rfl, sizeLine2 (by simp), fun q3 n3 => ⟨q3, 2, _, rfl, rfl, upd_same, by decide, by decide, sizeLine2 (by simp), fun q4 n4 => ?_⟩⟩
      have s3 := same_upd (o := HO.lst [vb]) n3
      have s4 := same_upd (o := HO.lst [vb, vb]) n4
      refine ⟨q2, q4, _, _, rfl, rfl, s4 _ _ (s3 _ _ hq2), upd_same, sizeLine2 (by simp), fun q5 n5 => ?_⟩
      have s5 := same_upd (o := HO.lst ([.ref p, .ref p, .ref p, .ref p] ++ [vb, vb])) n5
      have sA := (((s1.trans s2).trans s3).trans s4).trans s5
      have fd := Dp_same sA fdue
      have fb := Dp_same sA fbare
      refine ⟨_, _, .list ds, rfl, .lst (.inl (.inl (sA _ _ hD))) (DpAll_same sA hus), by rw [← hds]; exact .lst (.inl (.inl upd_same)) (.cons fd (.cons fd (.cons fd (.cons fd (.cons fb (.cons fb .nil)))))), by rw [← hds]; exact (dep_asks pl b xs).1, by rw [← hds]; exact (dep_asks pl b xs).2, fun H26 s6 => ⟨_, rfl, iteF ?_⟩⟩
      have D26 := D21.same (sA.trans s6)
      have R26 := R21.same (sA.trans s6)
      clear s1 s2 s3 s4 s5 s6 sA fd fb hD hus hq2 D21 R21 fdue fbare n1 n2 n3 n4 n5
      dsimp only [tNext]
      -- the gate with a list
      obtain ⟨U, vpl, vP, v3, eU, hU, hpl, hP, d3⟩ := dp_three D26.fv
      obtain ⟨a, us', rfl, ha, hu⟩ := dp_tup d3
      refine ⟨_, rfl, U, _, _, _, eU, rfl, hU, ix0, _, rfl, U, _, _, _, eU, rfl, hU, ix1, _, rfl, U, _, _, _, eU, rfl, hU, ix2, a, us', rfl, .inr ha, fun lw nw => ⟨sizeLine2 (by simp), fun cw nc => ?_⟩⟩
      have s1 := same_upd (o := HO.lst us') nw
      have s2 := same_upd (o := HO.tup [vpl, vP, .ref lw]) nc
      have fL : Dp K _ (.ref cw) (.tuple [dq pl, dq P, .list (xs.map dsp)]) := dp_new nc (.cons (Dp_same s1 hpl) (.cons (Dp_same s1 hP) (.cons (.lst (.inl (.inl upd_same)) (DpAll_same s1 hu)) .nil)))
      have D28 := D26.same (s1.trans s2)
      have R28 := R26.same (s1.trans s2)
      generalize upd (upd H26 lw (HO.lst us')) cw (HO.tup [vpl, vP, .ref lw]) = H28 at *
      clear hU ha hu hpl hP d3 s1 s2 nw nc D26 R26
      dsimp only [gName]
      refine ⟨_, rfl, _, pl, P, xs, rfl, fL, D28.bP, D28.l, D28.bx, fun H29 s8 => ?_⟩
      rw [hb]
      refine ⟨_, rfl, _, _, .bool b, rfl, .bl _, .bl _, by simp [dep], by simp [wd], fun H30 s9 => ⟨_, rfl, iteF ?_⟩⟩
      have D30 := D28.same (s8.trans s9)
      have R30 := R28.same (s8.trans s9)
      have fL := Dp_same (s8.trans s9) fL
      clear s8 s9 D28 R28
      dsimp only [tNext]
      refine ⟨_, rfl, b, rfl, ?_⟩
      cases b with
      | false => exact iteF (iteF ⟨R30, D30.t, _, _, _, _, _, _, _, _, _, rfl⟩)
      | true =>
        have g : GV P xs := gv_of hb
        have G : Gd P xs := ⟨g, D30.bP, D30.bx⟩
        refine iteT ⟨_, rfl, _, pl, P, xs, rfl, fL, G, fun w1 H31 s1 d1 => ?_⟩
        refine ⟨_, rfl, _, rfl, _, _, pl, P, xs, m, rfl, Dp_same s1 fL, G, Dp_same s1 D30.fm, D30.bm.mono, fun w2 H32 s2 e2 => ?_⟩
        refine ⟨sizeLine2 (by simp), fun L1 nL1 => ?_⟩
        have s3 := same_upd (o := HO.lst [w1, w2]) nL1
        have D33 := D30.same ((s1.trans s2).trans s3)
        refine ⟨_, rfl, v, pl, P, xs, rfl, D33.fv, G, fun w3 H34 s4 d3 => ?_⟩
        have D34 := D33.same s4
        refine ⟨_, rfl, _, rfl, v, vm, pl, P, xs, m, rfl, D34.fv, G, D34.fm, D34.bm.mono, fun w4 H35 s5 e4 => ?_⟩
        refine ⟨sizeLine2 (by simp), fun L2 nL2 => ?_⟩
        have s6 := same_upd (o := HO.lst [w3, w4]) nL2
        have g' := (lf_ok g).1
        subst e2 e4
        have sB := ((s3.trans s4).trans s5).trans s6
        refine ⟨_, _, .list [dG pl (lfQ P xs).1 (lfQ P xs).2, .bool (shutQ P xs m).isNone], rfl, .lst (.inl (.inl (((s4.trans s5).trans s6) _ _ upd_same))) (.cons (Dp_same (s2.trans sB) d1) (.cons (.bl _) .nil)), .lst (.inl (.inl upd_same)) (.cons (Dp_same (s5.trans s6) d3) (.cons (.bl _) .nil)), ?_, ?_, fun H36 s7 => ⟨_, rfl, iteF ?_⟩⟩
        · have := dep_dG pl (lfQ P xs).1 (lfQ P xs).2
          simp only [dep, deps]; omega
        · have := wd_dG pl (lfQ P xs).1 g'.len
          simp only [wd, wds, List.length_cons, List.length_nil]; omega
        have sC := (((s1.trans s2).trans sB)).trans s7
        exact ⟨R30.same sC, D30.t.same sC, _, _, _, _, _, _, _, _, _, rfl⟩
    · rintro σ H1 ⟨R1, T1, z2, z3, z4, z5, z6, z7, z8, z9, z10, rfl⟩
      exact ⟨rfl, q _⟩
end
end EP
namespace EP
open PySem PySem.Spec PyProof.Rows L2 EPX
set_option maxHeartbeats 8000000 in
theorem all_mk {l : PySem.W.OpenLaw} {w : World} {K : PySem.W.Frag} {h : Heap} {mg : Str → Option Value} {fa : Addr} (X : K.In h) (G : h.Ns mainGlobals mg) (hfa : mg "law" = some (.ref fa))
    {k_ZERO : Addr} {odk_ZERO : Option Addr} {nk_ZERO : Nat} {slk_ZERO : Array (Option Value)} {tk_ZERO0 : Tok} {tk_ZERO1 : Tok} (ak_ZERO : PySem.W.nsIn K mainGlobals "ZERO" = some (some (.ref k_ZERO))) (lk_ZERO : K.lookup k_ZERO = some ⟨.type "tuple", odk_ZERO, .seq #[.int 0 tk_ZERO0, .int 1 tk_ZERO1] nk_ZERO, slk_ZERO⟩)
    {k_ONE : Addr} {odk_ONE : Option Addr} {nk_ONE : Nat} {slk_ONE : Array (Option Value)} {tk_ONE0 : Tok} {tk_ONE1 : Tok} (ak_ONE : PySem.W.nsIn K mainGlobals "ONE" = some (some (.ref k_ONE))) (lk_ONE : K.lookup k_ONE = some ⟨.type "tuple", odk_ONE, .seq #[.int 1 tk_ONE0, .int 1 tk_ONE1] nk_ONE, slk_ONE⟩)
    {tk_MAX_SPANS : Tok} (ak_MAX_SPANS : PySem.W.nsIn K mainGlobals "MAX_SPANS" = some (some (.int 6 tk_MAX_SPANS)))
    {f0 : Addr} {od0 an0 : Option Addr} {sl0 : Array (Option Value)} {oc0 kV0 dc0 pm0 cd0 ct0 : Value}
    (a0 : PySem.W.nsIn K mainGlobals "gcd" = some (some (.ref f0))) (l0 : K.lookup f0 = some ⟨oc0, od0, .func (PySem.W.fnOf "gcd" "gcd" (defArgs s_gcd) (defBody s_gcd) (defScope s_gcd) .none kV0 dc0 pm0 an0 cd0 ct0), sl0⟩) (c0 : PySem.W.codeIn K cd0 "gcd" = true) (k0 : PySem.W.keepIn K (.ref f0) = true)
    {f1 T1 : Addr} {od1 an1 odT1 : Option Addr} {sl1 slT1 : Array (Option Value)} {oc1 kV1 dc1 pm1 cd1 ct1 ocT1 : Value} {nT1 : Nat} {tk1_0 : Tok}
    (a1 : PySem.W.nsIn K mainGlobals "fraction" = some (some (.ref f1))) (l1 : K.lookup f1 = some ⟨oc1, od1, .func (PySem.W.fnOf "fraction" "fraction" (defArgs s_fraction) (defBody s_fraction) (defScope s_fraction) (.ref T1) kV1 dc1 pm1 an1 cd1 ct1), sl1⟩) (c1 : PySem.W.codeIn K cd1 "fraction" = true) (k1 : PySem.W.keepIn K (.ref f1) = true) (t1 : K.lookup T1 = some ⟨ocT1, odT1, .seq #[.int 1 tk1_0] nT1, slT1⟩)
    {f2 : Addr} {od2 an2 : Option Addr} {sl2 : Array (Option Value)} {oc2 kV2 dc2 pm2 cd2 ct2 : Value}
    (a2 : PySem.W.nsIn K mainGlobals "add" = some (some (.ref f2))) (l2 : K.lookup f2 = some ⟨oc2, od2, .func (PySem.W.fnOf "add" "add" (defArgs s_add) (defBody s_add) (defScope s_add) .none kV2 dc2 pm2 an2 cd2 ct2), sl2⟩) (c2 : PySem.W.codeIn K cd2 "add" = true) (k2 : PySem.W.keepIn K (.ref f2) = true)
    {f3 : Addr} {od3 an3 : Option Addr} {sl3 : Array (Option Value)} {oc3 kV3 dc3 pm3 cd3 ct3 : Value}
    (a3 : PySem.W.nsIn K mainGlobals "subtract" = some (some (.ref f3))) (l3 : K.lookup f3 = some ⟨oc3, od3, .func (PySem.W.fnOf "subtract" "subtract" (defArgs s_subtract) (defBody s_subtract) (defScope s_subtract) .none kV3 dc3 pm3 an3 cd3 ct3), sl3⟩) (c3 : PySem.W.codeIn K cd3 "subtract" = true) (k3 : PySem.W.keepIn K (.ref f3) = true)
    {f4 : Addr} {od4 an4 : Option Addr} {sl4 : Array (Option Value)} {oc4 kV4 dc4 pm4 cd4 ct4 : Value}
    (a4 : PySem.W.nsIn K mainGlobals "multiply" = some (some (.ref f4))) (l4 : K.lookup f4 = some ⟨oc4, od4, .func (PySem.W.fnOf "multiply" "multiply" (defArgs s_multiply) (defBody s_multiply) (defScope s_multiply) .none kV4 dc4 pm4 an4 cd4 ct4), sl4⟩) (c4 : PySem.W.codeIn K cd4 "multiply" = true) (k4 : PySem.W.keepIn K (.ref f4) = true)
    {f5 : Addr} {od5 an5 : Option Addr} {sl5 : Array (Option Value)} {oc5 kV5 dc5 pm5 cd5 ct5 : Value}
    (a5 : PySem.W.nsIn K mainGlobals "divide" = some (some (.ref f5))) (l5 : K.lookup f5 = some ⟨oc5, od5, .func (PySem.W.fnOf "divide" "divide" (defArgs s_divide) (defBody s_divide) (defScope s_divide) .none kV5 dc5 pm5 an5 cd5 ct5), sl5⟩) (c5 : PySem.W.codeIn K cd5 "divide" = true) (k5 : PySem.W.keepIn K (.ref f5) = true)
    {f6 : Addr} {od6 an6 : Option Addr} {sl6 : Array (Option Value)} {oc6 kV6 dc6 pm6 cd6 ct6 : Value}
    (a6 : PySem.W.nsIn K mainGlobals "is_less" = some (some (.ref f6))) (l6 : K.lookup f6 = some ⟨oc6, od6, .func (PySem.W.fnOf "is_less" "is_less" (defArgs s_is_less) (defBody s_is_less) (defScope s_is_less) .none kV6 dc6 pm6 an6 cd6 ct6), sl6⟩) (c6 : PySem.W.codeIn K cd6 "is_less" = true) (k6 : PySem.W.keepIn K (.ref f6) = true)
    {f7 : Addr} {od7 an7 : Option Addr} {sl7 : Array (Option Value)} {oc7 kV7 dc7 pm7 cd7 ct7 : Value}
    (a7 : PySem.W.nsIn K mainGlobals "floor_of" = some (some (.ref f7))) (l7 : K.lookup f7 = some ⟨oc7, od7, .func (PySem.W.fnOf "floor_of" "floor_of" (defArgs s_floor_of) (defBody s_floor_of) (defScope s_floor_of) .none kV7 dc7 pm7 an7 cd7 ct7), sl7⟩) (c7 : PySem.W.codeIn K cd7 "floor_of" = true) (k7 : PySem.W.keepIn K (.ref f7) = true)
    {f8 : Addr} {od8 an8 : Option Addr} {sl8 : Array (Option Value)} {oc8 kV8 dc8 pm8 cd8 ct8 : Value}
    (a8 : PySem.W.nsIn K mainGlobals "remainder" = some (some (.ref f8))) (l8 : K.lookup f8 = some ⟨oc8, od8, .func (PySem.W.fnOf "remainder" "remainder" (defArgs s_remainder) (defBody s_remainder) (defScope s_remainder) .none kV8 dc8 pm8 an8 cd8 ct8), sl8⟩) (c8 : PySem.W.codeIn K cd8 "remainder" = true) (k8 : PySem.W.keepIn K (.ref f8) = true)
    {f9 : Addr} {od9 an9 : Option Addr} {sl9 : Array (Option Value)} {oc9 kV9 dc9 pm9 cd9 ct9 : Value}
    (a9 : PySem.W.nsIn K mainGlobals "common_denominator" = some (some (.ref f9))) (l9 : K.lookup f9 = some ⟨oc9, od9, .func (PySem.W.fnOf "common_denominator" "common_denominator" (defArgs s_common_denominator) (defBody s_common_denominator) (defScope s_common_denominator) .none kV9 dc9 pm9 an9 cd9 ct9), sl9⟩) (c9 : PySem.W.codeIn K cd9 "common_denominator" = true) (k9 : PySem.W.keepIn K (.ref f9) = true)
    {f10 : Addr} {od10 an10 : Option Addr} {sl10 : Array (Option Value)} {oc10 kV10 dc10 pm10 cd10 ct10 : Value}
    (a10 : PySem.W.nsIn K mainGlobals "whole" = some (some (.ref f10))) (l10 : K.lookup f10 = some ⟨oc10, od10, .func (PySem.W.fnOf "whole" "whole" (defArgs s_whole) (defBody s_whole) (defScope s_whole) .none kV10 dc10 pm10 an10 cd10 ct10), sl10⟩) (c10 : PySem.W.codeIn K cd10 "whole" = true) (k10 : PySem.W.keepIn K (.ref f10) = true)
    {f11 : Addr} {od11 an11 : Option Addr} {sl11 : Array (Option Value)} {oc11 kV11 dc11 pm11 cd11 ct11 : Value}
    (a11 : PySem.W.nsIn K mainGlobals "in_order" = some (some (.ref f11))) (l11 : K.lookup f11 = some ⟨oc11, od11, .func (PySem.W.fnOf "in_order" "in_order" (defArgs s_in_order) (defBody s_in_order) (defScope s_in_order) .none kV11 dc11 pm11 an11 cd11 ct11), sl11⟩) (c11 : PySem.W.codeIn K cd11 "in_order" = true) (k11 : PySem.W.keepIn K (.ref f11) = true)
    {f12 : Addr} {od12 an12 : Option Addr} {sl12 : Array (Option Value)} {oc12 kV12 dc12 pm12 cd12 ct12 : Value}
    (a12 : PySem.W.nsIn K mainGlobals "span_ends" = some (some (.ref f12))) (l12 : K.lookup f12 = some ⟨oc12, od12, .func (PySem.W.fnOf "span_ends" "span_ends" (defArgs s_span_ends) (defBody s_span_ends) (defScope s_span_ends) .none kV12 dc12 pm12 an12 cd12 ct12), sl12⟩) (c12 : PySem.W.codeIn K cd12 "span_ends" = true) (k12 : PySem.W.keepIn K (.ref f12) = true)
    {f13 : Addr} {od13 an13 : Option Addr} {sl13 : Array (Option Value)} {oc13 kV13 dc13 pm13 cd13 ct13 : Value}
    (a13 : PySem.W.nsIn K mainGlobals "next_begins" = some (some (.ref f13))) (l13 : K.lookup f13 = some ⟨oc13, od13, .func (PySem.W.fnOf "next_begins" "next_begins" (defArgs s_next_begins) (defBody s_next_begins) (defScope s_next_begins) .none kV13 dc13 pm13 an13 cd13 ct13), sl13⟩) (c13 : PySem.W.codeIn K cd13 "next_begins" = true) (k13 : PySem.W.keepIn K (.ref f13) = true)
    {f14 : Addr} {od14 an14 : Option Addr} {sl14 : Array (Option Value)} {oc14 kV14 dc14 pm14 cd14 ct14 : Value}
    (a14 : PySem.W.nsIn K mainGlobals "fits" = some (some (.ref f14))) (l14 : K.lookup f14 = some ⟨oc14, od14, .func (PySem.W.fnOf "fits" "fits" (defArgs s_fits) (defBody s_fits) (defScope s_fits) .none kV14 dc14 pm14 an14 cd14 ct14), sl14⟩) (c14 : PySem.W.codeIn K cd14 "fits" = true) (k14 : PySem.W.keepIn K (.ref f14) = true)
    {f15 : Addr} {od15 an15 : Option Addr} {sl15 : Array (Option Value)} {oc15 kV15 dc15 pm15 cd15 ct15 : Value}
    (a15 : PySem.W.nsIn K mainGlobals "is_gate" = some (some (.ref f15))) (l15 : K.lookup f15 = some ⟨oc15, od15, .func (PySem.W.fnOf "is_gate" "is_gate" (defArgs s_is_gate) (defBody s_is_gate) (defScope s_is_gate) .none kV15 dc15 pm15 an15 cd15 ct15), sl15⟩) (c15 : PySem.W.codeIn K cd15 "is_gate" = true) (k15 : PySem.W.keepIn K (.ref f15) = true)
    {f16 : Addr} {od16 an16 : Option Addr} {sl16 : Array (Option Value)} {oc16 kV16 dc16 pm16 cd16 ct16 : Value}
    (a16 : PySem.W.nsIn K mainGlobals "repeats" = some (some (.ref f16))) (l16 : K.lookup f16 = some ⟨oc16, od16, .func (PySem.W.fnOf "repeats" "repeats" (defArgs s_repeats) (defBody s_repeats) (defScope s_repeats) .none kV16 dc16 pm16 an16 cd16 ct16), sl16⟩) (c16 : PySem.W.codeIn K cd16 "repeats" = true) (k16 : PySem.W.keepIn K (.ref f16) = true)
    {f17 : Addr} {od17 an17 : Option Addr} {sl17 : Array (Option Value)} {oc17 kV17 dc17 pm17 cd17 ct17 : Value}
    (a17 : PySem.W.nsIn K mainGlobals "least_form" = some (some (.ref f17))) (l17 : K.lookup f17 = some ⟨oc17, od17, .func (PySem.W.fnOf "least_form" "least_form" (defArgs s_least_form) (defBody s_least_form) (defScope s_least_form) .none kV17 dc17 pm17 an17 cd17 ct17), sl17⟩) (c17 : PySem.W.codeIn K cd17 "least_form" = true) (k17 : PySem.W.keepIn K (.ref f17) = true)
    {f18 : Addr} {od18 an18 : Option Addr} {sl18 : Array (Option Value)} {oc18 kV18 dc18 pm18 cd18 ct18 : Value}
    (a18 : PySem.W.nsIn K mainGlobals "normal_gate" = some (some (.ref f18))) (l18 : K.lookup f18 = some ⟨oc18, od18, .func (PySem.W.fnOf "normal_gate" "normal_gate" (defArgs s_normal_gate) (defBody s_normal_gate) (defScope s_normal_gate) .none kV18 dc18 pm18 an18 cd18 ct18), sl18⟩) (c18 : PySem.W.codeIn K cd18 "normal_gate" = true) (k18 : PySem.W.keepIn K (.ref f18) = true)
    {f19 : Addr} {od19 an19 : Option Addr} {sl19 : Array (Option Value)} {oc19 kV19 dc19 pm19 cd19 ct19 : Value}
    (a19 : PySem.W.nsIn K mainGlobals "shut_until" = some (some (.ref f19))) (l19 : K.lookup f19 = some ⟨oc19, od19, .func (PySem.W.fnOf "shut_until" "shut_until" (defArgs s_shut_until) (defBody s_shut_until) (defScope s_shut_until) .none kV19 dc19 pm19 an19 cd19 ct19), sl19⟩) (c19 : PySem.W.codeIn K cd19 "shut_until" = true) (k19 : PySem.W.keepIn K (.ref f19) = true)
    {f20 : Addr} {od20 an20 : Option Addr} {sl20 : Array (Option Value)} {oc20 kV20 dc20 pm20 cd20 ct20 : Value}
    (a20 : PySem.W.nsIn K mainGlobals "is_open" = some (some (.ref f20))) (l20 : K.lookup f20 = some ⟨oc20, od20, .func (PySem.W.fnOf "is_open" "is_open" (defArgs s_is_open) (defBody s_is_open) (defScope s_is_open) .none kV20 dc20 pm20 an20 cd20 ct20), sl20⟩) (c20 : PySem.W.codeIn K cd20 "is_open" = true) (k20 : PySem.W.keepIn K (.ref f20) = true)
    {f21 : Addr} {od21 an21 : Option Addr} {sl21 : Array (Option Value)} {oc21 kV21 dc21 pm21 cd21 ct21 : Value}
    (a21 : PySem.W.nsIn K mainGlobals "next_open" = some (some (.ref f21))) (l21 : K.lookup f21 = some ⟨oc21, od21, .func (PySem.W.fnOf "next_open" "next_open" (defArgs s_next_open) (defBody s_next_open) (defScope s_next_open) .none kV21 dc21 pm21 an21 cd21 ct21), sl21⟩) (c21 : PySem.W.codeIn K cd21 "next_open" = true) (k21 : PySem.W.keepIn K (.ref f21) = true)
    {f22 : Addr} {od22 an22 : Option Addr} {sl22 : Array (Option Value)} {oc22 kV22 dc22 pm22 cd22 ct22 : Value}
    (a22 : PySem.W.nsIn K mainGlobals "first_windows" = some (some (.ref f22))) (l22 : K.lookup f22 = some ⟨oc22, od22, .func (PySem.W.fnOf "first_windows" "first_windows" (defArgs s_first_windows) (defBody s_first_windows) (defScope s_first_windows) .none kV22 dc22 pm22 an22 cd22 ct22), sl22⟩) (c22 : PySem.W.codeIn K cd22 "first_windows" = true) (k22 : PySem.W.keepIn K (.ref f22) = true)
    {f23 : Addr} {od23 an23 : Option Addr} {sl23 : Array (Option Value)} {oc23 kV23 dc23 pm23 cd23 ct23 : Value}
    (a23 : PySem.W.nsIn K mainGlobals "periods_later" = some (some (.ref f23))) (l23 : K.lookup f23 = some ⟨oc23, od23, .func (PySem.W.fnOf "periods_later" "periods_later" (defArgs s_periods_later) (defBody s_periods_later) (defScope s_periods_later) .none kV23 dc23 pm23 an23 cd23 ct23), sl23⟩) (c23 : PySem.W.codeIn K cd23 "periods_later" = true) (k23 : PySem.W.keepIn K (.ref f23) = true)
    {f24 : Addr} {od24 an24 : Option Addr} {sl24 : Array (Option Value)} {oc24 kV24 dc24 pm24 cd24 ct24 : Value}
    (a24 : PySem.W.nsIn K mainGlobals "window" = some (some (.ref f24))) (l24 : K.lookup f24 = some ⟨oc24, od24, .func (PySem.W.fnOf "window" "window" (defArgs s_window) (defBody s_window) (defScope s_window) .none kV24 dc24 pm24 an24 cd24 ct24), sl24⟩) (c24 : PySem.W.codeIn K cd24 "window" = true) (k24 : PySem.W.keepIn K (.ref f24) = true)
    {f25 : Addr} {od25 an25 : Option Addr} {sl25 : Array (Option Value)} {oc25 kV25 dc25 pm25 cd25 ct25 : Value}
    (a25 : PySem.W.nsIn K mainGlobals "window_at" = some (some (.ref f25))) (l25 : K.lookup f25 = some ⟨oc25, od25, .func (PySem.W.fnOf "window_at" "window_at" (defArgs s_window_at) (defBody s_window_at) (defScope s_window_at) .none kV25 dc25 pm25 an25 cd25 ct25), sl25⟩) (c25 : PySem.W.codeIn K cd25 "window_at" = true) (k25 : PySem.W.keepIn K (.ref f25) = true)
    {f26 : Addr} {od26 an26 : Option Addr} {sl26 : Array (Option Value)} {oc26 kV26 dc26 pm26 cd26 ct26 : Value}
    (a26 : PySem.W.nsIn K mainGlobals "delayed_gate" = some (some (.ref f26))) (l26 : K.lookup f26 = some ⟨oc26, od26, .func (PySem.W.fnOf "delayed_gate" "delayed_gate" (defArgs s_delayed_gate) (defBody s_delayed_gate) (defScope s_delayed_gate) .none kV26 dc26 pm26 an26 cd26 ct26), sl26⟩) (c26 : PySem.W.codeIn K cd26 "delayed_gate" = true) (k26 : PySem.W.keepIn K (.ref f26) = true)
    {f27 : Addr} {od27 an27 : Option Addr} {sl27 : Array (Option Value)} {oc27 kV27 dc27 pm27 cd27 ct27 : Value}
    (a27 : PySem.W.nsIn K mainGlobals "_law_source" = some (some (.ref f27))) (l27 : K.lookup f27 = some ⟨oc27, od27, .func (PySem.W.fnOf "_law_source" "_law_source" (defArgs s_l_source) (defBody s_l_source) (defScope s_l_source) .none kV27 dc27 pm27 an27 cd27 ct27), sl27⟩) (c27 : PySem.W.codeIn K cd27 "_law_source" = true) (k27 : PySem.W.keepIn K (.ref f27) = true)
    {f28 : Addr} {od28 an28 : Option Addr} {sl28 : Array (Option Value)} {oc28 kV28 dc28 pm28 cd28 ct28 : Value}
    (a28 : PySem.W.nsIn K mainGlobals "_law_draw" = some (some (.ref f28))) (l28 : K.lookup f28 = some ⟨oc28, od28, .func (PySem.W.fnOf "_law_draw" "_law_draw" (defArgs s_l_draw) (defBody s_l_draw) (defScope s_l_draw) .none kV28 dc28 pm28 an28 cd28 ct28), sl28⟩) (c28 : PySem.W.codeIn K cd28 "_law_draw" = true) (k28 : PySem.W.keepIn K (.ref f28) = true)
    {f29 : Addr} {od29 an29 : Option Addr} {sl29 : Array (Option Value)} {oc29 kV29 dc29 pm29 cd29 ct29 : Value}
    (a29 : PySem.W.nsIn K mainGlobals "_law_choice" = some (some (.ref f29))) (l29 : K.lookup f29 = some ⟨oc29, od29, .func (PySem.W.fnOf "_law_choice" "_law_choice" (defArgs s_l_choice) (defBody s_l_choice) (defScope s_l_choice) .none kV29 dc29 pm29 an29 cd29 ct29), sl29⟩) (c29 : PySem.W.codeIn K cd29 "_law_choice" = true) (k29 : PySem.W.keepIn K (.ref f29) = true)
    {f30 : Addr} {od30 an30 : Option Addr} {sl30 : Array (Option Value)} {oc30 kV30 dc30 pm30 cd30 ct30 : Value}
    (a30 : PySem.W.nsIn K mainGlobals "_law_equal" = some (some (.ref f30))) (l30 : K.lookup f30 = some ⟨oc30, od30, .func (PySem.W.fnOf "_law_equal" "_law_equal" (defArgs s_l_equal) (defBody s_l_equal) (defScope s_l_equal) .none kV30 dc30 pm30 an30 cd30 ct30), sl30⟩) (c30 : PySem.W.codeIn K cd30 "_law_equal" = true) (k30 : PySem.W.keepIn K (.ref f30) = true)
    {f31 : Addr} {od31 an31 : Option Addr} {sl31 : Array (Option Value)} {oc31 kV31 dc31 pm31 cd31 ct31 : Value}
    (a31 : PySem.W.nsIn K mainGlobals "_law_error_field" = some (some (.ref f31))) (l31 : K.lookup f31 = some ⟨oc31, od31, .func (PySem.W.fnOf "_law_error_field" "_law_error_field" (defArgs s_l_error_field) (defBody s_l_error_field) (defScope s_l_error_field) .none kV31 dc31 pm31 an31 cd31 ct31), sl31⟩) (c31 : PySem.W.codeIn K cd31 "_law_error_field" = true) (k31 : PySem.W.keepIn K (.ref f31) = true)
    {f32 : Addr} {od32 an32 : Option Addr} {sl32 : Array (Option Value)} {oc32 kV32 dc32 pm32 cd32 ct32 : Value}
    (a32 : PySem.W.nsIn K mainGlobals "_law_outcome" = some (some (.ref f32))) (l32 : K.lookup f32 = some ⟨oc32, od32, .func (PySem.W.fnOf "_law_outcome" "_law_outcome" (defArgs s_l_outcome) (defBody s_l_outcome) (defScope s_l_outcome) .none kV32 dc32 pm32 an32 cd32 ct32), sl32⟩) (c32 : PySem.W.codeIn K cd32 "_law_outcome" = true) (k32 : PySem.W.keepIn K (.ref f32) = true)
    {f33 : Addr} {od33 an33 : Option Addr} {sl33 : Array (Option Value)} {oc33 kV33 dc33 pm33 cd33 ct33 : Value}
    (a33 : PySem.W.nsIn K mainGlobals "_law_error" = some (some (.ref f33))) (l33 : K.lookup f33 = some ⟨oc33, od33, .func (PySem.W.fnOf "_law_error" "_law_error" (defArgs s_l_error) (defBody s_l_error) (defScope s_l_error) .none kV33 dc33 pm33 an33 cd33 ct33), sl33⟩) (c33 : PySem.W.codeIn K cd33 "_law_error" = true) (k33 : PySem.W.keepIn K (.ref f33) = true)
    {f34 : Addr} {od34 an34 : Option Addr} {sl34 : Array (Option Value)} {oc34 kV34 dc34 pm34 cd34 ct34 : Value}
    (a34 : PySem.W.nsIn K mainGlobals "_law_divisor" = some (some (.ref f34))) (l34 : K.lookup f34 = some ⟨oc34, od34, .func (PySem.W.fnOf "_law_divisor" "_law_divisor" (defArgs s_l_divisor) (defBody s_l_divisor) (defScope s_l_divisor) .none kV34 dc34 pm34 an34 cd34 ct34), sl34⟩) (c34 : PySem.W.codeIn K cd34 "_law_divisor" = true) (k34 : PySem.W.keepIn K (.ref f34) = true)
    {f35 : Addr} {od35 an35 : Option Addr} {sl35 : Array (Option Value)} {oc35 kV35 dc35 pm35 cd35 ct35 : Value}
    (a35 : PySem.W.nsIn K mainGlobals "_law_reduce" = some (some (.ref f35))) (l35 : K.lookup f35 = some ⟨oc35, od35, .func (PySem.W.fnOf "_law_reduce" "_law_reduce" (defArgs s_l_reduce) (defBody s_l_reduce) (defScope s_l_reduce) .none kV35 dc35 pm35 an35 cd35 ct35), sl35⟩) (c35 : PySem.W.codeIn K cd35 "_law_reduce" = true) (k35 : PySem.W.keepIn K (.ref f35) = true)
    {f36 : Addr} {od36 an36 : Option Addr} {sl36 : Array (Option Value)} {oc36 kV36 dc36 pm36 cd36 ct36 : Value}
    (a36 : PySem.W.nsIn K mainGlobals "_law_add" = some (some (.ref f36))) (l36 : K.lookup f36 = some ⟨oc36, od36, .func (PySem.W.fnOf "_law_add" "_law_add" (defArgs s_l_add) (defBody s_l_add) (defScope s_l_add) .none kV36 dc36 pm36 an36 cd36 ct36), sl36⟩) (c36 : PySem.W.codeIn K cd36 "_law_add" = true) (k36 : PySem.W.keepIn K (.ref f36) = true)
    {f37 : Addr} {od37 an37 : Option Addr} {sl37 : Array (Option Value)} {oc37 kV37 dc37 pm37 cd37 ct37 : Value}
    (a37 : PySem.W.nsIn K mainGlobals "_law_multiply" = some (some (.ref f37))) (l37 : K.lookup f37 = some ⟨oc37, od37, .func (PySem.W.fnOf "_law_multiply" "_law_multiply" (defArgs s_l_multiply) (defBody s_l_multiply) (defScope s_l_multiply) .none kV37 dc37 pm37 an37 cd37 ct37), sl37⟩) (c37 : PySem.W.codeIn K cd37 "_law_multiply" = true) (k37 : PySem.W.keepIn K (.ref f37) = true)
    {f38 : Addr} {od38 an38 : Option Addr} {sl38 : Array (Option Value)} {oc38 kV38 dc38 pm38 cd38 ct38 : Value}
    (a38 : PySem.W.nsIn K mainGlobals "_law_less" = some (some (.ref f38))) (l38 : K.lookup f38 = some ⟨oc38, od38, .func (PySem.W.fnOf "_law_less" "_law_less" (defArgs s_l_less) (defBody s_l_less) (defScope s_l_less) .none kV38 dc38 pm38 an38 cd38 ct38), sl38⟩) (c38 : PySem.W.codeIn K cd38 "_law_less" = true) (k38 : PySem.W.keepIn K (.ref f38) = true)
    {f39 : Addr} {od39 an39 : Option Addr} {sl39 : Array (Option Value)} {oc39 kV39 dc39 pm39 cd39 ct39 : Value}
    (a39 : PySem.W.nsIn K mainGlobals "_law_times" = some (some (.ref f39))) (l39 : K.lookup f39 = some ⟨oc39, od39, .func (PySem.W.fnOf "_law_times" "_law_times" (defArgs s_l_times) (defBody s_l_times) (defScope s_l_times) .none kV39 dc39 pm39 an39 cd39 ct39), sl39⟩) (c39 : PySem.W.codeIn K cd39 "_law_times" = true) (k39 : PySem.W.keepIn K (.ref f39) = true)
    {f40 : Addr} {od40 an40 : Option Addr} {sl40 : Array (Option Value)} {oc40 kV40 dc40 pm40 cd40 ct40 : Value}
    (a40 : PySem.W.nsIn K mainGlobals "_law_small" = some (some (.ref f40))) (l40 : K.lookup f40 = some ⟨oc40, od40, .func (PySem.W.fnOf "_law_small" "_law_small" (defArgs s_l_small) (defBody s_l_small) (defScope s_l_small) .none kV40 dc40 pm40 an40 cd40 ct40), sl40⟩) (c40 : PySem.W.codeIn K cd40 "_law_small" = true) (k40 : PySem.W.keepIn K (.ref f40) = true)
    {f41 : Addr} {od41 an41 : Option Addr} {sl41 : Array (Option Value)} {oc41 kV41 dc41 pm41 cd41 ct41 : Value}
    (a41 : PySem.W.nsIn K mainGlobals "_law_positive" = some (some (.ref f41))) (l41 : K.lookup f41 = some ⟨oc41, od41, .func (PySem.W.fnOf "_law_positive" "_law_positive" (defArgs s_l_positive) (defBody s_l_positive) (defScope s_l_positive) .none kV41 dc41 pm41 an41 cd41 ct41), sl41⟩) (c41 : PySem.W.codeIn K cd41 "_law_positive" = true) (k41 : PySem.W.keepIn K (.ref f41) = true)
    {f42 : Addr} {od42 an42 : Option Addr} {sl42 : Array (Option Value)} {oc42 kV42 dc42 pm42 cd42 ct42 : Value}
    (a42 : PySem.W.nsIn K mainGlobals "_law_parts" = some (some (.ref f42))) (l42 : K.lookup f42 = some ⟨oc42, od42, .func (PySem.W.fnOf "_law_parts" "_law_parts" (defArgs s_l_parts) (defBody s_l_parts) (defScope s_l_parts) .none kV42 dc42 pm42 an42 cd42 ct42), sl42⟩) (c42 : PySem.W.codeIn K cd42 "_law_parts" = true) (k42 : PySem.W.keepIn K (.ref f42) = true)
    {f43 : Addr} {od43 an43 : Option Addr} {sl43 : Array (Option Value)} {oc43 kV43 dc43 pm43 cd43 ct43 : Value}
    (a43 : PySem.W.nsIn K mainGlobals "_law_gate" = some (some (.ref f43))) (l43 : K.lookup f43 = some ⟨oc43, od43, .func (PySem.W.fnOf "_law_gate" "_law_gate" (defArgs s_l_gate) (defBody s_l_gate) (defScope s_l_gate) .none kV43 dc43 pm43 an43 cd43 ct43), sl43⟩) (c43 : PySem.W.codeIn K cd43 "_law_gate" = true) (k43 : PySem.W.keepIn K (.ref f43) = true)
    {f44 : Addr} {od44 an44 : Option Addr} {sl44 : Array (Option Value)} {oc44 kV44 dc44 pm44 cd44 ct44 : Value}
    (a44 : PySem.W.nsIn K mainGlobals "_law_is_gate" = some (some (.ref f44))) (l44 : K.lookup f44 = some ⟨oc44, od44, .func (PySem.W.fnOf "_law_is_gate" "_law_is_gate" (defArgs s_l_is_gate) (defBody s_l_is_gate) (defScope s_l_is_gate) .none kV44 dc44 pm44 an44 cd44 ct44), sl44⟩) (c44 : PySem.W.codeIn K cd44 "_law_is_gate" = true) (k44 : PySem.W.keepIn K (.ref f44) = true)
    {f45 : Addr} {od45 an45 : Option Addr} {sl45 : Array (Option Value)} {oc45 kV45 dc45 pm45 cd45 ct45 : Value}
    (a45 : PySem.W.nsIn K mainGlobals "_law_bent" = some (some (.ref f45))) (l45 : K.lookup f45 = some ⟨oc45, od45, .func (PySem.W.fnOf "_law_bent" "_law_bent" (defArgs s_l_bent) (defBody s_l_bent) (defScope s_l_bent) .none kV45 dc45 pm45 an45 cd45 ct45), sl45⟩) (c45 : PySem.W.codeIn K cd45 "_law_bent" = true) (k45 : PySem.W.keepIn K (.ref f45) = true)
    {f46 : Addr} {od46 an46 : Option Addr} {sl46 : Array (Option Value)} {oc46 kV46 dc46 pm46 cd46 ct46 : Value}
    (a46 : PySem.W.nsIn K mainGlobals "law" = some (some (.ref f46))) (l46 : K.lookup f46 = some ⟨oc46, od46, .func (PySem.W.fnOf "law" "law" (defArgs s_law) (defBody s_law) (defScope s_law) .none kV46 dc46 pm46 an46 cd46 ct46), sl46⟩) (c46 : PySem.W.codeIn K cd46 "law" = true) (k46 : PySem.W.keepIn K (.ref f46) = true)
    (z0 : PySem.W.nsIn K mainGlobals "ValueError" = some none)
    (z1 : PySem.W.nsIn K mainGlobals "abs" = some none)
    (z2 : PySem.W.nsIn K mainGlobals "sorted" = some none)
    (z3 : PySem.W.nsIn K mainGlobals "len" = some none)
    (z4 : PySem.W.nsIn K mainGlobals "all" = some none)
    (z5 : PySem.W.nsIn K mainGlobals "any" = some none)
    (z6 : PySem.W.nsIn K mainGlobals "zip" = some none)
    (z7 : PySem.W.nsIn K mainGlobals "list" = some none)
    (z8 : PySem.W.nsIn K mainGlobals "range" = some none)
    (z9 : PySem.W.nsIn K mainGlobals "tuple" = some none)
    (z10 : PySem.W.nsIn K mainGlobals "divmod" = some none)
    (z11 : PySem.W.nsIn K mainGlobals "enumerate" = some none)
    (z12 : PySem.W.nsIn K mainGlobals "isinstance" = some none)
    (z13 : PySem.W.nsIn K mainGlobals "bool" = some none)
    (z14 : PySem.W.nsIn K mainGlobals "int" = some none)
    (z15 : PySem.W.nsIn K mainGlobals "str" = some none)
    {c_PaceError : Addr} (ac_PaceError : PySem.W.nsIn K mainGlobals "PaceError" = some (some (.ref c_PaceError)))
    {c_NotFound : Addr} (ac_NotFound : PySem.W.nsIn K mainGlobals "NotFound" = some (some (.ref c_NotFound)))
    {c_InvalidGate : Addr} (ac_InvalidGate : PySem.W.nsIn K mainGlobals "InvalidGate" = some (some (.ref c_InvalidGate)))
    {c_NotBarring : Addr} (ac_NotBarring : PySem.W.nsIn K mainGlobals "NotBarring" = some (some (.ref c_NotBarring)))
    {c_ZeroDenominator : Addr} (ac_ZeroDenominator : PySem.W.nsIn K mainGlobals "ZeroDenominator" = some (some (.ref c_ZeroDenominator)))
    {c_EmptyHistory : Addr} (ac_EmptyHistory : PySem.W.nsIn K mainGlobals "EmptyHistory" = some (some (.ref c_EmptyHistory)))
    {fi_PaceError : Addr} {odi0 ani0 : Option Addr} {sli0 : Array (Option Value)} {oci0 kVi0 dci0 pmi0 cdi0 cti0 : Value}
    (li0 : K.lookup fi_PaceError = some ⟨oci0, odi0, .func (PySem.W.fnOf "__init__" "PaceError.__init__" (defArgs si_PaceError) (defBody si_PaceError) (defScope si_PaceError) .none kVi0 dci0 pmi0 ani0 cdi0 cti0), sli0⟩) (ci0 : PySem.W.codeIn K cdi0 "PaceError.__init__" = true) (ki0 : PySem.W.keepIn K (.ref fi_PaceError) = true)
    {fi_InvalidGate : Addr} {odi1 ani1 : Option Addr} {sli1 : Array (Option Value)} {oci1 kVi1 dci1 pmi1 cdi1 cti1 : Value}
    (li1 : K.lookup fi_InvalidGate = some ⟨oci1, odi1, .func (PySem.W.fnOf "__init__" "InvalidGate.__init__" (defArgs si_InvalidGate) (defBody si_InvalidGate) (defScope si_InvalidGate) .none kVi1 dci1 pmi1 ani1 cdi1 cti1), sli1⟩) (ci1 : PySem.W.codeIn K cdi1 "InvalidGate.__init__" = true) (ki1 : PySem.W.keepIn K (.ref fi_InvalidGate) = true)
    {fi_NotBarring : Addr} {odi2 ani2 : Option Addr} {sli2 : Array (Option Value)} {oci2 kVi2 dci2 pmi2 cdi2 cti2 : Value}
    (li2 : K.lookup fi_NotBarring = some ⟨oci2, odi2, .func (PySem.W.fnOf "__init__" "NotBarring.__init__" (defArgs si_NotBarring) (defBody si_NotBarring) (defScope si_NotBarring) .none kVi2 dci2 pmi2 ani2 cdi2 cti2), sli2⟩) (ci2 : PySem.W.codeIn K cdi2 "NotBarring.__init__" = true) (ki2 : PySem.W.keepIn K (.ref fi_NotBarring) = true)
    {mcP : Value}
    {nmInvalidGate qCInvalidGate : Str} {NCInvalidGate : Addr} {bsInvalidGate bmInvalidGate : List Value} {snInvalidGate : List Str} {suInvalidGate : List Value} {abInvalidGate : Bool} {coInvalidGate : Option Bool} {ddInvalidGate : Option Addr} {k0InvalidGate k1InvalidGate k2InvalidGate k3InvalidGate k5InvalidGate : Option Value}
    {nmNotBarring qCNotBarring : Str} {NCNotBarring : Addr} {bsNotBarring bmNotBarring : List Value} {snNotBarring : List Str} {suNotBarring : List Value} {abNotBarring : Bool} {coNotBarring : Option Bool} {ddNotBarring : Option Addr} {k0NotBarring k1NotBarring k2NotBarring k3NotBarring k5NotBarring : Option Value}
    (ownPGa : PySem.W.specialIn K (.ref c_PaceError) "__getattribute__" = some (some (.builtin "type.__getattribute__")))
    (ownPTy : PySem.W.typeIn K (.ref c_PaceError) = some mcP)
    (ownPRd : PySem.W.readsIn K c_PaceError mcP = true)
    (ownPFi : PySem.W.findCls K (.ref c_PaceError) mcP "__init__" = some (.val (.ref fi_PaceError)))
    (eP1 : PySem.W.subIn K (.ref c_PaceError) (.type "BaseException") = some true)
    (eP2 : PySem.W.isClsIn K c_PaceError = true)
    (eP3 : PySem.W.typeIn K (.ref c_PaceError) = some (.type "type"))
    (eN1 : PySem.W.subIn K (.ref c_NotFound) (.type "BaseException") = some true)
    (eN2 : PySem.W.isClsIn K c_NotFound = true)
    (eN3 : PySem.W.typeIn K (.ref c_NotFound) = some (.type "type"))
    (oLInvalidGate : K.lookup c_InvalidGate = some (excClassObj nmInvalidGate qCInvalidGate c_InvalidGate NCInvalidGate bsInvalidGate bmInvalidGate true snInvalidGate suInvalidGate abInvalidGate coInvalidGate ddInvalidGate k0InvalidGate k1InvalidGate k2InvalidGate k3InvalidGate k5InvalidGate "ValueError.__new__"))
    (oBInvalidGate : PySem.HandSPX.refsVE bmInvalidGate = true)
    (oSInvalidGate : PySem.W.findIn K (.ref c_InvalidGate) "__setattr__" = some (some (.builtin "object.__setattr__")))
    (oEInvalidGate : PySem.W.subIn K (.ref c_InvalidGate) (.type "BaseException") = some true)
    (oTInvalidGate : PySem.W.typeIn K (.ref c_InvalidGate) = some (.type "type"))
    (oKInvalidGate : PySem.W.keepIn K (.ref c_InvalidGate) = true)
    (xAInvalidGate : PySem.W.findIn K (.ref c_InvalidGate) "__getattribute__" = some (some (.builtin "BaseException.__getattribute__")))
    (xGInvalidGate : PySem.W.findIn K (.ref c_InvalidGate) "__getattr__" = some none)
    (xDInvalidGate : PySem.W.hasDictIn K c_InvalidGate = true)
    (ePInvalidGate : PySem.W.subIn K (.ref c_InvalidGate) (.ref c_PaceError) = some true)
    (eNInvalidGate : PySem.W.subIn K (.ref c_InvalidGate) (.ref c_NotFound) = some false)
    (oLNotBarring : K.lookup c_NotBarring = some (excClassObj nmNotBarring qCNotBarring c_NotBarring NCNotBarring bsNotBarring bmNotBarring true snNotBarring suNotBarring abNotBarring coNotBarring ddNotBarring k0NotBarring k1NotBarring k2NotBarring k3NotBarring k5NotBarring "ValueError.__new__"))
    (oBNotBarring : PySem.HandSPX.refsVE bmNotBarring = true)
    (oSNotBarring : PySem.W.findIn K (.ref c_NotBarring) "__setattr__" = some (some (.builtin "object.__setattr__")))
    (oENotBarring : PySem.W.subIn K (.ref c_NotBarring) (.type "BaseException") = some true)
    (oTNotBarring : PySem.W.typeIn K (.ref c_NotBarring) = some (.type "type"))
    (oKNotBarring : PySem.W.keepIn K (.ref c_NotBarring) = true)
    (xANotBarring : PySem.W.findIn K (.ref c_NotBarring) "__getattribute__" = some (some (.builtin "BaseException.__getattribute__")))
    (xGNotBarring : PySem.W.findIn K (.ref c_NotBarring) "__getattr__" = some none)
    (xDNotBarring : PySem.W.hasDictIn K c_NotBarring = true)
    (ePNotBarring : PySem.W.subIn K (.ref c_NotBarring) (.ref c_PaceError) = some true)
    (eNNotBarring : PySem.W.subIn K (.ref c_NotBarring) (.ref c_NotFound) = some false)
    (vVE : PySem.W.findCls K (.type "ValueError") (.type "type") "__init__" = some (.val (.builtin "ValueError.__init__")))
    (iInvalidGate : PySem.W.findIn K (.ref c_InvalidGate) "__init__" = some (some (.ref fi_InvalidGate)))
    (tInvalidGate : PySem.W.typeIn K (.ref fi_InvalidGate) = some (.type "function"))
    (nTagInvalidGate : PySem.W.findIn K (.ref c_InvalidGate) "tag" = some none)
    (nFldInvalidGate : PySem.W.findIn K (.ref c_InvalidGate) "position" = some none)
    (iNotBarring : PySem.W.findIn K (.ref c_NotBarring) "__init__" = some (some (.ref fi_NotBarring)))
    (tNotBarring : PySem.W.typeIn K (.ref fi_NotBarring) = some (.type "function"))
    (nTagNotBarring : PySem.W.findIn K (.ref c_NotBarring) "tag" = some none)
    (nFldNotBarring : PySem.W.findIn K (.ref c_NotBarring) "place" = some none)
    {cI PI : Addr} {eI : Value} {ddI : Option Addr} {vsI : Array Value} {slI : Array (Option Value)} (own : ∀ m ∈ [Str.ofString "in_order", Str.ofString "law"], ∀ f, mg m = some (.ref f) → LamX.OwnTab K f h) (hcd : cd11 = .ref cI) (lcI : K.lookup cI = some ⟨eI, ddI, .fields vsI, slI⟩) (pcI : vsI[11]? = some (.ref PI)) (nPI : K.lookup PI = none) (hdI : PySem.W.codeHdIn K cI PI = true)
    {cL PT : Addr} {eL : Value} {ddL : Option Addr} {vsL : Array Value} {slL : Array (Option Value)} (hcdL : cd46 = .ref cL) (lcL : K.lookup cL = some ⟨eL, ddL, .fields vsL, slL⟩) (pcL : vsL[11]? = some (.ref PT)) (nPT : K.lookup PT = none) (hdL : PySem.W.codeHdIn K cL PT = true) (neT : PI ≠ PT)
    : LamX.LawAtS l w K CX0 17 63 "_law_script" mg fa h := by
  have e := hfa.symm.trans (PySem.W.mg_of X G a46)
  cases e
  have F0 := fun_mk (st := s_gcd) l0 c0 k0
  have b0 := F0.binds (ps := ["one", "other"]) fun _ _ _ _ _ _ us hl => match us, hl with | [_, _], _ => rfl
  have F1 : FunD K "fraction" "fraction" (defArgs s_fraction) (defBody s_fraction) (defScope s_fraction) [.int 1] [] f1 _ := ⟨⟨_, _, _, _, _, _, _, _, _, _, rfl, l1, c1, .inr ⟨by simp, _, _, _, _, rfl, t1, rfl, .cons ⟨_, rfl⟩ (.nil)⟩, .inl rfl⟩, k1⟩
  obtain ⟨ds1, vd1, b1⟩ := F1.binds1 (ps := ["num", "den"]) 2 1 (by simp) (by decide) (fun T kV dc pm an cd ct us its h1 h2 => match us, h1, its, h2 with | [_, _], _, [_], _ => ⟨_, rfl, rfl⟩)
  cases vd1
  have F2 := fun_mk (st := s_add) l2 c2 k2
  have b2 := F2.binds (ps := ["one", "other"]) fun _ _ _ _ _ _ us hl => match us, hl with | [_, _], _ => rfl
  have F3 := fun_mk (st := s_subtract) l3 c3 k3
  have b3 := F3.binds (ps := ["one", "other"]) fun _ _ _ _ _ _ us hl => match us, hl with | [_, _], _ => rfl
  have F4 := fun_mk (st := s_multiply) l4 c4 k4
  have b4 := F4.binds (ps := ["one", "other"]) fun _ _ _ _ _ _ us hl => match us, hl with | [_, _], _ => rfl
  have F5 := fun_mk (st := s_divide) l5 c5 k5
  have b5 := F5.binds (ps := ["one", "other"]) fun _ _ _ _ _ _ us hl => match us, hl with | [_, _], _ => rfl
  have F6 := fun_mk (st := s_is_less) l6 c6 k6
  have b6 := F6.binds (ps := ["one", "other"]) fun _ _ _ _ _ _ us hl => match us, hl with | [_, _], _ => rfl
  have F7 := fun_mk (st := s_floor_of) l7 c7 k7
  have b7 := F7.binds (ps := ["one"]) fun _ _ _ _ _ _ us hl => match us, hl with | [_], _ => rfl
  have F8 := fun_mk (st := s_remainder) l8 c8 k8
  have b8 := F8.binds (ps := ["one", "period"]) fun _ _ _ _ _ _ us hl => match us, hl with | [_, _], _ => rfl
  have F9 := fun_mk (st := s_common_denominator) l9 c9 k9
  have b9 := F9.binds (ps := ["values"]) fun _ _ _ _ _ _ us hl => match us, hl with | [_], _ => rfl
  have F10 := fun_mk (st := s_whole) l10 c10 k10
  have b10 := F10.binds (ps := ["value", "common"]) fun _ _ _ _ _ _ us hl => match us, hl with | [_, _], _ => rfl
  have F11 := fun_mk (st := s_in_order) l11 c11 k11
  have b11 := F11.binds (ps := ["rows"]) fun _ _ _ _ _ _ us hl => match us, hl with | [_], _ => rfl
  have F12 := fun_mk (st := s_span_ends) l12 c12 k12
  have b12 := F12.binds (ps := ["spans"]) fun _ _ _ _ _ _ us hl => match us, hl with | [_], _ => rfl
  have F13 := fun_mk (st := s_next_begins) l13 c13 k13
  have b13 := F13.binds (ps := ["period", "spans"]) fun _ _ _ _ _ _ us hl => match us, hl with | [_, _], _ => rfl
  have F14 := fun_mk (st := s_fits) l14 c14 k14
  have b14 := F14.binds (ps := ["span", "period"]) fun _ _ _ _ _ _ us hl => match us, hl with | [_, _], _ => rfl
  have F15 := fun_mk (st := s_is_gate) l15 c15 k15
  have b15 := F15.binds (ps := ["gate"]) fun _ _ _ _ _ _ us hl => match us, hl with | [_], _ => rfl
  have F16 := fun_mk (st := s_repeats) l16 c16 k16
  have b16 := F16.binds (ps := ["spans", "many", "period"]) fun _ _ _ _ _ _ us hl => match us, hl with | [_, _, _], _ => rfl
  have F17 := fun_mk (st := s_least_form) l17 c17 k17
  have b17 := F17.binds (ps := ["place", "period", "spans"]) fun _ _ _ _ _ _ us hl => match us, hl with | [_, _, _], _ => rfl
  have F18 := fun_mk (st := s_normal_gate) l18 c18 k18
  have b18 := F18.binds (ps := ["gate"]) fun _ _ _ _ _ _ us hl => match us, hl with | [_], _ => rfl
  have F19 := fun_mk (st := s_shut_until) l19 c19 k19
  have b19 := F19.binds (ps := ["gate", "moment"]) fun _ _ _ _ _ _ us hl => match us, hl with | [_, _], _ => rfl
  have F20 := fun_mk (st := s_is_open) l20 c20 k20
  have b20 := F20.binds (ps := ["gate", "moment"]) fun _ _ _ _ _ _ us hl => match us, hl with | [_, _], _ => rfl
  have F21 := fun_mk (st := s_next_open) l21 c21 k21
  have b21 := F21.binds (ps := ["gate", "moment"]) fun _ _ _ _ _ _ us hl => match us, hl with | [_, _], _ => rfl
  have F22 := fun_mk (st := s_first_windows) l22 c22 k22
  have b22 := F22.binds (ps := ["gate"]) fun _ _ _ _ _ _ us hl => match us, hl with | [_], _ => rfl
  have F23 := fun_mk (st := s_periods_later) l23 c23 k23
  have b23 := F23.binds (ps := ["moment", "periods", "period"]) fun _ _ _ _ _ _ us hl => match us, hl with | [_, _, _], _ => rfl
  have F24 := fun_mk (st := s_window) l24 c24 k24
  have b24 := F24.binds (ps := ["gate", "number"]) fun _ _ _ _ _ _ us hl => match us, hl with | [_, _], _ => rfl
  have F25 := fun_mk (st := s_window_at) l25 c25 k25
  have b25 := F25.binds (ps := ["gate", "moment"]) fun _ _ _ _ _ _ us hl => match us, hl with | [_, _], _ => rfl
  have F26 := fun_mk (st := s_delayed_gate) l26 c26 k26
  have b26 := F26.binds (ps := ["gate", "delay"]) fun _ _ _ _ _ _ us hl => match us, hl with | [_, _], _ => rfl
  have F27 := fun_mk (st := s_l_source) l27 c27 k27
  have b27 := F27.binds (ps := ["_law_script"]) fun _ _ _ _ _ _ us hl => match us, hl with | [_], _ => rfl
  have F28 := fun_mk (st := s_l_draw) l28 c28 k28
  have b28 := F28.binds (ps := ["_law_rng", "_law_many"]) fun _ _ _ _ _ _ us hl => match us, hl with | [_, _], _ => rfl
  have F29 := fun_mk (st := s_l_choice) l29 c29 k29
  have b29 := F29.binds (ps := ["_law_rng", "_law_some"]) fun _ _ _ _ _ _ us hl => match us, hl with | [_, _], _ => rfl
  have F30 := fun_mk (st := s_l_equal) l30 c30 k30
  have b30 := F30.binds (ps := ["_law_result", "_law_expected"]) fun _ _ _ _ _ _ us hl => match us, hl with | [_, _], _ => rfl
  have F31 := fun_mk (st := s_l_error_field) l31 c31 k31
  have b31 := F31.binds (ps := ["_law_e"]) fun _ _ _ _ _ _ us hl => match us, hl with | [_], _ => rfl
  have F32 := fun_mk (st := s_l_outcome) l32 c32 k32
  have b32 := F32.binds (ps := ["_law_ask"]) fun _ _ _ _ _ _ us hl => match us, hl with | [_], _ => rfl
  have F33 := fun_mk (st := s_l_error) l33 c33 k33
  have b33 := F33.binds (ps := ["_law_ask"]) fun _ _ _ _ _ _ us hl => match us, hl with | [_], _ => rfl
  have F34 := fun_mk (st := s_l_divisor) l34 c34 k34
  have b34 := F34.binds (ps := ["_law_one", "_law_other"]) fun _ _ _ _ _ _ us hl => match us, hl with | [_, _], _ => rfl
  have F35 := fun_mk (st := s_l_reduce) l35 c35 k35
  have b35 := F35.binds (ps := ["_law_num", "_law_den"]) fun _ _ _ _ _ _ us hl => match us, hl with | [_, _], _ => rfl
  have F36 := fun_mk (st := s_l_add) l36 c36 k36
  have b36 := F36.binds (ps := ["_law_one", "_law_other"]) fun _ _ _ _ _ _ us hl => match us, hl with | [_, _], _ => rfl
  have F37 := fun_mk (st := s_l_multiply) l37 c37 k37
  have b37 := F37.binds (ps := ["_law_one", "_law_other"]) fun _ _ _ _ _ _ us hl => match us, hl with | [_, _], _ => rfl
  have F38 := fun_mk (st := s_l_less) l38 c38 k38
  have b38 := F38.binds (ps := ["_law_one", "_law_other"]) fun _ _ _ _ _ _ us hl => match us, hl with | [_, _], _ => rfl
  have F39 := fun_mk (st := s_l_times) l39 c39 k39
  have b39 := F39.binds (ps := ["_law_number", "_law_one"]) fun _ _ _ _ _ _ us hl => match us, hl with | [_, _], _ => rfl
  have F40 := fun_mk (st := s_l_small) l40 c40 k40
  have b40 := F40.binds (ps := ["_law_rng"]) fun _ _ _ _ _ _ us hl => match us, hl with | [_], _ => rfl
  have F41 := fun_mk (st := s_l_positive) l41 c41 k41
  have b41 := F41.binds (ps := ["_law_rng"]) fun _ _ _ _ _ _ us hl => match us, hl with | [_], _ => rfl
  have F42 := fun_mk (st := s_l_parts) l42 c42 k42
  have b42 := F42.binds (ps := ["_law_rng", "_law_low", "_law_great"]) fun _ _ _ _ _ _ us hl => match us, hl with | [_, _, _], _ => rfl
  have F43 := fun_mk (st := s_l_gate) l43 c43 k43
  have b43 := F43.binds (ps := ["_law_rng", "_law_place", "_law_most"]) fun _ _ _ _ _ _ us hl => match us, hl with | [_, _, _], _ => rfl
  have F44 := fun_mk (st := s_l_is_gate) l44 c44 k44
  have b44 := F44.binds (ps := ["_law_gate_here"]) fun _ _ _ _ _ _ us hl => match us, hl with | [_], _ => rfl
  have F45 := fun_mk (st := s_l_bent) l45 c45 k45
  have b45 := F45.binds (ps := ["_law_rng", "_law_gate_here"]) fun _ _ _ _ _ _ us hl => match us, hl with | [_, _], _ => rfl
  have F46 := fun_mk (st := s_law) l46 c46 k46
  have b46 := F46.binds (ps := ["_law_script"]) fun _ _ _ _ _ _ us hl => match us, hl with | [_], _ => rfl
  have Fi0 := fun_mk (st := si_PaceError) li0 ci0 ki0
  have bi0 := Fi0.binds (ps := ["self", "tag"]) fun _ _ _ _ _ _ us hl => match us, hl with | [_, _], _ => rfl
  have Fi1 := fun_mk (st := si_InvalidGate) li1 ci1 ki1
  have bi1 := Fi1.binds (ps := ["self", "position"]) fun _ _ _ _ _ _ us hl => match us, hl with | [_, _], _ => rfl
  have Fi2 := fun_mk (st := si_NotBarring) li2 ci2 ki2
  have bi2 := Fi2.binds (ps := ["self", "place"]) fun _ _ _ _ _ _ us hl => match us, hl with | [_, _], _ => rfl
  subst hcd hcdL
  refine ⟨PySem.W.fnOf "law" "law" (defArgs s_law) (defBody s_law) (defScope s_law) .none kV46 dc46 pm46 an46 (.ref cL) ct46, [(cI, PI), (cL, PT)], spLawT K PI PT, fun p hp => ?_, fun p hp => ?_, fun p hp => ?_, fun s v => .of_eq rfl, fun H a ns hl _ hH hS => ⟨a, ns, rfl, hS, hl, hH (cI, PI) (by simp), hH (cL, PT) (by simp), fun _ => rfl⟩, fun base _ _ hT => ?_⟩
  · rcases List.mem_cons.mp hp with rfl | hp
    · exact own _ (by simp) _ (PySem.W.mg_of X G a11) cI PI _ _ _ _ _ _ l11 rfl rfl lcI pcI
    · obtain rfl := List.mem_singleton.mp hp; exact own _ (by simp) _ (PySem.W.mg_of X G a46) cL PT _ _ _ _ _ _ l46 rfl rfl lcL pcL
  · rcases List.mem_cons.mp hp with rfl | hp
    · exact nPI
    · obtain rfl := List.mem_singleton.mp hp; exact nPT
  · rcases List.mem_cons.mp hp with rfl | hp
    · exact PySem.W.codeHd_of_K X hdI
    · obtain rfl := List.mem_singleton.mp hp; exact PySem.W.codeHd_of_K X hdL
  · exact ok_law ⟨_, PySem.W.mg_of X G ak_ZERO, fun H => .inr ⟨_, _, _, lk_ZERO, rfl, rfl, sizeLine2 (by simp), .cons ⟨_, rfl⟩ (.cons ⟨_, rfl⟩ .nil)⟩, _, PySem.W.mg_of X G ak_ONE, fun H => .inr ⟨_, _, _, lk_ONE, rfl, rfl, sizeLine2 (by simp), .cons ⟨_, rfl⟩ (.cons ⟨_, rfl⟩ .nil)⟩, _, PySem.W.mg_of X G ak_MAX_SPANS, ⟨_, _, F0, b0, PySem.W.mg_of X G a0⟩, _, _, F1, b1, PySem.W.mg_of X G a1, ⟨_, _, F2, b2, PySem.W.mg_of X G a2⟩, ⟨_, _, F3, b3, PySem.W.mg_of X G a3⟩, ⟨_, _, F4, b4, PySem.W.mg_of X G a4⟩, ⟨_, _, F5, b5, PySem.W.mg_of X G a5⟩, ⟨_, _, F6, b6, PySem.W.mg_of X G a6⟩, ⟨_, _, F7, b7, PySem.W.mg_of X G a7⟩, ⟨_, _, F8, b8, PySem.W.mg_of X G a8⟩, ⟨_, _, F9, b9, PySem.W.mg_of X G a9⟩, ⟨_, _, F10, b10, PySem.W.mg_of X G a10⟩, ⟨_, _, F11, b11, PySem.W.mg_of X G a11⟩, ⟨_, _, F12, b12, PySem.W.mg_of X G a12⟩, ⟨_, _, F13, b13, PySem.W.mg_of X G a13⟩, ⟨_, _, F14, b14, PySem.W.mg_of X G a14⟩, ⟨_, _, F15, b15, PySem.W.mg_of X G a15⟩, ⟨_, _, F16, b16, PySem.W.mg_of X G a16⟩, ⟨_, _, F17, b17, PySem.W.mg_of X G a17⟩, ⟨_, _, F18, b18, PySem.W.mg_of X G a18⟩, ⟨_, _, F19, b19, PySem.W.mg_of X G a19⟩, ⟨_, _, F20, b20, PySem.W.mg_of X G a20⟩, ⟨_, _, F21, b21, PySem.W.mg_of X G a21⟩, ⟨_, _, F22, b22, PySem.W.mg_of X G a22⟩, ⟨_, _, F23, b23, PySem.W.mg_of X G a23⟩, ⟨_, _, F24, b24, PySem.W.mg_of X G a24⟩, ⟨_, _, F25, b25, PySem.W.mg_of X G a25⟩, ⟨_, _, F26, b26, PySem.W.mg_of X G a26⟩, ⟨_, _, F27, b27, PySem.W.mg_of X G a27⟩, ⟨_, _, F28, b28, PySem.W.mg_of X G a28⟩, ⟨_, _, F29, b29, PySem.W.mg_of X G a29⟩, ⟨_, _, F30, b30, PySem.W.mg_of X G a30⟩, ⟨_, _, F31, b31, PySem.W.mg_of X G a31⟩, ⟨_, _, F32, b32, PySem.W.mg_of X G a32⟩, ⟨_, _, F33, b33, PySem.W.mg_of X G a33⟩, ⟨_, _, F34, b34, PySem.W.mg_of X G a34⟩, ⟨_, _, F35, b35, PySem.W.mg_of X G a35⟩, ⟨_, _, F36, b36, PySem.W.mg_of X G a36⟩, ⟨_, _, F37, b37, PySem.W.mg_of X G a37⟩, ⟨_, _, F38, b38, PySem.W.mg_of X G a38⟩, ⟨_, _, F39, b39, PySem.W.mg_of X G a39⟩, ⟨_, _, F40, b40, PySem.W.mg_of X G a40⟩, ⟨_, _, F41, b41, PySem.W.mg_of X G a41⟩, ⟨_, _, F42, b42, PySem.W.mg_of X G a42⟩, ⟨_, _, F43, b43, PySem.W.mg_of X G a43⟩, ⟨_, _, F44, b44, PySem.W.mg_of X G a44⟩, ⟨_, _, F45, b45, PySem.W.mg_of X G a45⟩, ⟨_, _, F46, b46, PySem.W.mg_of X G a46⟩, PySem.W.mg_none_of X G z0, PySem.W.mg_none_of X G z1, PySem.W.mg_none_of X G z2, PySem.W.mg_none_of X G z3, PySem.W.mg_none_of X G z4, PySem.W.mg_none_of X G z5, PySem.W.mg_none_of X G z6, PySem.W.mg_none_of X G z7, PySem.W.mg_none_of X G z8, PySem.W.mg_none_of X G z9, PySem.W.mg_none_of X G z10, PySem.W.mg_none_of X G z11, PySem.W.mg_none_of X G z12, PySem.W.mg_none_of X G z13, PySem.W.mg_none_of X G z14, PySem.W.mg_none_of X G z15, _, PySem.W.mg_of X G ac_PaceError, _, PySem.W.mg_of X G ac_NotFound, _, PySem.W.mg_of X G ac_InvalidGate, _, PySem.W.mg_of X G ac_NotBarring, _, PySem.W.mg_of X G ac_ZeroDenominator, _, PySem.W.mg_of X G ac_EmptyHistory, _, _, Fi0, bi0, _, _, Fi1, bi1, _, _, Fi2, bi2, (⟨ownPGa, ⟨_, ownPTy, ownPRd, ownPFi⟩, ki0⟩), vVE, (⟨⟨_, _, _, _, _, _, _, _, _, _, _, _, _, _, _, oLInvalidGate, oBInvalidGate⟩, oSInvalidGate, oEInvalidGate, oTInvalidGate, oKInvalidGate⟩), iInvalidGate, tInvalidGate, nTagInvalidGate, nFldInvalidGate, (⟨xAInvalidGate, xGInvalidGate, oEInvalidGate, xDInvalidGate⟩), (EPX.exm_two (EPX.exm_one eP1 eP2 eP3 ePInvalidGate) (EPX.exm_one eN1 eN2 eN3 eNInvalidGate)), (⟨⟨_, _, _, _, _, _, _, _, _, _, _, _, _, _, _, oLNotBarring, oBNotBarring⟩, oSNotBarring, oENotBarring, oTNotBarring, oKNotBarring⟩), iNotBarring, tNotBarring, nTagNotBarring, nFldNotBarring, (⟨xANotBarring, xGNotBarring, oENotBarring, xDNotBarring⟩), (EPX.exm_two (EPX.exm_one eP1 eP2 eP3 ePNotBarring) (EPX.exm_one eN1 eN2 eN3 eNNotBarring))⟩ ⟨cI, PI, cL, PT, rfl, rfl, hT (cI, PI) (by simp), hT (cL, PT) (by simp), neT⟩
end EP
theorem PySem.Challenge.cw_evenpace_k08_valid_gates_holds : PySem.Challenge.rw_evenpace_k08_valid_gates.Holds := by
  exact EP.head0 @EP.all_mk
