import PyProof.Rows.All
import Wide.All
import OpenK.AllK
import Wide.FinOn
import PyProof.EqAt
import PyProof.EqKinds
import PyProof.TupleCall
import KE.KExcIs
import HandS.ForMost
import HandS.ForExc
import HandS.ExcInit
import HandS.ExcValue
import HandS.ExcField
import HandS.IsInst
import HandS.Defaults
import HandS.Wide
import HandS.StrMore
import HandS.Star
import HandS.SortOrd
import HandS.SortRule
import HandS.DictTup
import HandS.Walk
import HandS.RevRange
import HandS.Text
import HandS.CallSlots
import HandS.ExcOwn
import HandS.HotCalls
import HandS.Hot
import HandS.ExcCtx
import HandS.Comp
import HandS.Style
import HandS.TupAny
import HandS.Iter
import HandS.SetTxt0
import HandS.Set
import HandS.SetFor
import HandS.Strs
import HandS.SortInts
import PyProof.Rows.SortShellAny
import HandS.SetBool
import HandS.Conv
import PyProof.CollectIter
import HandS.WideBits
import HandS.More
import PySem.Challenge.RW_wordorder_k25_great_counts_by_letters
set_option Elab.async false
set_option linter.all false
set_option maxRecDepth 100000
set_option maxHeartbeats 4000000
/-! Numbers counted by a sum over their groups of three digits: mathematics. -/
namespace LC
def sm (f : Nat → Nat) : Nat → Nat
  | 0 => 0
  | n + 1 => sm f n + f n
theorem sm_congr {f g : Nat → Nat} : ∀ n, (∀ j, j < n → f j = g j) → sm f n = sm g n
  | 0, _ => rfl
  | n + 1, h => by
    show sm f n + f n = sm g n + g n
    rw [sm_congr n fun j hj => h j (Nat.lt_succ_of_lt hj), h n (Nat.lt_succ_self n)]
theorem sm_zero {f : Nat → Nat} : ∀ n, (∀ j, j < n → f j = 0) → sm f n = 0
  | 0, _ => rfl
  | n + 1, h => by
    show sm f n + f n = 0
    rw [sm_zero n fun j hj => h j (Nat.lt_succ_of_lt hj), h n (Nat.lt_succ_self n)]
theorem sm_add (f g : Nat → Nat) : ∀ n, sm (fun j => f j + g j) n = sm f n + sm g n
  | 0 => rfl
  | n + 1 => by
    show sm (fun j => f j + g j) n + (f n + g n) = (sm f n + f n) + (sm g n + g n)
    rw [sm_add f g n]
    omega
theorem sm_mul (c : Nat) (f : Nat → Nat) : ∀ n, sm (fun j => c * f j) n = c * sm f n
  | 0 => rfl
  | n + 1 => by
    show sm (fun j => c * f j) n + c * f n = c * (sm f n + f n)
    rw [sm_mul c f n, Nat.mul_add]
theorem sm_const (c : Nat) : ∀ n, sm (fun _ => c) n = n * c
  | 0 => (Nat.zero_mul _).symm
  | n + 1 => by
    show sm (fun _ => c) n + c = (n + 1) * c
    rw [sm_const c n, Nat.add_mul, Nat.one_mul]
theorem sm_le {f : Nat → Nat} {c : Nat} : ∀ n, (∀ j, j < n → f j ≤ c) → sm f n ≤ n * c
  | 0, _ => Nat.zero_le _
  | n + 1, h => by
    show sm f n + f n ≤ (n + 1) * c
    have a := sm_le n fun j hj => h j (Nat.lt_succ_of_lt hj)
    have b := h n (Nat.lt_succ_self n)
    rw [Nat.add_mul, Nat.one_mul]
    omega
theorem sm_split (f : Nat → Nat) (a : Nat) : ∀ b, sm f (a + b) = sm f a + sm (fun i => f (a + i)) b
  | 0 => rfl
  | b + 1 => by
    show sm f (a + b) + f (a + b) = sm f a + (sm (fun i => f (a + i)) b + f (a + b))
    rw [sm_split f a b]
    omega
theorem sm_block (f : Nat → Nat) (b : Nat) : ∀ a, sm f (a * b) = sm (fun g => sm (fun u => f (g * b + u)) b) a
  | 0 => by rw [Nat.zero_mul]; rfl
  | a + 1 => by
    rw [Nat.add_mul, Nat.one_mul, sm_split, sm_block f b a]
    rfl
theorem sm_swap (f : Nat → Nat → Nat) (n : Nat) : ∀ k, sm (fun v => sm (fun j => f j v) k) n = sm (fun j => sm (f j) n) k
  | 0 => sm_zero n fun _ _ => rfl
  | k + 1 => by
    show sm (fun v => sm (fun j => f j v) k + f k v) n = sm (fun j => sm (f j) n) k + sm (f k) n
    rw [sm_add, sm_swap f n k]
theorem sm_head (f : Nat → Nat) (n : Nat) : sm f (n + 1) = f 0 + sm (fun i => f (i + 1)) n := by
  have a := sm_split f 1 n
  rw [Nat.add_comm 1 n] at a
  rw [a]
  have b : sm f 1 = f 0 := Nat.zero_add _
  rw [b]
  congr 1
  exact sm_congr n fun j _ => by rw [Nat.add_comm]
/-! ### digits -/
def dg (j v : Nat) : Nat := v / 1000 ^ j % 1000
theorem pw_pos (k : Nat) : 0 < 1000 ^ k := Nat.pow_pos (by decide)
theorem pw_succ (k : Nat) : 1000 ^ (k + 1) = 1000 ^ k * 1000 := Nat.pow_succ ..
/-- lower digits don't see what is above -/
theorem dg_low {j k : Nat} (h : j < k) (c u : Nat) : dg j (c * 1000 ^ k + u) = dg j u := by
  obtain ⟨i, rfl⟩ : ∃ i, k = j + 1 + i := ⟨k - j - 1, by omega⟩
  unfold dg
  have e : c * 1000 ^ (j + 1 + i) + u = 1000 ^ j * (1000 * (c * 1000 ^ i)) + u := by
    rw [Nat.pow_add, Nat.pow_succ]
    congr 1
    rw [Nat.mul_assoc, Nat.mul_left_comm c, Nat.mul_left_comm c]
  rw [e, Nat.mul_add_div (pw_pos j), Nat.mul_add_mod]
/-- higher digits don't see what is below -/
theorem dg_high {j k : Nat} (h : k ≤ j) (c : Nat) {u : Nat} (hu : u < 1000 ^ k) : dg j (c * 1000 ^ k + u) = dg (j - k) c := by
  obtain ⟨i, rfl⟩ : ∃ i, j = k + i := ⟨j - k, by omega⟩
  unfold dg
  rw [Nat.pow_add, ← Nat.div_div_eq_div_mul, Nat.mul_comm c, Nat.mul_add_div (pw_pos k), Nat.div_eq_of_lt hu, Nat.add_zero, show k + i - k = i by omega]
theorem dg_small {j v : Nat} (h : v < 1000 ^ j) : dg j v = 0 := by
  unfold dg
  rw [Nat.div_eq_of_lt h]
def fz (sz : Nat → Nat → Nat) : Nat → Nat → Nat
  | 0, _ => 0
  | k + 1, v => fz sz k v + sz k (dg k v)
theorem fz_low (sz : Nat → Nat → Nat) : ∀ {k m : Nat}, k ≤ m → ∀ (c u : Nat), fz sz k (c * 1000 ^ m + u) = fz sz k u
  | 0, _, _, _, _ => rfl
  | k + 1, m, h, c, u => by
    show fz sz k (c * 1000 ^ m + u) + sz k (dg k (c * 1000 ^ m + u)) = _
    rw [fz_low sz (Nat.le_of_lt h) c u, dg_low h]
    rfl
theorem fz_sum (sz : Nat → Nat → Nat) (v : Nat) : ∀ k, fz sz k v = sm (fun j => sz j (dg j v)) k
  | 0 => rfl
  | k + 1 => by
    show fz sz k v + sz k (dg k v) = sm (fun j => sz j (dg j v)) k + sz k (dg k v)
    rw [fz_sum sz v k]
theorem dg_zero (j : Nat) : dg j 0 = 0 := by
  unfold dg
  rw [Nat.zero_div]
theorem fz_zero {sz : Nat → Nat → Nat} (z : ∀ j, sz j 0 = 0) : ∀ k, fz sz k 0 = 0
  | 0 => rfl
  | k + 1 => by
    show fz sz k 0 + sz k (dg k 0) = 0
    rw [fz_zero z k, dg_zero, z]
theorem fz_more {sz : Nat → Nat → Nat} (z : ∀ j, sz j 0 = 0) {k v : Nat} (h : v < 1000 ^ k) : ∀ i, fz sz (k + i) v = fz sz k v
  | 0 => rfl
  | i + 1 => by
    show fz sz (k + i) v + sz (k + i) (dg (k + i) v) = _
    rw [fz_more z h i, dg_small (Nat.lt_of_lt_of_le h (Nat.pow_le_pow_right (by decide) (Nat.le_add_right k i))), z]
    rfl
theorem fz_cons (sz : Nat → Nat → Nat) {k g u : Nat} (hg : g < 1000) (hu : u < 1000 ^ k) : fz sz (k + 1) (g * 1000 ^ k + u) = fz sz k u + sz k g := by
  show fz sz k (g * 1000 ^ k + u) + sz k (dg k (g * 1000 ^ k + u)) = _
  rw [fz_low sz (Nat.le_refl k), dg_high (Nat.le_refl k) _ hu, Nat.sub_self]
  unfold dg
  rw [Nat.pow_zero, Nat.div_one, Nat.mod_eq_of_lt hg]
/-- a number by its part above a digit, this digit, and what is below -/
theorem fz_parts {sz : Nat → Nat → Nat} (z : ∀ j, sz j 0 = 0) {a g u A : Nat} (hg : g < 1000) (hu : u < 1000 ^ a) : ∀ i, fz sz (a + 1 + i) (A * 1000 ^ (a + 1) + (g * 1000 ^ a + u)) = fz sz (a + 1 + i) (A * 1000 ^ (a + 1)) + (sz a g + fz sz a u)
  | 0 => by
    rw [Nat.add_zero, fz_low sz (Nat.le_refl _), fz_cons sz hg hu]
    have e : fz sz (a + 1) (A * 1000 ^ (a + 1)) = fz sz (a + 1) 0 := fz_low sz (Nat.le_refl (a + 1)) A 0
    rw [e, fz_zero z]
    omega
  | i + 1 => by
    show fz sz (a + 1 + i) _ + sz (a + 1 + i) (dg (a + 1 + i) _) = fz sz (a + 1 + i) _ + sz (a + 1 + i) (dg (a + 1 + i) _) + _
    have lt : g * 1000 ^ a + u < 1000 ^ (a + 1) := by
      rw [pw_succ]
      have : (g + 1) * 1000 ^ a ≤ 1000 * 1000 ^ a := Nat.mul_le_mul_right _ hg
      rw [Nat.add_mul, Nat.one_mul] at this
      rw [Nat.mul_comm (1000 ^ a)]
      omega
    rw [fz_parts z hg hu i, dg_high (by omega) A lt]
    have e : dg (a + 1 + i) (A * 1000 ^ (a + 1)) = dg (a + 1 + i - (a + 1)) A := dg_high (j := a + 1 + i) (k := a + 1) (by omega) A (pw_pos (a + 1))
    rw [e]
    omega
/-! ### packed counts -/
def pk (sz : Nat → Nat → Nat) (w k : Nat) : Nat := sm (fun v => 2 ^ (fz sz k v * w)) (1000 ^ k)
theorem pk_zero (sz : Nat → Nat → Nat) (w : Nat) : pk sz w 0 = 1 := by
  show 0 + 2 ^ (0 * w) = 1
  rw [Nat.zero_mul]
theorem pk_succ (sz : Nat → Nat → Nat) (w k : Nat) : pk sz w (k + 1) = pk sz w k * sm (fun g => 2 ^ (sz k g * w)) 1000 := by
  unfold pk
  rw [pw_succ, Nat.mul_comm (1000 ^ k) 1000, sm_block]
  have e : sm (fun g => sm (fun u => 2 ^ (fz sz (k + 1) (g * 1000 ^ k + u) * w)) (1000 ^ k)) 1000 = sm (fun g => pk sz w k * 2 ^ (sz k g * w)) 1000 := by
    refine sm_congr _ fun g hg => ?_
    have e2 : sm (fun u => 2 ^ (fz sz (k + 1) (g * 1000 ^ k + u) * w)) (1000 ^ k) = sm (fun u => 2 ^ (sz k g * w) * 2 ^ (fz sz k u * w)) (1000 ^ k) := by
      refine sm_congr _ fun u hu => ?_
      rw [fz_cons sz hg hu, Nat.add_mul, Nat.pow_add, Nat.mul_comm]
    rw [e2, sm_mul, Nat.mul_comm]
    rfl
  rw [e, sm_mul]
  rfl
theorem unp_aux {w n : Nat} (hn : n < 2 ^ w) : ∀ (m : Nat) (q : Nat → Bool) (x : Nat → Nat), sm (fun v => if q v = true then 2 ^ (x v * w) else 0) n / 2 ^ (m * w) % 2 ^ w = sm (fun v => if q v = true ∧ x v = m then 1 else 0) n := by
  have step : ∀ (q : Nat → Bool) (x : Nat → Nat), sm (fun v => if q v = true then 2 ^ (x v * w) else 0) n = sm (fun v => if q v = true ∧ x v = 0 then 1 else 0) n + 2 ^ w * sm (fun v => if (q v && decide (0 < x v)) = true then 2 ^ ((x v - 1) * w) else 0) n := by
    intro q x
    rw [← sm_mul, ← sm_add]
    refine sm_congr n fun v _ => ?_
    cases q v with
    | false => rfl
    | true =>
      cases h : x v with
      | zero => simp
      | succ y =>
        rw [if_pos rfl, if_neg (by simp), if_pos (by simp), Nat.zero_add, Nat.add_mul, Nat.one_mul, Nat.pow_add, Nat.mul_comm, Nat.add_sub_cancel]
  have few : ∀ (q : Nat → Bool) (x : Nat → Nat), sm (fun v => if q v = true ∧ x v = 0 then 1 else 0) n < 2 ^ w := by
    intro q x
    have := sm_le (f := fun v => if q v = true ∧ x v = 0 then 1 else 0) (c := 1) n fun v _ => by
      show (if _ then 1 else 0) ≤ 1
      split <;> omega
    omega
  have wp : 0 < 2 ^ w := Nat.pow_pos (by decide)
  intro m
  induction m with
  | zero =>
    intro q x
    rw [Nat.zero_mul, Nat.pow_zero, Nat.div_one, step, Nat.add_mul_mod_self_left, Nat.mod_eq_of_lt (few q x)]
  | succ m ih =>
    intro q x
    rw [Nat.add_mul, Nat.one_mul, Nat.add_comm (m * w), Nat.pow_add, ← Nat.div_div_eq_div_mul, step, Nat.add_mul_div_left _ _ wp, Nat.div_eq_of_lt (few q x), Nat.zero_add, ih]
    refine sm_congr n fun v _ => ?_
    cases q v with
    | false => rfl
    | true =>
      by_cases h : x v = m + 1
      · rw [if_pos (by rw [h]; simp), if_pos ⟨rfl, h⟩]
      · rw [if_neg (fun z => by
          obtain ⟨z1, z2⟩ := z
          have := of_decide_eq_true (show decide (0 < x v) = true from z1)
          omega), if_neg (fun z => h z.2)]
def cnI (sz : Nat → Nat → Nat) (k n : Nat) (m : Int) : Nat := sm (fun v => if (fz sz k v : Int) = m then 1 else 0) n
theorem unp_pk {sz : Nat → Nat → Nat} {w k : Nat} (h : 1000 ^ k < 2 ^ w) (m : Nat) : pk sz w k / 2 ^ (m * w) % 2 ^ w = cnI sz k (1000 ^ k) (m : Int) := by
  have a := unp_aux h m (fun _ => true) (fz sz k)
  have b : sm (fun v => if (fun _ => true) v = true then 2 ^ (fz sz k v * w) else 0) (1000 ^ k) = pk sz w k := sm_congr _ fun v _ => if_pos rfl
  rw [b] at a
  rw [a]
  refine sm_congr _ fun v _ => ?_
  by_cases h : fz sz k v = m
  · rw [if_pos ⟨rfl, h⟩, if_pos (by rw [h])]
  · rw [if_neg (fun z => h z.2), if_neg (show ¬ ((fz sz k v : Nat) : Int) = (m : Int) from fun z => h (by omega))]
theorem cnI_neg {sz : Nat → Nat → Nat} {k n : Nat} {m : Int} (h : m < 0) : cnI sz k n m = 0 := sm_zero n fun v _ => if_neg fun e => by omega
theorem cnI_le {sz : Nat → Nat → Nat} {k n : Nat} {m : Int} : cnI sz k n m ≤ n := by
  have := sm_le (f := fun v => if (fz sz k v : Int) = m then 1 else 0) (c := 1) n fun v _ => by
    show (if _ then 1 else 0) ≤ 1
    split <;> omega
  rw [Nat.mul_one] at this
  exact this
/-- the numbers up to a digit of N, counted -/
theorem hi_step {sz : Nat → Nat → Nat} (z : ∀ j, sz j 0 = 0) (N : Nat) {a t : Nat} (h : a < t) (m : Int) : cnI sz t (N / 1000 ^ a * 1000 ^ a) m = cnI sz t (N / 1000 ^ (a + 1) * 1000 ^ (a + 1)) m + sm (fun g => cnI sz a (1000 ^ a) (m - (fz sz t (N / 1000 ^ (a + 1) * 1000 ^ (a + 1)) : Int) - (sz a g : Int))) (dg a N) ∧
    fz sz t (N / 1000 ^ a * 1000 ^ a) = fz sz t (N / 1000 ^ (a + 1) * 1000 ^ (a + 1)) + sz a (dg a N) := by
  obtain ⟨i, rfl⟩ : ∃ i, t = a + 1 + i := ⟨t - a - 1, by omega⟩
  obtain ⟨A, hA⟩ : ∃ A, A = N / 1000 ^ (a + 1) := ⟨_, rfl⟩
  have e : N / 1000 ^ a = A * 1000 + dg a N := by
    rw [hA, pw_succ, ← Nat.div_div_eq_div_mul]
    unfold dg
    omega
  have lt : dg a N < 1000 := Nat.mod_lt _ (by decide)
  rw [e, ← hA]
  generalize dg a N = g at lt
  have e2 : (A * 1000 + g) * 1000 ^ a = A * 1000 ^ (a + 1) + g * 1000 ^ a := by
    rw [Nat.add_mul, pw_succ, Nat.mul_assoc, Nat.mul_comm 1000]
  rw [e2]
  constructor
  · unfold cnI
    rw [sm_split, sm_block _ (1000 ^ a) g]
    congr 1
    refine sm_congr g fun g' hg' => sm_congr _ fun u hu => ?_
    rw [fz_parts z (by omega) hu i]
    by_cases c : (fz sz a u : Int) = m - (fz sz (a + 1 + i) (A * 1000 ^ (a + 1)) : Int) - (sz a g' : Int)
    · rw [if_pos (by omega), if_pos c]
    · rw [if_neg (by omega), if_neg c]
  · have e0 := fz_zero z a
    have this : fz sz (a + 1 + i) (A * 1000 ^ (a + 1) + g * 1000 ^ a) = fz sz (a + 1 + i) (A * 1000 ^ (a + 1)) + (sz a g + fz sz a 0) := fz_parts z lt (pw_pos a) (A := A) i
    rw [this, e0]
    omega
/-! ### sums over a period -/
theorem sm_div (f : Nat → Nat) {W : Nat} (hW : 0 < W) (B : Nat) : sm (fun v => f (v / W)) B = sm f (B / W) * W + B % W * f (B / W) := by
  have e : B = B / W * W + B % W := by
    rw [Nat.mul_comm]
    exact (Nat.div_add_mod B W).symm
  have lt := Nat.mod_lt B hW
  generalize B / W = q at e ⊢
  generalize B % W = r at e lt ⊢
  rw [e, sm_split, sm_block]
  have a : ∀ g u, u < W → f ((g * W + u) / W) = f g := fun g u hu => by
    rw [Nat.mul_comm, Nat.mul_add_div hW, Nat.div_eq_of_lt hu, Nat.add_zero]
  have b : sm (fun g => sm (fun u => f ((g * W + u) / W)) W) q = sm (fun g => W * f g) q := sm_congr q fun g _ => by
    rw [sm_congr W fun u hu => a g u hu, sm_const]
  have c : sm (fun i => f ((q * W + i) / W)) r = r * f q := by
    rw [sm_congr r fun u hu => a q u (by omega), sm_const]
  rw [b, c, sm_mul, Nat.mul_comm W]
theorem sm_mod (f : Nat → Nat) {M : Nat} (hM : 0 < M) (B : Nat) : sm (fun v => f (v % M)) B = B / M * sm f M + sm f (B % M) := by
  have e : B = B / M * M + B % M := by
    rw [Nat.mul_comm]
    exact (Nat.div_add_mod B M).symm
  have lt := Nat.mod_lt B hM
  generalize B / M = q at e ⊢
  generalize B % M = r at e lt ⊢
  rw [e, sm_split, sm_block]
  have a : ∀ g u, u < M → f ((g * M + u) % M) = f u := fun g u hu => by
    rw [Nat.mul_comm, Nat.mul_add_mod, Nat.mod_eq_of_lt hu]
  have b : sm (fun g => sm (fun u => f ((g * M + u) % M)) M) q = sm (fun _ => sm f M) q := sm_congr q fun g _ => sm_congr M fun u hu => a g u hu
  have c : sm (fun i => f ((q * M + i) % M)) r = sm f r := sm_congr r fun u hu => a q u (by omega)
  rw [b, c, sm_const]
/-- the sum of one group's parts over all numbers below B -/
theorem sm_dg (f : Nat → Nat) (j B : Nat) : sm (fun v => f (dg j v)) B = (B / 1000 ^ j / 1000 * sm f 1000 + sm f (B / 1000 ^ j % 1000)) * 1000 ^ j + B % 1000 ^ j * f (B / 1000 ^ j % 1000) := by
  have a := sm_div (fun q => f (q % 1000)) (pw_pos j) B
  have b := sm_mod f (show 0 < 1000 by decide) (B / 1000 ^ j)
  rw [b] at a
  exact a
end LC
set_option Elab.async false
set_option linter.all false
set_option maxRecDepth 100000
set_option maxHeartbeats 4000000
/-! A layer of our own over the hand layer: defs that call repr (no repr under way: FnG), repr of data, exceptions with an own __init__ as values. -/
namespace Wk
open PySem PySem.Spec PyProof.Rows L2

/-! ### defs under which no repr is under way -/
/-- the promise of a def, asked only where no repr is under way -/
structure FnG (P : Program) (w : World) (K : PySem.W.Frag) (mg : Str → Option Value) (base : Heap) (CX : CXT)
    (k : Nat) (f : Addr) (fd : FuncData) (ps : List Str) (sp : Sp) : Prop where
  args : ∀ vs H Q E, sp vs H Q E → vs.length = ps.length
  go : ∀ (A : Around) (out : List Env) (s : Shared) (H : Hp) (ar : Args) (us : List Value) (vs : List V) (Q : VK) (E : XK),
    A.guards = some [] → Room k A → Env0 P w K mg base A out s H → BindsTo s fd ar (ps.zip us) → Vals vs us →
    sp vs H Q E → codeAny (model P w) A (.call (.ref f) ar) (CR CX out P w H s Q E) s

section
variable {P : Program} {w : World} {K : PySem.W.Frag} {mg : Str → Option Value} {base : Heap} {CX : CXT}
variable {k : Nat} {f : Addr} {fd : FuncData} {ps : List Str} {sp : Sp}

theorem FnG.of (F : FnOk P w K mg base CX k f fd ps sp) : FnG P w K mg base CX k f fd ps sp :=
  ⟨F.len, fun A out s H ar us vs Q E _ r e b v q => F.run A out s H ar us vs Q E r e b v q⟩

/-- a def by its body -/
theorem fnG_of {name qual : Str} {params : Arguments} {body : List Stmt} {scope : Scope} {dV kV doc pm cdv ct oc : Value} {an od : Option Addr}
    {osl : Array (Option Value)} {N : List Str}
    (lk : K.lookup f = some ⟨oc, od, .func (PySem.W.fnOf name qual params body scope dV kV doc pm an cdv ct), osl⟩)
    (code : PySem.W.codeIn K cdv qual = true) (S : FnScope N ps scope) (args : ∀ vs H Q E, sp vs H Q E → vs.length = ps.length)
    (hb : ∀ (A : Around) (out : List Env) (s : Shared) (H : Hp) (vs : List V) (Q : VK) (E : XK), A.guards = some [] →
      Room k (A.deeper (envOfC qual scope s.heap.objs.size f cdv)) → sp vs H Q E →
      ∃ t, PSs (cxOf CX P w K mg base N qual scope f cdv A out s H E) body t ∧ t { nx := fun _ H' => Q .non H', rt := Q } (start N vs) H) :
    FnG P w K mg base CX (k + 1) f (PySem.W.fnOf name qual params body scope dV kV doc pm an cdv ct) ps sp := by
  refine ⟨args, ?_⟩
  intro A out s H ar us vs Q E gd room e0 bt rv want
  have nargs := args vs H Q E want
  have inK : K.In s.heap := e0.mod.kin.keeps (fun b o z => (e0.bs b o z).1)
  have noL : s.heap.NoLimit := e0.mod.nolimit.keeps (fun b o z => (e0.bs b o z).1)
  have kinds : ∀ y ∈ ps.zip us, scope.names.lookup y.1 = some .local ∨
      (scope.names.lookup y.1 = some .cell ∧ ((cellsFrom (s.heap.objs.size + 1) scope.names []).lookup y.1).isSome = true) := by
    intro y hy
    have hm := (List.of_mem_zip (show (y.1, y.2) ∈ ps.zip us from hy)).1
    cases S.par y.1 hm with
    | inl q => exact Or.inl q
    | inr q => exact Or.inr ⟨q, PySem.W.cellsFrom_some _ _ _ (Or.inl q)⟩
  refine codeAny_call_function room.depth (inK _ _ lk) rfl S.co S.gen rfl (PySem.W.codeRec_of inK code) (bt _ _ _ _ ?_)
  refine wpAny_newFunctionEnv_cells S.kind kinds fun env he s1 x => ?_
  cases he
  refine ⟨noL.keeps x.toInCall.keep, codeAny_func ?_⟩
  obtain ⟨t, ht, hq⟩ := hb A out s H vs Q E gd (room.deeper _) want
  have I := inv_start (CX := CX) (P := P) (w := w) (K := K) (mg := mg) (base := base) (E := E) S room.hd e0 nargs rv x
  refine wpAny_mono (ht.run [] s1 (start N vs) H _ I hq) ?_ (fun _ _ z => z)
  intro fl s' hs
  cases fl with
  | ret u =>
    obtain ⟨v, σ', H', J, r', q⟩ := hs
    exact ⟨v, H', J.os, J.bare, J.base, J.hok, r', q⟩
  | next =>
    obtain ⟨σ', H', J, q⟩ := hs
    exact ⟨V.non, H', J.os, J.bare, J.base, J.hok, rfl, q⟩
  | brk => obtain ⟨_, _, _, q⟩ := hs; exact q.elim
  | cont => obtain ⟨_, _, _, q⟩ := hs; exact q.elim
end

/-- the short word for it: nothing leaves the def -/
theorem okG {P : Program} {w : World} {K : PySem.W.Frag} {mg : Str → Option Value} {base : Heap} {x qual : Str} {st : Stmt} {f : Addr} {fd : FuncData}
    {N ps : List Str} {k : Nat} {sp : Sp} (F : Fun K x qual st f fd) (S : FnScope N ps (defScope st)) (args : ∀ vs H Q E, sp vs H Q E → vs.length = ps.length)
    (hb : ∀ (cdv : Value) (A : Around) (out : List Env) (s : Shared) (H : Hp) (vs : List V) (Q : VK) (E : XK), A.guards = some [] →
      Room k (A.deeper (envOfC qual (defScope st) s.heap.objs.size f cdv)) → sp vs H Q E →
      ∃ t, PSs (cxOf CX0 P w K mg base N qual (defScope st) f cdv A out s H E).nox (defBody st) t ∧ t { nx := fun _ H' => Q .non H', rt := Q } (start N vs) H) :
    FnG P w K mg base CX0 (k + 1) f fd ps sp := by
  obtain ⟨oc, od, kV, doc, pm, an, cdv, ct, osl, rfl, lk, code⟩ := F.ex
  refine fnG_of lk code S args ?_
  intro A out s H vs Q E gd room want
  obtain ⟨t, h, q⟩ := hb cdv A out s H vs Q E gd room want
  exact ⟨t, h.nox, q⟩

section
variable {X : Cx} {CX : CXT} {k : Nat} {f : Addr} {fd : FuncData} {ps : List Str} {sp : Sp} {dvs : List V} {ds : List Value} {E : XK}
/-- f(e, ..) of such a def -/
theorem pe_callG {x : Str} {p pos : Pos} {e : Expr} {es : List Expr} {t : TA} (F : FnG X.prog X.w X.K X.mg X.base CX k f fd ps sp) (gd : X.A.guards = some []) (hr : Room k X.A)
    (hg : Gl X x) (hm : X.mg x = some (.ref f)) (hk : PySem.W.keepIn X.K (.ref f) = true) (hb : Binds X.K fd ps ds) (hd : Vals dvs ds) (hx : Passes CX X E) (ha : PA X (e :: es) t)
    (hdb : (x == ("__debug__" : Str)) = false := by decide) (he : starEach (e :: es) X.env = (false, eval e X.env) :: starEach es X.env := by rfl)
    (hpl : (backTo pos (starEach es X.env)).any (·.1) = false := by rfl) :
    PE X (.Call (.Name x p) (e :: es) [] pos) (tCall sp dvs E t) := by
  constructor
  intro pins s σ H Q I h
  refine wpAny_Call_Name_kw (ld_glob I hg hm ?_ hdb)
  refine PySem.W.callWith_K (h₀ := X.base) I.ok.mod.kin hk (thn (ha.run pos pins s σ H _ I h) ?_) he hpl
  rintro us s1 ⟨vs, H1, I1, r, q⟩
  refine ⟨I1.kIn, ?_⟩
  have r2 : Vals (vs ++ dvs) (us ++ ds) := r.append hd
  have hl : (us ++ ds).length = ps.length := r2.length.symm.trans (F.args _ _ _ _ q)
  refine wpAny_call (codeAny_mono (F.go X.A X.stack s1 H1 ⟨us, []⟩ (us ++ ds) (vs ++ dvs) Q E gd hr I1.env0 (hb s1 us I1.kIn hl) r2 q) ?_)
  intro r s' hq
  match r, hq with
  | .error e, hq => exact hx pins σ H1 s1 e s' I1 hq
  | .ok (.ret u), hq => exact I1.after hq
end

/-- the law's own call -/
theorem law_callG {P : Program} {w : World} {K : PySem.W.Frag} {mg mb : Str → Option Value} {CX : CXT} {k : Nat} {fa a : Addr} {fd : FuncData} {x : Str} {sp : Sp} {s1 : Shared} {vs : List Value} {ns : List Int}
    (KX : K.In s1.heap) (hns : s1.heap.Ns mainGlobals mg) (hb : s1.heap.Ns builtinsNs mb) (hbb : ∀ x : Str, x ≠ "__name__" → mb x = bootBuiltins x) (hlim : s1.heap.NoLimit) (hg : s1.gens = #[])
    (ha : s1.heap.get? a = some { cls := .type "list", data := .seq vs.toArray }) (hi : IntsAre vs ns) (hl : ns.length ≤ sizeLine) (hr : Room k callerA)
    (F : ∀ base : Heap, K.In base → base.Ns mainGlobals mg → FnG P w K mg base CX k fa fd [x] sp) (hbind : ∀ (s : Shared) (u : Value), BindsTo s fd ⟨[u], []⟩ [(x, u)])
    (hsp : ∀ H : Hp, Only H → SqL K H a (ns.map V.int) → sp [.ref a] H (fun v _ => v = .bl true) fun _ _ _ => False)
    (hCX : ∀ H e s', CX [] H s1 (fun _ _ _ => False) e s' → False) :
    codeAny (model P w) callerA (.call (.ref fa) ⟨[.ref a], []⟩) (fun r s' => r = .ok (.ret (.bool true)) ∧ OldK s1.heap s'.heap ∧ s'.os = s1.os ∧ AllBare s'.gens) s1 := by
  -- the promise at this one state, as a promise of any surroundings: the run is asked at callerA alone
  have rv := vals_ints hi
  have lenV := hi.length
  have main : ∀ H : Hp, Only H → SqL K H a (ns.map V.int) → HOk P w H s1.heap → (∀ b, H b ≠ none → b = a) → (H a ≠ none → K.lookup a = none) →
      codeAny (model P w) callerA (.call (.ref fa) ⟨[.ref a], []⟩) (fun r s' => r = .ok (.ret (.bool true)) ∧ OldK s1.heap s'.heap ∧ s'.os = s1.os ∧ AllBare s'.gens) s1 := by
    intro H only sq ok atA notK
    have freeDict : ∀ {b : Addr} {o : Obj} {es : Array DictEntry} {ep : Nat}, s1.heap.get? b = some o → o.data = .dict es ep → H b = none := by
      intro b o es ep e d
      cases q : H b with
      | none => rfl
      | some u =>
        have e' := atA b (by rw [q]; exact fun z => nomatch z)
        subst e'
        rw [ha] at e
        cases e
        cases d
    have nsIn : ∀ {b : Addr} {m : Str → Option Value}, s1.heap.Ns b m → (hidT s1.heap H).Ns b m := by
      rintro b m ⟨o, es, ep, e, d, r⟩
      exact ⟨o, es, ep, hidT_get e (freeDict e d), d, r⟩
    have inB : K.In (hidT s1.heap H) := by
      intro b o e
      refine hidT_get (KX b o e) ?_
      cases q : H b with
      | none => rfl
      | some u =>
        have e' := atA b (by rw [q]; exact fun z => nomatch z)
        subst e'
        have z := notK (by rw [q]; exact fun z => nomatch z)
        rw [z] at e
        cases e
    have limB : (hidT s1.heap H).NoLimit := by
      obtain ⟨mc, h1, h2⟩ := hlim
      exact ⟨mc, nsIn h1, h2⟩
    have md : Mod K mg (hidT s1.heap H) := ⟨inB, nsIn hns, ⟨mb, nsIn hb, hbb⟩, limB⟩
    have e0 : Env0 P w K mg (hidT s1.heap H) callerA [] s1 H :=
      ⟨rfl, md, fun b o e => of_hidT e, Nat.le_of_eq (hidT_size _ _), trivial, fun b hb => (List.not_mem_nil (show b ∈ ([] : List Addr) from hb)).elim, ok, .of_eq hg⟩
    refine codeAny_mono ((F _ inB (nsIn hns)).go callerA [] s1 H ⟨[.ref a], []⟩ [.ref a] [.ref a] _ _ rfl hr e0 (hbind s1 (.ref a)) (.cons rfl .nil) (hsp H only sq)) ?_
    intro r s' h
    match r, h with
    | .error e, h => exact (hCX H e s' h).elim
    | .ok (.ret u), h =>
      obtain ⟨v, H', os, bare, un, ok', r', q⟩ := h
      cases (show v = .bl true from q)
      cases (show u = Value.bool true from r')
      refine ⟨rfl, OldK.of_keep ?_, os, bare⟩
      intro b o e
      cases q : H b with
      | none => exact un.keep b o e q (fun z => List.not_mem_nil (show b ∈ ([] : List Addr) from z)) (fun z => List.not_mem_nil z)
      | some u =>
        rcases only b with z | ⟨ob, xs, z⟩
        · rw [q] at z
          cases z
        · obtain ⟨e1, _⟩ := ok b _ z
          obtain ⟨e2, _⟩ := ok' b _ (un.frzs b ob _ z)
          rw [e] at e1
          cases e1
          exact e2
  cases hk : K.lookup a with
  | some o =>
    have e := KX a o hk
    rw [ha] at e
    cases e
    refine main (fun _ => none) (fun _ => .inl rfl) ?_ (fun b u z => nomatch (show (none : Option HO) = some u from z)) (fun b z => absurd rfl z) (fun z => absurd rfl z)
    exact .inr ⟨_, vs.toArray, _, hk, rfl, rfl, rfl, by rw [List.size_toArray, lenV]; exact hl, by simpa using rv⟩
  | none =>
    let o0 : Obj := { cls := .type "list", data := .seq vs.toArray }
    refine main (fun b => if b = a then some (.frz o0 (.lst (ns.map V.int))) else none) ?_ ?_ ?_ ?_ (fun _ => hk)
    · intro b
      by_cases hb : b = a
      · exact .inr ⟨_, _, if_pos hb⟩
      · exact .inl (if_neg hb)
    · exact .inl (.inr ⟨o0, if_pos rfl⟩)
    · intro b u z
      by_cases hb : b = a
      · cases (if_pos hb).symm.trans z
        subst hb
        exact ⟨ha, by rw [List.length_map]; exact hl, vs, _, rv, ha⟩
      · cases (if_neg hb).symm.trans z
    · intro b z
      by_cases hb : b = a
      · exact hb
      · exact absurd (if_neg hb) z

/-- a statement, and what is known behind it on all its ways; then the rest, once -/
def tMid (t u : TS) : TS := fun D σ H => ∃ M : L2.St → Hp → Prop, t { D with nx := M } σ H ∧ ∀ τ G, M τ G → u D τ G
theorem pss_mid {X : Cx} {st : Stmt} {more : List Stmt} {t u : TS} (a : PS X st t) (b : PSs X more u) : PSs X (st :: more) (tMid t u) := by
  constructor
  intro pins s σ H D I h
  obtain ⟨M, h1, h2⟩ := h
  refine wpAny_execs_cons (thn (a.run pins s σ H { D with nx := M } I h1) ?_)
  intro fl s1 q
  match fl, q with
  | .next, ⟨τ, G, J, q⟩ => exact b.run pins s1 τ G D J (h2 τ G q)
  | .ret _, q => exact q
  | .brk, q => exact q
  | .cont, q => exact q

/-- the end of a law whose def is such a one -/
theorem walkG {l : PySem.W.OpenLaw} {n k : Nat} {q : Program} {loose : List Str} {XP : (Str → Option Value) → Heap → Prop} {YP : World → Heap → Prop} {d : DefRec} {K : Params → PySem.W.Frag} {CX : World → CXT} {sp : World → Sp} {x : Str}
    (hn : l.most = some n) (hn2 : n ≤ sizeLine) (hdf : d.params.defaults = []) (hr : Room k callerA)
    (hY : ∀ (w : World) (h : Heap), YP w h → (K w.params).In h)
    (F : ∀ (w : World) (mg : Str → Option Value) (fa : Addr) (h : Heap), (K w.params).In h → h.Ns mainGlobals mg → mg d.name = some (.ref fa) →
      ∃ fd : FuncData, (∀ (s : Shared) (u : Value), BindsTo s fd ⟨[u], []⟩ [(x, u)]) ∧
        ∀ base : Heap, (K w.params).In base → base.Ns mainGlobals mg → FnG l.prog w (K w.params) mg base (CX w) k fa fd [x] (sp w))
    (hsp : ∀ (w : World) (H : Hp) (a : Addr) (ns : List Int), ns.length ≤ n → Only H → SqL (K w.params) H a (ns.map V.int) → sp w [.ref a] H (fun v _ => v = .bl true) fun _ _ _ => False)
    (hCX : ∀ (w : World) (H : Hp) (s : Shared) (e : Value) (s' : Shared), CX w [] H s (fun _ _ _ => False) e s' → False) :
    PySem.W.WalkO q loose XP YP l.row.toRowW d [] (fun f vs => PySem.call f vs) := by
  refine Att.attach_call hn hdf ?_
  intro w s₀ s₁ mg mb fa o pm cd doc a vs ns G Y ho hd hcd hmg hobj hints hlen hg
  have KX := hY w _ Y
  obtain ⟨fd, hb, hF⟩ := F w mg fa _ KX G.T.g hmg
  exact law_callG KX G.T.g G.T.b G.T.builtins G.T.nolimit hg hobj hints (Nat.le_trans hlen hn2) hr hF hb (fun H hO hS => hsp w H a ns hlen hO hS) (fun H e s' => hCX w H s₁ e s')

end Wk
set_option Elab.async false
set_option linter.all false
set_option maxRecDepth 100000
set_option maxHeartbeats 4000000
/-! Exceptions of own classes with an own __init__, as values: made with positional and keyword arguments, asked by isinstance, their fields read; repr of data. -/
namespace WkE
open PySem PySem.Spec PyProof.Rows PySem.HandSPX
section
variable {prog : Program} {w : World} {A : Around} {E : Value → Shared → Prop} {R : Result → Shared → Prop} {h : Heap} {g : Array GenState} {d : Drawn} {t : Nat} {os : OsState}
variable {nm q : Str} {C N : Addr} {bs bm bmB : List Value} {hdct : Bool} {sn : List Str} {sub : List Value} {ab : Bool} {col : Option Bool} {dd : Option Addr} {k0 k1 k2 k3 k5 : Option Value} {B newId initId : String}
variable {rest : List Value} {kw : List (Str × Value)} {fI : Addr}

theorem newCheck {Q : Unit → Shared → Prop} (F : ExcBaseFacts B newId initId bmB) (hT : ∀ X : String, bm.contains (.type X) = bmB.contains (.type X))
    (hC : h.get? C = some (excClassObj nm q C N bs bm hdct sn sub ab col dd k0 k1 k2 k3 k5 newId)) (fin : Q () ⟨h, g, d, t, os⟩) :
    wpAny (model prog w) A (checkBuiltinCall newId ⟨.ref C :: rest, kw⟩) Q E ⟨h, g, d, t, os⟩ := by
  have inB : (Value.ref C :: bm).contains (.type B) = true := by
    rw [List.contains_cons, hT, F.hasB]
    exact Bool.or_true _
  have star := F.noStar
  simp only [checkBuiltinCall, F.newKind, F.newSplit, F.newRow]
  repeat (first
    | refine wpAny_loadPart_at hC ?_
    | (refine wpAny_isSubtype_exc hC ?_; rw [inB])
    | refine wpAny_staticBase_exc hC ?_
    | refine wpAny_madeBy_exc hC ?_
    | simp only [bne_self_eq_false, Bool.false_eq_true, if_false]
    | wp_step)
  exact fin

theorem newRun (F : ExcBaseFacts B newId initId bmB) (hT : ∀ X : String, bm.contains (.type X) = bmB.contains (.type X))
    (hC : h.get? C = some (excClassObj nm q C N bs bm hdct sn sub ab col dd k0 k1 k2 k3 k5 newId))
    (fin : R (.ok (.ret (.ref (h.objs.size + 1)))) ⟨(h.push (W.kdv_tup rest)).push (excO C h.objs.size), g, d, t, os⟩) (few : rest.length ≤ sizeLine) :
    codeAny (model prog w) A (.builtin newId ⟨.ref C :: rest, kw⟩) R ⟨h, g, d, t, os⟩ := by
  have ends := F.ends
  have inB : (Value.ref C :: bm).contains (.type B) = true := by
    rw [List.contains_cons, hT, F.hasB]
    exact Bool.or_true _
  have noA : (Value.ref C :: bm).contains (.type "AttributeError") = false := by
    rw [List.contains_cons, hT, F.noAttr]
    rfl
  have noN : (Value.ref C :: bm).contains (.type "NameError") = false := by
    rw [List.contains_cons, hT, F.noName]
    rfl
  refine PySem.codeAny_builtinAt F.entry ?_
  unfold Builtin.«BaseException.__new__»
  refine PySem.wpAt_bind ?_
  show PySem.wpAt _ _ _ (stack >>= _) _ _ _
  refine PySem.wpAt_bind (PySem.wpAt_stack fun p below => PySem.wpAt_of_wpAny ?_)
  wp_walk
  refine PySem.wpAt_of_wpAny ?_
  rw [F.owner]
  repeat (first
    | with_reducible refine wpAny_madeHere_exc F.canon hC ?_
    | with_reducible refine wpAny_loadPart_at hC ?_
    | (with_reducible refine wpAny_isSubtype_exc hC ?_; first | rw [inB] | rw [noA] | rw [noN])
    | wp_step)
  show R _ _
  rw [Heap.size_push]
  exact fin

theorem typeCall {Q : Fin → Shared → Prop} (F : ExcBaseFacts B newId initId bmB) (hT : ∀ X : String, bm.contains (.type X) = bmB.contains (.type X))
    (hC : h.get? C = some (excClassObj nm q C N bs bm hdct sn sub ab col dd k0 k1 k2 k3 k5 newId))
    (hi : W.Looks (model prog w) h (typeLookup (.ref C) "__init__") (some (.ref fI))) (hb : ∀ self, W.Looks (model prog w) h (bindSpecial (.ref fI) self) (.ref fI, [self])) (few : rest.length ≤ sizeLine)
    (fin : codeAny (model prog w) A (.call (.ref fI) ⟨.ref (h.objs.size + 1) :: rest, kw⟩)
      (fun r s' => match r with | .ok (.ret v) => v = .none ∧ Q (.done (.ret (.ref (h.objs.size + 1)))) s' | .ok _ => False | .error e => E e s')
      ⟨(h.push (W.kdv_tup rest)).push (excO C h.objs.size), g, d, t, os⟩) :
    wpAny (model prog w) A (Builtin.«type.__call__» ⟨.ref C :: rest, kw⟩) Q E ⟨h, g, d, t, os⟩ := by
  repeat (first | with_reducible refine wpAny_loadPart_at hC ?_ | with_reducible refine wpAny_madeBy_exc hC ?_ | wp_step)
  refine codeAny_call_builtin_code (Code.quiet_builtin _ F.quiet) (newCheck F hT hC ?_)
  refine newRun F hT hC ?_ few
  show wpAny _ _ _ _ _ _
  have kept : ∀ b o, h.get? b = some o → ((h.push (W.kdv_tup rest)).push (excO C h.objs.size)).get? b = some o := by
    intro b o e
    exact Heap.get?_push_of_some _ (Heap.get?_push_of_some _ e)
  have hC1 := kept _ _ hC
  have atNew : ((h.push (W.kdv_tup rest)).push (excO C h.objs.size)).get? (h.objs.size + 1) = some (excO C h.objs.size) := by heap_get
  have inC : (Value.ref C :: bm).contains (.ref C) = true := by simp
  have i1 := hi.keeps kept
  have b1 := (hb (.ref (h.objs.size + 1))).keeps kept
  unfold isInstance
  repeat (first | with_reducible refine wpAny_loadPart_at atNew ?_ | (with_reducible refine wpAny_isSubtype_exc hC1 ?_; rw [inC]) | wp_step)
  show wpAny _ _ (typeLookup (.ref C) _) _ _ _
  refine i1.at ?_
  refine wpAny_holding (wpAny_bind (b1.at ?_))
  refine wpAny_bind (wpAny_call (codeAny_mono fin fun r s' z => ?_))
  rcases r with e | (v | _ | _ | _) <;> first | exact z | exact z.elim | skip
  obtain ⟨rfl, z⟩ := z
  first
    | exact wpAny_pure (wpAny_pure z)
    | (wp_walk; exact z)

theorem typeCallCheck {Q : Unit → Shared → Prop} (hC : h.get? C = some (excClassObj nm q C N bs bm hdct sn sub ab col dd k0 k1 k2 k3 k5 newId))
    (fin : Q () ⟨h, g, d, t, os⟩) : wpAny (model prog w) A (checkBuiltinCall "type.__call__" ⟨.ref C :: rest, kw⟩) Q E ⟨h, g, d, t, os⟩ := by
  have f3 := tc_sub
  have isT : (⟨h, g, d, t, os⟩ : Shared).TypeIs (.ref C) "type" := ⟨_, hC, rfl⟩
  simp only [checkBuiltinCall, tc_kind, tc_split]
  repeat (any_goals (first | assumption | with_reducible refine wpAny_loadPart_at hC ?_ | with_reducible refine wpAny_onRaise ?_ | with_reducible refine wpAny_map ?_ | wp_step))

/-- C(.., k = v, ..) -/
theorem callNew (F : ExcBaseFacts B newId initId bmB) (hT : ∀ X : String, bm.contains (.type X) = bmB.contains (.type X))
    (hC : h.get? C = some (excClassObj nm q C N bs bm hdct sn sub ab col dd k0 k1 k2 k3 k5 newId))
    (hi : W.Looks (model prog w) h (typeLookup (.ref C) "__init__") (some (.ref fI))) (hb : ∀ self, W.Looks (model prog w) h (bindSpecial (.ref fI) self) (.ref fI, [self])) (few : rest.length ≤ sizeLine)
    (fin : codeAny (model prog w) (A.under (.builtin "type.__call__" ⟨.ref C :: rest, kw⟩)) (.call (.ref fI) ⟨.ref (h.objs.size + 1) :: rest, kw⟩) (W.InitBack (h.objs.size + 1) R)
      ⟨(h.push (W.kdv_tup rest)).push (excO C h.objs.size), g, d, t, os⟩) :
    codeAny (model prog w) A (.call (.ref C) ⟨rest, kw⟩) R ⟨h, g, d, t, os⟩ := by
  have f1 := tc_lookup
  have f2 := tc_bind (.ref C)
  have isT : (⟨h, g, d, t, os⟩ : Shared).TypeIs (.ref C) "type" := ⟨_, hC, rfl⟩
  refine codeAny_of_tree ?_
  show wpAny _ _ (callAny (.ref C) _) _ _ _
  repeat (any_goals (first | assumption | with_reducible refine wpAny_loadPart_at hC ?_ | wp_step))
  refine ⟨rfl, ?_⟩
  refine codeAny_call_builtin_at (Code.quiet_builtin _ (by decide +kernel)) entry_typeCall (typeCallCheck hC (typeCall F hT hC hi hb few ?_))
  refine codeAny_mono fin fun r s' z => ?_
  rcases r with e | (v | _ | _ | _) <;> exact z
end
end WkE

namespace Wk
open PySem PySem.Spec PyProof.Rows L2
/-- C(.., k = v, ..) of an exception class with its own __init__, as a value: n positional values, m keywords; H3 holds the exception and its dict -/
def tMkV (C : Addr) (n m : Nat) (sp : Sp) (gV : List V → List V → List V) (t tk : TA) : TE := fun σ H Q => t σ H fun vs H1 => tk σ H1 fun zs H2 => vs.length = n ∧ zs.length = m ∧
  ∀ a, H2 a = none → sp (gV (.ref a :: vs) zs) (upd H2 a (exo a C none)) (fun v H3 => v = .non ∧ Q (.ref a) H3) fun _ _ _ => False
section
variable {X : Cx} {CX : CXT} {k n : Nat} {fI C : Addr} {fd : FuncData} {ps ks : List Str} {sp : Sp} {x : Str} {p pos : Pos} {e : Expr} {es : List Expr} {kws : List Keyword} {t tk : TA}
variable {g : List Value → List Value → List Value} {gV : List V → List V → List V}
theorem runMkV {pins : List (Addr × Obj)} {σ : L2.St} {H : Hp} {s : Shared} {Q : VK} {us ws : List Value} {vs zs : List V} (T : OexC X.K C)
    (iC : PySem.W.findIn X.K (.ref C) "__init__" = some (some (.ref fI))) (tI : PySem.W.typeIn X.K (.ref fI) = some (.type "function"))
    (F : FnOk X.prog X.w X.K X.mg X.base CX k fI fd ps sp) (hr : Room (k + 1) X.A) (hb : KBn X.K fd ps (n + 1) ks g gV) (hx : Passes CX X fun _ _ _ => False)
    (I : Inv X pins σ H s) (r : Vals vs us) (rz : Vals zs ws) (l1 : vs.length = n) (l2 : zs.length = ks.length) (hn : n ≤ 1000)
    (want : ∀ a, H a = none → sp (gV (.ref a :: vs) zs) (upd H a (exo a C none)) (fun v H3 => v = .non ∧ Q (.ref a) H3) fun _ _ _ => False) :
    wpAny (model X.prog X.w) X.A (call (.ref C) us (ks.zip ws)) (EP X pins σ Q) X.xe s := by
  obtain ⟨nm, q, N, bs, bm, sn, sub, ab, col, dd, k0, k1, k2, k3, k5, hC, hbm⟩ := T.cls
  obtain ⟨hp, gs, dr, tok, os⟩ := s
  have le : hp.objs.size ≤ hp.objs.size + 1 := Nat.le_succ _
  have free : H (hp.objs.size + 1) = none := I.hok.fresh le
  have hq := want (hp.objs.size + 1) free
  have kept : ∀ b o, hp.get? b = some o → ((hp.push (PySem.W.kdv_tup us)).push (PySem.HandSPX.excO C hp.objs.size)).get? b = some o :=
    fun b o e => Heap.get?_push_of_some _ (Heap.get?_push_of_some _ e)
  have atNew : ((hp.push (PySem.W.kdv_tup us)).push (PySem.HandSPX.excO C hp.objs.size)).get? (hp.objs.size + 1) = some (PySem.HandSPX.excO C hp.objs.size) := by heap_get
  have I2 : Inv X pins σ (upd H (hp.objs.size + 1) (exo (hp.objs.size + 1) C none)) ⟨(hp.push (PySem.W.kdv_tup us)).push (PySem.HandSPX.excO C hp.objs.size), gs, dr, tok, os⟩ :=
    I.laid (t' := tok) kept le (exo_ok atNew)
  have r1 : Vals (V.ref (hp.objs.size + 1) :: vs) (Value.ref (hp.objs.size + 1) :: us) := .cons rfl r
  have r2 := hb.rel r1 rz
  have n1 : (Value.ref (hp.objs.size + 1) :: us).length = n + 1 := by
    rw [List.length_cons, ← r.length, l1]
  have few : us.length ≤ sizeLine := by
    rw [← r.length, l1, sizeLine_eq]
    omega
  refine wpAny_call (WkE.callNew PySem.F.excBase_ValueError (fun Y => PySem.HandSPX.refsVE_contains Y bm hbm) (I.kIn _ _ hC) (PySem.W.looks_findIn I.kIn iC) (fun self => PySem.W.bind_fn I.kIn self tI) few ?_)
  refine codeAny_mono (F.run _ X.stack _ _ ⟨Value.ref (hp.objs.size + 1) :: us, ks.zip ws⟩ (g (Value.ref (hp.objs.size + 1) :: us) ws) _ _ (fun _ _ _ => False)
    (hr.make C us (ks.zip ws)) (I2.env0.make C us (ks.zip ws)) (hb.to _ (Value.ref (hp.objs.size + 1) :: us) ws I2.kIn n1 (rz.length.symm.trans l2)) r2 hq) ?_
  intro r s' hq'
  match r, hq' with
  | .error er, hq' => exact hx pins σ _ _ er s' I2 hq'
  | .ok (.ret u), hq' =>
    obtain ⟨v, H3, I3, rv, ev, q3⟩ := I2.after hq'
    subst ev
    exact ⟨rv, V.ref (hp.objs.size + 1), H3, I3, rfl, q3⟩
/-- C(e, ..) -/
theorem pe_mkV (T : OexC X.K C) (iC : PySem.W.findIn X.K (.ref C) "__init__" = some (some (.ref fI))) (tI : PySem.W.typeIn X.K (.ref fI) = some (.type "function"))
    (F : FnOk X.prog X.w X.K X.mg X.base CX k fI fd ps sp) (hr : Room (k + 1) X.A) (hb : KBn X.K fd ps (n + 1) [] g gV) (hx : Passes CX X fun _ _ _ => False) (hn : n ≤ 1000)
    (hg : Gl X x) (hm : X.mg x = some (.ref C)) (ha : PA X (e :: es) t) (hdb : (x == ("__debug__" : Str)) = false := by decide)
    (he : starEach (e :: es) X.env = (false, eval e X.env) :: starEach es X.env := by rfl) (hpl : (backTo pos (starEach es X.env)).any (·.1) = false := by rfl) :
    PE X (.Call (.Name x p) (e :: es) [] pos) (tMkV C n 0 sp gV t tNil) := by
  constructor
  intro pins s σ H Q I h
  refine wpAny_Call_Name_kw (ld_glob I hg hm ?_ hdb)
  refine PySem.W.callWith_K (h₀ := X.base) I.ok.mod.kin T.kC (thn (ha.run pos pins s σ H _ I h) ?_) he hpl
  rintro us s1 ⟨vs, H1, I1, r, l1, l2, q⟩
  exact ⟨I1.kIn, runMkV (ks := []) (ws := []) (zs := []) T iC tI F hr hb hx I1 r .nil l1 rfl hn q⟩
/-- C(k = v, ..) -/
theorem pe_mkVK (T : OexC X.K C) (iC : PySem.W.findIn X.K (.ref C) "__init__" = some (some (.ref fI))) (tI : PySem.W.typeIn X.K (.ref fI) = some (.type "function"))
    (F : FnOk X.prog X.w X.K X.mg X.base CX k fI fd ps sp) (hr : Room (k + 1) X.A) (hb : KBn X.K fd ps 1 ks g gV) (hx : Passes CX X fun _ _ _ => False)
    (hg : Gl X x) (hm : X.mg x = some (.ref C)) (hkw : PK X kws tk) (hall : (backToKw pos (keywordEach kws X.env)).all (·.1.isSome) = true := by rfl)
    (hks : (backToKw pos (keywordEach kws X.env)).filterMap (·.1) = ks := by rfl) (hdb : (x == ("__debug__" : Str)) = false := by decide)
    (hpl : ((backTo pos (starEach [] X.env)).any (·.1) || (backToKw pos (keywordEach kws X.env)).any (·.1.isNone)) = false := by rfl) :
    PE X (.Call (.Name x p) [] kws pos) (tMkV C 0 ks.length sp gV tNil tk) := by
  constructor
  intro pins s σ H Q I h
  refine wpAny_Call_Name_kw (ld_glob I hg hm ?_ hdb)
  refine PySem.W.callWith_KW0 (h₀ := X.base) I.ok.mod.kin T.kC hall (thn (hkw.run pos pins s σ H _ I h) ?_) hpl
  rintro ws s2 ⟨zs, H2, I2, rz, l1, l2, q2⟩
  refine ⟨I2.kIn, ?_⟩
  rw [hks]
  exact runMkV (us := []) (vs := []) T iC tI F hr hb hx I2 .nil rz rfl l2 (Nat.zero_le _) q2
end

/-! ### isinstance of such a value -/
/-- what the class at D says, so that isinstance asks its instances rightly -/
structure IsC (K : PySem.W.Frag) (D : Addr) : Prop where
  cl : (PySem.W.clsIn K D).isSome = true
  ga : PySem.W.findIn K (.ref D) "__getattribute__" = some (some (.builtin "BaseException.__getattribute__"))
  gt : PySem.W.findIn K (.ref D) "__getattr__" = some none
  sub : PySem.W.subIn K (.ref D) (.type "BaseException") = some true
  cls : PySem.W.findIn K (.ref D) "__class__" = some (some (.builtin "object.__class__"))
  get : PySem.W.specialIn K (.builtin "object.__class__") "__get__" = some (some (.builtin "getset_descriptor.__get__"))
  tak : PySem.W.takesIn K (.builtin "object.__class__") = some true
  mro : PySem.W.mroIn K D (.type "object") = some true
/-- isinstance(x, c), x an exception with its dict -/
def rIsX (K : PySem.W.Frag) : List V → Hp → VK → Prop := fun xs H Q => ∃ (a C dx : Addr) (fs : List (Str × V)) (c : V) (u : Value) (b : Bool),
  xs = [.ref a, c] ∧ H a = some (exo a C (some dx)) ∧ H dx = some (exd dx fs) ∧ IsC K C ∧ ClsV c u ∧ PySem.W.kitOne K (.ref C) u = some b ∧ Q (.bl b) H
section
variable {X : Cx}
theorem call_isX : CallR X (.builtin "isinstance") (rIsX X.K) := by
  intro pins s σ H xs us Q I r h
  obtain ⟨a, C, dx, fs, c, u, b, rfl, ea, ed, T, kc, e, q⟩ := h
  obtain ⟨u1, u2, rfl, r1, r2⟩ := vals2 r
  cases kc.eq r2
  cases (show u1 = Value.ref a from r1)
  obtain ⟨t1, ho⟩ := exo_at I.hok ea
  obtain ⟨mA, hns, rel⟩ := exd_at I.hok ed
  obtain ⟨od, hod, _⟩ := lookIn_ns hns
  have J : PySem.W.InstAt s.heap a { cls := .ref C, dict := some dx, data := .fields #[.ref t1, .none, .none, .none, .bool false, .none] } C (some od) := ⟨ho, rfl, rfl, hod⟩
  exact PySem.W.kia_one (PySem.W.kitx_exc T.cl T.ga T.gt T.sub T.cls T.get T.tak T.mro) I.kIn J e (fun z => nomatch z) fun tk => ⟨.bl b, H, I.tok tk, rfl, q⟩
/-- isinstance(x, (c1, ..)), x an exception without a dict -/
def rIsXT (K : PySem.W.Frag) : List V → Hp → VK → Prop := fun xs H Q => ∃ (a C tp : Addr) (cs : List V) (us : List Value) (b : Bool),
  xs = [.ref a, .ref tp] ∧ H a = some (ExO (.ref C) a) ∧ H tp = some (.tup cs) ∧ IsC K C ∧ Paired ClsV cs us ∧ PySem.W.kitAny K (.ref C) us = some b ∧ Q (.bl b) H
theorem call_isXT : CallR X (.builtin "isinstance") (rIsXT X.K) := by
  intro pins s σ H xs us Q I r h
  obtain ⟨a, C, tp, cs, ws, b, rfl, ea, hT, T, kc, e, q⟩ := h
  obtain ⟨u1, u2, rfl, r1, r2⟩ := vals2 r
  cases (show u1 = Value.ref a from r1)
  cases (show u2 = Value.ref tp from r2)
  obtain ⟨⟨oe, vs, ho, hz, hd, _⟩, _, _⟩ := I.hok a _ ea
  obtain ⟨_, its, rv, o, h1, h2, n, h3⟩ := (show ObjOk X.prog X.w H s.heap tp (.tup cs) from I.hok tp _ hT)
  cases ClsV.all kc rv
  obtain ⟨oc, od, dt, sl⟩ := o
  simp only at h2 h3
  subst h2 h3
  have J : PySem.W.InstAt s.heap a oe C none := ⟨ho, hz.1, by unfold PySem.W.notCls; rw [hd] <;> rfl, by rw [hz.2]; exact trivial⟩
  exact PySem.W.kia_tup (PySem.W.kitx_exc T.cl T.ga T.gt T.sub T.cls T.get T.tak T.mro) I.kIn J h1 e (fun z => nomatch z) fun tk => ⟨.bl b, H, I.tok tk, rfl, q⟩
end

/-! ### a field of such a value -/
def tXv (K : PySem.W.Frag) (f : Str) (te : TE) : TE := fun σ H Q => te σ H fun x H1 => ∃ (a C dx : Addr) (fs : List (Str × V)) (v : V), x = .ref a ∧ XfC K C ∧ PySem.W.findIn K (.ref C) f = some none ∧
  H1 a = some (exo a C (some dx)) ∧ H1 dx = some (exd dx fs) ∧ fs.lookup f = some v ∧ Q v H1
theorem pe_xv {X : Cx} {e : Expr} {te : TE} {pos : Pos} {f : Str} (he : PE X e te) (hb : attributeBase e f X.env (eval e X.env) = eval e X.env := by rfl) : PE X (.Attribute e f pos) (tXv X.K f te) := by
  constructor
  intro pins s σ H Q I h
  refine attr_of hb (thn (he.run pins s σ H _ I h) ?_)
  rintro u s1 ⟨x, H1, I1, rx, a, C, dx, fs, v, rfl, T, no, ea, ed, l, q⟩
  cases (show u = Value.ref a from rx)
  obtain ⟨t1, ho⟩ := exo_at I1.hok ea
  obtain ⟨mA, hns, rel⟩ := exd_at I1.hok ed
  obtain ⟨od, hod, hl⟩ := lookIn_ns hns
  obtain ⟨u, hu, ru⟩ := RelO.some_of (v := v) (o := mA f) (by rw [← l]; exact rel f)
  have J : PySem.W.InstAt s1.heap a { cls := .ref C, dict := some dx, data := .fields #[.ref t1, .none, .none, .none, .bool false, .none] } C (some od) := ⟨ho, rfl, rfl, hod⟩
  exact HandSPX.exc_get I1.kIn J T.ga T.gg T.exC (PySem.W.findObj_own T.hdC no rfl (by rw [hl, hu])) (handed_of ru) ⟨v, H1, I1.tok _, ru, q⟩

/-! ### C(), an exception class without an own __init__ -/
theorem pe_exc0 {X : Cx} {C : Addr} {bmB : List Value} {B newId initId : String} {x : Str} {p pos : Pos} (F : ExcBaseFacts B newId initId bmB) (q : PySem.W.excIn X.K C bmB newId = true) (gC : X.mg x = some (.ref C))
    (kC : PySem.W.keepIn X.K (.ref C) = true) (hg : Gl X x) (hdb : (x == ("__debug__" : Str)) = false := by decide) :
    PE X (.Call (.Name x p) [] [] pos) (fun σ H Q => ∀ a, H a = none → Q (.ref a) (upd H a (ExO (.ref C) a))) := by
  constructor
  intro pins s σ H Q I h
  refine wpAny_Call_Name_kw (ld_glob I hg gC ?_ hdb)
  refine PySem.W.callWith_K0 I.kIn kC ?_
  obtain ⟨bm, N, nm, qn, bs, hdct, sn, sub, ab, col, dd, k0, k1, k2, k3, k5, mN, hC, hN, hni, T⟩ := exc_obj I.kIn q
  refine wpAny_call_exc_subT F T hC hN hni (fun h' a hm => ?_) (by show 0 ≤ sizeLine; exact Nat.zero_le _)
  have free : H a = none := I.hok.gone hm.new
  obtain ⟨t, ht, _, _⟩ := hm.there
  exact ⟨.ref a, upd H a (ExO (.ref C) a), I.laidN hm.keeps hm.new free (exO_ok ht ⟨rfl, rfl⟩ rfl rfl rfl (show 4 < 6 by decide)), rfl, h a free⟩

/-! ### repr of data -/
/-- repr(x), x data: its text. No repr is under way -/
def rRepr (K : PySem.W.Frag) : List V → Hp → VK → Prop := fun xs H Q => ∃ (x : V) (d : PyData), xs = [x] ∧ Dp K H x d ∧ d.showable = true ∧ d.hasDict = false ∧ d.depth ≤ 60 ∧ (d.shown.length ≤ sizeLine ∨ ∃ i, d = .int i) ∧ Q (.str d.shown) H
theorem call_repr {X : Cx} (gd : X.A.guards = some []) (hu : X.A.units + 64 < cLine) : CallR X (.builtin "repr") (rRepr X.K) := by
  intro pins s σ H xs us Q I r h
  obtain ⟨x, d, rfl, dp, sh, nd, dep, sz, q⟩ := h
  obtain ⟨u, rfl, rx⟩ := vals1 r
  obtain ⟨as, rd⟩ := Dp.reads I d x u dp rx
  cases dp with
  | non =>
    cases rx
    exact PySem.P.repr_of_none ⟨.str _, H, I.tok _, ⟨_, rfl⟩, q⟩
  | bl b =>
    cases rx
    exact PySem.P.repr_of_bool ⟨.str _, H, I.tok _, ⟨_, rfl⟩, q⟩
  | int i =>
    obtain ⟨t, rfl⟩ := rx
    exact PySem.P.repr_of_int (by simpa [PyData.showable] using sh) ⟨.str _, H, I.tok _, ⟨_, rfl⟩, q⟩
  | str z =>
    obtain ⟨t, rfl⟩ := rx
    exact PySem.P.repr_of_str ⟨.str _, H, I.tok _, ⟨_, rfl⟩, q⟩ (sz.elim id fun ⟨_, e⟩ => nomatch e)
  | lst _ _ =>
    cases rx
    exact repr_of_reads' rd sh (PyData.noDict_hsm nd) gd (by omega) (fun _ _ e => e) (fun h' u tk hk => ⟨.str _, H, I.kept hk, ⟨_, rfl⟩, q⟩) (sz.elim id fun ⟨_, e⟩ => nomatch e)
  | tup _ _ =>
    cases rx
    exact repr_of_reads' rd sh (PyData.noDict_hsm nd) gd (by omega) (fun _ _ e => e) (fun h' u tk hk => ⟨.str _, H, I.kept hk, ⟨_, rfl⟩, q⟩) (sz.elim id fun ⟨_, e⟩ => nomatch e)
end Wk
set_option Elab.async false
set_option linter.all false
set_option maxRecDepth 100000
set_option maxHeartbeats 4000000
/-! try .. except X as n, where the suite keeps the error for later: behind the suite it is tracked; isinstance of such an error, its fields. -/
namespace Wk
open PySem PySem.Spec PyProof.Rows L2
/-- an error that has been caught: its class, its own dict -/
def ExH (cls : Value) (d : Option Addr) (a : Addr) : HO := .ext fun h => ∃ (oe : Obj) (vs : Array Value), h.get? a = some oe ∧ Zc cls d oe ∧ oe.data = .fields vs
theorem exH_ok {P : Program} {w : World} {H : Hp} {h : Heap} {a : Addr} {cls : Value} {d : Option Addr} {oe : Obj} {vs : Array Value} (e : h.get? a = some oe) (z : Zc cls d oe) (dd : oe.data = .fields vs) : ObjOk P w H h a (ExH cls d a) :=
  ⟨⟨oe, vs, e, z, dd⟩, ⟨oe, e⟩, fun _ _ ⟨o, v, q, r⟩ k => ⟨o, v, k o q, r⟩⟩
section
variable {X : Cx} {pins : List (Addr × Obj)} {σ : L2.St} {H : Hp} {s : Shared}
/-- an object that came behind the entry is tracked from now on -/
theorem track {a : Addr} {o : HO} (I : L2.Inv X pins σ H s) (free : H a = none) (late : ∀ b u, X.s_0.heap.get? b = some u → b ≠ a) (nL : a ≠ X.env.locals) (nC : ∀ x c, X.env.cells.lookup x = some c → c ≠ a)
    (nP : ∀ p ∈ X.pn ++ pins, p.1 ≠ a) (new : ObjOk X.prog X.w (upd H a o) s.heap a o) : L2.Inv X pins σ (upd H a o) s where
  ok := I.ok
  os := I.os
  bare := I.bare
  base := {
    keep := I.base.keep
    slot := I.base.slot
    free := fun b u e n hx => by
      rw [upd_ne (late b u e)]
      exact I.base.free b u e n hx
    there := I.base.there
    tups := fun b xs e => by
      have z := I.base.tups b xs e
      rw [upd_ne (ne_of_none z free)]
      exact z
    frzs := fun b u v e => by
      have z := I.base.frzs b u v e
      rw [upd_ne (ne_of_none z free)]
      exact z
    tbls := fun b ps e => by
      obtain ⟨m, z⟩ := I.base.tbls b ps e
      exact ⟨m, by rw [upd_ne (ne_of_none z free)]; exact z⟩ }
  loc := I.loc
  cell := I.cell
  free := by
    rw [upd_ne (Ne.symm nL)]
    exact I.free
  freeC := fun x c e => by
    rw [upd_ne (nC x c e)]
    exact I.freeC x c e
  pin := fun p hp => by
    obtain ⟨e, n, r⟩ := I.pin p hp
    exact ⟨e, by rw [upd_ne (nP p hp)]; exact n, r⟩
  hok := fun b u e => by
    by_cases hb : b = a
    · subst hb
      rw [upd_same] at e
      cases e
      exact new
    · rw [upd_ne hb] at e
      refine (I.hok b u e).stay (fun _ _ _ q => q) (fun c q => ?_) (fun c xs q => ?_)
      · rw [upd_ne (ne_of_none q free)]
        exact q
      · rw [upd_ne (ne_of_none q free)]
        exact q
  len := I.len
end
/-- what the clause wishes: its suite, with the error in slot i; behind the suite the error stands in the heap -/
def wKeep (K : PySem.W.Frag) (c : Value) (i : Nat) (ts : Addr → Value → Option Addr → TS) (Wout : WX) (D : Ends) : WX := fun cls d σ H =>
  ∃ b, PySem.W.exmOne K cls c = some b ∧
    (b = true → ∀ a, H a = none → ts a cls d { nx := fun τ G => D.nx (τ.set i none) (upd G a (ExH cls d a)), rt := D.rt, bk := fun τ G => D.bk (τ.set i none) (upd G a (ExH cls d a)), ct := fun τ G => D.ct (τ.set i none) (upd G a (ExH cls d a)) } (σ.set i (some (.ref a))) H) ∧
    (b = false → Wout cls d σ H)
section
variable {X : Cx} {x n : Str} {c : Value} {i : Nat} {body suite : List Stmt} {b0 : Stmt} {np pos pos' : Pos} {tb : WX → TS} {ts : Addr → Value → Option Addr → TS} {Wout : WX}
theorem ps_try_keep (hs : X.stack = X.env :: X.outer) (hf : X.env.frame = some X.env.locals) (hex : X.ex = []) (hN : X.N.Nodup) (hi : X.N[i]? = some n) (hln : X.env.kindOf n = some .local) (hc : Names X x c) (tk : Takes X Wout)
    (hb : ∀ (W : WX) (pn : List (Addr × Obj)) (xe : Value → Shared → Prop), Takes (X.tr pn xe) W → PassesOwn (model X.prog X.w) X.A X.env xe → PSs (X.tr pn xe) body (tb W))
    (hsu : ∀ (a : Addr) (oe : Obj) (cls : Value) (d : Option Addr) (pn : List (Addr × Obj)), Zc cls d oe → (∃ vs, oe.data = .fields vs) → PSs (X.suite a ((a, oe) :: pn)) (b0 :: suite) (ts a cls d)) :
    PS X (.Try body [.ExceptHandler (some (.Name x np)) (some n) (b0 :: suite) pos'] [] [] pos) (fun D σ H => tb (wKeep X.K c i ts Wout D) D σ H) := by
  constructor
  intro pins s σ H D I h
  have ok := I.ok
  have frames : X.A.frames = some (X.env :: X.outer) := by rw [ok.frames, hs]
  refine wpAny_Try_except ?_
  let after : Value → Shared → Prop := fun e s₁ => wpAny (model X.prog X.w) X.A (noteFrame e X.env) (fun _ s₂ => wpAny (model X.prog X.w) X.A (setFlight e none)
    (fun _ s₃ => wpAny (model X.prog X.w) X.A (handleBy e X.env [.ExceptHandler (some (.Name x np)) (some n) (b0 :: suite) pos']) (SP X pins D) X.xe s₃) X.xe s₂) X.xe s₁
  have catch_ : Takes (X.tr (X.pn ++ pins) after) (wKeep X.K c i ts Wout D) := by
    rintro u s' ⟨a, B, sI, pins', σ', H', cls, d, rfl, J', nb, up, sky, na, os, ag, b, hb1, yes, no⟩
    have J : L2.Inv X pins σ' H' sI := J'.ofTry ok
    have sky' : Sky B (X.env :: X.outer) a (Zc cls d) X.env.locals s'.heap := by rw [← hs]; exact sky
    show wpAny (model X.prog X.w) X.A (noteFrame (.ref a) X.env) _ _ _
    refine Sky.land Zc.steady frames hf sky' fun h3 fl3 up3 => ?_
    have J3 : L2.Inv X pins σ' H' { s' with heap := h3 } := J.landed nb fl3.1 (up.trans up3) os ag
    obtain ⟨oe3, vs3, he3, hz3, hd3⟩ := fl3.there
    have noB : B.get? a = none := fl3.2.1
    have nfr : a ∉ frs (X.env :: X.outer) := by
      intro hm
      obtain ⟨_, o', e', hnf⟩ := fl3.2.2.1.mem hm
      rw [he3] at e'
      cases e'
      exact hnf _ hd3
    have nL : a ≠ X.env.locals := fun z => nfr (List.mem_filterMap.mpr ⟨X.env, List.mem_cons_self, by rw [hf, z]⟩)
    have nF : a ∉ X.fs := by
      intro hm
      obtain ⟨e, he, q⟩ := List.mem_filterMap.mp hm
      exact nfr (List.mem_filterMap.mpr ⟨e, List.mem_cons_of_mem _ he, q⟩)
    -- what stood at the entry, the pins, the cells: none of them is the error
    have late : ∀ b u, X.s_0.heap.get? b = some u → b ≠ a := by
      intro b u e z
      by_cases hm : b ∈ frs (X.env :: X.outer)
      · exact nfr (z ▸ hm)
      · obtain ⟨o', e'⟩ := J.base.there b u e (by rw [hex]; exact List.not_mem_nil)
        have q := nb b o' e' (by rw [hs]; exact hm)
        rw [z, noB] at q
        cases q
    have pinsA : ∀ p ∈ X.pn ++ pins, p.1 ≠ a := by
      intro p hp z
      obtain ⟨e, _, ne, nf, _⟩ := J.pin p hp
      have hm : p.1 ∉ frs (X.env :: X.outer) := by rw [z]; exact nfr
      have q := nb p.1 p.2 e (by rw [hs]; exact hm)
      rw [z, noB] at q
      cases q
    have S3 := J3.suite he3 hd3 na nL nF
    refine wpAny_handleBy_cons (codeAny_handlers_test ?_) (by intro q; cases q)
    have tyA : PySem.W.Looks (model X.prog X.w) h3 (typeOf (.ref a)) cls := fun A Q E s k q => wpAny_typeOf_ref (k _ _ he3) (by rw [hz3.1]; exact q)
    have meets := PySem.W.exm_one (M := model X.prog X.w) (J3.kIn) tyA hb1
    have asked : ∀ {Q : Value → Shared → Prop} {E : Value → Shared → Prop}, Q c { s' with heap := h3 } → wpAny (model X.prog X.w) (X.A.mark (some (.ref a))) (eval (.Name x np) X.env) Q E { s' with heap := h3 } := by
      intro Q E q
      obtain ⟨hg, hdbg, hm | ⟨hm, hv, hnn⟩⟩ := hc
      · exact ld_glob (X := X.suite a ((a, oe3) :: (X.pn ++ pins))) S3 hg hm q hdbg
      · exact ld_blt (X := X.suite a ((a, oe3) :: (X.pn ++ pins))) S3 hg hm hv q hnn hdbg
    refine asked (meets.here ?_)
    cases b with
    | true =>
      refine codeAny_handlers_suite_as (HandSPX.lands_againZ fl3 fun h4 fl4 up4 => ?_)
      have J4 : L2.Inv X pins σ' H' { s' with heap := h4 } := J.landed nb fl4.1 ((up.trans up3).trans up4) os ag
      obtain ⟨oe4, vs4, he4, hz4, hd4⟩ := fl4.there
      have S4 := J4.suite he4 hd4 na nL nF
      refine store_ok (X := X.suite a ((a, oe4) :: (X.pn ++ pins))) (v := .ref a) S4 hN hi (.inl hln) rfl (fun s5 S5 => ?_) (.inr hln)
      refine wpAny_mono ((hsu a oe4 cls d (X.pn ++ pins) hz4 ⟨_, hd4⟩).run [] s5 _ H' _ S5 (yes rfl a na)) ?_ (fun _ _ z => z.elim)
      intro f s6 hsp
      have leave : ∀ {σ6 : L2.St} {H6 : Hp} {Q : Shared → Prop}, L2.Inv (X.suite a ((a, oe4) :: (X.pn ++ pins))) [] σ6 H6 s6 →
          (∀ s7, L2.Inv X pins (σ6.set i none) H6 s7 → L2.Inv X pins (σ6.set i none) (upd H6 a (ExH cls d a)) s7 → Q s7) →
          wpAny (model X.prog X.w) X.A (do bindName X.env n .none; unbindBehindTheSuite X.env n pos') (fun _ s7 => Q s7) X.xe s6 := by
        intro σ6 H6 Q S6 hq
        obtain ⟨ga, fa, _⟩ := S6.pin (a, oe4) (List.mem_append_left _ List.mem_cons_self)
        have J6 : L2.Inv X ((a, oe4) :: pins) σ6 H6 s6 := (S6.unsuite ok).pins_of (pins' := (a, oe4) :: pins) fun p hp =>
          S6.pin p (List.mem_append_left _ (by
            rcases List.mem_cons.mp hp with e | e
            · rw [e]; exact List.mem_cons_self
            · exact List.mem_cons_of_mem _ (List.mem_append_right _ e)))
        refine gone_ok J6 hN hi hln fun s7 J7 => ?_
        obtain ⟨g7, f7, _, _, dc⟩ := J7.pin (a, oe4) (List.mem_append_right _ List.mem_cons_self)
        have K7 : L2.Inv X pins (σ6.set i none) H6 s7 := J7.pins_of fun p hp => J7.pin p (List.mem_append_right _ (List.mem_cons_of_mem _ hp))
        refine hq s7 K7 (track K7 f7 late nL ?_ pinsA (exH_ok g7 hz4 hd4))
        intro y cc e z
        obtain ⟨v, o, ho, hd⟩ := K7.cell y cc e
        rw [z, g7] at ho
        cases ho
        exact dc v hd
      cases f with
      | next =>
        obtain ⟨σ6, H6, S6, q6⟩ := hsp
        exact leave S6 fun s7 _ J7 => ⟨_, _, J7, q6⟩
      | brk =>
        obtain ⟨σ6, H6, S6, q6⟩ := hsp
        exact leave S6 fun s7 _ J7 => ⟨_, _, J7, q6⟩
      | cont =>
        obtain ⟨σ6, H6, S6, q6⟩ := hsp
        exact leave S6 fun s7 _ J7 => ⟨_, _, J7, q6⟩
      | ret u =>
        obtain ⟨v6, σ6, H6, S6, r6, q6⟩ := hsp
        exact leave S6 fun s7 J7 _ => ⟨_, _, _, J7, r6, q6⟩
    | false =>
      show wpAny _ X.A (handleBy (.ref a) X.env []) _ _ _
      refine wpAny_handleBy_nil ?_
      obtain ⟨k1, k2, k3, oe, vs, T, oT, tt, he, hz, hd, h1, hr⟩ := id fl3
      unfold PySem.passOn
      refine wpAny_bind (wpAny_field he hd h1 ?_)
      rw [if_neg (show ¬ ((Value.ref T == Value.none) = true) from by simp)]
      have fin : wpAny (model X.prog X.w) X.A (setFlight (.ref a) X.env.frame) (fun _ s4 => wpAny (model X.prog X.w) X.A (throw (.ref a) : Sem Flow) (SP X pins D) X.xe s4) X.xe { s' with heap := h3 } := by
        rw [hf]
        refine HandSPX.setFlight_upZ fl3 fun h4 fl4 up4 => wpAny_throw (tk _ _ ?_)
        exact ⟨a, B, sI, pins, σ', H', cls, d, rfl, J, nb, (up.trans up3).trans up4, .inr (.inr (by rw [hs]; exact fl4)), na, os, ag, no rfl⟩
      first
        | exact wpAny_bind (wpAny_pure (wpAny_bind fin))
        | exact wpAny_bind fin
  refine wpAny_mono ((hb (wKeep X.K c i ts Wout D) (X.pn ++ pins) after catch_ PassesOwn.looking).run [] s σ H D (I.toTry _) h) ?_ (fun e s1 he => he)
  intro f s1 hsp
  cases f with
  | next =>
    obtain ⟨σ', H', J', q⟩ := hsp
    exact wpAny_execs_nil ⟨σ', H', J'.ofTry ok, q⟩
  | brk =>
    obtain ⟨σ', H', J', q⟩ := hsp
    exact ⟨σ', H', J'.ofTry ok, q⟩
  | cont =>
    obtain ⟨σ', H', J', q⟩ := hsp
    exact ⟨σ', H', J'.ofTry ok, q⟩
  | ret u =>
    obtain ⟨v, σ', H', J', r, q⟩ := hsp
    exact ⟨v, σ', H', J'.ofTry ok, r, q⟩
end
/-! ### isinstance of a caught error, its fields -/
def rIsH (K : PySem.W.Frag) : List V → Hp → VK → Prop := fun xs H Q => ∃ (a C dx : Addr) (fs : List (Str × V)) (c : V) (u : Value) (b : Bool),
  xs = [.ref a, c] ∧ H a = some (ExH (.ref C) (some dx) a) ∧ H dx = some (.xd fs) ∧ IsC K C ∧ ClsV c u ∧ PySem.W.kitOne K (.ref C) u = some b ∧ Q (.bl b) H
section
variable {X : Cx}
theorem held_at {pins : List (Addr × Obj)} {σ : L2.St} {H : Hp} {s : Shared} {a C dx : Addr} {fs : List (Str × V)} (I : L2.Inv X pins σ H s) (ea : H a = some (ExH (.ref C) (some dx) a)) (ed : H dx = some (.xd fs)) :
    ∃ (oe : Obj) (od : Obj) (mA : Str → Option Value), PySem.W.InstAt s.heap a oe C (some od) ∧ (∀ name, PySem.W.lookIn name od = some (mA name)) ∧ ∀ f, RelO (fs.lookup f) (mA f) := by
  obtain ⟨⟨oe, vs, ho, hz, hd⟩, _, _⟩ := (show ObjOk X.prog X.w H s.heap a (ExH (.ref C) (some dx) a) from I.hok a _ ea)
  obtain ⟨mA, hns, rel⟩ := (show ObjOk X.prog X.w H s.heap dx (.xd fs) from I.hok dx _ ed)
  obtain ⟨od, hod, hl⟩ := lookIn_ns hns
  exact ⟨oe, od, mA, ⟨ho, hz.1, by unfold PySem.W.notCls; rw [hd] <;> rfl, by rw [hz.2]; exact hod⟩, hl, rel⟩
theorem call_isH : CallR X (.builtin "isinstance") (rIsH X.K) := by
  intro pins s σ H xs us Q I r h
  obtain ⟨a, C, dx, fs, c, u, b, rfl, ea, ed, T, kc, e, q⟩ := h
  obtain ⟨u1, u2, rfl, r1, r2⟩ := vals2 r
  cases kc.eq r2
  cases (show u1 = Value.ref a from r1)
  obtain ⟨oe, od, mA, J, _, _⟩ := held_at I ea ed
  exact PySem.W.kia_one (PySem.W.kitx_exc T.cl T.ga T.gt T.sub T.cls T.get T.tak T.mro) I.kIn J e (fun z => nomatch z) fun tk => ⟨.bl b, H, I.tok tk, rfl, q⟩
def tXh (K : PySem.W.Frag) (f : Str) (te : TE) : TE := fun σ H Q => te σ H fun x H1 => ∃ (a C dx : Addr) (fs : List (Str × V)) (v : V), x = .ref a ∧ XfC K C ∧ PySem.W.findIn K (.ref C) f = some none ∧
  H1 a = some (ExH (.ref C) (some dx) a) ∧ H1 dx = some (.xd fs) ∧ fs.lookup f = some v ∧ Q v H1
theorem pe_xh {e : Expr} {te : TE} {pos : Pos} {f : Str} (he : PE X e te) (hb : attributeBase e f X.env (eval e X.env) = eval e X.env := by rfl) : PE X (.Attribute e f pos) (tXh X.K f te) := by
  constructor
  intro pins s σ H Q I h
  refine attr_of hb (thn (he.run pins s σ H _ I h) ?_)
  rintro u s1 ⟨x, H1, I1, rx, a, C, dx, fs, v, rfl, T, no, ea, ed, l, q⟩
  cases (show u = Value.ref a from rx)
  obtain ⟨oe, od, mA, J, hl, rel⟩ := held_at I1 ea ed
  obtain ⟨u, hu, ru⟩ := RelO.some_of (v := v) (o := mA f) (by rw [← l]; exact rel f)
  exact HandSPX.exc_get I1.kIn J T.ga T.gg T.exC (PySem.W.findObj_own T.hdC no rfl (by rw [hl, hu])) (handed_of ru) ⟨v, H1, I1.tok _, ru, q⟩
end
end Wk
set_option Elab.async false
set_option linter.all false
set_option maxRecDepth 100000
set_option maxHeartbeats 4000000
/-! Error classes with def __init__(self, value): self.value = value, and what the top has left of them and of the module's defs. -/
namespace Wk
open PySem L2
def spInit (C : Addr) : Sp := fun vs H Q _ => ∃ (a : Addr) (v : V), vs = [.ref a, v] ∧ H a = some (exo a C none) ∧
  ∀ dx, H dx = none → dx ≠ a → Q .non (upd (upd H dx (exd dx [("value", v)])) a (exo a C (some dx)))
structure ClsT (K : PySem.W.Frag) (mg : Str → Option Value) (x : Str) (C fI : Addr) : Prop where
  g : mg x = some (.ref C)
  oex : OexC K C
  ini : PySem.W.findIn K (.ref C) "__init__" = some (some (.ref fI))
  ty : PySem.W.typeIn K (.ref fI) = some (.type "function")
  nov : PySem.W.findIn K (.ref C) "value" = some none
  isc : IsC K C
  xf : XfC K C
section
variable {P : Program} {w : World} {K : PySem.W.Frag} {mg : Str → Option Value} {base : Heap}
theorem ok_init {qual : Str} {st : Stmt} {f fI C : Addr} {fd : FuncData} {x : Str} (F : Fun K "__init__" qual st f fd) (S : FnScope ["self", "value"] ["self", "value"] (defScope st))
    (hb : ∃ q1 q2 q3 q4, defBody st = [.Assign [.Attribute (.Name "self" q1) "value" q2] (.Name "value" q3) q4])
    (hv : (defScope st).names = ([("self", .local), ("value", .local)] : List (Str × NameKind))) (T : ClsT K mg x C fI) : FnOk P w K mg base CX0 1 f fd ["self", "value"] (spInit C) := by
  obtain ⟨q1, q2, q3, q4, hb⟩ := hb
  refine F.ok S (fun vs H Q E h => ?_) (fun cdv A outer s H vs Q E hr h => ?_)
  · obtain ⟨a, v, rfl, _⟩ := h
    rfl
  · obtain ⟨a, v, rfl, ha, k⟩ := h
    rw [hb]
    refine ⟨_, pss_one (ps_ost (pe_var (i := 0) rfl ?_) (pe_var (i := 1) rfl ?_)), ?_⟩
    · left
      show (defScope st).names.lookup ("self" : Str) = some .local
      rw [hv]
      decide +kernel
    · left
      show (defScope st).names.lookup ("value" : Str) = some .local
      rw [hv]
      decide +kernel
    · exact ⟨_, rfl, _, rfl, a, C, rfl, T.oex, T.nov, .inl ⟨ha, fun dx n ne => k dx n ne⟩⟩
/-- one class with its __init__, as a caller needs it -/
structure ClsF (P : Program) (w : World) (K : PySem.W.Frag) (mg : Str → Option Value) (base : Heap) (x : Str) (C fI : Addr) (fd : FuncData) : Prop where
  t : ClsT K mg x C fI
  ok : FnOk P w K mg base CX0 1 fI fd ["self", "value"] (spInit C)
  b : Binds K fd ["self", "value"] []
/-- raise X(e) -/
theorem ps_raiseV {X : Cx} {W : WX} {x : Str} {C fI : Addr} {fd : FuncData} {e : Expr} {te : TE} {p pos pos2 : Pos} (F : ClsF X.prog X.w X.K X.mg X.base x C fI fd) (hr : Room 2 X.A) (hc : X.calm = true) (tk : Takes X W) (hg : Gl X x) (he : PE X e te)
    (hdb : (x == ("__debug__" : Str)) = false := by decide) (hs : starEach (e :: []) X.env = (false, eval e X.env) :: starEach [] X.env := by rfl) :
    PS X (.Raise (some (.Call (.Name x p) [e] [] pos)) none pos2) (fun _ σ H => tMkO C (spInit C) [] (tCons te tNil) σ H fun cls d H' => W cls d σ H') :=
  ps_raise hc tk (pmk_oex F.t.oex F.t.ini F.t.ty F.ok hr F.b .nil pass0 hg F.t.g (pa_cons he pa_nil hs) hdb hs)
/-- its reading: the error with a new dict that holds the value -/
theorem mk_read {C : Addr} {v : V} {H : Hp} {Q : XK} (k : ∀ d H', H d = none → Same H H' → H' d = some (.xd [("value", v)]) → Q (.ref C) (some d) H') :
    ([v] : List V).length ≤ 1000 ∧ ∀ a, H a = none → spInit C (.ref a :: ([v] ++ [])) (upd H a (exo a C none))
      (fun z H2 => z = .non ∧ ∃ (d : Addr) (fs : List (Str × V)), H2 a = some (exo a C (some d)) ∧ H2 d = some (exd d fs) ∧ H d = none ∧ Q (.ref C) (some d) (upd (del H2 a) d (.xd fs))) (fun _ _ _ => False) := by
  refine ⟨by show 1 ≤ 1000; decide, fun a na => ⟨a, v, rfl, upd_same, fun dx nx ne => ⟨rfl, dx, _, upd_same, by rw [upd_ne ne, upd_same], ?_, ?_⟩⟩⟩
  · rw [upd_ne ne] at nx
    exact nx
  · rw [upd_ne ne] at nx
    refine k dx _ nx (fun b o e => ?_) upd_same
    have ba : b ≠ a := ne_of_none e na
    have bx : b ≠ dx := ne_of_none e nx
    rw [upd_ne bx, del_ne ba, upd_ne ba, upd_ne bx, upd_ne ba]
    exact e
end
/-! ### what the top has written -/
def DefAt (K : PySem.W.Frag) (x : Str) (st : Stmt) (f : Addr) : Prop := PySem.W.nsIn K mainGlobals x = some (some (.ref f)) ∧
  (∃ (oc : Value) (od : Option Addr) (kV doc pm : Value) (an : Option Addr) (cdv ct : Value) (osl : Array (Option Value)),
    K.lookup f = some ⟨oc, od, .func (PySem.W.fnOf x x (defArgs st) (defBody st) (defScope st) .none kV doc pm an cdv ct), osl⟩ ∧ PySem.W.codeIn K cdv x = true) ∧ PySem.W.keepIn K (.ref f) = true
theorem def_at {K : PySem.W.Frag} {x : Str} {st : Stmt} {f : Addr} {oc : Value} {od : Option Addr} {kV doc pm : Value} {an : Option Addr} {cdv ct : Value} {osl : Array (Option Value)} (a : PySem.W.nsIn K mainGlobals x = some (some (.ref f)))
    (l : K.lookup f = some ⟨oc, od, .func (PySem.W.fnOf x x (defArgs st) (defBody st) (defScope st) .none kV doc pm an cdv ct), osl⟩) (c : PySem.W.codeIn K cdv x = true) (k : PySem.W.keepIn K (.ref f) = true) : DefAt K x st f :=
  ⟨a, ⟨_, _, _, _, _, _, _, _, _, l, c⟩, k⟩
structure ClsAt (K : PySem.W.Frag) (x q : Str) (st : Stmt) (C fI : Addr) : Prop where
  ns : PySem.W.nsIn K mainGlobals x = some (some (.ref C))
  obj : ∃ nm qn N bs bm sn sub ab col dd k0 k1 k2 k3 k5, K.lookup C = some (excClassObj nm qn C N bs bm true sn sub ab col dd k0 k1 k2 k3 k5 "ValueError.__new__") ∧ PySem.HandSPX.refsVE bm = true
  ini : PySem.W.findIn K (.ref C) "__init__" = some (some (.ref fI))
  ty : PySem.W.typeIn K (.ref fI) = some (.type "function")
  fn : ∃ (oc : Value) (od : Option Addr) (kV doc pm : Value) (an : Option Addr) (cdv ct : Value) (osl : Array (Option Value)),
    K.lookup fI = some ⟨oc, od, .func (PySem.W.fnOf "__init__" q (defArgs st) (defBody st) (defScope st) .none kV doc pm an cdv ct), osl⟩ ∧ PySem.W.codeIn K cdv q = true
  kI : PySem.W.keepIn K (.ref fI) = true
  sa : PySem.W.findIn K (.ref C) "__setattr__" = some (some (.builtin "object.__setattr__"))
  tyC : PySem.W.typeIn K (.ref C) = some (.type "type")
  kC : PySem.W.keepIn K (.ref C) = true
  hd : PySem.W.hasDictIn K C = true
  nv : PySem.W.findIn K (.ref C) "value" = some none
  is : IsC K C
theorem cls_at {K : PySem.W.Frag} {x q : Str} {st : Stmt} {C fI : Addr} {oc : Value} {od : Option Addr} {kV doc pm : Value} {an : Option Addr} {cdv ct : Value} {osl : Array (Option Value)}
    {nm qn : Str} {N : Addr} {bs bm : List Value} {sn : List Str} {sub : List Value} {ab : Bool} {col : Option Bool} {dd : Option Addr} {k0 k1 k2 k3 k5 : Option Value}
    (a : PySem.W.nsIn K mainGlobals x = some (some (.ref C))) (ob : K.lookup C = some (excClassObj nm qn C N bs bm true sn sub ab col dd k0 k1 k2 k3 k5 "ValueError.__new__")) (ve : PySem.HandSPX.refsVE bm = true)
    (ini : PySem.W.findIn K (.ref C) "__init__" = some (some (.ref fI))) (ty : PySem.W.typeIn K (.ref fI) = some (.type "function"))
    (l : K.lookup fI = some ⟨oc, od, .func (PySem.W.fnOf "__init__" q (defArgs st) (defBody st) (defScope st) .none kV doc pm an cdv ct), osl⟩) (co : PySem.W.codeIn K cdv q = true) (kI : PySem.W.keepIn K (.ref fI) = true)
    (sa : PySem.W.findIn K (.ref C) "__setattr__" = some (some (.builtin "object.__setattr__"))) (tyC : PySem.W.typeIn K (.ref C) = some (.type "type")) (kC : PySem.W.keepIn K (.ref C) = true) (hd : PySem.W.hasDictIn K C = true)
    (nv : PySem.W.findIn K (.ref C) "value" = some none) (is : IsC K C) : ClsAt K x q st C fI :=
  ⟨a, ⟨_, _, _, _, _, _, _, _, _, _, _, _, _, _, _, ob, ve⟩, ini, ty, ⟨_, _, _, _, _, _, _, _, _, l, co⟩, kI, sa, tyC, kC, hd, nv, is⟩
theorem ClsAt.t {K : PySem.W.Frag} {mg : Str → Option Value} {h : Heap} {x q : Str} {st : Stmt} {C fI : Addr} (A : ClsAt K x q st C fI) (X : K.In h) (G : h.Ns mainGlobals mg) : ClsT K mg x C fI where
  g := PySem.W.mg_of X G A.ns
  oex := ⟨A.obj, A.sa, A.is.sub, A.tyC, A.kC⟩
  ini := A.ini
  ty := A.ty
  nov := A.nv
  isc := A.is
  xf := ⟨A.is.ga, A.is.gt, A.is.sub, A.hd⟩
theorem ClsAt.f {P : Program} {w : World} {K : PySem.W.Frag} {mg : Str → Option Value} {h base : Heap} {x q : Str} {st : Stmt} {C fI : Addr} (A : ClsAt K x q st C fI) (X : K.In h) (G : h.Ns mainGlobals mg)
    (S : FnScope ["self", "value"] ["self", "value"] (defScope st)) (hb : ∃ q1 q2 q3 q4, defBody st = [.Assign [.Attribute (.Name "self" q1) "value" q2] (.Name "value" q3) q4])
    (hv : (defScope st).names = ([("self", .local), ("value", .local)] : List (Str × NameKind)))
    (b2 : ∀ (kV doc pm : Value) (an : Option Addr) (cdv ct : Value) (us : List Value), us.length = (["self", "value"] : List Str).length → bindArgs (PySem.W.fnOf "__init__" q (defArgs st) (defBody st) (defScope st) .none kV doc pm an cdv ct) ⟨us, []⟩ = pure ((["self", "value"] : List Str).zip us)) :
    ∃ fd : FuncData, ClsF P w K mg base x C fI fd := by
  obtain ⟨oc, od, kV, doc, pm, an, cdv, ct, osl, l, c⟩ := A.fn
  have Fm := fun_mk (st := st) l c A.kI
  exact ⟨_, A.t X G, ok_init Fm S hb hv (A.t X G), Fm.binds (ps := ["self", "value"]) b2⟩
/-- a def that another one calls: nothing leaves it -/
structure Def1 (P : Program) (w : World) (K : PySem.W.Frag) (mg : Str → Option Value) (base : Heap) (x : Str) (k : Nat) (f : Addr) (fd : FuncData) (ps : List Str) (sp : Sp) : Prop where
  ok : FnOk P w K mg base CX0 k f fd ps sp
  g : mg x = some (.ref f)
  k : PySem.W.keepIn K (.ref f) = true
  b : Binds K fd ps []
end Wk
set_option Elab.async false
set_option linter.all false
set_option maxRecDepth 100000
set_option maxHeartbeats 4000000
namespace LB
open PySem L2 Wk
/-! ### the text by places -/
def top (i : Nat) : Stmt := PySem.Challenge.pw_wordorder_k25_great_counts_by_letters.main.body.getD i (.Pass ⟨0, 0, 0, 0⟩)
abbrev cOrderError : Stmt := top 1
abbrev cInvalidTable : Stmt := top 2
abbrev cInvalidNumber : Stmt := top 3
abbrev cInvalidRange : Stmt := top 4
abbrev sEnglish : Stmt := top 11
abbrev sIsWord : Stmt := top 12
abbrev sCheck : Stmt := top 13
abbrev sLimit : Stmt := top 14
abbrev sTopOf : Stmt := top 15
abbrev sSpelled : Stmt := top 17
abbrev sGroupsOf : Stmt := top 18
abbrev sGroupWords : Stmt := top 19
abbrev sBelow : Stmt := top 21
abbrev sCountL : Stmt := top 23
abbrev sTotalL : Stmt := top 24
abbrev sLettersOf : Stmt := top 25
abbrev sSizes : Stmt := top 26
abbrev sLowest : Stmt := top 27
abbrev sCounts : Stmt := top 28
abbrev sPacked : Stmt := top 29
abbrev sUnpacked : Stmt := top 30
abbrev sSource : Stmt := top 32
abbrev sDraw : Stmt := top 33
abbrev sSame : Stmt := top 34
abbrev sTable : Stmt := top 35
abbrev sWhole : Stmt := top 36
abbrev sValue : Stmt := top 37
abbrev sWords : Stmt := top 38
abbrev sLetters : Stmt := top 39
abbrev sGroups : Stmt := top 40
abbrev sSpread : Stmt := top 41
abbrev sDue : Stmt := top 42
abbrev sLaw : Stmt := top 43
end LB
set_option Elab.async false
set_option linter.all false
set_option maxRecDepth 100000
set_option maxHeartbeats 4000000
/-! Family B: the source of draws. -/
namespace LB
open PySem L2 Wk
/-! ### powers of greater numbers -/
def CPowB (i j : Int) : Prop := 0 ≤ j ∧ (Builtin.Int.intBits i : Int) * j ≤ 2 ^ 27
theorem op_powB {X : Cx} : OpR X (binaryOp .Pow) (rI CPowB fun i j => .int (i ^ j.toNat)) := opI fun _ _ _ _ _ _ _ hc q => PyProof.Rows.pow_int hc.1 hc.2 q
theorem bits_le {i : Int} {a : Nat} (h : i.natAbs < 2 ^ a) (h0 : 0 < a) : Builtin.Int.intBits i ≤ a := by
  have z := PySem.Flt.log2_lt_of h0 h
  unfold Builtin.Int.intBits
  split <;> omega
theorem cube_ok {i : Int} (h : i.natAbs < 2 ^ 1000) : CPowB i 3 := by
  have z := bits_le h (by decide)
  exact ⟨by decide, by omega⟩
/-! ### rng -/
structure RngAt (H : Hp) (p : Addr) (d s c : Int) : Prop where
  at_ : H p = some (.lst [.int d, .int s, .int c])
  d0 : 0 ≤ d
  s0 : 0 ≤ s
  s1 : s < 2305843009213693951
  c0 : 0 ≤ c
def spRng (K : PySem.W.Frag) : Sp := fun vs H Q _ => ∃ (a : Addr) (ns : List Int), vs = [.ref a] ∧ SqL K H a (ns.map V.int) ∧ ns.length ≤ 63 ∧
  ∀ (p : Addr) (d s : Int) (H' : Hp), H p = none → RngAt H' p d s 0 → Same H H' → Q (.ref p) H'
/-- a draw below upper; the source alone changes, its counter by at most one -/
def spDraw : Sp := fun vs H Q _ => ∃ (p : Addr) (d s c upper : Int), vs = [.ref p, .int upper] ∧ RngAt H p d s c ∧ 0 < upper ∧ upper.natAbs < 2 ^ 1000 ∧ c < 2 ^ 30 ∧
  ∀ (r d' c' : Int) (H' : Hp), 0 ≤ r → r < upper → c' ≤ c + 1 → RngAt H' p d' s c' → (∀ q o, H q = some o → q ≠ p → H' q = some o) → Q (.int r) H'
/-- one great cell more: the digits stay below a power of two -/
theorem digits_step {d m : Int} {i N : Nat} (hN : N ≤ 2 ^ 200) (d0 : 0 ≤ d) (d1 : d.natAbs < 2 ^ (200 * i + 1)) (m0 : 0 ≤ m) (m1 : m < (N : Int)) : (d * (N : Int) + m).natAbs < 2 ^ (200 * (i + 1) + 1) := by
  obtain ⟨n, rfl⟩ : ∃ n : Nat, d = (n : Int) := ⟨d.toNat, by omega⟩
  obtain ⟨q, rfl⟩ : ∃ q : Nat, m = (q : Int) := ⟨m.toNat, by omega⟩
  have n1 : n < 2 ^ (200 * i + 1) := d1
  have q1 : q < N := by omega
  have e : ((n : Int) * (N : Int) + (q : Int)) = ((n * N + q : Nat) : Int) := by
    rw [Int.natCast_add, Int.natCast_mul]
  rw [e]
  show n * N + q < 2 ^ (200 * (i + 1) + 1)
  rw [show 200 * (i + 1) + 1 = 200 * i + 1 + 200 by omega, Nat.pow_add]
  have a2 : (n + 1) * N ≤ 2 ^ (200 * i + 1) * N := Nat.mul_le_mul_right _ n1
  have a3 : 2 ^ (200 * i + 1) * N ≤ 2 ^ (200 * i + 1) * 2 ^ 200 := Nat.mul_le_mul_left _ hN
  rw [Nat.succ_mul] at a2
  generalize 2 ^ (200 * i + 1) * 2 ^ 200 = Z at a3
  omega
section
variable {P : Program} {w : World} {K : PySem.W.Frag} {mg : Str → Option Value} {base : Heap}
end
end LB
set_option Elab.async false
set_option linter.all false
set_option maxRecDepth 100000
set_option maxHeartbeats 4000000
/-! Family B: tables of drawn words. -/
namespace LB
open PySem L2 Wk
/-! ### words -/
def GoodWord (x : Str) : Prop := 1 ≤ x.length ∧ x.length ≤ 20 ∧ ∀ c ∈ x.cps.toList, 97 ≤ c ∧ c ≤ 122
def goodB (x : Str) : Bool := decide (1 ≤ x.length) && (decide (x.length ≤ 20) && x.cps.toList.all fun c => decide (97 ≤ c) && decide (c ≤ 122))
theorem goodB_ok {x : Str} (h : goodB x = true) : GoodWord x := by
  unfold goodB at h
  simp only [Bool.and_eq_true, decide_eq_true_eq, List.all_eq_true] at h
  exact ⟨h.1, h.2.1, fun c hc => h.2.2 c hc⟩
/-- the words of a table, in its order: all different, each a word -/
structure GoodRow (ws : List Str) : Prop where
  nd : ws.Nodup
  ok : ∀ x ∈ ws, GoodWord x
theorem GoodRow.perm {ws us : List Str} (g : GoodRow ws) (h : List.Perm us ws) : GoodRow us := ⟨h.nodup_iff.mpr g.nd, fun x hx => g.ok x (h.mem_iff.mp hx)⟩
theorem GoodRow.left {ws us : List Str} (g : GoodRow (ws ++ us)) : GoodRow ws := ⟨(List.nodup_append.mp g.nd).1, fun x hx => g.ok x (List.mem_append_left _ hx)⟩
theorem erase_perm {α : Type} {l : List α} {i : Nat} {x : α} (h : l[i]? = some x) : List.Perm (x :: l.eraseIdx i) l := by
  obtain ⟨hi, e⟩ := List.getElem?_eq_some_iff.mp h
  have z := List.take_append_drop i l
  rw [List.drop_eq_getElem_cons hi, e] at z
  rw [List.eraseIdx_eq_take_drop_succ]
  have p : List.Perm (l.take i ++ x :: l.drop (i + 1)) (x :: (l.take i ++ l.drop (i + 1))) := List.perm_middle
  rw [z] at p
  exact p.symm
/-! ### _law_twice -/
def twice (ws : List Str) : List Str := ws.flatMap fun x => [x ++ "a", x ++ "b"]
def spTwice (K : PySem.W.Frag) : Sp := fun vs H Q _ => ∃ (a : Addr) (ws : List Str), vs = [.ref a] ∧ SqL K H a (ws.map V.str) ∧ ws.length ≤ 100 ∧ (∀ x ∈ ws, x.length ≤ 1000) ∧
  ∀ (p : Addr) (H' : Hp), H p = none → H' p = some (.lst ((twice ws).map V.str)) → Same H H' → Q (.ref p) H'
section
variable {P : Program} {w : World} {K : PySem.W.Frag} {mg : Str → Option Value} {base : Heap}
end
/-! ### _law_sheet -/
def pool0 : List Str := Txt.split ("zero one two three four five six seven eight nine ten eleven twelve thirteen fourteen fifteen" ++ " sixteen seventeen eighteen nineteen twenty thirty forty fifty sixty seventy eighty" ++ " ninety hundred") " "
def usual29 : List Str := ["zero", "one", "two", "three", "four", "five", "six", "seven", "eight", "nine", "ten", "eleven", "twelve", "thirteen", "fourteen", "fifteen", "sixteen", "seventeen", "eighteen", "nineteen",
  "twenty", "thirty", "forty", "fifty", "sixty", "seventy", "eighty", "ninety", "hundred"]
theorem pool0_is : pool0 = usual29 := by decide +kernel
def poolA : List Str := (usual29 ++ (["thousand", "mil", "milliard", "z", "thousandth", "aa", "hun", "sixt", "o", "ones", "tw"] : List Str)) ++ (["f", "fo", "fiv", "e", "ee", "eee", "qq", "qqq", "y"] : List Str)
def longer0 : List Str := ["a", "b"]
def longerN : Nat → List Str
  | 0 => longer0
  | n + 1 => twice (longerN n)
def poolN : Nat → List Str
  | 0 => []
  | n + 1 => poolN n ++ longerN n
theorem poolA_good : GoodRow poolA ∧ poolA.length = 49 := by
  have e : poolA.all goodB = true := by decide +kernel
  have n : poolA.Nodup := by decide +kernel
  have l : poolA.length = 49 := by decide +kernel
  exact ⟨⟨n, fun x hx => goodB_ok (List.all_eq_true.mp e x hx)⟩, l⟩
theorem poolB_good : GoodRow (poolN 5) ∧ (poolN 5).length = 62 := by
  have e : (poolN 5).all goodB = true := by decide +kernel
  have n : (poolN 5).Nodup := by decide +kernel
  have l : (poolN 5).length = 62 := by decide +kernel
  exact ⟨⟨n, fun x hx => goodB_ok (List.all_eq_true.mp e x hx)⟩, l⟩
theorem small5 : ∀ i : Fin 5, (poolN i.1).length + (longerN i.1).length ≤ 100 ∧ (longerN i.1).length ≤ 100 ∧ (longerN i.1).all (fun x => decide (x.length ≤ 1000)) = true := by decide +kernel
theorem cut_a {l : List Str} {k : Nat} (h : k ≤ l.length) : cutV (l.map V.str) none (some (k : Int)) = (l.take k).map V.str := by
  unfold cutV
  rw [HT.sIx_none, HT.sIx_nat, List.length_map, Nat.min_eq_left h, List.drop_zero, Nat.sub_zero, List.map_take]
theorem cut_b {l : List Str} {k j : Nat} (h : k ≤ l.length) (hj : j ≤ l.length) : cutV (l.map V.str) (some (k : Int)) (some (j : Int)) = ((l.drop k).take (j - k)).map V.str := by
  unfold cutV
  rw [HT.sIx_nat, HT.sIx_nat, List.length_map, Nat.min_eq_left h, Nat.min_eq_left hj, List.map_take, List.map_drop]
theorem cut_c {l : List Str} {k : Nat} (h : k ≤ l.length) : cutV (l.map V.str) (some (k : Int)) none = (l.drop k).map V.str := by
  unfold cutV
  rw [HT.sIx_nat, HT.sIx_none, List.length_map, Nat.min_eq_left h, ← List.map_drop, ← List.map_take, List.take_of_length_le (by rw [List.length_drop]; exact Nat.le_refl _)]
end LB
set_option Elab.async false
set_option linter.all false
set_option maxRecDepth 100000
set_option maxHeartbeats 4000000
namespace LB
open PySem L2 Wk
/-- a table of words stands in the heap -/
structure TabAt (H : Hp) (t : Addr) (ones tens : List Str) (hun : Str) (scales : List Str) (o te sc : Addr) : Prop where
  tup : H t = some (.tup [.ref o, .ref te, .str hun, .ref sc])
  lo : H o = some (.lst (ones.map V.str))
  lt : H te = some (.lst (tens.map V.str))
  ls : H sc = some (.lst (scales.map V.str))
def spSheet : Sp := fun vs H Q _ => ∃ (p : Addr) (d s c most : Int), vs = [.ref p, .int most] ∧ RngAt H p d s c ∧ 0 ≤ most ∧ most ≤ 20 ∧ c < 2 ^ 29 ∧
  ∀ (t o te sc : Addr) (ones tens : List Str) (hun : Str) (scales : List Str) (d' c' : Int) (H' : Hp), H t = none → H o = none → H te = none → H sc = none → o ≠ te → o ≠ sc → te ≠ sc → TabAt H' t ones tens hun scales o te sc →
    ones.length = 20 → tens.length = 8 → (scales.length : Int) ≤ most → GoodRow (ones ++ (tens ++ hun :: scales)) → RngAt H' p d' s c' → c' ≤ c + 100 → (∀ q o, H q = some o → q ≠ p → H' q = some o) → Q (.ref t) H'
theorem erase_map {α β : Type} {g : α → β} {l : List α} {k : Nat} : (l.map g).eraseIdx k = (l.eraseIdx k).map g := by
  rw [List.eraseIdx_eq_take_drop_succ, List.eraseIdx_eq_take_drop_succ, List.map_append, List.map_take, List.map_drop]
theorem seqIndex_nat {n k : Nat} (h : k < n) : seqIndex? (k : Int) n = some k := by
  have e := PySem.seqIndex_of (k := (k : Int)) (n := n) (by omega) (by omega)
  rw [Int.toNat_natCast] at e
  exact e
section
variable {P : Program} {w : World} {K : PySem.W.Frag} {mg : Str → Option Value} {base : Heap}
end
end LB
set_option Elab.async false
set_option linter.all false
set_option maxRecDepth 100000
set_option maxHeartbeats 4000000
/-! The program's own: is_word, check_table, limit, for valid tables. -/
namespace LB
open PySem L2 Wk
theorem chars : ∀ c : Fin 128, (Unicode.isAlpha c.1 && !(Unicode.isUpper c.1 || Unicode.isTitle c.1)) = (decide (97 ≤ c.1) && decide (c.1 ≤ 122)) ∧ (97 ≤ c.1 → c.1 ≤ 122 → Unicode.isLower c.1 = true) := by decide +kernel
theorem GoodWord.tests {x : Str} (g : GoodWord x) : Txt.isascii x = true ∧ Txt.isalpha x = true ∧ Txt.islower x = true := by
  obtain ⟨h1, h2, h3⟩ := g
  have low : ∀ c ∈ x.cps.toList, c < 128 := fun c hc => by have := h3 c hc; omega
  have len : x.length = x.cps.toList.length := by
    show x.cps.size = _
    rw [Array.length_toList]
  refine ⟨?_, ?_, ?_⟩
  · unfold Txt.isascii
    rw [Array.all_eq_true_iff_forall_mem]
    intro c hc
    exact decide_eq_true (low c (Array.mem_toList_iff.mpr hc))
  · unfold Txt.isalpha
    rw [Bool.and_eq_true]
    refine ⟨decide_eq_true (by omega), ?_⟩
    rw [Array.all_eq_true_iff_forall_mem]
    intro c hc
    have hm := Array.mem_toList_iff.mpr hc
    have z := (chars ⟨c, low c hm⟩).1
    have r := h3 c hm
    simp only [decide_eq_true r.1, decide_eq_true r.2, Bool.and_true, Bool.and_eq_true] at z
    exact z.1
  · unfold Txt.islower
    rw [Bool.and_eq_true]
    constructor
    · rw [← Array.any_toList, List.any_eq_true]
      obtain ⟨c, hc⟩ : ∃ c, c ∈ x.cps.toList := by
        cases e : x.cps.toList with
        | nil =>
          rw [len, e] at h1
          exact absurd h1 (by decide)
        | cons c r => exact ⟨c, List.mem_cons_self⟩
      exact ⟨c, hc, (chars ⟨c, low c hc⟩).2 (h3 c hc).1 (h3 c hc).2⟩
    · rw [Bool.not_eq_true', Array.any_eq_false]
      intro i hi
      have hm : x.cps[i] ∈ x.cps.toList := Array.mem_toList_iff.mpr (Array.getElem_mem hi)
      have z := (chars ⟨x.cps[i], low _ hm⟩).1
      have r := h3 _ hm
      simp only [decide_eq_true r.1, decide_eq_true r.2, Bool.and_true, Bool.and_eq_true, Bool.not_eq_true'] at z
      rw [z.2]
      exact Bool.false_ne_true
/-! ### is_word -/
def spIsWord : Sp := fun vs H Q _ => ∃ x : Str, vs = [.str x] ∧ GoodWord x ∧ Q (.bl true) H
/-- the constants of the module -/
structure TxtP (K : PySem.W.Frag) (mg : Str → Option Value) (E1 E2 : Addr) : Prop where
  len : mg "len" = none
  long : ∃ t, mg "LONGEST_WORD" = some (.int 20 t)
  g1 : mg "ENGLISH_ONES" = some (.ref E1)
  g2 : mg "ENGLISH_TENS" = some (.ref E2)
  e1 : ∃ xs : List V, xs.length = 20 ∧ ∀ H, SqT K H E1 xs
  e2 : ∃ xs : List V, xs.length = 8 ∧ ∀ H, SqT K H E2 xs
section
variable {P : Program} {w : World} {K : PySem.W.Frag} {mg : Str → Option Value} {base : Heap} {E1 E2 : Addr}
theorem scIsWord : FnScope ["text"] ["text"] (defScope sIsWord) := ⟨rfl, rfl, rfl, by decide +kernel, rfl, by decide +kernel, by decide +kernel⟩
theorem ok_isWord {f : Addr} {fd : FuncData} (F : Fun K "is_word" "is_word" sIsWord f fd) (T : TxtP K mg E1 E2) : FnOk P w K mg base CX0 1 f fd ["text"] spIsWord := by
  refine F.ok scIsWord (fun vs H Q E h => ?_) (fun cdv A outer s H vs Q E hr h => ?_)
  · obtain ⟨x, rfl, _⟩ := h
    rfl
  · obtain ⟨x, rfl, g, k⟩ := h
    obtain ⟨tk, mL⟩ := T.long
    obtain ⟨t1, t2, t3⟩ := g.tests
    refine ⟨_, pss_one (ps_ret (pe_and (pe_cmpR op_le (pe_callB call_len_str (by rfl) T.len PySem.boot_len (pa_cons (pv 0) pa_nil)) (pe_glob (v := .int 20) rfl mL ⟨_, rfl⟩) (nomark _))
      (pe_and (pe_m0 PySem.F.slot_str_isascii PySem.F.type_str_isascii mt_isascii (pv 0))
      (pe_and (pe_m0 PySem.F.slot_str_isalpha PySem.F.type_str_isalpha mt_isalpha (pv 0))
      (pe_one (pe_m0 PySem.F.slot_str_islower PySem.F.type_str_islower mt_islower (pv 0))))))), ?_⟩
    have big : 20 ≤ sizeLine := by decide
    have l2 : x.length ≤ 20 := g.2.1
    refine ⟨_, rfl, x, rfl, by omega, _, _, rfl, rfl, _, rfl, ?_⟩
    rw [decide_eq_true (show ((x.length : Nat) : Int) ≤ 20 by omega)]
    refine iteT ⟨_, rfl, ⟨_, rfl⟩, x, rfl, rfl, trivial, _, rfl, ?_⟩
    rw [t1]
    refine iteT ⟨_, rfl, ⟨_, rfl⟩, x, rfl, rfl, trivial, _, rfl, ?_⟩
    rw [t2]
    refine iteT ⟨_, rfl, ⟨_, rfl⟩, x, rfl, rfl, trivial, ?_⟩
    rw [t3]
    exact k
/-! ### check_table of a valid table -/
def spCheck : Sp := fun vs H Q _ => ∃ (t o te sc : Addr) (ones tens : List Str) (hun : Str) (scales : List Str), vs = [.ref t] ∧ TabAt H t ones tens hun scales o te sc ∧ ones.length = 20 ∧ tens.length = 8 ∧ scales.length ≤ 900 ∧
  GoodRow (ones ++ (tens ++ hun :: scales)) ∧ ∀ H', Same H H' → Q .non H'
def seenK (ws : List Str) : List (Key × V) := ws.map fun x => (Sum.inr x, V.bl true)
theorem seen_no {ws : List Str} {x : Str} (h : ¬ x ∈ ws) : valV (seenK ws) (Sum.inr x : Key) = none := by
  unfold valV seenK
  rw [List.find?_eq_none.mpr]
  · rfl
  · intro p hp
    obtain ⟨y, hy, rfl⟩ := List.mem_map.mp hp
    simp only [decide_eq_true_eq]
    intro e
    exact h (Sum.inr.inj e ▸ hy)
theorem not_before {α : Type} {ws : List α} {i : Nat} {x : α} (nd : ws.Nodup) (h : ws[i]? = some x) : ¬ x ∈ ws.take i := by
  obtain ⟨hi, e⟩ := List.getElem?_eq_some_iff.mp h
  intro m
  have z := List.take_append_drop i ws
  rw [List.drop_eq_getElem_cons hi, e] at z
  rw [← z] at nd
  exact (List.nodup_append.mp nd).2.2 x m x List.mem_cons_self rfl
theorem scCheck : FnScope ["table", "ones", "tens", "hundred", "scales", "seen", "word"] ["table"] (defScope sCheck) := ⟨rfl, rfl, rfl, by decide +kernel, rfl, by decide +kernel, by decide +kernel⟩
theorem ok_check {f fW : Addr} {fd dW : FuncData} (F : Fun K "check_table" "check_table" sCheck f fd) (T : TxtP K mg E1 E2)
    (GW : FnOk P w K mg base CX0 1 fW dW ["text"] spIsWord) (gW : mg "is_word" = some (.ref fW)) (kW : PySem.W.keepIn K (.ref fW) = true) (bW : Binds K dW ["text"] []) : FnOk P w K mg base CX0 2 f fd ["table"] spCheck := by
  refine F.ok scCheck (fun vs H Q E h => ?_) (fun cdv A outer s H vs Q E hr h => ?_)
  · obtain ⟨t, o, te, sc, ones, tens, hun, scales, rfl, _⟩ := h
    rfl
  · obtain ⟨t, o, te, sc, ones, tens, hun, scales, rfl, TA, l1, l2, l3, good, k⟩ := h
    obtain ⟨xs1, xl1, q1⟩ := T.e1
    obtain ⟨xs2, xl2, q2⟩ := T.e2
    have hu := hu_of hr
    refine ⟨_, pss_cons (ps_asg (pv 0) (pg_tup (by rfl) (pgs_cons (pg_name (i := 1) scCheck.nd rfl (.inl rfl)) (pgs_cons (pg_name (i := 2) scCheck.nd rfl (.inl rfl)) (pgs_cons (pg_name (i := 3) scCheck.nd rfl (.inl rfl)) (pgs_cons (pg_name (i := 4) scCheck.nd rfl (.inl rfl)) pgs_nil))))))
      (pss_cons (ps_if (PW.pt (pw_or (pt_cmpR op_ne (pe_callB call_len_seq (by rfl) T.len PySem.boot_len (pa_cons (pv 1) pa_nil)) (pe_callB call_len_seq (by rfl) T.len PySem.boot_len (pa_cons (pe_glob (v := .ref E1) rfl T.g1 rfl) pa_nil)) (nomark _))
          (pw_or1 (pt_cmpR op_ne (pe_callB call_len_seq (by rfl) T.len PySem.boot_len (pa_cons (pv 2) pa_nil)) (pe_callB call_len_seq (by rfl) T.len PySem.boot_len (pa_cons (pe_glob (v := .ref E2) rfl T.g2 rfl) pa_nil)) (nomark _)))))
        pss_never pss_nil)
      (pss_cons (ps_set (i := 5) scCheck.nd rfl (.inl rfl) pe_dnewK)
      (pss_one (ps_for PassesOwn.never rfl (pi_list (pe_lst (StX.pa_star (pv 1) (StX.pa_star (pv 2) (pa_cons (pv 3) (StX.pa_star (pv 4) pa_nil)))))) (pg_name (i := 6) scCheck.nd rfl (.inl rfl))
        (pss_cons (ps_if (PW.pt (pw_or (pt_cmp (pc_din hu (pv 6) (pv 5))) (pw_or1 (pt_not (pt_val (pe_call GW hr (by rfl) gW kW bW .nil pass0 (pa_cons (pv 6) pa_nil))))))) pss_never pss_nil)
        (pss_one (ps_dput hu (pv 5) (pv 6) pe_bl rfl))))))), ?_⟩
    refine ⟨_, rfl, t, _, rfl, SqT.of TA.tup, rfl, _, _, rfl, _, _, rfl, _, _, rfl, _, _, rfl, rfl, ?_⟩
    refine ⟨_, rfl, o, _, rfl, .inl (SqL.of TA.lo), E1, xs1, rfl, .inr (q1 _), rfl, _, rfl, ?_⟩
    rw [List.length_map, l1, xl1]
    refine iteNS rfl ⟨_, rfl, te, _, rfl, .inl (SqL.of TA.lt), E2, xs2, rfl, .inr (q2 _), rfl, _, rfl, ?_⟩
    rw [List.length_map, l2, xl2]
    refine iteNS rfl ?_
    intro e ne
    obtain ⟨row, hrow⟩ : ∃ row, row = ones ++ (tens ++ hun :: scales) := ⟨_, rfl⟩
    have rl : row.length ≤ 1000 := by
      rw [hrow, List.length_append, List.length_append, List.length_cons]
      omega
    have s1 : Same H (upd H e (.dK [])) := fun b u z => by
      rw [upd_ne (ne_of_none z ne)]
      exact z
    have eqs : ones.map V.str ++ (tens.map V.str ++ V.str hun :: (scales.map V.str ++ [])) = row.map V.str := by
      rw [hrow, List.append_nil, List.map_append, List.map_append, List.map_cons]
    refine ⟨_, rfl, o, _, rfl, .inr (SqL.of (s1 _ _ TA.lo)), _, rfl, te, _, rfl, .inr (SqL.of (s1 _ _ TA.lt)), _, rfl, _, rfl, sc, _, rfl, .inr (SqL.of (s1 _ _ TA.ls)), ?_, fun L nL => ?_⟩
    · rw [eqs, List.length_map]
      exact Nat.le_of_lt (small1000 rl)
    have Le : L ≠ e := fun z => by
      rw [z, upd_same] at nL
      cases nL
    have nLH : H L = none := by
      rw [upd_ne Le] at nL
      exact nL
    refine ⟨L, rfl, ⟨_, SqL.of upd_same⟩, for_list (K := K) (a := L) (xs := row.map V.str) (fun i σ H2 => ∃ x : Option V, σ = [some (.ref t), some (.ref o), some (.ref te), some (.str hun), some (.ref sc), some (.ref e), x] ∧
      H2 L = some (.lst (row.map V.str)) ∧ H2 e = some (.dK (seenK (row.take i))) ∧ Same H H2) ?_ ?_ ?_ ?_⟩
    · refine ⟨none, rfl, ?_, by rw [upd_ne Le.symm, upd_same]; rfl, fun b u z => ?_⟩
      · rw [upd_same]
        exact congrArg (fun z => some (HO.lst z)) eqs
      · rw [upd_ne (ne_of_none z nLH)]
        exact s1 b u z
    · rintro i σ H2 _ ⟨x, rfl, hL, _⟩
      exact SqL.of hL
    · rintro i y σ H2 hi ⟨x, rfl, hL, he, s2⟩
      obtain ⟨z, hz, rfl⟩ : ∃ z, row[i]? = some z ∧ y = V.str z := by
        rw [List.getElem?_map] at hi
        cases q : row[i]? with
        | none =>
          rw [q] at hi
          cases hi
        | some z =>
          rw [q] at hi
          exact ⟨z, rfl, (Option.some.inj hi).symm⟩
      have hm := List.mem_of_getElem? hz
      have il := (List.getElem?_eq_some_iff.mp hz).1
      have no := seen_no (not_before (by rw [hrow]; exact good.nd) hz)
      have gz : GoodWord z := good.ok z (by rw [← hrow]; exact hm)
      have dg := DGet.k (k := (Sum.inr z : Key)) he
      rw [no] at dg
      refine ⟨_, rfl, _, rfl, e, none, rfl, dg, _, rfl, iteF ?_⟩
      refine ⟨_, rfl, z, rfl, gz, true, rfl, iteF ?_⟩
      have sl : (seenK (row.take i)).length < sizeLine := by
        refine small1000 ?_
        unfold seenK
        rw [List.length_map, List.length_take]
        omega
      refine ⟨_, rfl, _, rfl, e, _, rfl, DPut.k (k := (Sum.inr z : Key)) (v := .bl true) he sl, ?_⟩
      have neL : e ≠ L := Le.symm
      refine ⟨_, rfl, by rw [upd_ne Le]; exact hL, ?_, fun b u q => ?_⟩
      · rw [upd_same, putK_new _ no, List.take_add_one, hz]
        unfold seenK
        rw [List.map_append]
        rfl
      · rw [upd_ne (ne_of_none q ne)]
        exact s2 b u q
    · rintro σ H2 ⟨x, rfl, hL, he, s2⟩
      exact k H2 s2
/-! ### limit -/
def limitOf (scales : List Str) : Int := 1000 * 1000 ^ scales.length
theorem limit_small (n : Nat) (h : n ≤ 901) : (1000 * 1000 ^ n : Int).natAbs < 2 ^ 10000 := by
  have e : (1000 * 1000 ^ n : Int) = ((1000 * 1000 ^ n : Nat) : Int) := by
    rw [Int.natCast_mul, Int.natCast_pow]
    rfl
  rw [e]
  show 1000 * 1000 ^ n < 2 ^ 10000
  have a : (1000 : Nat) ^ n ≤ (2 ^ 10) ^ n := Nat.pow_le_pow_left (by decide) n
  rw [← Nat.pow_mul] at a
  have b : (2 : Nat) ^ (10 * n) ≤ 2 ^ 9010 := Nat.pow_le_pow_right (by decide) (by omega)
  have c : (1000 : Nat) * 2 ^ 9010 ≤ 2 ^ 10 * 2 ^ 9010 := Nat.mul_le_mul_right _ (by decide)
  rw [← Nat.pow_add] at c
  have d : (2 : Nat) ^ 9020 < 2 ^ 10000 := Nat.pow_lt_pow_right (by decide) (by decide)
  have f : 1000 * 1000 ^ n ≤ 1000 * 2 ^ 9010 := Nat.mul_le_mul_left _ (Nat.le_trans a b)
  exact Nat.lt_of_le_of_lt (Nat.le_trans f c) d
/-- top_of: the limit of a table, without a check -/
def spTopOf : Sp := fun vs H Q _ => ∃ (t o te sc : Addr) (ones tens : List Str) (hun : Str) (scales : List Str), vs = [.ref t] ∧ TabAt H t ones tens hun scales o te sc ∧ scales.length ≤ 900 ∧ Q (.int (limitOf scales)) H
theorem scTopOf : FnScope ["table", "top", "_"] ["table"] (defScope sTopOf) := ⟨rfl, rfl, rfl, by decide +kernel, rfl, by decide +kernel, by decide +kernel⟩
theorem ok_topOf {f : Addr} {fd : FuncData} (F : Fun K "top_of" "top_of" sTopOf f fd) : FnOk P w K mg base CX0 1 f fd ["table"] spTopOf := by
  refine F.ok scTopOf (fun vs H Q E h => ?_) (fun cdv A outer s H vs Q E hr h => ?_)
  · obtain ⟨t, o, te, sc, ones, tens, hun, scales, rfl, _⟩ := h
    rfl
  · obtain ⟨t, o, te, sc, ones, tens, hun, scales, rfl, TA, l3, k⟩ := h
    refine ⟨_, pss_cons (ps_set (i := 1) scTopOf.nd rfl (.inl rfl) pe_int)
      (pss_cons (ps_for PassesOwn.never rfl (pi_list (pe_ix ix_tup (pv 0) pe_int (fun _ _ => rfl))) (pg_name (i := 2) scTopOf.nd rfl (.inl rfl))
        (pss_one (ps_set (i := 1) scTopOf.nd rfl (.inl rfl) (pe_op op_mulW (pv 1) pe_int))))
      (pss_one (ps_ret (pv 1)))), ?_⟩
    refine ⟨_, rfl, t, _, _, _, rfl, rfl, SqT.of TA.tup, (rfl : atI [V.ref o, V.ref te, V.str hun, V.ref sc] 3 = some (.ref sc)), sc, rfl, ⟨_, SqL.of TA.ls⟩, ?_⟩
    refine for_list (K := K) (a := sc) (xs := scales.map V.str) (fun i σ H2 => H2 = H ∧ ∃ x : Option V, σ = [some (.ref t), some (.int (1000 * 1000 ^ i)), x]) ⟨rfl, none, rfl⟩ ?_ ?_ ?_
    · rintro i σ H2 _ ⟨rfl, _⟩
      exact SqL.of TA.ls
    · rintro i y σ H2 hi ⟨rfl, x, rfl⟩
      have il : i < scales.length := by
        have z := (List.getElem?_eq_some_iff.mp hi).1
        rw [List.length_map] at z
        exact z
      refine ⟨_, rfl, _, _, rfl, rfl, wide_mul (limit_small i (by omega)) (show (1000 : Int).natAbs < 2 ^ 10 by decide) (by decide) (by decide) (by decide), rfl, some y, ?_⟩
      rw [Int.pow_succ, ← Int.mul_assoc]
      rfl
    · rintro σ H2 ⟨rfl, x, rfl⟩
      rw [List.length_map]
      exact ⟨_, rfl, k⟩
end
end LB
set_option Elab.async false
set_option linter.all false
set_option maxRecDepth 100000
set_option maxHeartbeats 4000000
/-! The program's own: is_word, check_table for any table. -/
namespace LB
open PySem L2 Wk
theorem len_list (x : Str) : x.length = x.cps.toList.length := by
  show x.cps.size = _
  rw [Array.length_toList]
theorem goodB_iff {x : Str} : goodB x = true ↔ GoodWord x := by
  refine ⟨goodB_ok, fun g => ?_⟩
  unfold goodB
  simp only [Bool.and_eq_true, decide_eq_true_eq, List.all_eq_true]
  exact ⟨g.1, g.2.1, fun c hc => g.2.2 c hc⟩
/-- the program's four tests say the same -/
theorem tests_good {x : Str} (h1 : x.length ≤ 20) (h2 : Txt.isascii x = true) (h3 : Txt.isalpha x = true) (h4 : Txt.islower x = true) : GoodWord x := by
  unfold Txt.isascii at h2
  unfold Txt.isalpha at h3
  unfold Txt.islower at h4
  rw [Bool.and_eq_true] at h3 h4
  rw [Array.all_eq_true_iff_forall_mem] at h2
  have h32 := h3.2
  rw [Array.all_eq_true_iff_forall_mem] at h32
  have h42 := h4.2
  rw [Bool.not_eq_true', ← Array.any_toList, List.any_eq_false] at h42
  refine ⟨of_decide_eq_true h3.1, h1, fun c hc => ?_⟩
  have hm : c ∈ x.cps := Array.mem_toList_iff.mp hc
  have c1 : c < 128 := of_decide_eq_true (h2 c hm)
  have z := (chars ⟨c, c1⟩).1
  have a := h32 c hm
  have b := h42 c hc
  simp only [a, Bool.true_and] at z
  have b' : (Unicode.isUpper c || Unicode.isTitle c) = false := Bool.eq_false_iff.mpr b
  rw [b'] at z
  simp only [Bool.not_false] at z
  have z2 := z.symm
  rw [Bool.and_eq_true, decide_eq_true_eq, decide_eq_true_eq] at z2
  exact z2
def spIsWordB : Sp := fun vs H Q _ => ∃ x : Str, vs = [.str x] ∧ x.length ≤ 2000 ∧ Q (.bl (goodB x)) H
section
variable {P : Program} {w : World} {K : PySem.W.Frag} {mg : Str → Option Value} {base : Heap} {E1 E2 : Addr}
theorem ok_isWordB {f : Addr} {fd : FuncData} (F : Fun K "is_word" "is_word" sIsWord f fd) (T : TxtP K mg E1 E2) : FnOk P w K mg base CX0 1 f fd ["text"] spIsWordB := by
  refine F.ok scIsWord (fun vs H Q E h => ?_) (fun cdv A outer s H vs Q E hr h => ?_)
  · obtain ⟨x, rfl, _⟩ := h
    rfl
  · obtain ⟨x, rfl, xl, k⟩ := h
    obtain ⟨tk, mL⟩ := T.long
    refine ⟨_, pss_one (ps_ret (pe_and (pe_cmpR op_le (pe_callB call_len_str (by rfl) T.len PySem.boot_len (pa_cons (pv 0) pa_nil)) (pe_glob (v := .int 20) rfl mL ⟨_, rfl⟩) (nomark _))
      (pe_and (pe_m0 PySem.F.slot_str_isascii PySem.F.type_str_isascii mt_isascii (pv 0))
      (pe_and (pe_m0 PySem.F.slot_str_isalpha PySem.F.type_str_isalpha mt_isalpha (pv 0))
      (pe_one (pe_m0 PySem.F.slot_str_islower PySem.F.type_str_islower mt_islower (pv 0))))))), ?_⟩
    have big : 2000 ≤ sizeLine := by decide
    have no : ¬ GoodWord x → Q (.bl false) H := fun n => by
      have e : goodB x = false := Bool.eq_false_iff.mpr fun z => n (goodB_iff.mp z)
      rw [e] at k
      exact k
    refine ⟨_, rfl, x, rfl, by omega, _, _, rfl, rfl, _, rfl, ?_⟩
    refine ite2 (fun c1 => ?_) (fun c1 => no fun g => c1 (decide_eq_true (by have := g.2.1; omega)))
    have c1' : x.length ≤ 20 := by
      have z := of_decide_eq_true c1
      omega
    refine ⟨_, rfl, ⟨_, rfl⟩, x, rfl, rfl, trivial, _, rfl, ?_⟩
    refine ite2 (fun c2 => ?_) (fun c2 => no fun g => c2 g.tests.1)
    refine ⟨_, rfl, ⟨_, rfl⟩, x, rfl, rfl, trivial, _, rfl, ?_⟩
    refine ite2 (fun c3 => ?_) (fun c3 => no fun g => c3 g.tests.2.1)
    refine ⟨_, rfl, ⟨_, rfl⟩, x, rfl, rfl, trivial, ?_⟩
    cases c4 : Txt.islower x with
    | true =>
      rw [goodB_iff.mpr (tests_good c1' c2 c3 c4)] at k
      exact k
    | false => exact no fun g => by rw [g.tests.2.2] at c4; cases c4
/-! ### check_table -/
/-- the first word that is none, or that stood before -/
def firstBad : List Str → List Str → Option V
  | _, [] => none
  | seen, x :: r => if x ∈ seen ∨ goodB x = false then some (.str x) else firstBad (seen ++ [x]) r
def fault (ones tens : List Str) (hun : Str) (scales : List Str) : Option V :=
  if ones.length ≠ 20 ∨ tens.length ≠ 8 then some .non else firstBad [] (ones ++ (tens ++ hun :: scales))
def spCheckX (C : Addr) : Sp := fun vs H Q E => ∃ (t o te sc : Addr) (ones tens : List Str) (hun : Str) (scales : List Str), vs = [.ref t] ∧ TabAt H t ones tens hun scales o te sc ∧ ones.length ≤ 100 ∧ tens.length ≤ 100 ∧ scales.length ≤ 500 ∧
  (∀ x ∈ ones ++ (tens ++ hun :: scales), x.length ≤ 2000) ∧ (fault ones tens hun scales = none → ∀ H', Same H H' → Q .non H') ∧
  (∀ v, fault ones tens hun scales = some v → ∀ d H', H d = none → Same H H' → H' d = some (.xd [("value", v)]) → E (.ref C) (some d) H')
theorem seen_yes {ws : List Str} {x : Str} : (valV (seenK ws) (Sum.inr x : Key)).isSome = decide (x ∈ ws) := by
  by_cases h : x ∈ ws
  · rw [decide_eq_true h]
    unfold valV seenK
    rw [Option.isSome_map, List.find?_isSome]
    exact ⟨_, List.mem_map.mpr ⟨x, h, rfl⟩, decide_eq_true rfl⟩
  · rw [decide_eq_false h, seen_no h]
    rfl
theorem firstBad_cons (seen r : List Str) (x : Str) : firstBad seen (x :: r) = if x ∈ seen ∨ goodB x = false then some (.str x) else firstBad (seen ++ [x]) r := rfl
theorem firstBad_split : ∀ (a seen b : List Str), firstBad seen a = none → firstBad seen (a ++ b) = firstBad (seen ++ a) b
  | [], seen, b, _ => by rw [List.nil_append, List.append_nil]
  | x :: a, seen, b, h => by
    rw [List.cons_append, firstBad_cons]
    rw [firstBad_cons] at h
    by_cases c : x ∈ seen ∨ goodB x = false
    · rw [if_pos c] at h
      cases h
    · rw [if_neg c] at h ⊢
      rw [firstBad_split a (seen ++ [x]) b h, List.append_assoc]
      rfl
theorem ok_checkX {f fW C fI : Addr} {fd dW dI : FuncData} (F : Fun K "check_table" "check_table" sCheck f fd) (T : TxtP K mg E1 E2)
    (GW : FnOk P w K mg base CX0 1 fW dW ["text"] spIsWordB) (gW : mg "is_word" = some (.ref fW)) (kW : PySem.W.keepIn K (.ref fW) = true) (bW : Binds K dW ["text"] [])
    (FC : ClsF P w K mg base "InvalidTable" C fI dI) : FnOk P w K mg base (L2.CX P w) 3 f fd ["table"] (spCheckX C) := by
  refine F.okX scCheck (fun vs H Q E h => ?_) (fun cdv A outer s H vs Q E hr h => ?_)
  · obtain ⟨t, o, te, sc, ones, tens, hun, scales, rfl, _⟩ := h
    rfl
  · obtain ⟨t, o, te, sc, ones, tens, hun, scales, rfl, TA, l1, l2, l3, short, k, kE⟩ := h
    obtain ⟨xs1, xl1, q1⟩ := T.e1
    obtain ⟨xs2, xl2, q2⟩ := T.e2
    have hu := hu_of hr
    have hr1 : Room 1 _ := hr.mono (by decide)
    refine ⟨_, pss_cons (ps_asg (pv 0) (pg_tup (by rfl) (pgs_cons (pg_name (i := 1) scCheck.nd rfl (.inl rfl)) (pgs_cons (pg_name (i := 2) scCheck.nd rfl (.inl rfl)) (pgs_cons (pg_name (i := 3) scCheck.nd rfl (.inl rfl)) (pgs_cons (pg_name (i := 4) scCheck.nd rfl (.inl rfl)) pgs_nil))))))
      (pss_cons (ps_if (PW.pt (pw_or (pt_cmpR op_ne (pe_callB call_len_seq (by rfl) T.len PySem.boot_len (pa_cons (pv 1) pa_nil)) (pe_callB call_len_seq (by rfl) T.len PySem.boot_len (pa_cons (pe_glob (v := .ref E1) rfl T.g1 rfl) pa_nil)) (nomark _))
          (pw_or1 (pt_cmpR op_ne (pe_callB call_len_seq (by rfl) T.len PySem.boot_len (pa_cons (pv 2) pa_nil)) (pe_callB call_len_seq (by rfl) T.len PySem.boot_len (pa_cons (pe_glob (v := .ref E2) rfl T.g2 rfl) pa_nil)) (nomark _)))))
        (pss_one (ps_raiseV FC hr rfl (takes_of rfl rfl rfl rfl) rfl pe_non)) pss_nil)
      (pss_cons (ps_set (i := 5) scCheck.nd rfl (.inl rfl) pe_dnewK)
      (pss_one (ps_for (PassesOwn.leaving) rfl (pi_list (pe_lst (StX.pa_star (pv 1) (StX.pa_star (pv 2) (pa_cons (pv 3) (StX.pa_star (pv 4) pa_nil)))))) (pg_name (i := 6) scCheck.nd rfl (.inl rfl))
        (pss_cons (ps_if (PW.pt (pw_or (pt_cmp (pc_din hu (pv 6) (pv 5))) (pw_or1 (pt_not (pt_val (pe_call GW hr1 (by rfl) gW kW bW .nil pass0 (pa_cons (pv 6) pa_nil)))))))
          (pss_one (ps_raiseV FC hr rfl (takes_of rfl rfl rfl rfl) rfl (pv 6))) pss_nil)
        (pss_one (ps_dput hu (pv 5) (pv 6) pe_bl rfl))))))), ?_⟩
    have wrong : ¬ (ones.length = 20 ∧ tens.length = 8) → fault ones tens hun scales = some .non := fun n => by
      unfold fault
      rw [if_pos]
      by_cases c : ones.length = 20
      · exact .inr fun z => n ⟨c, z⟩
      · exact .inl c
    refine ⟨_, rfl, t, _, rfl, SqT.of TA.tup, rfl, _, _, rfl, _, _, rfl, _, _, rfl, _, _, rfl, rfl, ?_⟩
    refine ⟨_, rfl, o, _, rfl, .inl (SqL.of TA.lo), E1, xs1, rfl, .inr (q1 _), rfl, _, rfl, ?_⟩
    rw [List.length_map, xl1]
    refine ite2 (fun c1 => ?_) (fun c1 => ?_)
    · refine iteT (mk_read fun d H' n s e => kE _ (wrong ?_) d H' n s e)
      rintro ⟨z, _⟩
      rw [z] at c1
      exact absurd c1 (by decide)
    have o20 : ones.length = 20 := by
      have z : decide (V.int ((ones.length : Nat) : Int) = V.int ((20 : Nat) : Int)) = true := by
        cases q : decide (V.int ((ones.length : Nat) : Int) = V.int ((20 : Nat) : Int)) with
        | true => rfl
        | false =>
          rw [q] at c1
          exact absurd rfl c1
      have z2 := V.int.inj (of_decide_eq_true z)
      omega
    refine ⟨_, rfl, te, _, rfl, .inl (SqL.of TA.lt), E2, xs2, rfl, .inr (q2 _), rfl, _, rfl, ?_⟩
    rw [List.length_map, xl2]
    refine ite2 (fun c2 => ?_) (fun c2 => ?_)
    · refine mk_read fun d H' n s e => kE _ (wrong ?_) d H' n s e
      rintro ⟨_, z⟩
      rw [z] at c2
      exact absurd c2 (by decide)
    have t8 : tens.length = 8 := by
      have z : decide (V.int ((tens.length : Nat) : Int) = V.int ((8 : Nat) : Int)) = true := by
        cases q : decide (V.int ((tens.length : Nat) : Int) = V.int ((8 : Nat) : Int)) with
        | true => rfl
        | false =>
          rw [q] at c2
          exact absurd rfl c2
      have z2 := V.int.inj (of_decide_eq_true z)
      omega
    intro e ne
    obtain ⟨row, hrow⟩ : ∃ row, row = ones ++ (tens ++ hun :: scales) := ⟨_, rfl⟩
    have hf : fault ones tens hun scales = firstBad [] row := by
      unfold fault
      rw [if_neg (fun z => z.elim (fun z => z o20) (fun z => z t8)), hrow]
    have rl : row.length ≤ 1000 := by
      rw [hrow, List.length_append, List.length_append, List.length_cons]
      omega
    have s1 : Same H (upd H e (.dK [])) := fun b u z => by
      rw [upd_ne (ne_of_none z ne)]
      exact z
    have eqs : ones.map V.str ++ (tens.map V.str ++ V.str hun :: (scales.map V.str ++ [])) = row.map V.str := by
      rw [hrow, List.append_nil, List.map_append, List.map_append, List.map_cons]
    refine ⟨_, rfl, o, _, rfl, .inr (SqL.of (s1 _ _ TA.lo)), _, rfl, te, _, rfl, .inr (SqL.of (s1 _ _ TA.lt)), _, rfl, _, rfl, sc, _, rfl, .inr (SqL.of (s1 _ _ TA.ls)), ?_, fun L nL => ?_⟩
    · rw [eqs, List.length_map]
      exact Nat.le_of_lt (small1000 rl)
    have Le : L ≠ e := fun z => by
      rw [z, upd_same] at nL
      cases nL
    have nLH : H L = none := by
      rw [upd_ne Le] at nL
      exact nL
    refine ⟨L, rfl, ⟨_, SqL.of upd_same⟩, for_list (K := K) (a := L) (xs := row.map V.str) (fun i σ H2 => ∃ x : Option V, σ = [some (.ref t), some (.ref o), some (.ref te), some (.str hun), some (.ref sc), some (.ref e), x] ∧
      H2 L = some (.lst (row.map V.str)) ∧ H2 e = some (.dK (seenK (row.take i))) ∧ firstBad [] (row.take i) = none ∧ Same H H2) ?_ ?_ ?_ ?_⟩
    · refine ⟨none, rfl, ?_, by rw [upd_ne Le.symm, upd_same]; rfl, rfl, fun b u z => ?_⟩
      · rw [upd_same]
        exact congrArg (fun z => some (HO.lst z)) eqs
      · rw [upd_ne (ne_of_none z nLH)]
        exact s1 b u z
    · rintro i σ H2 _ ⟨x, rfl, hL, _⟩
      exact SqL.of hL
    · rintro i y σ H2 hi ⟨x, rfl, hL, he, fb, s2⟩
      obtain ⟨z, hz, rfl⟩ : ∃ z, row[i]? = some z ∧ y = V.str z := by
        rw [List.getElem?_map] at hi
        cases q : row[i]? with
        | none =>
          rw [q] at hi
          cases hi
        | some z =>
          rw [q] at hi
          exact ⟨z, rfl, (Option.some.inj hi).symm⟩
      have il := (List.getElem?_eq_some_iff.mp hz).1
      have next : row = row.take i ++ z :: row.drop (i + 1) := by
        obtain ⟨h1, h2⟩ := List.getElem?_eq_some_iff.mp hz
        have q := List.take_append_drop i row
        rw [List.drop_eq_getElem_cons h1, h2] at q
        exact q.symm
      have hfz : z ∈ row.take i ∨ goodB z = false → fault ones tens hun scales = some (.str z) := fun c => by
        rw [hf, next, firstBad_split _ _ _ fb, List.nil_append, firstBad_cons, if_pos c]
      have dg := DGet.k (k := (Sum.inr z : Key)) he
      refine ⟨_, rfl, _, rfl, e, _, rfl, dg, _, rfl, ?_⟩
      rw [seen_yes]
      refine ite2 (fun c3 => ?_) (fun c3 => ?_)
      · refine iteT ⟨_, rfl, ?_⟩
        exact mk_read fun d H' n s q => kE _ (hfz (.inl (of_decide_eq_true c3))) d H' (s2.free n) (s2.trans s) q
      have c3' : ¬ z ∈ row.take i := fun m => c3 (decide_eq_true m)
      refine ⟨_, rfl, z, rfl, short z (by rw [← hrow]; exact List.mem_of_getElem? hz), _, rfl, ?_⟩
      cases gz : goodB z with
      | false =>
        refine iteT ⟨_, rfl, ?_⟩
        exact mk_read fun d H' n s q => kE _ (hfz (.inr gz)) d H' (s2.free n) (s2.trans s) q
      | true =>
        refine iteF ?_
        have sl : (seenK (row.take i)).length < sizeLine := by
          refine small1000 ?_
          unfold seenK
          rw [List.length_map, List.length_take]
          omega
        refine ⟨_, rfl, _, rfl, e, _, rfl, DPut.k (k := (Sum.inr z : Key)) (v := .bl true) he sl, ?_⟩
        refine ⟨_, rfl, by rw [upd_ne Le]; exact hL, ?_, ?_, fun b u q => ?_⟩
        · rw [upd_same, putK_new _ (seen_no c3'), List.take_add_one, hz]
          unfold seenK
          rw [List.map_append]
          rfl
        · rw [List.take_add_one, hz]
          show firstBad [] (row.take i ++ [z]) = none
          rw [firstBad_split _ _ _ fb, List.nil_append, firstBad_cons, if_neg]
          · rfl
          · rintro (m | m)
            · exact c3' m
            · rw [gz] at m
              cases m
        · rw [upd_ne (ne_of_none q ne)]
          exact s2 b u q
    · rintro σ H2 ⟨x, rfl, hL, he, fb, s2⟩
      rw [List.length_map, List.take_length] at fb
      exact k (hf.trans fb) H2 s2
end
end LB
set_option Elab.async false
set_option linter.all false
set_option maxRecDepth 100000
set_option maxHeartbeats 4000000
/-! The program's own: limit for any table. -/
namespace LB
open PySem L2 Wk
def spLimitX (C : Addr) : Sp := fun vs H Q E => ∃ (t o te sc : Addr) (ones tens : List Str) (hun : Str) (scales : List Str), vs = [.ref t] ∧ TabAt H t ones tens hun scales o te sc ∧ ones.length ≤ 100 ∧ tens.length ≤ 100 ∧ scales.length ≤ 500 ∧
  (∀ x ∈ ones ++ (tens ++ hun :: scales), x.length ≤ 2000) ∧ (fault ones tens hun scales = none → ∀ H', Same H H' → Q (.int (limitOf scales)) H') ∧
  (∀ v, fault ones tens hun scales = some v → ∀ d H', H d = none → Same H H' → H' d = some (.xd [("value", v)]) → E (.ref C) (some d) H')
section
variable {P : Program} {w : World} {K : PySem.W.Frag} {mg : Str → Option Value} {base : Heap}
theorem scLimit : FnScope ["table"] ["table"] (defScope sLimit) := ⟨rfl, rfl, rfl, by decide +kernel, rfl, by decide +kernel, by decide +kernel⟩
theorem ok_limitX {f fC C fT : Addr} {fd dC dT : FuncData} (F : Fun K "limit" "limit" sLimit f fd)
    (GC : FnOk P w K mg base (L2.CX P w) 3 fC dC ["table"] (spCheckX C)) (gC : mg "check_table" = some (.ref fC)) (kC : PySem.W.keepIn K (.ref fC) = true) (bC : Binds K dC ["table"] [])
    (T : Def1 P w K mg base "top_of" 1 fT dT ["table"] spTopOf) : FnOk P w K mg base (L2.CX P w) 4 f fd ["table"] (spLimitX C) := by
  refine F.okX scLimit (fun vs H Q E h => ?_) (fun cdv A outer s H vs Q E hr h => ?_)
  · obtain ⟨t, o, te, sc, ones, tens, hun, scales, rfl, _⟩ := h
    rfl
  · obtain ⟨t, o, te, sc, ones, tens, hun, scales, rfl, TA, l1, l2, l3, short, k, kE⟩ := h
    refine ⟨_, pss_cons (ps_expr (pe_call GC hr (by rfl) gC kC bC .nil (passes_call (takes_of rfl rfl rfl rfl) (fun _ _ _ _ h => h)) (pa_cons (pv 0) pa_nil)))
      (pss_one (ps_ret (pe_call T.ok (hr.mono (by decide)) (by rfl) T.g T.k T.b .nil pass0 (pa_cons (pv 0) pa_nil)))), ?_⟩
    refine ⟨_, rfl, t, o, te, sc, ones, tens, hun, scales, rfl, TA, l1, l2, l3, short, fun hf H1 s1 => ?_, fun v hv d H' n s m => kE v hv d H' n s m⟩
    exact ⟨_, rfl, t, o, te, sc, ones, tens, hun, scales, rfl, ⟨s1 _ _ TA.tup, s1 _ _ TA.lo, s1 _ _ TA.lt, s1 _ _ TA.ls⟩, by omega, k hf _ s1⟩
/-- no fault: a table with its 29 or more words -/
theorem firstBad_none : ∀ {l seen : List Str}, firstBad seen l = none → (∀ x ∈ l, GoodWord x) ∧ (seen.Nodup → (seen ++ l).Nodup)
  | [], seen, _ => ⟨(fun x hx => nomatch hx), fun h => by rw [List.append_nil]; exact h⟩
  | x :: l, seen, h => by
    rw [firstBad_cons] at h
    by_cases c : x ∈ seen ∨ goodB x = false
    · rw [if_pos c] at h
      cases h
    · rw [if_neg c] at h
      obtain ⟨h1, h2⟩ := firstBad_none h
      have gx : GoodWord x := goodB_ok (by cases e : goodB x with
        | true => rfl
        | false => exact absurd (.inr e) c)
      refine ⟨fun y hy => ?_, fun hn => ?_⟩
      · rcases List.mem_cons.mp hy with rfl | hy
        · exact gx
        · exact h1 y hy
      · have e : seen ++ x :: l = seen ++ [x] ++ l := by rw [List.append_assoc]; rfl
        rw [e]
        refine h2 (List.nodup_append.mpr ⟨hn, List.pairwise_singleton _ _, fun a ha b hb => ?_⟩)
        rw [List.mem_singleton.mp hb]
        intro z
        exact c (.inl (z ▸ ha))
theorem fault_none {ones tens : List Str} {hun : Str} {scales : List Str} (h : fault ones tens hun scales = none) : ones.length = 20 ∧ tens.length = 8 ∧ GoodRow (ones ++ (tens ++ hun :: scales)) := by
  unfold fault at h
  split at h
  · cases h
  · rename_i c
    obtain ⟨h1, h2⟩ := firstBad_none h
    refine ⟨?_, ?_, ⟨by simpa using h2 List.nodup_nil, h1⟩⟩ <;> omega
end
end LB
set_option Elab.async false
set_option linter.all false
set_option maxRecDepth 100000
set_option maxHeartbeats 4000000
/-! The mathematics of beginnings: how many numbers of a range have names that begin so. -/
namespace Bg
/-- the numbers from a to e - 1 that lie from lo to hi, as the program counts them -/
def mx (n m : Int) : Int := if m > n then m else n
def mn (n m : Int) : Int := if m < n then m else n
def ov (lo hi a e : Int) : Int := mx 0 (mn (e - 1) hi - mx a lo + 1)
/-- how many of lo .. hi are below x -/
def fb (lo hi x : Int) : Int := mx 0 (mn x (hi + 1) - lo)
theorem ov_fb {lo hi a e : Int} (h : a ≤ e) : ov lo hi a e = fb lo hi e - fb lo hi a := by
  unfold ov fb mx mn
  repeat' split
  all_goals omega
theorem fb_mono {lo hi a e : Int} (h : a ≤ e) : fb lo hi a ≤ fb lo hi e := by
  unfold fb mx mn
  repeat' split
  all_goals omega
theorem fb_one {lo hi x : Int} (h : lo ≤ hi) : fb lo hi (x + 1) - fb lo hi x = if lo ≤ x ∧ x ≤ hi then 1 else 0 := by
  unfold fb mx mn
  repeat' split
  all_goals omega
theorem fb_low {lo hi x : Int} (h : x ≤ lo) : fb lo hi x = 0 := by
  unfold fb mx mn
  repeat' split
  all_goals omega
theorem fb_high {lo hi x : Int} (h : hi < x) (l : lo ≤ hi) : fb lo hi x = hi - lo + 1 := by
  unfold fb mx mn
  repeat' split
  all_goals omega
theorem fb_same {lo hi a e : Int} (h : a ≤ e) (c : hi < a ∨ e ≤ lo) : fb lo hi e - fb lo hi a = 0 := by
  unfold fb mx mn
  repeat' split
  all_goals omega
/-! ### sums -/
def sumR (f : Nat → Int) : Nat → Int
  | 0 => 0
  | n + 1 => sumR f n + f n
def sumL {α : Type} (f : α → Int) : List α → Int
  | [] => 0
  | x :: l => f x + sumL f l
theorem sumR_add (f g : Nat → Int) : ∀ n, sumR (fun j => f j + g j) n = sumR f n + sumR g n
  | 0 => rfl
  | n + 1 => by
    show sumR (fun j => f j + g j) n + (f n + g n) = (sumR f n + f n) + (sumR g n + g n)
    rw [sumR_add f g n]
    omega
theorem sumR_zero : ∀ n, sumR (fun _ => 0) n = 0
  | 0 => rfl
  | n + 1 => by
    show sumR (fun _ => 0) n + 0 = 0
    rw [sumR_zero n]
    rfl
theorem sumR_congr {f g : Nat → Int} : ∀ n, (∀ j, j < n → f j = g j) → sumR f n = sumR g n
  | 0, _ => rfl
  | n + 1, h => by
    show sumR f n + f n = sumR g n + g n
    rw [sumR_congr n fun j hj => h j (Nat.lt_succ_of_lt hj), h n (Nat.lt_succ_self n)]
theorem sumR_nonneg {f : Nat → Int} : ∀ n, (∀ j, j < n → 0 ≤ f j) → 0 ≤ sumR f n
  | 0, _ => Int.le_refl 0
  | n + 1, h => by
    have a := sumR_nonneg n fun j hj => h j (Nat.lt_succ_of_lt hj)
    have b := h n (Nat.lt_succ_self n)
    show 0 ≤ sumR f n + f n
    omega
theorem sumR_tel (f : Nat → Int) : ∀ n, sumR (fun j => f (j + 1) - f j) n = f n - f 0
  | 0 => by
    show (0 : Int) = f 0 - f 0
    omega
  | n + 1 => by
    show sumR (fun j => f (j + 1) - f j) n + (f (n + 1) - f n) = f (n + 1) - f 0
    rw [sumR_tel f n]
    omega
theorem sumL_append {α : Type} (f : α → Int) : ∀ a b : List α, sumL f (a ++ b) = sumL f a + sumL f b
  | [], b => by
    show sumL f b = 0 + sumL f b
    omega
  | x :: a, b => by
    show f x + sumL f (a ++ b) = f x + sumL f a + sumL f b
    rw [sumL_append f a b]
    omega
theorem sumL_perm {α : Type} (f : α → Int) {a b : List α} (h : a.Perm b) : sumL f a = sumL f b := by
  induction h with
  | nil => rfl
  | cons x _ ih => exact congrArg (f x + ·) ih
  | swap x y l =>
    show f y + (f x + sumL f l) = f x + (f y + sumL f l)
    omega
  | trans _ _ h1 h2 => exact h1.trans h2
theorem sumL_map {α β : Type} (g : α → β) (f : β → Int) : ∀ l : List α, sumL f (l.map g) = sumL (fun x => f (g x)) l
  | [] => rfl
  | x :: l => congrArg (f (g x) + ·) (sumL_map g f l)
theorem sumL_congr {α : Type} {f g : α → Int} : ∀ l : List α, (∀ x ∈ l, f x = g x) → sumL f l = sumL g l
  | [], _ => rfl
  | x :: l, h => by
    show f x + sumL f l = g x + sumL g l
    rw [h x List.mem_cons_self, sumL_congr l fun y hy => h y (List.mem_cons_of_mem _ hy)]
theorem sumL_zero {α : Type} {f : α → Int} (l : List α) (h : ∀ x ∈ l, f x = 0) : sumL f l = 0 := by
  induction l with
  | nil => rfl
  | cons x l ih =>
    show f x + sumL f l = 0
    rw [h x List.mem_cons_self, ih fun y hy => h y (List.mem_cons_of_mem _ hy)]
    rfl
theorem sumL_nonneg {α : Type} {f : α → Int} : ∀ l : List α, (∀ x ∈ l, 0 ≤ f x) → 0 ≤ sumL f l
  | [], _ => Int.le_refl 0
  | x :: l, h => by
    have a := h x List.mem_cons_self
    have b := sumL_nonneg l fun y hy => h y (List.mem_cons_of_mem _ hy)
    show 0 ≤ f x + sumL f l
    omega
theorem sumL_swap {α : Type} (f : α → Nat → Int) (n : Nat) : ∀ l : List α, sumL (fun x => sumR (f x) n) l = sumR (fun j => sumL (fun x => f x j) l) n
  | [] => (sumR_zero n).symm
  | x :: l => by
    show sumR (f x) n + sumL (fun x => sumR (f x) n) l = sumR (fun j => f x j + sumL (fun x => f x j) l) n
    rw [sumR_add, sumL_swap f n l]
theorem sumL_range (f : Nat → Int) : ∀ n, sumL f (List.range n) = sumR f n
  | 0 => rfl
  | n + 1 => by
    rw [List.range_succ, sumL_append, sumL_range f n]
    show sumR f n + (f n + 0) = sumR f n + f n
    omega
/-! ### beginnings -/
/-- (total, group, room, top = 1000 ^ m) -/
structure Bg where
  t : Int
  g : Int
  r : Int
  m : Nat
def W (j : Nat) : Int := 1000 ^ j
theorem W_pos (j : Nat) : 0 < W j := Int.pow_pos (by decide)
theorem W_succ (j : Nat) : W (j + 1) = 1000 * W j := by
  show (1000 : Int) ^ (j + 1) = 1000 * 1000 ^ j
  rw [Int.pow_succ, Int.mul_comm]
theorem W_le {i j : Nat} (h : i ≤ j) : W i ≤ W j := by
  induction h with
  | refl => exact Int.le_refl _
  | step _ ih =>
    rw [W_succ]
    have := W_pos i
    omega
theorem W_lt {i j : Nat} (h : i < j) : 1000 * W i ≤ W j := by
  rw [← W_succ]
  exact W_le h
theorem W_inj {i j : Nat} : W i < W j ↔ i < j := by
  constructor
  · intro h
    rcases Nat.lt_or_ge i j with z | z
    · exact z
    · have := W_le z
      omega
  · intro h
    have a := W_lt h
    have b := W_pos i
    omega
/-- the beginnings that occur -/
def Ok (b : Bg) : Prop := 0 ≤ b.t ∧ ((b.t = 0 ∧ b.g = 0 ∧ b.r = 1 ∧ b.m = 0) ∨ (0 < b.m ∧ (
  (b.g = 0 ∧ b.r = 100) ∨ (1 ≤ b.g ∧ b.g ≤ 9 ∧ b.r = 1) ∨ (∃ d : Int, 1 ≤ d ∧ d ≤ 9 ∧ b.g = 100 * d ∧ b.r = 100) ∨
  (∃ h k : Int, 0 ≤ h ∧ h ≤ 9 ∧ 2 ≤ k ∧ k ≤ 9 ∧ b.g = 100 * h + 10 * k ∧ b.r = 10) ∨ (10 ≤ b.g ∧ b.g ≤ 999 ∧ b.r = 1))))
def has (b : Bg) : Bool := decide (b.t + b.g > 0) || decide (b.r = 1)
def zero : Bg := ⟨0, 0, 1, 0⟩
/-- a word's worth: a number below 100 that has a word, 100, or 1000 ^ (i + 1) -/
inductive Wo where
  | low (n : Int)
  | hun
  | sc (i : Nat)
def Wo.val : Wo → Int
  | .low n => n
  | .hun => 100
  | .sc i => W (i + 1)
def Wo.Ok : Wo → Prop
  | .low n => 0 ≤ n ∧ n < 100
  | .hun => True
  | .sc _ => True
def fol (b : Bg) : Wo → Option Bg
  | .low n =>
    if n = 0 then (if has b then none else some zero)
    else if n ≥ 10 then (if b.r = 100 then some ⟨b.t, b.g + n, if n ≥ 20 then 10 else 1, b.m⟩ else none)
    else if b.r ≥ 10 then some ⟨b.t, b.g + n, 1, b.m⟩ else none
  | .hun => if 0 < b.g ∧ b.g < 10 then some ⟨b.t, b.g * 100, 100, b.m⟩ else none
  | .sc i => if b.g > 0 ∧ i + 1 < b.m then some ⟨b.t + b.g * W (i + 1), 0, 100, i + 1⟩ else none
/-- one scale's share -/
def cj (G : Int → Int) (g r : Int) : Int := (G (g + r) - G g) + if g < 10 then G ((g + 1) * 100) - G (g * 100) else 0
def cf (F : Int → Int) (b : Bg) : Int := if b.g = 0 then F (b.t + W b.m) - F b.t else sumR (fun j => cj (fun n => F (b.t + n * W j)) b.g b.r) b.m
def own (F : Int → Int) (b : Bg) : Int := if has b then F (b.t + b.g + 1) - F (b.t + b.g) else 0
def cfo (F : Int → Int) (b : Bg) (x : Wo) : Int := match fol b x with
  | none => 0
  | some c => cf F c
def lows : List Wo := (List.range 20).map fun n : Nat => .low (n : Int)
def tens : List Wo := (List.range 8).map fun n : Nat => .low (10 * ((n : Int) + 2))
def scs (k : Nat) : List Wo := (List.range k).map fun i => .sc i
def all (k : Nat) : List Wo := .hun :: (lows ++ (tens ++ scs k))
theorem scales_sum {F : Int → Int} {b : Bg} {k : Nat} (hg : 0 < b.g) (hm : 0 < b.m) (hk : b.m ≤ k + 1) :
    F (b.t + b.g + 1) - F (b.t + b.g) + sumL (cfo F b) (scs k) = sumR (fun j => F (b.t + (b.g + 1) * W j) - F (b.t + b.g * W j)) b.m := by
  unfold scs
  rw [sumL_map, sumL_range]
  obtain ⟨m, hm'⟩ : ∃ m, b.m = m + 1 := ⟨b.m - 1, by omega⟩
  have one : ∀ i, cfo F b (.sc i) = if i < m then F (b.t + (b.g + 1) * W (i + 1)) - F (b.t + b.g * W (i + 1)) else 0 := by
    intro i
    unfold cfo fol
    by_cases h : i < m
    · rw [if_pos h]
      simp only
      rw [if_pos ⟨hg, by omega⟩]
      show cf F ⟨b.t + b.g * W (i + 1), 0, 100, i + 1⟩ = _
      unfold cf
      rw [if_pos rfl]
      show F (b.t + b.g * W (i + 1) + W (i + 1)) - F (b.t + b.g * W (i + 1)) = _
      rw [Int.add_mul, Int.one_mul, Int.add_assoc]
    · rw [if_neg h]
      simp only
      rw [if_neg (by omega)]
  have cut : ∀ n, sumR (fun i => cfo F b (.sc i)) n = sumR (fun j => F (b.t + (b.g + 1) * W (j + 1)) - F (b.t + b.g * W (j + 1))) (if n < m then n else m) := by
    intro n
    induction n with
    | zero =>
      by_cases h : 0 < m
      · rw [if_pos h]
        rfl
      · rw [if_neg h, show m = 0 by omega]
        rfl
    | succ n ih =>
      show sumR (fun i => cfo F b (.sc i)) n + cfo F b (.sc n) = _
      rw [ih, one]
      by_cases h : n < m
      · rw [if_pos h, if_pos h]
        by_cases h2 : n + 1 < m
        · rw [if_pos h2]
          rfl
        · rw [if_neg h2, show m = n + 1 by omega]
          rfl
      · rw [if_neg h, if_neg h, if_neg (by omega)]
        omega
  rw [show (fun x => cfo F b (Wo.sc x)) = (fun i => cfo F b (.sc i)) from rfl, cut k, show (if k < m then k else m) = m by split <;> omega, hm']
  generalize hf : (fun j => F (b.t + (b.g + 1) * W j) - F (b.t + b.g * W j)) = f
  have e0 : F (b.t + b.g + 1) - F (b.t + b.g) = f 0 := by
    rw [← hf]
    show _ = F (b.t + (b.g + 1) * 1) - F (b.t + b.g * 1)
    rw [Int.mul_one, Int.mul_one, Int.add_assoc]
  have e1 : (fun j => F (b.t + (b.g + 1) * W (j + 1)) - F (b.t + b.g * W (j + 1))) = fun j => f (j + 1) := by
    rw [← hf]
  rw [e0, e1]
  clear cut one e1 e0
  induction m generalizing b with
  | zero =>
    show f 0 + 0 = 0 + f 0
    omega
  | succ n ih =>
    clear ih hf
    have st : ∀ n, f 0 + sumR (fun j => f (j + 1)) n = sumR f (n + 1) := by
      intro n
      induction n with
      | zero =>
        show f 0 + 0 = 0 + f 0
        omega
      | succ n ih =>
        show f 0 + (sumR (fun j => f (j + 1)) n + f (n + 1)) = sumR f (n + 1) + f (n + 1)
        rw [← ih]
        omega
    exact st (n + 1)
theorem scales_none {F : Int → Int} {b : Bg} {k : Nat} (hg : b.g = 0 ∨ b.m = 0) : sumL (cfo F b) (scs k) = 0 := by
  refine sumL_zero _ fun x hx => ?_
  obtain ⟨i, _, rfl⟩ := List.mem_map.mp hx
  unfold cfo fol
  simp only
  rw [if_neg (by omega)]
/-- the children below hundred and hundred, as pairs (group, room), where they are -/
theorem cf_pos {F : Int → Int} {b : Bg} (h : b.g ≠ 0) : cf F b = sumR (fun j => cj (fun n => F (b.t + n * W j)) b.g b.r) b.m := if_neg h
/-- one scale's share of a word behind b -/
def cjo (F : Int → Int) (b : Bg) (x : Wo) (j : Nat) : Int := match fol b x with
  | none => 0
  | some c => cj (fun n => F (b.t + n * W j)) c.g c.r
def dig : List Wo := [.low 1, .low 2, .low 3, .low 4, .low 5, .low 6, .low 7, .low 8, .low 9]
def teen : List Wo := [.low 10, .low 11, .low 12, .low 13, .low 14, .low 15, .low 16, .low 17, .low 18, .low 19]
def tens1 : List Wo := [.low 20, .low 30, .low 40, .low 50, .low 60, .low 70, .low 80, .low 90]
theorem lows_is : lows = .low 0 :: (dig ++ teen) := rfl
theorem tens_is : tens = tens1 := rfl
/-- a word below hundred but 0, or hundred -/
def Sub : Wo → Prop
  | .low n => 0 < n
  | .hun => True
  | .sc _ => False
theorem cfo_sub {F : Int → Int} {b : Bg} {x : Wo} (h0 : 0 ≤ b.g) (hx : Sub x) : cfo F b x = sumR (cjo F b x) b.m := by
  unfold cfo cjo
  cases x with
  | sc i => exact hx.elim
  | hun =>
    unfold fol
    simp only
    by_cases c : 0 < b.g ∧ b.g < 10
    · rw [if_pos c]
      simp only
      rw [cf_pos (show b.g * 100 ≠ 0 by omega)]
    · rw [if_neg c]
      exact (sumR_zero _).symm
  | low n =>
    have n0 : 0 < n := hx
    unfold fol
    simp only
    rw [if_neg (by omega)]
    by_cases c : n ≥ 10
    · rw [if_pos c]
      by_cases d : b.r = 100
      · rw [if_pos d]
        simp only
        rw [cf_pos (show b.g + n ≠ 0 by omega)]
      · rw [if_neg d]
        exact (sumR_zero _).symm
    · rw [if_neg c]
      by_cases d : b.r ≥ 10
      · rw [if_pos d]
        simp only
        rw [cf_pos (show b.g + n ≠ 0 by omega)]
      · rw [if_neg d]
        exact (sumR_zero _).symm
theorem subs_sum {F : Int → Int} {b : Bg} (h0 : 0 ≤ b.g) {l : List Wo} (hl : ∀ x ∈ l, Sub x) : sumL (cfo F b) l = sumR (fun j => sumL (fun x => cjo F b x j) l) b.m := by
  rw [← sumL_swap]
  exact sumL_congr l fun x hx => cfo_sub h0 (hl x hx)
theorem cjo_dig {F : Int → Int} {b : Bg} {n : Int} {j : Nat} (h1 : 0 < n) (h2 : n < 10) (hr : b.r ≥ 10) : cjo F b (.low n) j = cj (fun n => F (b.t + n * W j)) (b.g + n) 1 := by
  unfold cjo fol
  simp only
  rw [if_neg (by omega), if_neg (by omega), if_pos hr]
theorem cjo_dig0 {F : Int → Int} {b : Bg} {n : Int} {j : Nat} (h1 : 0 < n) (h2 : n < 10) (hr : ¬ b.r ≥ 10) : cjo F b (.low n) j = 0 := by
  unfold cjo fol
  simp only
  rw [if_neg (by omega), if_neg (by omega), if_neg hr]
theorem cjo_ten {F : Int → Int} {b : Bg} {n : Int} {j : Nat} (h1 : 10 ≤ n) (hr : b.r = 100) : cjo F b (.low n) j = cj (fun n => F (b.t + n * W j)) (b.g + n) (if n ≥ 20 then 10 else 1) := by
  unfold cjo fol
  simp only
  rw [if_neg (by omega), if_pos h1, if_pos hr]
theorem cjo_ten0 {F : Int → Int} {b : Bg} {n : Int} {j : Nat} (h1 : 10 ≤ n) (hr : ¬ b.r = 100) : cjo F b (.low n) j = 0 := by
  unfold cjo fol
  simp only
  rw [if_neg (by omega), if_pos h1, if_neg hr]
theorem cjo_hun {F : Int → Int} {b : Bg} {j : Nat} (h1 : 0 < b.g) (h2 : b.g < 10) : cjo F b .hun j = cj (fun n => F (b.t + n * W j)) (b.g * 100) 100 := by
  unfold cjo fol
  simp only
  rw [if_pos ⟨h1, h2⟩]
theorem cjo_hun0 {F : Int → Int} {b : Bg} {j : Nat} (h : ¬ (0 < b.g ∧ b.g < 10)) : cjo F b .hun j = 0 := by
  unfold cjo fol
  simp only
  rw [if_neg h]
theorem cj_big {G : Int → Int} {g r : Int} (h : ¬ g < 10) : cj G g r = G (g + r) - G g := by
  unfold cj
  rw [if_neg h]
  omega
theorem cj_small {G : Int → Int} {g r : Int} (h : g < 10) : cj G g r = (G (g + r) - G g) + (G ((g + 1) * 100) - G (g * 100)) := by
  unfold cj
  rw [if_pos h]
/-- nine digits behind g -/
theorem dig_sum {F : Int → Int} {b : Bg} {j : Nat} (hg : 10 ≤ b.g) (hr : b.r ≥ 10) : sumL (fun x => cjo F b x j) dig = F (b.t + (b.g + 10) * W j) - F (b.t + (b.g + 1) * W j) := by
  have one : ∀ n : Int, 0 < n → n < 10 → cjo F b (.low n) j = F (b.t + (b.g + (n + 1)) * W j) - F (b.t + (b.g + n) * W j) := by
    intro n h1 h2
    rw [cjo_dig h1 h2 hr, cj_big (by omega)]
    simp only [Int.add_assoc]
  unfold dig
  simp only [sumL]
  rw [one 1 (by decide) (by decide), one 2 (by decide) (by decide), one 3 (by decide) (by decide), one 4 (by decide) (by decide), one 5 (by decide) (by decide), one 6 (by decide) (by decide), one 7 (by decide) (by decide), one 8 (by decide) (by decide), one 9 (by decide) (by decide)]
  simp only [Int.reduceAdd]
  omega
theorem dig_sum0 {F : Int → Int} {b : Bg} {j : Nat} (hg : b.g = 0) (hr : b.r ≥ 10) : sumL (fun x => cjo F b x j) dig = (F (b.t + 10 * W j) - F (b.t + 1 * W j)) + (F (b.t + 1000 * W j) - F (b.t + 100 * W j)) := by
  have one : ∀ n : Int, 0 < n → n < 10 → cjo F b (.low n) j = (F (b.t + (n + 1) * W j) - F (b.t + n * W j)) + (F (b.t + ((n + 1) * 100) * W j) - F (b.t + (n * 100) * W j)) := by
    intro n h1 h2
    rw [cjo_dig h1 h2 hr, cj_small (by omega), hg]
    simp only [Int.zero_add]
  unfold dig
  simp only [sumL]
  rw [one 1 (by decide) (by decide), one 2 (by decide) (by decide), one 3 (by decide) (by decide), one 4 (by decide) (by decide), one 5 (by decide) (by decide), one 6 (by decide) (by decide), one 7 (by decide) (by decide), one 8 (by decide) (by decide), one 9 (by decide) (by decide)]
  simp only [Int.reduceAdd, Int.reduceMul]
  omega
theorem teen_sum {F : Int → Int} {b : Bg} {j : Nat} (hg : 0 ≤ b.g) (hr : b.r = 100) : sumL (fun x => cjo F b x j) teen = F (b.t + (b.g + 20) * W j) - F (b.t + (b.g + 10) * W j) := by
  have one : ∀ n : Int, 10 ≤ n → n < 20 → cjo F b (.low n) j = F (b.t + (b.g + (n + 1)) * W j) - F (b.t + (b.g + n) * W j) := by
    intro n h1 h2
    rw [cjo_ten h1 hr, if_neg (by omega), cj_big (by omega)]
    simp only [Int.add_assoc]
  unfold teen
  simp only [sumL]
  rw [one 10 (by decide) (by decide), one 11 (by decide) (by decide), one 12 (by decide) (by decide), one 13 (by decide) (by decide), one 14 (by decide) (by decide), one 15 (by decide) (by decide), one 16 (by decide) (by decide), one 17 (by decide) (by decide), one 18 (by decide) (by decide), one 19 (by decide) (by decide)]
  simp only [Int.reduceAdd]
  omega
theorem tens_sum {F : Int → Int} {b : Bg} {j : Nat} (hg : 0 ≤ b.g) (hr : b.r = 100) : sumL (fun x => cjo F b x j) tens1 = F (b.t + (b.g + 100) * W j) - F (b.t + (b.g + 20) * W j) := by
  have one : ∀ n : Int, 20 ≤ n → cjo F b (.low n) j = F (b.t + (b.g + (n + 10)) * W j) - F (b.t + (b.g + n) * W j) := by
    intro n h1
    rw [cjo_ten (by omega) hr, if_pos (by omega), cj_big (by omega)]
    simp only [Int.add_assoc]
  unfold tens1
  simp only [sumL]
  rw [one 20 (by decide), one 30 (by decide), one 40 (by decide), one 50 (by decide), one 60 (by decide), one 70 (by decide), one 80 (by decide), one 90 (by decide)]
  simp only [Int.reduceAdd]
  omega
theorem none_sum {F : Int → Int} {b : Bg} {j : Nat} {l : List Wo} (h : ∀ x ∈ l, cjo F b x j = 0) : sumL (fun x => cjo F b x j) l = 0 := sumL_zero l h
theorem teen_mem {x : Wo} (h : x ∈ teen) : ∃ n, 10 ≤ n ∧ x = .low n := by
  unfold teen at h
  simp only [List.mem_cons, List.not_mem_nil, or_false] at h
  rcases h with h | h | h | h | h | h | h | h | h | h <;> exact ⟨_, by decide, h⟩
theorem tens_mem {x : Wo} (h : x ∈ tens1) : ∃ n, 10 ≤ n ∧ x = .low n := by
  unfold tens1 at h
  simp only [List.mem_cons, List.not_mem_nil, or_false] at h
  rcases h with h | h | h | h | h | h | h | h <;> exact ⟨_, by decide, h⟩
theorem dig_mem {x : Wo} (h : x ∈ dig) : ∃ n, 0 < n ∧ n < 10 ∧ x = .low n := by
  unfold dig at h
  simp only [List.mem_cons, List.not_mem_nil, or_false] at h
  rcases h with h | h | h | h | h | h | h | h | h <;> exact ⟨_, by decide, by decide, h⟩
theorem all_split {F : Int → Int} {b : Bg} {k : Nat} (h0 : 0 ≤ b.g) : sumL (cfo F b) (all k) = cfo F b (.low 0) + sumR (fun j => cjo F b .hun j + (sumL (fun x => cjo F b x j) dig + (sumL (fun x => cjo F b x j) teen + sumL (fun x => cjo F b x j) tens1))) b.m + sumL (cfo F b) (scs k) := by
  have e : sumL (cfo F b) (.hun :: (dig ++ (teen ++ tens1))) = sumR (fun j => sumL (fun x => cjo F b x j) (.hun :: (dig ++ (teen ++ tens1)))) b.m := subs_sum h0 fun x hx => by
    rcases List.mem_cons.mp hx with rfl | hx
    · trivial
    rcases List.mem_append.mp hx with hx | hx
    · obtain ⟨n, h1, _, rfl⟩ := dig_mem hx
      exact h1
    rcases List.mem_append.mp hx with hx | hx
    · obtain ⟨n, h1, rfl⟩ := teen_mem hx
      show 0 < n
      omega
    · obtain ⟨n, h1, rfl⟩ := tens_mem hx
      show 0 < n
      omega
  have e2 : (fun j => sumL (fun x => cjo F b x j) (.hun :: (dig ++ (teen ++ tens1)))) = fun j => cjo F b .hun j + (sumL (fun x => cjo F b x j) dig + (sumL (fun x => cjo F b x j) teen + sumL (fun x => cjo F b x j) tens1)) := by
    funext j
    show cjo F b .hun j + sumL (fun x => cjo F b x j) (dig ++ (teen ++ tens1)) = _
    rw [sumL_append, sumL_append]
  rw [e2] at e
  rw [← e]
  unfold all
  rw [lows_is, tens_is]
  show cfo F b .hun + sumL (cfo F b) ((.low 0 :: (dig ++ teen)) ++ (tens1 ++ scs k)) = cfo F b (.low 0) + (cfo F b .hun + sumL (cfo F b) (dig ++ (teen ++ tens1))) + sumL (cfo F b) (scs k)
  rw [sumL_append, sumL_append, sumL_append, sumL_append]
  show cfo F b .hun + (cfo F b (.low 0) + sumL (cfo F b) (dig ++ teen) + (sumL (cfo F b) tens1 + sumL (cfo F b) (scs k))) = _
  rw [sumL_append]
  omega
theorem zero_none {F : Int → Int} {b : Bg} (h : has b = true) : cfo F b (.low 0) = 0 := by
  unfold cfo fol
  simp only
  rw [if_pos trivial, if_pos h]
/-- THE COUNT: the names that begin so are the whole one and those that go on with a word -/
theorem count {F : Int → Int} {b : Bg} {k : Nat} (ok : Ok b) (hk : b.m ≤ k + 1) : cf F b = own F b + sumL (cfo F b) (all k) := by
  obtain ⟨t0, h | ⟨m0, h⟩⟩ := ok
  · obtain ⟨e1, e2, e3, e4⟩ := h
    have hb : has b = true := by
      unfold has
      rw [e3]
      simp
    rw [all_split (by omega), zero_none hb, e4, scales_none (.inr e4)]
    unfold cf own
    rw [if_pos e2, if_pos hb, e4, e2, e1]
    show F (0 + W 0) - F 0 = F (0 + 0 + 1) - F (0 + 0) + (0 + 0 + 0)
    rw [show W 0 = 1 from rfl]
    show F 1 - F 0 = F 1 - F 0 + 0
    omega
  rcases h with ⟨e2, e3⟩ | h
  · -- nothing yet in this group
    rw [all_split (by omega), scales_none (.inl e2)]
    have z : sumR (fun j => cjo F b .hun j + (sumL (fun x => cjo F b x j) dig + (sumL (fun x => cjo F b x j) teen + sumL (fun x => cjo F b x j) tens1))) b.m = F (b.t + W b.m) - F (b.t + 1) := by
      rw [sumR_congr (g := fun j => F (b.t + W (j + 1)) - F (b.t + W j)) b.m fun j _ => ?_, sumR_tel (fun j => F (b.t + W j))]
      · rfl
      · rw [cjo_hun0 (by omega), dig_sum0 e2 (by omega), teen_sum (by omega) e3, tens_sum (by omega) e3, e2, W_succ]
        simp only [Int.zero_add, Int.one_mul]
        omega
    rw [z]
    unfold cf own
    rw [if_pos e2]
    by_cases hb : b.t > 0
    · have h1 : has b = true := by
        unfold has
        rw [decide_eq_true (show b.t + b.g > 0 by omega)]
        rfl
      rw [zero_none h1, if_pos h1, e2, Int.add_zero]
      omega
    · have h1 : has b = false := by
        unfold has
        rw [decide_eq_false (show ¬ b.t + b.g > 0 by omega), decide_eq_false (show ¬ b.r = 1 by omega)]
        rfl
      have e : b.t = 0 := by omega
      rw [h1, if_neg Bool.false_ne_true]
      have c0 : cfo F b (.low 0) = F (0 + 1) - F 0 := by
        unfold cfo fol
        simp only
        rw [if_pos trivial, h1, if_neg Bool.false_ne_true]
        show cf F zero = _
        unfold cf zero
        rw [if_pos rfl]
        rfl
      rw [c0, e]
      omega
  -- a group with words
  have g0 : 0 < b.g := by
    rcases h with ⟨h1, _⟩ | ⟨d, h1, _, h2, _⟩ | ⟨x, y, h1, _, h2, _, h3, _⟩ | ⟨h1, _⟩ <;> omega
  have hb : has b = true := by
    unfold has
    rw [decide_eq_true (show b.t + b.g > 0 by omega)]
    rfl
  have sc := scales_sum (F := F) (k := k) g0 m0 hk
  rw [all_split (by omega), zero_none hb, cf_pos (by omega)]
  unfold own
  rw [if_pos hb]
  have fin : ∀ f : Nat → Int, (∀ j, j < b.m → cj (fun n => F (b.t + n * W j)) b.g b.r = f j + (F (b.t + (b.g + 1) * W j) - F (b.t + b.g * W j))) → sumR (fun j => cj (fun n => F (b.t + n * W j)) b.g b.r) b.m = F (b.t + b.g + 1) - F (b.t + b.g) + (0 + sumR f b.m + sumL (cfo F b) (scs k)) := by
    intro f hf
    rw [sumR_congr b.m hf, sumR_add, ← sc]
    omega
  refine fin _ fun j _ => ?_
  rcases h with ⟨h1, h2, h3⟩ | ⟨d, h1, h2, h3, h4⟩ | ⟨x, y, h1, h2, h3, h4, h5, h6⟩ | ⟨h1, h2, h3⟩
  · rw [cjo_hun g0 (by omega), none_sum (l := dig), none_sum (l := teen), none_sum (l := tens1), cj_small (by omega), cj_big (by omega), h3]
    · simp only [Int.add_mul b.g 1 100, Int.one_mul]
      omega
    · intro x hx
      obtain ⟨n, h1, rfl⟩ := tens_mem hx
      exact cjo_ten0 h1 (by omega)
    · intro x hx
      obtain ⟨n, h1, rfl⟩ := teen_mem hx
      exact cjo_ten0 h1 (by omega)
    · intro x hx
      obtain ⟨n, h1, h2, rfl⟩ := dig_mem hx
      exact cjo_dig0 h1 h2 (by omega)
  · rw [cjo_hun0 (by omega), dig_sum (by omega) (by omega), teen_sum (by omega) h4, tens_sum (by omega) h4, cj_big (by omega), h4]
    omega
  · rw [cjo_hun0 (by omega), dig_sum (by omega) (by omega), none_sum (l := teen), none_sum (l := tens1), cj_big (by omega), h6]
    · omega
    · intro x hx
      obtain ⟨n, h1, rfl⟩ := tens_mem hx
      exact cjo_ten0 h1 (by omega)
    · intro x hx
      obtain ⟨n, h1, rfl⟩ := teen_mem hx
      exact cjo_ten0 h1 (by omega)
  · rw [cjo_hun0 (by omega), none_sum (l := dig), none_sum (l := teen), none_sum (l := tens1), cj_big (by omega), h3]
    · omega
    · intro x hx
      obtain ⟨n, h1, rfl⟩ := tens_mem hx
      exact cjo_ten0 h1 (by omega)
    · intro x hx
      obtain ⟨n, h1, rfl⟩ := teen_mem hx
      exact cjo_ten0 h1 (by omega)
    · intro x hx
      obtain ⟨n, h1, h2, rfl⟩ := dig_mem hx
      exact cjo_dig0 h1 h2 (by omega)
end Bg
set_option Elab.async false
set_option linter.all false
set_option maxRecDepth 100000
set_option maxHeartbeats 4000000
namespace Bg
theorem Ok.bnd {b : Bg} (ok : Ok b) : 0 ≤ b.t ∧ 0 ≤ b.g ∧ 1 ≤ b.r ∧ b.r ≤ 100 ∧ b.g + b.r ≤ 1000 ∧ b.g ≤ 999 := by
  obtain ⟨t0, ⟨_, h2, h3, _⟩ | ⟨_, h⟩⟩ := ok
  · omega
  · rcases h with ⟨h1, h2⟩ | ⟨h1, h2, h3⟩ | ⟨d, h1, h2, h3, h4⟩ | ⟨x, y, h1, h2, h3, h4, h5, h6⟩ | ⟨h1, h2, h3⟩ <;> omega
/-- the words that a table can have below hundred -/
def WOk : Wo → Prop
  | .low n => (0 ≤ n ∧ n < 20) ∨ ∃ k : Int, 2 ≤ k ∧ k ≤ 9 ∧ n = 10 * k
  | .hun => True
  | .sc _ => True
theorem all_ok {k : Nat} {x : Wo} (h : x ∈ all k) : WOk x := by
  rcases List.mem_cons.mp h with rfl | h
  · trivial
  rcases List.mem_append.mp h with h | h
  · obtain ⟨n, hn, rfl⟩ := List.mem_map.mp h
    have := List.mem_range.mp hn
    exact .inl ⟨by omega, by omega⟩
  rcases List.mem_append.mp h with h | h
  · obtain ⟨n, hn, rfl⟩ := List.mem_map.mp h
    have := List.mem_range.mp hn
    exact .inr ⟨(n : Int) + 2, by omega, by omega, rfl⟩
  · obtain ⟨n, hn, rfl⟩ := List.mem_map.mp h
    trivial
theorem fol_ok {b c : Bg} {x : Wo} (ok : Ok b) (hx : WOk x) (h : fol b x = some c) : Ok c := by
  obtain ⟨t0, z⟩ := ok
  have t0' := t0
  cases x with
  | hun =>
    unfold fol at h
    simp only at h
    by_cases q : 0 < b.g ∧ b.g < 10
    · rw [if_pos q] at h
      cases h
      rcases z with z | ⟨m0, z⟩
      · omega
      · exact ⟨t0, .inr ⟨m0, .inr (.inr (.inl ⟨b.g, by omega, by omega, Int.mul_comm _ _, rfl⟩))⟩⟩
    · rw [if_neg q] at h
      cases h
  | sc i =>
    unfold fol at h
    simp only at h
    by_cases q : b.g > 0 ∧ i + 1 < b.m
    · rw [if_pos q] at h
      cases h
      refine ⟨?_, .inr ⟨Nat.succ_pos i, .inl ⟨rfl, rfl⟩⟩⟩
      have := W_pos (i + 1)
      have := Int.mul_nonneg (Int.le_of_lt q.1) (Int.le_of_lt this)
      show 0 ≤ b.t + b.g * W (i + 1)
      omega
    · rw [if_neg q] at h
      cases h
  | low n =>
    unfold fol at h
    simp only at h
    by_cases q0 : n = 0
    · rw [if_pos q0] at h
      cases hb : has b with
      | true =>
        rw [hb, if_pos rfl] at h
        cases h
      | false =>
        rw [hb, if_neg Bool.false_ne_true] at h
        cases h
        exact ⟨Int.le_refl _, .inl ⟨rfl, rfl, rfl, rfl⟩⟩
    · rw [if_neg q0] at h
      by_cases q1 : n ≥ 10
      · rw [if_pos q1] at h
        by_cases q2 : b.r = 100
        · rw [if_pos q2] at h
          cases h
          rcases z with z | ⟨m0, z⟩
          · omega
          · refine ⟨t0, .inr ⟨m0, ?_⟩⟩
            obtain ⟨e, e0, e9, hg⟩ : ∃ e : Int, 0 ≤ e ∧ e ≤ 9 ∧ b.g = 100 * e := by
              rcases z with ⟨h1, _⟩ | ⟨h1, h2, h3⟩ | ⟨d, h1, h2, h3, h4⟩ | ⟨x, y, h1, h2, h3, h4, h5, h6⟩ | ⟨h1, h2, h3⟩
              · exact ⟨0, by omega, by omega, by omega⟩
              · omega
              · exact ⟨d, by omega, by omega, h3⟩
              · omega
              · omega
            rcases hx with hx | ⟨k, k2, k9, rfl⟩
            · rw [if_neg (by omega)]
              exact .inr (.inr (.inr (.inr ⟨by show 10 ≤ b.g + n; omega, by show b.g + n ≤ 999; omega, rfl⟩)))
            · rw [if_pos (by omega)]
              exact .inr (.inr (.inr (.inl ⟨e, k, e0, e9, k2, k9, by show b.g + 10 * k = _; omega, rfl⟩)))
        · rw [if_neg q2] at h
          cases h
      · rw [if_neg q1] at h
        by_cases q2 : b.r ≥ 10
        · rw [if_pos q2] at h
          cases h
          have n0 : 0 < n := by
            rcases hx with hx | ⟨k, k2, k9, rfl⟩ <;> omega
          rcases z with z | ⟨m0, z⟩
          · omega
          · refine ⟨t0, .inr ⟨m0, ?_⟩⟩
            rcases z with ⟨h1, _⟩ | ⟨h1, h2, h3⟩ | ⟨d, h1, h2, h3, h4⟩ | ⟨x, y, h1, h2, h3, h4, h5, h6⟩ | ⟨h1, h2, h3⟩
            · exact .inr (.inl ⟨by show 1 ≤ b.g + n; omega, by show b.g + n ≤ 9; omega, rfl⟩)
            · omega
            · exact .inr (.inr (.inr (.inr ⟨by show 10 ≤ b.g + n; omega, by show b.g + n ≤ 999; omega, rfl⟩)))
            · exact .inr (.inr (.inr (.inr ⟨by show 10 ≤ b.g + n; omega, by show b.g + n ≤ 999; omega, rfl⟩)))
            · omega
        · rw [if_neg q2] at h
          cases h
theorem fol_m {b c : Bg} {x : Wo} (h : fol b x = some c) : c.m ≤ b.m := by
  unfold fol at h
  split at h
  · split at h
    · split at h
      · cases h
      · cases h
        exact Nat.zero_le _
    · split at h
      · split at h
        · cases h
          exact Nat.le_refl _
        · cases h
      · split at h
        · cases h
          exact Nat.le_refl _
        · cases h
  · split at h
    · cases h
      exact Nat.le_refl _
    · cases h
  · split at h
    · rename_i q
      cases h
      show _ + 1 ≤ b.m
      omega
    · cases h
/-- how far a beginning can still go -/
def far (b : Bg) : Nat := 6 * b.m + (if b.g = 0 then (if b.m = 0 then 0 else 5) else if b.g < 10 then 4 else if b.r = 100 then 3 else if b.r = 10 then 2 else 1)
theorem fol_far {b c : Bg} {x : Wo} (ok : Ok b) (hx : WOk x) (h : fol b x = some c) : far c < far b := by
  obtain ⟨t0, z⟩ := ok
  unfold far
  cases x with
  | hun =>
    unfold fol at h
    simp only at h
    by_cases q : 0 < b.g ∧ b.g < 10
    · rw [if_pos q] at h
      cases h
      show 6 * b.m + (if b.g * 100 = 0 then _ else if b.g * 100 < 10 then _ else if (100 : Int) = 100 then 3 else _) < _
      rw [if_neg (by omega), if_neg (by omega), if_pos rfl, if_neg (by omega), if_pos q.2]
      omega
    · rw [if_neg q] at h
      cases h
  | sc i =>
    unfold fol at h
    simp only at h
    by_cases q : b.g > 0 ∧ i + 1 < b.m
    · rw [if_pos q] at h
      cases h
      show 6 * (i + 1) + (if (0 : Int) = 0 then (if i + 1 = 0 then 0 else 5) else _) < _
      rw [if_pos rfl, if_neg (by omega)]
      omega
    · rw [if_neg q] at h
      cases h
  | low n =>
    unfold fol at h
    simp only at h
    by_cases q0 : n = 0
    · rw [if_pos q0] at h
      cases hb : has b with
      | true =>
        rw [hb, if_pos rfl] at h
        cases h
      | false =>
        rw [hb, if_neg Bool.false_ne_true] at h
        cases h
        show 0 < _
        rcases z with z | ⟨m0, z⟩
        · exfalso
          unfold has at hb
          rw [z.2.2.1] at hb
          simp at hb
        · omega
    · rw [if_neg q0] at h
      have n0 : 0 < n := by
        rcases hx with hx | ⟨k, k2, k9, rfl⟩ <;> omega
      by_cases q1 : n ≥ 10
      · rw [if_pos q1] at h
        by_cases q2 : b.r = 100
        · rw [if_pos q2] at h
          cases h
          have zz : b.g = 0 ∧ 0 < b.m ∨ b.g ≥ 100 := by
            rcases z with z | ⟨m0, z⟩
            · omega
            · rcases z with ⟨h1, _⟩ | ⟨h1, h2, h3⟩ | ⟨d, h1, h2, h3, h4⟩ | ⟨x, y, h1, h2, h3, h4, h5, h6⟩ | ⟨h1, h2, h3⟩ <;> omega
          show 6 * b.m + (if b.g + n = 0 then _ else if b.g + n < 10 then _ else if (if n ≥ 20 then (10 : Int) else 1) = 100 then _ else if (if n ≥ 20 then (10 : Int) else 1) = 10 then 2 else 1) < _
          rw [if_neg (by omega), if_neg (by omega), if_neg (by split <;> omega)]
          have two : ∀ (p : Prop) [Decidable p], (if p then 2 else 1) ≤ 2 := fun p _ => by split <;> omega
          have := two ((if n ≥ 20 then (10 : Int) else 1) = 10)
          rcases zz with ⟨h1, h2⟩ | h1
          · rw [if_pos h1, if_neg (show ¬ b.m = 0 by omega)]
            omega
          · rw [if_neg (show ¬ b.g = 0 by omega), if_neg (show ¬ b.g < 10 by omega), if_pos q2]
            omega
        · rw [if_neg q2] at h
          cases h
      · rw [if_neg q1] at h
        by_cases q2 : b.r ≥ 10
        · rw [if_pos q2] at h
          cases h
          show 6 * b.m + (if b.g + n = 0 then _ else if b.g + n < 10 then 4 else if (1 : Int) = 100 then _ else if (1 : Int) = 10 then _ else 1) < _
          have zz : b.g = 0 ∧ 0 < b.m ∨ b.g ≥ 10 := by
            rcases z with z | ⟨m0, z⟩
            · omega
            · rcases z with ⟨h1, _⟩ | ⟨h1, h2, h3⟩ | ⟨d, h1, h2, h3, h4⟩ | ⟨x, y, h1, h2, h3, h4, h5, h6⟩ | ⟨h1, h2, h3⟩ <;> omega
          rcases zz with ⟨h1, h2⟩ | h1
          · rw [if_neg (show ¬ b.g + n = 0 by omega), if_pos (show b.g + n < 10 by omega), if_pos h1, if_neg (show ¬ b.m = 0 by omega)]
            omega
          · rw [if_neg (show ¬ b.g + n = 0 by omega), if_neg (show ¬ b.g + n < 10 by omega), if_neg (by decide), if_neg (by decide), if_neg (show ¬ b.g = 0 by omega), if_neg (show ¬ b.g < 10 by omega)]
            by_cases q3 : b.r = 100
            · rw [if_pos q3]
              omega
            · rw [if_neg q3, if_pos]
              · omega
              · rcases z with z | ⟨m0, z⟩
                · omega
                · rcases z with ⟨h1, _⟩ | ⟨h1, h2, h3⟩ | ⟨d, h1, h2, h3, h4⟩ | ⟨x, y, h1, h2, h3, h4, h5, h6⟩ | ⟨h1, h2, h3⟩ <;> omega
        · rw [if_neg q2] at h
          cases h
/-! ### what the program counts -/
def ovj (lo hi : Int) (b : Bg) (j : Nat) : Int := ov lo hi (b.t + b.g * W j) (b.t + (b.g + b.r) * W j) + if b.g < 10 then ov lo hi (b.t + b.g * 100 * W j) (b.t + (b.g + 1) * 100 * W j) else 0
theorem ovj_cj {lo hi : Int} {b : Bg} (ok : Ok b) (j : Nat) : ovj lo hi b j = cj (fun n => fb lo hi (b.t + n * W j)) b.g b.r := by
  obtain ⟨h1, h2, h3, h4, h5, h6⟩ := ok.bnd
  have w := W_pos j
  unfold ovj cj
  have le : ∀ {x y : Int}, x ≤ y → b.t + x * W j ≤ b.t + y * W j := fun h => Int.add_le_add_left (Int.mul_le_mul_of_nonneg_right h (Int.le_of_lt w)) _
  rw [ov_fb (le (by omega)), ov_fb (le (by omega))]
theorem cf_code {lo hi : Int} {b : Bg} (ok : Ok b) (h : b.g ≠ 0) : cf (fb lo hi) b = sumR (ovj lo hi b) b.m := by
  rw [cf_pos h]
  exact (sumR_congr b.m fun j _ => ovj_cj ok j).symm
theorem cf_code0 {lo hi : Int} {b : Bg} (h : b.g = 0) : cf (fb lo hi) b = ov lo hi b.t (b.t + W b.m) := by
  have w := W_pos b.m
  rw [ov_fb (by omega)]
  unfold cf
  rw [if_pos h]
theorem cf_out {lo hi : Int} {b : Bg} (ok : Ok b) (h : hi < b.t ∨ lo ≥ b.t + W b.m) : cf (fb lo hi) b = 0 := by
  obtain ⟨h1, h2, h3, h4, h5, h6⟩ := ok.bnd
  unfold cf
  split
  · exact fb_same (by have := W_pos b.m; omega) (by omega)
  · refine (sumR_congr b.m fun j hj => ?_).trans (sumR_zero b.m)
    have w := W_pos j
    have w2 := W_lt hj
    have lo_ : ∀ {x : Int}, 0 ≤ x → 0 ≤ x * W j := fun h => Int.mul_nonneg h (Int.le_of_lt w)
    have hi_ : ∀ {x : Int}, x ≤ 1000 → x * W j ≤ W b.m := fun h => Int.le_trans (Int.mul_le_mul_of_nonneg_right h (Int.le_of_lt w)) w2
    have le : ∀ {x y : Int}, x ≤ y → x * W j ≤ y * W j := fun h => Int.mul_le_mul_of_nonneg_right h (Int.le_of_lt w)
    have z : ∀ {x y : Int}, 0 ≤ x → x ≤ y → y ≤ 1000 → fb lo hi (b.t + y * W j) - fb lo hi (b.t + x * W j) = 0 := by
      intro x y a1 a2 a3
      have p1 := lo_ a1
      have p2 := hi_ a3
      have p3 := le a2
      exact fb_same (by omega) (by omega)
    unfold cj
    simp only
    rw [z h2 (by omega) h5]
    split
    · rw [z (by omega) (by omega) (by omega)]
      rfl
    · rfl
theorem cf_nonneg {lo hi : Int} {b : Bg} (ok : Ok b) : 0 ≤ cf (fb lo hi) b := by
  obtain ⟨h1, h2, h3, h4, h5, h6⟩ := ok.bnd
  unfold cf
  split
  · have := fb_mono (lo := lo) (hi := hi) (show b.t ≤ b.t + W b.m by have := W_pos b.m; omega)
    omega
  · refine sumR_nonneg b.m fun j _ => ?_
    have w := W_pos j
    have le : ∀ {x y : Int}, x ≤ y → b.t + x * W j ≤ b.t + y * W j := fun h => Int.add_le_add_left (Int.mul_le_mul_of_nonneg_right h (Int.le_of_lt w)) _
    unfold cj
    simp only
    have a := fb_mono (lo := lo) (hi := hi) (le (show b.g ≤ b.g + b.r by omega))
    split
    · have c := fb_mono (lo := lo) (hi := hi) (le (show b.g * 100 ≤ (b.g + 1) * 100 by omega))
      omega
    · omega
def start (k : Nat) : Bg := ⟨0, 0, 100, k + 1⟩
theorem start_ok (k : Nat) : Ok (start k) := ⟨Int.le_refl _, .inr ⟨Nat.succ_pos k, .inl ⟨rfl, rfl⟩⟩⟩
theorem start_all {lo hi : Int} {k : Nat} (h0 : 0 ≤ lo) (h1 : lo ≤ hi) (h2 : hi < W (k + 1)) : cf (fb lo hi) (start k) = hi - lo + 1 := by
  unfold cf start
  rw [if_pos rfl]
  show fb lo hi (0 + W (k + 1)) - fb lo hi 0 = _
  rw [fb_high (by omega) h1, fb_low (by omega)]
  omega
/-- the program's test of an own number -/
theorem own_code {lo hi : Int} {b : Bg} (h : lo ≤ hi) : own (fb lo hi) b = if (has b && (decide (lo ≤ b.t + b.g) && decide (b.t + b.g ≤ hi))) = true then 1 else 0 := by
  unfold own
  cases has b with
  | false =>
    rw [if_neg Bool.false_ne_true]
    rfl
  | true =>
    rw [if_pos rfl, fb_one h]
    simp only [Bool.true_and, Bool.and_eq_true, decide_eq_true_eq]
theorem own_nonneg {lo hi : Int} {b : Bg} (h : lo ≤ hi) : 0 ≤ own (fb lo hi) b := by
  rw [own_code h]
  split <;> decide
end Bg
set_option Elab.async false
set_option linter.all false
set_option maxRecDepth 100000
set_option maxHeartbeats 4000000
/-! The program's own: beginnings, one by one. -/
namespace LB
open PySem L2 Wk
open Bg (Bg)
/-- a beginning as the program holds it -/
def BgV (b : Bg) : List V := [.int b.t, .int b.g, .int b.r, .int (Bg.W b.m)]
def spHas (K : PySem.W.Frag) : Sp := fun vs H Q _ => ∃ (p : Addr) (b : Bg), vs = [.ref p] ∧ SqT K H p (BgV b) ∧ Q (.bl (Bg.has b)) H
def spOverlap : Sp := fun vs H Q _ => ∃ a e lo hi : Int, vs = [.int a, .int e, .int lo, .int hi] ∧ Q (.int (Bg.ov lo hi a e)) H
def spOwn (K : PySem.W.Frag) : Sp := fun vs H Q _ => ∃ (p : Addr) (b : Bg), vs = [.ref p] ∧ SqT K H p (BgV b) ∧ Q (.int (b.t + b.g)) H
def endsB (lo hi : Int) (b : Bg) : Bool := Bg.has b && (decide (lo ≤ b.t + b.g) && decide (b.t + b.g ≤ hi))
def spEnds (K : PySem.W.Frag) : Sp := fun vs H Q _ => ∃ (p : Addr) (b : Bg) (lo hi : Int), vs = [.ref p, .int lo, .int hi] ∧ SqT K H p (BgV b) ∧ Q (.bl (endsB lo hi b)) H
def spCount (K : PySem.W.Frag) : Sp := fun vs H Q _ => ∃ (p : Addr) (b : Bg) (lo hi : Int), vs = [.ref p, .int lo, .int hi] ∧ SqT K H p (BgV b) ∧ Bg.Ok b ∧ Q (.int (Bg.cf (Bg.fb lo hi) b)) H
section
variable {P : Program} {w : World} {K : PySem.W.Frag} {mg : Str → Option Value} {base : Heap}
end
end LB
set_option Elab.async false
set_option linter.all false
set_option maxRecDepth 100000
set_option maxHeartbeats 4000000
/-! sorted(d.items()), d a dict from texts to numbers: the pairs in the order of the texts. -/
namespace WkI
open PySem PySem.Spec PyProof.Rows L2 SrtO PySem.W
/-- v is a pair (x, M x) -/
def PairSI (h : Heap) (v : Value) (x : Str) (i : Int) : Prop := ∃ (a : Addr) (t u : Tok), v = .ref a ∧ IsTup h a #[.str x t, .int i u]
theorem PairSI.keeps {h h' : Heap} {v : Value} {x : Str} {i : Int} (p : PairSI h v x i) (k : ∀ b o, h.get? b = some o → o.cls = .type "tuple" → h'.get? b = some o) : PairSI h' v x i := by
  obtain ⟨a, t, u, e, o, ho, hc, r⟩ := p
  exact ⟨a, t, u, e, o, k _ _ ho hc, hc, r⟩
/-- the text of a pair, read off the heap -/
def kx (h : Heap) (v : Value) : Str := DT.txOf (DT.seqAt0 h (DT.refOf (some v)))
theorem PairSI.kx {h : Heap} {v : Value} {x : Str} {i : Int} (p : PairSI h v x i) : kx h v = x := by
  obtain ⟨a, t, u, rfl, p⟩ := p
  show DT.txOf (DT.seqAt0 h a) = x
  rw [DT.seqAt0_of p]
  rfl
def ltS (x y : Str) : Bool := decide (x.cps.toList < y.cps.toList)
theorem swoS {α : Type} (f : α → Str) : Swo fun v u => ltS (f v) (f u) := by
  refine ⟨fun x y h => ?_, fun x y z h1 h2 => ?_⟩
  · have a := of_decide_eq_true h
    exact decide_eq_false (List.lt_asymm a)
  · have a := of_decide_eq_false h1
    have b := of_decide_eq_false h2
    refine decide_eq_false ?_
    rw [List.not_lt] at *
    exact List.le_trans a b
theorem ltS_tri {x y : Str} (h1 : ltS x y = false) (h2 : ltS y x = false) : x = y := by
  have a := of_decide_eq_false h1
  have b := of_decide_eq_false h2
  rw [List.not_lt] at *
  have e := List.le_antisymm b a
  obtain ⟨⟨l⟩⟩ := x
  obtain ⟨⟨m⟩⟩ := y
  have e' : l = m := e
  rw [e']
theorem strs_of {h : Heap} : ∀ vs : List Value, (∀ v ∈ vs, ∃ x i, PairSI h v x i) → ∃ fs : List Value, KatTups h vs fs ∧ fs.length = vs.length ∧ ∀ f ∈ fs, ∃ (x : Str) (t : Tok), f = Value.str x t
  | [], _ => ⟨[], KatTups.nil, rfl, fun f hf => by simp at hf⟩
  | v :: vs, x => by
    obtain ⟨fs, k, hl, hi⟩ := strs_of vs fun u hu => x u (List.mem_cons_of_mem _ hu)
    obtain ⟨y, i, a, t, u, rfl, o, ho, hc, n, hd⟩ := x v (List.mem_cons_self ..)
    refine ⟨.str y t :: fs, KatTups.cons ho hc hd rfl k, by rw [List.length_cons, List.length_cons, hl], fun f hf => ?_⟩
    rcases List.mem_cons.mp hf with rfl | hf
    · exact ⟨y, t, rfl⟩
    · exact hi f hf
section
variable {prog : Program} {w : World} {A : Around} {E : Value → Shared → Prop} {s : Shared}
theorem pair_cmpS {vs : List Value} {k : Value → Str} {M : Str → Int} (hp : ∀ v ∈ vs, PairSI s.heap v (k v) (M (k v))) : SrtO.Cmp prog w A s (tuples' true) (fun p => p.1 ∈ vs) (lt2 fun v u => ltS (k v) (k u)) := by
  intro p q hm hm'
  have h1 := hp _ hm
  have h2 := hp _ hm'
  show wpAny (model prog w) A (keyLt' (tuples' true) p.1 q.1) (fun r s' => s' = s ∧ r = ltS (k p.1) (k q.1)) (fun _ _ => False) s
  generalize k p.1 = x at h1 ⊢
  generalize k q.1 = x' at h2 ⊢
  obtain ⟨a, t, u, e, o, ho, hc, n, hd⟩ := h1
  obtain ⟨a', t', u', e', o', ho', hc', n', hd'⟩ := h2
  rw [e, e']
  refine kat_lt ho hd ho' hd' ?_
  show KatLex prog w A true (decide (2 < 2)) _ [(.str x t, .str x' t'), (.int (M x) u, .int (M x') u')] 0 s
  refine kat_cons (PySem.SeqAt.EqAt.str_str (A := A) (s := s) x t x' t' prog w _ _ ?_)
  refine kat_go (fun e1 => ?_) (fun e1 => ?_)
  · have ex : x = x' := by simpa using e1
    subst ex
    refine kat_yes (kat_cons (SeqAt.EqAt.int_int (M x) u (M x) u' prog w _ _ ?_))
    have e4 : ltS x x = false := decide_eq_false (List.lt_irrefl _)
    refine kat_go (fun e2 => ?_) (fun e2 => ?_)
    · refine kat_yes (kat_nil ⟨rfl, ?_⟩)
      rw [e4]
      rfl
    · exact absurd e2 (by simp)
  · exact kat_no (PyProof.Rows.oneLt_str ⟨rfl, rfl⟩)
theorem pairs_sortableS {a : Addr} {vs : List Value} {k : Value → Str} {M : Str → Int} (h0 : 0 < vs.length) (hp : ∀ v ∈ vs, PairSI s.heap v (k v) (M (k v))) (ha : ∀ o, s.heap.get? a = some o → o.cls ≠ .type "tuple") : SortableO prog w A s a vs fun v u => ltS (k v) (k u) := by
  intro h' keep
  have hp' : ∀ v ∈ vs, PairSI h' v (k v) (M (k v)) := fun v hm => (hp v hm).keeps fun b o e c => keep b o (fun z => by subst z; exact ha o e c) e
  obtain ⟨fs, h1, h2, h3⟩ := strs_of vs fun v hm => ⟨_, _, hp' v hm⟩
  refine ⟨tuples' true, fun Q E hq => ?_, pair_cmpS hp'⟩
  refine kat_kind (T := .type "str") h1 (by omega) (fun f hm => ?_) (by rfl) ?_
  · obtain ⟨x, t, rfl⟩ := h3 f hm
    exact Looks.now
  · have e : (Value.type "str" != Value.type "tuple") = true := by first | decide +kernel | rfl | decide
    rw [e]
    exact hq
end
theorem pairs_at {P : Program} {w : World} : ∀ {es : List DictEntry} {kvs : List (Key × Value)}, Pairs (mixKind P w) es kvs → ∀ {j : Nat} {e : DictEntry}, es[j]? = some e → ∃ kv, kvs[j]? = some kv ∧ keyIs kv.1 e.key = true ∧ e.val = kv.2
  | _, _, .nil, j, e, h => by cases h
  | _, _, .cons (kv := kv) h1 h2 t, 0, e, h => by
    have e' := Option.some.inj h
    subst e'
    exact ⟨kv, rfl, h1, h2⟩
  | _, _, .cons h1 h2 t, j + 1, e, h => pairs_at t h
section
variable {X : Cx}
def rItemsK : V → List V → Hp → VK → Prop := fun x xs H Q => ∃ (a : Addr) (kvs : List (Key × V)), x = .ref a ∧ xs = [] ∧ H a = some (.dK kvs) ∧ ∀ p, H p = none → Q (.ref p) (upd H p (DX.itemsO p a))
theorem mt_itemsK : MtR X "dict.items" rItemsK := by
  intro pins s σ H x xs v us Q I rx rxs h
  obtain ⟨a, kvs, rfl, rfl, ha, q⟩ := h
  cases rx
  cases rxs
  obtain ⟨hz, hs0, vs, kv, o, es, ep, ho, hx, hdat, _⟩ := I.hok a _ ha
  refine DT.callItems (es := es) (ep := ep) hs0 ⟨o, ho, hx, hdat⟩ ?_
  have hf : H s.heap.objs.size = none := I.hok.fresh (Nat.le_refl _)
  exact ⟨.ref s.heap.objs.size, upd H s.heap.objs.size (DX.itemsO s.heap.objs.size a), I.laid (t' := s.toks) (fun b u e => Heap.get?_push_of_some _ e) (Nat.le_refl _) (DX.itemsO_ok (Heap.get?_push_size _ rfl)), rfl, q _ hf⟩
abbrev entS (e : Str × Int) : Key × V := (Sum.inr e.1, V.int e.2)
/-- sorted(d.items()) -/
def rSortItK : List V → Hp → VK → Prop := fun vs H Q => ∃ (p a : Addr) (ks : List (Str × Int)), vs = [.ref p] ∧ H p = some (DX.itemsO p a) ∧ H a = some (.dK (ks.map entS)) ∧ ks.length ≤ 1000 ∧
  ∀ (H' : Hp) (l : Addr) (ps : List (Addr × Str × Int)), Same H H' → H l = none → (ps.map (·.2)).Perm ks → (ps.map (·.2)).Pairwise (fun e f => ltS e.1 f.1 = true) → H' l = some (.lst (ps.map fun z => V.ref z.1)) →
    (∀ z ∈ ps, H z.1 = none ∧ H' z.1 = some (.tup [.str z.2.1, .int z.2.2])) → Q (.ref l) H'
theorem cr_sortedItK (hc : X.calm = true) : CallR X (.builtin "sorted") rSortItK := by
  intro pins s σ H xs us Q I r h
  obtain ⟨p, a, ks, rfl, hp, ha, h1000, q⟩ := h
  obtain rfl := Vals.ref1 r
  have view : s.heap.IsItemsView p a := (show ObjOk X.prog X.w H s.heap p (DX.itemsO p a) from I.hok p _ hp).1
  obtain ⟨hz, hs0, vs, kv, o, es, ep, ho, hx, hdat, hks, hps, hn⟩ := I.hok a _ ha
  have l1 : (ks.map entS).length = vs.length := Paired.length kv
  rw [List.length_map] at l1
  have l2 : es.size = vs.length := by
    have := Pairs.length hps
    rw [Array.length_toList] at this
    exact this
  have hh : X.A.handled = none := I.ok.hd hc
  have big : 1000 ≤ sizeLine := by decide
  refine DT.sortedI (es := es) (ep := ep) hh view ⟨o, ho, hx, hdat⟩ (by omega) fun h' tk as hk hlt hl hG => ?_
  have lak : as.length = ks.length := by omega
  have nd : as.Nodup := List.Pairwise.imp (fun h => Nat.ne_of_lt h) hG.rise
  -- the pairs that were made
  have pr : ∀ (j : Nat) (b : Addr), as[j]? = some b → ∃ (e : Str × Int) (t u : Tok), ks[j]? = some e ∧ h'.get? b = some { cls := .type "tuple", data := .seq #[Value.str e.1 t, Value.int e.2 u] } := by
    intro j b hj
    obtain ⟨en, he, hg⟩ := hG.pairs j b hj
    rw [← Array.getElem?_toList] at he
    obtain ⟨kv1, hkv, k1, k2⟩ := pairs_at hps he
    obtain ⟨e0, he0, r1, r2⟩ := DX.pget kv hkv
    rw [List.getElem?_map] at he0
    cases hkj : ks[j]? with
    | none =>
      rw [hkj] at he0
      cases he0
    | some e =>
      rw [hkj] at he0
      have ee : entS e = e0 := Option.some.inj he0
      rw [← ee] at r1 r2
      rw [← r1] at k1
      obtain ⟨t, et⟩ : ∃ t, en.key = Value.str e.1 t := relV_key k1
      rw [← k2] at r2
      obtain ⟨u, eu⟩ : ∃ u, en.val = Value.int e.2 u := r2
      rw [et, eu] at hg
      exact ⟨e, t, u, rfl, hg⟩
  have keysN : (ks.map (·.1)).Nodup := by
    have e1 : vs.map (·.1) = ks.map fun e => (Sum.inr e.1 : Key) := by
      have : ∀ {l : List (Str × Int)} {m : List (Key × Value)}, KV (l.map entS) m → m.map (·.1) = l.map fun e => (Sum.inr e.1 : Key) := by
        intro l
        induction l with
        | nil =>
          intro m h
          cases h
          rfl
        | cons x l ih =>
          intro m h
          cases h with
          | cons h t =>
            rw [List.map_cons, List.map_cons, ih t, ← h.1]
      exact this kv
    rw [e1] at hn
    have e2 : (ks.map fun e => (Sum.inr e.1 : Key)) = (ks.map (·.1)).map fun x => (Sum.inr x : Key) := by
      rw [List.map_map]
      rfl
    rw [e2] at hn
    exact (List.pairwise_map.mp hn).imp fun h z => h (by rw [z])
  -- each text's number
  let M : Str → Int := fun x => ((ks.find? fun e => decide (e.1 = x)).map (·.2)).getD 0
  have hM : ∀ e ∈ ks, M e.1 = e.2 := by
    intro e he
    have : ∀ l : List (Str × Int), (l.map (·.1)).Nodup → e ∈ l → l.find? (fun f => decide (f.1 = e.1)) = some e := by
      intro l
      induction l with
      | nil => intro _ h; cases h
      | cons x l ih =>
        intro n h
        rw [List.map_cons, List.nodup_cons] at n
        rcases List.mem_cons.mp h with z | z
        · subst z
          rw [List.find?_cons_of_pos (by simp)]
        · rw [List.find?_cons_of_neg, ih n.2 z]
          intro c
          have c' := of_decide_eq_true c
          exact n.1 (by rw [c']; exact List.mem_map.mpr ⟨e, z, rfl⟩)
    show ((ks.find? fun f => decide (f.1 = e.1)).map (·.2)).getD 0 = e.2
    rw [this ks keysN he]
    rfl
  -- the heap of the sort
  have hob : (h'.push { cls := .type "list", data := .seq (as.map Value.ref).toArray }).get? h'.objs.size = some (seqObj "list" (as.map Value.ref).toArray 0) := Heap.get?_push_size _ rfl
  have kb : ∀ b o, s.heap.get? b = some o → (h'.push { cls := .type "list", data := .seq (as.map Value.ref).toArray }).get? b = some o := fun b o e => Heap.get?_push_of_some _ (hk b o e)
  have ne0 : ∀ b o, h'.get? b = some o → b ≠ h'.objs.size := fun b o e => Nat.ne_of_lt (Heap.lt_size e)
  generalize hh2 : h'.push { cls := .type "list", data := .seq (as.map Value.ref).toArray } = h2 at hob kb ⊢
  have ka : ∀ b o, h'.get? b = some o → h2.get? b = some o := fun b o e => by rw [← hh2]; exact Heap.get?_push_of_some _ e
  have pin : ∀ (j : Nat) (b : Addr), as[j]? = some b → ∃ e : Str × Int, ks[j]? = some e ∧ PairSI h2 (.ref b) e.1 e.2 := by
    intro j b hj
    obtain ⟨e, t, u, he, hg⟩ := pr j b hj
    exact ⟨e, he, b, t, u, rfl, _, ka _ _ hg, rfl, 0, rfl⟩
  have tx : ∀ (j : Nat) (b : Addr) (e : Str × Int), as[j]? = some b → ks[j]? = some e → kx h2 (.ref b) = e.1 := by
    intro j b e hj he
    obtain ⟨e', he', hp'⟩ := pin j b hj
    have ee : e' = e := Option.some.inj (he'.symm.trans he)
    rw [← ee]
    exact hp'.kx
  have at_ : ∀ v ∈ as.map Value.ref, ∃ (j : Nat) (b : Addr) (e : Str × Int), v = .ref b ∧ as[j]? = some b ∧ ks[j]? = some e := by
    intro v hv'
    obtain ⟨b, hb, rfl⟩ := List.mem_map.mp hv'
    obtain ⟨j, hj⟩ := List.mem_iff_getElem?.mp hb
    obtain ⟨e, he, _⟩ := pin j b hj
    exact ⟨j, b, e, rfl, hj, he⟩
  have pairs : ∀ v ∈ as.map Value.ref, PairSI h2 v (kx h2 v) (M (kx h2 v)) := by
    intro v hv
    obtain ⟨j, b, e, rfl, hj, he⟩ := at_ v hv
    obtain ⟨e', he', hp'⟩ := pin j b hj
    have ee : e' = e := Option.some.inj (he'.symm.trans he)
    subst ee
    rw [tx j b e' hj he, hM e' (List.mem_of_getElem? he)]
    exact hp'
  refine wpAny_call_entry PyProof.Rows.slot_list_sort ⟨_, hob, rfl⟩ PyProof.Rows.entry_list_sort
    (SrtO.list_sort_ord (s := { s with heap := h2, toks := tk }) (swoS (kx h2)) hob (by rw [List.length_map]; omega) (fun hl2 => pairs_sortableS (M := M) (by omega) pairs fun o e => ?_) fun out o1 o2 => ⟨.none, rfl, ?_⟩) (PyProof.Rows.args_list_sort _)
  · have e' : some o = some (seqObj "list" (as.map Value.ref).toArray 0) := e.symm.trans hob
    cases e'
    intro c
    exact absurd (Value.type.inj c) (by decide)
  · show EP X pins σ Q (.ref h'.objs.size) { s with heap := sortedHeap h2 h'.objs.size (as.map Value.ref) out.toArray, toks := tk }
    obtain ⟨zs, pz, ez⟩ := perm_lift (fun z : Addr × Str × Int => Value.ref z.1) o2.perm (as.zip ks) (by
      rw [show (fun z : Addr × Str × Int => Value.ref z.1) = Value.ref ∘ Prod.fst from rfl, ← List.map_map, List.map_fst_zip (by rw [lak]; exact Nat.le_refl _)])
    have idx : ∀ z ∈ zs, ∃ j : Nat, as[j]? = some z.1 ∧ ks[j]? = some z.2 := by
      intro z' hz'
      obtain ⟨j, hj⟩ := List.mem_iff_getElem?.mp (pz.mem_iff.mp hz')
      exact ⟨j, List.getElem?_zip_eq_some.mp hj⟩
    have hperm : (zs.map (·.2)).Perm ks := by
      have e := pz.map (·.2)
      have m2 : (as.zip ks).map (·.2) = ks := List.map_snd_zip (by rw [lak]; exact Nat.le_refl _)
      rw [m2] at e
      exact e
    have hkn : ((zs.map (·.2)).map (·.1)).Nodup := (hperm.map (·.1)).nodup_iff.mpr keysN
    have hsort : (zs.map (·.2)).Pairwise (fun e f => ltS e.1 f.1 = true) := by
      have o1' : (zs.map fun z => Value.ref z.1).Pairwise fun x y => ltS (kx h2 y) (kx h2 x) = false := by
        rw [ez]
        exact o1
      rw [List.pairwise_map] at o1'
      rw [List.map_map] at hkn
      have both := List.Pairwise.and o1' (List.pairwise_map.mp hkn)
      rw [List.pairwise_map]
      refine List.Pairwise.imp_of_mem (fun {x y} hx hy h => ?_) both
      obtain ⟨j, j1, j2⟩ := idx x hx
      obtain ⟨i, i1, i2⟩ := idx y hy
      obtain ⟨h1, h3⟩ := h
      rw [tx j _ _ j1 j2, tx i _ _ i1 i2] at h1
      cases e : ltS x.2.1 y.2.1 with
      | true => rfl
      | false => exact absurd (ltS_tri e h1) h3
    -- behind the sort
    have kF : ∀ b o, b ≠ h'.objs.size → h2.get? b = some o → (sortedHeap h2 h'.objs.size (as.map Value.ref) out.toArray).get? b = some o := fun b o hb e => (PyProof.Rows.sortedHeap_old hb (Heap.lt_size e)).trans e
    have kS : ∀ b o, s.heap.get? b = some o → (sortedHeap h2 h'.objs.size (as.map Value.ref) out.toArray).get? b = some o := fun b o e => kF b o (ne0 _ _ (hk b o e)) (kb b o e)
    obtain ⟨eF, heF⟩ := PyProof.Rows.sortedHeap_at (vs := as.map Value.ref) (out := out.toArray) hob
    have I1 : Inv X pins σ H { s with heap := sortedHeap h2 h'.objs.size (as.map Value.ref) out.toArray, toks := tk } := I.kept (t' := tk) kS
    have hn0 : H h'.objs.size = none := I.hok.fresh (Nat.le_of_lt hlt)
    have hlen : (zs.map fun z => V.ref z.1).length ≤ sizeLine := by
      have e := hperm.length_eq
      rw [List.length_map] at e
      rw [List.length_map]
      omega
    have rv : Vals (zs.map fun z => V.ref z.1) out := by
      rw [← ez]
      exact vals_maps (fun z : Addr × Str × Int => V.ref z.1) (fun z => Value.ref z.1) zs fun _ _ => rfl
    have I2 : Inv X pins σ (upd H h'.objs.size (.lst (zs.map fun z => V.ref z.1))) { s with heap := sortedHeap h2 h'.objs.size (as.map Value.ref) out.toArray, toks := tk } :=
      I1.take (h' := sortedHeap h2 h'.objs.size (as.map Value.ref) out.toArray) (t' := tk) (fun b ob _ e => e) (I.fpOk (Nat.le_of_lt hlt) hn0) ⟨hlen, out, eF, rv, heF⟩
    obtain ⟨H2, I3, g, qt⟩ := DX.takeT (P := fun b vs => ∃ (j : Nat) (e : Str × Int), as[j]? = some b ∧ ks[j]? = some e ∧ vs = [.str e.1, .int e.2]) I as _ I2 nd fun b hb => by
      obtain ⟨j, hj⟩ := List.mem_iff_getElem?.mp hb
      obtain ⟨e, t, u, he, hg⟩ := pr j b hj
      have hbl : s.heap.objs.size ≤ b := Nat.le_of_lt (hG.above b hb)
      refine ⟨hbl, ?_, [.str e.1, .int e.2], ⟨j, e, hj, he, rfl⟩, fun H3 => ⟨(by rw [sizeLine_eq]; show 2 ≤ 16777216; omega), [Value.str e.1 t, Value.int e.2 u], .cons ⟨t, rfl⟩ (.cons ⟨u, rfl⟩ .nil), ⟨_, kF _ _ (ne0 _ _ hg) (ka _ _ hg), rfl, 0, rfl⟩⟩⟩
      rw [upd_ne (ne0 _ _ hg)]
      exact I.hok.fresh hbl
    have gr : ∀ b o, H b = some o → H2 b = some o := fun b o e => g b o (by rw [upd_ne (ne_of_none e hn0)]; exact e)
    refine ⟨.ref h'.objs.size, H2, I3, rfl, q H2 h'.objs.size zs gr hn0 hperm hsort (g _ _ upd_same) fun z' hz' => ?_⟩
    obtain ⟨i, i1, i2⟩ := idx z' hz'
    refine ⟨I.hok.fresh (Nat.le_of_lt (hG.above _ (List.mem_of_getElem? i1))), ?_⟩
    obtain ⟨vs, ⟨j, e, j1, j2, ev⟩, hH⟩ := qt z'.1 (List.mem_of_getElem? i1)
    have eij : i = j := (List.getElem?_inj (List.getElem?_eq_some_iff.mp i1).1 nd).mp (i1.trans j1.symm)
    subst eij
    have ee : e = z'.2 := Option.some.inj (j2.symm.trans i2)
    rw [ev, ee] at hH
    exact hH
end
end WkI
set_option Elab.async false
set_option linter.all false
set_option maxRecDepth 100000
set_option maxHeartbeats 4000000
/-! The program's own: the words of a table, and how a beginning goes on. -/
namespace LB
open PySem L2 Wk
open Bg (Bg Wo)
theorem _root_.L2.Same.tp {K : PySem.W.Frag} {H H' : Hp} {a : Addr} {xs : List V} (e : Same H H') (h : SqT K H a xs) : SqT K H' a xs := by
  rcases h with (h | ⟨o, h⟩) | h
  · exact .inl (.inl (e _ _ h))
  · exact .inl (.inr ⟨o, e _ _ h⟩)
  · exact .inr h
theorem same_new {H : Hp} {a : Addr} {x : HO} (n : H a = none) : Same H (upd H a x) := fun b o e => by
  rw [upd_ne (ne_of_none e n)]
  exact e
/-! ### the words of a table -/
def enumW (f : Nat → Wo) (l : List Str) : List (Str × Wo) := l.zipIdx.map fun e => (e.1, f e.2)
theorem enumW_snoc (f : Nat → Wo) {l : List Str} {i : Nat} {x : Str} (h : l[i]? = some x) : enumW f (l.take (i + 1)) = enumW f (l.take i) ++ [(x, f i)] := by
  have il := (List.getElem?_eq_some_iff.mp h).1
  unfold enumW
  rw [List.take_add_one, h, List.zipIdx_append, List.map_append]
  have e : (l.take i).length = i := by
    rw [List.length_take]
    omega
  rw [e]
  show _ ++ [(x, f (0 + i))] = _
  rw [Nat.zero_add]
theorem enumW_fst (f : Nat → Wo) (l : List Str) : (enumW f l).map (·.1) = l := by
  unfold enumW
  rw [List.map_map]
  exact List.zipIdx_map_fst 0 l
theorem enumW_snd (f : Nat → Wo) (l : List Str) : (enumW f l).map (·.2) = (List.range l.length).map f := by
  unfold enumW
  rw [List.map_map, show ((fun e : Str × Wo => e.2) ∘ fun e : Str × Nat => (e.1, f e.2)) = f ∘ Prod.snd from rfl, ← List.map_map, List.zipIdx_map_snd, List.range_eq_range']
theorem enumW_len (f : Nat → Wo) (l : List Str) : (enumW f l).length = l.length := by
  unfold enumW
  rw [List.length_map, List.length_zipIdx]
def voc (ones tens : List Str) (hun : Str) (scales : List Str) : List (Str × Wo) :=
  (hun, .hun) :: (enumW (fun i => .low (i : Int)) ones ++ (enumW (fun i => .low (10 * ((i : Int) + 2))) tens ++ enumW .sc scales))
def entW (e : Str × Wo) : Key × V := (Sum.inr e.1, V.int e.2.val)
def entI (e : Str × Wo) : Str × Int := (e.1, e.2.val)
theorem entW_is (l : List (Str × Wo)) : l.map entW = (l.map entI).map WkI.entS := by
  rw [List.map_map]
  rfl
theorem voc_fst (ones tens : List Str) (hun : Str) (scales : List Str) : (voc ones tens hun scales).map (·.1) = hun :: (ones ++ (tens ++ scales)) := by
  unfold voc
  rw [List.map_cons, List.map_append, List.map_append, enumW_fst, enumW_fst, enumW_fst]
theorem voc_snd {ones tens : List Str} {hun : Str} {scales : List Str} (l1 : ones.length = 20) (l2 : tens.length = 8) : (voc ones tens hun scales).map (·.2) = Bg.all scales.length := by
  unfold voc
  rw [List.map_cons, List.map_append, List.map_append, enumW_snd, enumW_snd, enumW_snd, l1, l2]
  rfl
theorem voc_len (ones tens : List Str) (hun : Str) (scales : List Str) : (voc ones tens hun scales).length = 1 + (ones.length + (tens.length + scales.length)) := by
  rw [← List.length_map (·.1), voc_fst, List.length_cons, List.length_append, List.length_append]
  omega
theorem perm_hun (ones tens : List Str) (hun : Str) (scales : List Str) : (hun :: (ones ++ (tens ++ scales))).Perm (ones ++ (tens ++ hun :: scales)) := by
  have a : (hun :: (tens ++ scales)).Perm (tens ++ hun :: scales) := List.perm_middle.symm
  have b : (hun :: (ones ++ (tens ++ scales))).Perm (ones ++ (hun :: (tens ++ scales))) := List.perm_middle.symm
  exact b.trans (List.Perm.append_left ones a)
theorem val_no {l : List (Str × Wo)} {x : Str} (h : ¬ x ∈ l.map (·.1)) : valV (l.map entW) (Sum.inr x : Key) = none := by
  unfold valV
  rw [List.find?_eq_none.mpr]
  · rfl
  · intro p hp
    obtain ⟨y, hy, rfl⟩ := List.mem_map.mp hp
    simp only [decide_eq_true_eq]
    intro e
    exact h (List.mem_map.mpr ⟨y, hy, Sum.inr.inj e⟩)
/-- one word more in the dict -/
theorem put_word {l : List (Str × Wo)} {x : Str} {o : Wo} (h : ¬ x ∈ l.map (·.1)) : putK (l.map entW) (Sum.inr x : Key) (.int o.val) = (l ++ [(x, o)]).map entW := by
  rw [putK_new _ (val_no h), List.map_append]
  rfl
def spWorths : Sp := fun vs H Q _ => ∃ (t o te sc : Addr) (ones tens : List Str) (hun : Str) (scales : List Str), vs = [.ref t] ∧ TabAt H t ones tens hun scales o te sc ∧ ones.length ≤ 100 ∧ tens.length ≤ 100 ∧ scales.length ≤ 500 ∧
  (ones ++ (tens ++ hun :: scales)).Nodup ∧ ∀ p H', H p = none → Same H H' → H' p = some (.dK ((voc ones tens hun scales).map entW)) → Q (.ref p) H'
section
variable {P : Program} {w : World} {K : PySem.W.Frag} {mg : Str → Option Value} {base : Heap}
theorem str_at {l : List Str} {i : Nat} {y : V} (h : (l.map V.str)[i]? = some y) : ∃ z, l[i]? = some z ∧ y = .str z := by
  rw [List.getElem?_map] at h
  cases q : l[i]? with
  | none =>
    rw [q] at h
    cases h
  | some z =>
    rw [q] at h
    exact ⟨z, rfl, (Option.some.inj h).symm⟩
end
end LB
set_option Elab.async false
set_option linter.all false
set_option maxRecDepth 100000
set_option maxHeartbeats 4000000
/-! The program's own: a word more behind a beginning, all words that may come. -/
namespace LB
open PySem L2 Wk
open Bg (Bg Wo)
/-- the vocabulary in its order, as the program holds it -/
def VocAt (H : Hp) (l : Addr) (vs : List (Addr × Str × Wo)) : Prop := H l = some (.lst (vs.map fun z => V.ref z.1)) ∧ ∀ z ∈ vs, H z.1 = some (.tup [.str z.2.1, .int z.2.2.val])
theorem VocAt.same {H H' : Hp} {l : Addr} {vs : List (Addr × Str × Wo)} (h : VocAt H l vs) (s : Same H H') : VocAt H' l vs := ⟨s _ _ h.1, fun z hz => s _ _ (h.2 z hz)⟩
def ascW (l : List (Str × Wo)) : Prop := l.Pairwise fun e f => WkI.ltS e.1 f.1 = true
def spVocab : Sp := fun vs H Q _ => ∃ (t o te sc : Addr) (ones tens : List Str) (hun : Str) (scales : List Str), vs = [.ref t] ∧ TabAt H t ones tens hun scales o te sc ∧ ones.length ≤ 100 ∧ tens.length ≤ 100 ∧ scales.length ≤ 500 ∧
  (ones ++ (tens ++ hun :: scales)).Nodup ∧ ∀ l vz H', H l = none → Same H H' → VocAt H' l vz → (∀ z ∈ vz, H z.1 = none) → (vz.map (·.2)).Perm (voc ones tens hun scales) → ascW (vz.map (·.2)) → Q (.ref l) H'
def spStart (K : PySem.W.Frag) : Sp := fun vs H Q _ => ∃ (t o te sc : Addr) (ones tens : List Str) (hun : Str) (scales : List Str), vs = [.ref t] ∧ TabAt H t ones tens hun scales o te sc ∧ scales.length ≤ 900 ∧
  ∀ p H', H p = none → Same H H' → SqT K H' p (BgV (Bg.start scales.length)) → Q (.ref p) H'
def spFol (K : PySem.W.Frag) : Sp := fun vs H Q _ => ∃ (p : Addr) (b : Bg) (x : Wo), vs = [.ref p, .int x.val] ∧ SqT K H p (BgV b) ∧ Bg.Ok b ∧ Bg.WOk x ∧
  (Bg.fol b x = none → Q .non H) ∧ ∀ c, Bg.fol b x = some c → ∀ q H', Same H H' → SqT K H' q (BgV c) → Q (.ref q) H'
def stepsOf (b : Bg) (ws : List (Str × Wo)) : List (Str × Bg) := ws.filterMap fun e => (Bg.fol b e.2).map fun c => (e.1, c)
def StAt (K : PySem.W.Frag) (H : Hp) (l : Addr) (cs : List (Addr × Str × Addr × Bg)) : Prop := H l = some (.lst (cs.map fun c => V.ref c.1)) ∧ ∀ c ∈ cs, H c.1 = some (.tup [.str c.2.1, .ref c.2.2.1]) ∧ SqT K H c.2.2.1 (BgV c.2.2.2)
theorem StAt.same {K : PySem.W.Frag} {H H' : Hp} {l : Addr} {cs : List (Addr × Str × Addr × Bg)} (h : StAt K H l cs) (s : Same H H') : StAt K H' l cs := ⟨s _ _ h.1, fun c hc => ⟨s _ _ (h.2 c hc).1, s.tp (h.2 c hc).2⟩⟩
def pairS (c : Addr × Str × Addr × Bg) : Str × Bg := (c.2.1, c.2.2.2)
def spSteps (K : PySem.W.Frag) : Sp := fun vs H Q _ => ∃ (p : Addr) (b : Bg) (l : Addr) (vz : List (Addr × Str × Wo)), vs = [.ref p, .ref l] ∧ SqT K H p (BgV b) ∧ Bg.Ok b ∧ VocAt H l vz ∧ vz.length ≤ 1000 ∧ (∀ z ∈ vz, Bg.WOk z.2.2) ∧
  ∀ q cs H', H q = none → Same H H' → StAt K H' q cs → cs.map pairS = stepsOf b (vz.map (·.2)) → Q (.ref q) H'
theorem limit_W (scales : List Str) : limitOf scales = Bg.W (scales.length + 1) := by
  rw [Bg.W_succ]
  rfl
/-- a tuple of beginnings under a list that grows -/
theorem _root_.L2.SqT.grow {K : PySem.W.Frag} {H : Hp} {a l : Addr} {xs ys zs : List V} (h : SqT K H a xs) (hl : H l = some (.lst ys)) : SqT K (upd H l (.lst zs)) a xs := by
  have ne : ∀ o, H a = some o → (∀ w, o ≠ .lst w) → a ≠ l := fun o e n z => by
    rw [z, hl] at e
    cases e
    exact n ys rfl
  rcases h with (h | ⟨o, h⟩) | h
  · exact .inl (.inl (by rw [upd_ne (ne _ h fun w z => by cases z)]; exact h))
  · exact .inl (.inr ⟨o, by rw [upd_ne (ne _ h fun w z => by cases z)]; exact h⟩)
  · exact .inr h
section
variable {P : Program} {w : World} {K : PySem.W.Frag} {mg : Str → Option Value} {base : Heap}
theorem int_dec {a b : Int} : decide (V.int a = V.int b) = decide (a = b) := decide_eq_decide.mpr ⟨fun z => V.int.inj z, fun z => by rw [z]⟩
theorem stepsOf_snoc (b : Bg) (l : List (Str × Wo)) (x : Str × Wo) : stepsOf b (l ++ [x]) = stepsOf b l ++ (match Bg.fol b x.2 with | none => [] | some c => [(x.1, c)]) := by
  unfold stepsOf
  rw [List.filterMap_append]
  congr 1
  cases h : Bg.fol b x.2 with
  | none => simp [h]
  | some c => simp [h]
end
end LB
set_option Elab.async false
set_option linter.all false
set_option maxRecDepth 100000
set_option maxHeartbeats 4000000
/-! The words of a number, as a list of worths. -/
namespace Bg
/-- the group of three digits at place i -/
def gr (n : Int) (i : Nat) : Int := n / W i % 1000
theorem gr_bnd (n : Int) (i : Nat) : 0 ≤ gr n i ∧ gr n i ≤ 999 := by
  unfold gr
  have := Int.emod_nonneg (n / W i) (show (1000 : Int) ≠ 0 by decide)
  have := Int.emod_lt_of_pos (n / W i) (show (0 : Int) < 1000 by decide)
  omega
theorem div_succ (n : Int) (i : Nat) : n / W i / 1000 = n / W (i + 1) := by
  rw [W_succ, Int.mul_comm, Int.ediv_ediv_of_nonneg (Int.le_of_lt (W_pos i))]
def groupW (g : Int) : List Wo := (if g / 100 > 0 then [.low (g / 100), .hun] else []) ++ (if g % 100 ≥ 20 then .low (10 * (g % 100 / 10)) :: (if g % 100 % 10 > 0 then [.low (g % 100 % 10)] else []) else if g % 100 > 0 then [.low (g % 100)] else [])
/-- the words of the group at place i -/
def partW (n : Int) (i : Nat) : List Wo := if gr n i > 0 then groupW (gr n i) ++ (if i > 0 then [.sc (i - 1)] else []) else []
/-- the words of the k lowest groups, the highest first -/
def spW (n : Int) : Nat → List Wo
  | 0 => []
  | k + 1 => partW n k ++ spW n k
def nameW (n : Int) (k : Nat) : List Wo := if n = 0 then [.low 0] else spW n k
theorem div_zero {n : Int} {i j : Nat} (h0 : 0 ≤ n) (h : n < W i) (hj : i ≤ j) : n / W j = 0 := Int.ediv_eq_zero_of_lt h0 (Int.lt_of_lt_of_le h (W_le hj))
theorem spW_top {n : Int} {i : Nat} (h0 : 0 ≤ n) (h : n < W i) : ∀ k, spW n (i + k) = spW n i
  | 0 => rfl
  | k + 1 => by
    show partW n (i + k) ++ spW n (i + k) = spW n i
    rw [spW_top h0 h k]
    unfold partW gr
    rw [div_zero h0 h (Nat.le_add_right i k)]
    rfl
theorem spW_any {n : Int} {i k : Nat} (h0 : 0 ≤ n) (h : n < W i) (hk : i ≤ k) : spW n k = spW n i := by
  obtain ⟨d, rfl⟩ := Nat.exists_eq_add_of_le hk
  exact spW_top h0 h d
/-- what the program has put together behind j groups from the highest one -/
def accW (n : Int) (i : Nat) : Nat → List Wo
  | 0 => []
  | j + 1 => accW n i j ++ partW n (i - 1 - j)
theorem accW_spW (n : Int) (i : Nat) : ∀ j, j ≤ i → accW n i j ++ spW n (i - j) = spW n i
  | 0, _ => rfl
  | j + 1, h => by
    have e : i - j = (i - 1 - j) + 1 := by omega
    have ih := accW_spW n i j (by omega)
    rw [e] at ih
    show (accW n i j ++ partW n (i - 1 - j)) ++ spW n (i - (j + 1)) = _
    rw [show i - (j + 1) = i - 1 - j by omega, List.append_assoc]
    exact ih
theorem accW_all (n : Int) (i : Nat) : accW n i i = spW n i := by
  have h := accW_spW n i i (Nat.le_refl _)
  rw [Nat.sub_self] at h
  show accW n i i = _
  rw [← h]
  show _ = accW n i i ++ []
  rw [List.append_nil]
theorem groupW_len {g : Int} : (groupW g).length ≤ 4 := by
  unfold groupW
  rw [List.length_append]
  have a : (if g / 100 > 0 then [Wo.low (g / 100), Wo.hun] else []).length ≤ 2 := by split <;> simp
  have b : (if g % 100 ≥ 20 then Wo.low (10 * (g % 100 / 10)) :: (if g % 100 % 10 > 0 then [Wo.low (g % 100 % 10)] else []) else if g % 100 > 0 then [Wo.low (g % 100)] else []).length ≤ 2 := by
    repeat' split
    all_goals simp
  omega
theorem partW_len (n : Int) (i : Nat) : (partW n i).length ≤ 5 := by
  unfold partW
  split
  · rw [List.length_append]
    have := @groupW_len (gr n i)
    have b : (if i > 0 then [Wo.sc (i - 1)] else []).length ≤ 1 := by split <;> simp
    omega
  · simp
theorem accW_len (n : Int) (i : Nat) : ∀ j, (accW n i j).length ≤ 5 * j
  | 0 => Nat.le_refl _
  | j + 1 => by
    show (accW n i j ++ partW n (i - 1 - j)).length ≤ _
    rw [List.length_append]
    have := accW_len n i j
    have := partW_len n (i - 1 - j)
    omega
end Bg
set_option Elab.async false
set_option linter.all false
set_option maxRecDepth 100000
set_option maxHeartbeats 4000000
/-! The program's own: the words of a number. -/
namespace LB
open PySem L2 Wk
open Bg (Bg Wo)
def wd (ones tens : List Str) (hun : Str) (scales : List Str) : Wo → Str
  | .low n => if n < 20 then (ones[n.toNat]?).getD hun else (tens[(n / 10 - 2).toNat]?).getD hun
  | .hun => hun
  | .sc i => (scales[i]?).getD hun
theorem wd_one {ones tens : List Str} {hun : Str} {scales : List Str} {n : Int} (l : ones.length = 20) (h0 : 0 ≤ n) (h1 : n < 20) : atI (ones.map V.str) n = some (.str (wd ones tens hun scales (.low n))) := by
  obtain ⟨k, rfl⟩ : ∃ k : Nat, n = (k : Int) := ⟨n.toNat, by omega⟩
  have hk : k < ones.length := by omega
  refine atI_nat ?_
  unfold wd
  simp only
  rw [if_pos h1, Int.toNat_natCast, List.getElem?_map, List.getElem?_eq_getElem hk]
  rfl
theorem wd_ten {ones tens : List Str} {hun : Str} {scales : List Str} {k : Int} (l : tens.length = 8) (h0 : 2 ≤ k) (h1 : k ≤ 9) : atI (tens.map V.str) (k - 2) = some (.str (wd ones tens hun scales (.low (10 * k)))) := by
  obtain ⟨j, hj⟩ : ∃ j : Nat, k - 2 = (j : Int) := ⟨(k - 2).toNat, by omega⟩
  have hk : j < tens.length := by omega
  rw [hj]
  refine atI_nat ?_
  unfold wd
  simp only
  rw [if_neg (by omega), show 10 * k / 10 - 2 = (j : Int) by omega, Int.toNat_natCast, List.getElem?_map, List.getElem?_eq_getElem hk]
  rfl
theorem wd_sc {ones tens : List Str} {hun : Str} {scales : List Str} {i : Nat} (h : i < scales.length) : atI (scales.map V.str) (i : Int) = some (.str (wd ones tens hun scales (.sc i))) := by
  refine atI_nat ?_
  unfold wd
  simp only
  rw [List.getElem?_map, List.getElem?_eq_getElem h]
  rfl
def spGroups : Sp := fun vs H Q _ => ∃ (n : Int) (k : Nat), vs = [.int n] ∧ 0 ≤ n ∧ n < Bg.W k ∧ k ≤ 100 ∧
  ∀ (p : Addr) (i : Nat) (H' : Hp), H p = none → Same H H' → i ≤ k → n < Bg.W i → (0 < i → Bg.W (i - 1) ≤ n) → H' p = some (.lst ((List.range i).map fun j => V.int (Bg.gr n j))) → Q (.ref p) H'
def spGW : Sp := fun vs H Q _ => ∃ (t o te sc : Addr) (ones tens : List Str) (hun : Str) (scales : List Str) (g : Int), vs = [.ref t, .int g] ∧ TabAt H t ones tens hun scales o te sc ∧ ones.length = 20 ∧ tens.length = 8 ∧ 0 ≤ g ∧ g ≤ 999 ∧
  ∀ p H', H p = none → Same H H' → H' p = some (.lst (((Bg.groupW g).map (wd ones tens hun scales)).map V.str)) → Q (.ref p) H'
def spSpelled : Sp := fun vs H Q _ => ∃ (t o te sc : Addr) (ones tens : List Str) (hun : Str) (scales : List Str) (n : Int), vs = [.ref t, .int n] ∧ TabAt H t ones tens hun scales o te sc ∧ ones.length = 20 ∧ tens.length = 8 ∧ scales.length ≤ 90 ∧
  0 ≤ n ∧ n < Bg.W (scales.length + 1) ∧ ∀ p H', H p = none → Same H H' → H' p = some (.lst (((Bg.nameW n (scales.length + 1)).map (wd ones tens hun scales)).map V.str)) → Q (.ref p) H'
section
variable {P : Program} {w : World} {K : PySem.W.Frag} {mg : Str → Option Value} {base : Heap}
theorem scGroups : FnScope ["number", "groups", "rest", "group"] ["number"] (defScope sGroupsOf) := ⟨rfl, rfl, rfl, by decide +kernel, rfl, by decide +kernel, by decide +kernel⟩
theorem ok_groups {f : Addr} {fd : FuncData} (F : Fun K "groups_of" "groups_of" sGroupsOf f fd) (mD : mg "divmod" = none) : FnOk P w K mg base CX0 1 f fd ["number"] spGroups := by
  refine F.ok scGroups (fun vs H Q E h => ?_) (fun cdv A outer s H vs Q E hr h => ?_)
  · obtain ⟨n, k, rfl, _⟩ := h
    rfl
  · obtain ⟨n, k, rfl, n0, n1, hk, kk⟩ := h
    refine ⟨_, pss_cons (ps_set (i := 1) scGroups.nd rfl (.inl rfl) (pe_lst pa_nil))
      (pss_cons (ps_set (i := 2) scGroups.nd rfl (.inl rfl) (pv 0))
      (pss_cons (ps_while PassesOwn.never (pt_cmpR op_gt (pv 2) pe_int (nomark _))
        (pss_cons (ps_asg (pe_callB call_divmod (by rfl) mD (by decide +kernel) (pa_cons (pv 2) (pa_cons pe_int pa_nil))) (pg_tup (by rfl) (pgs_cons (pg_name (i := 2) scGroups.nd rfl (.inl rfl)) (pgs_cons (pg_name (i := 3) scGroups.nd rfl (.inl rfl)) pgs_nil))))
        (pss_one (ps_expr (pe_bm PySem.F.plainAttrs_list PySem.F.slot_list_append PySem.F.type_list_append mt_append (pv 1) (pa_cons (pv 3) pa_nil))))))
      (pss_one (ps_ret (pv 1))))), ?_⟩
    refine ⟨Nat.zero_le _, fun p np => ⟨_, rfl, ?_⟩⟩
    have big : 1000 < sizeLine := by decide
    refine while_by (fun σ G => ∃ (i : Nat) (x : Option V), σ = [some (.int n), some (.ref p), some (.int (n / Bg.W i)), x] ∧ i ≤ k ∧ (0 < i → Bg.W (i - 1) ≤ n) ∧ Same H G ∧ G p = some (.lst ((List.range i).map fun j => V.int (Bg.gr n j))))
      (fun σ _ => match σ with | [_, _, some (.int x), _] => x.toNat | _ => 0) ⟨0, none, ?_, Nat.zero_le _, fun h => absurd h (by decide), same_new np, upd_same⟩ ?_ ?_
    · rw [show Bg.W 0 = 1 from rfl, Int.ediv_one]
      rfl
    · rintro σ G ⟨i, x, rfl, ik, wi, s1, hp⟩
      refine ⟨_, rfl, _, _, rfl, rfl, _, rfl, ite2 (fun c => ?_) (fun c => ?_)⟩
      · have pos : n / Bg.W i > 0 := of_decide_eq_true c
        have wn : Bg.W i ≤ n := by
          rcases Int.lt_or_le n (Bg.W i) with z | z
          · rw [Int.ediv_eq_zero_of_lt n0 z] at pos
            omega
          · exact z
        have ik' : i < k := by
          rcases Nat.lt_or_ge i k with z | z
          · exact z
          · have := Bg.W_le z
            omega
        refine ⟨_, rfl, _, _, rfl, ⟨by decide, by decide⟩, fun T nT => ⟨T, _, rfl, SqT.of upd_same, rfl, _, _, rfl, _, _, rfl, rfl, ?_⟩⟩
        have s2 : Same G (upd G T (.tup [.int (n / Bg.W i / 1000), .int (n / Bg.W i % 1000)])) := same_new nT
        refine ⟨_, rfl, .inl ⟨rfl, _, SqL.of (s2 _ _ hp)⟩, _, rfl, p, _, _, rfl, rfl, s2 _ _ hp, ?_, ⟨i + 1, some (.int (n / Bg.W i % 1000)), by rw [← Bg.div_succ]; rfl, ik', fun _ => wn, fun b o e => ?_, ?_⟩, ?_⟩
        · rw [List.length_map, List.length_range]
          omega
        · rw [upd_ne (ne_of_none e np)]
          exact s2 _ _ (s1 _ _ e)
        · rw [upd_same, List.range_succ, List.map_append]
          rfl
        · show (n / Bg.W i / 1000).toNat < (n / Bg.W i).toNat
          omega
      · have zero : ¬ n / Bg.W i > 0 := fun z => c (decide_eq_true z)
        have lt : n < Bg.W i := by
          rcases Int.lt_or_le n (Bg.W i) with z | z
          · exact z
          · have : 1 ≤ n / Bg.W i := (Int.le_ediv_iff_mul_le (Bg.W_pos i)).mpr (by omega)
            omega
        exact ⟨_, rfl, kk p i G np s1 ik lt wi hp⟩
    · rintro σ G Q1 Q2 m ⟨x1, h1, i, j, hi, hj, y, hy, q⟩
      exact ⟨x1, h1, i, j, hi, hj, y, hy, m _ _ q⟩
theorem scGW : FnScope ["table", "group", "ones", "tens", "hundred", "_", "words", "hundreds", "ending"] ["table", "group"] (defScope sGroupWords) := ⟨rfl, rfl, rfl, by decide +kernel, rfl, by decide +kernel, by decide +kernel⟩
theorem ok_groupWords {f : Addr} {fd : FuncData} (F : Fun K "_group_words" "_group_words" sGroupWords f fd) (mD : mg "divmod" = none) : FnOk P w K mg base CX0 1 f fd ["table", "group"] spGW := by
  refine F.ok scGW (fun vs H Q E h => ?_) (fun cdv A outer s H vs Q E hr h => ?_)
  · obtain ⟨t, o, te, sc, ones, tens, hun, scales, g, rfl, _⟩ := h
    rfl
  · obtain ⟨t, o, te, sc, ones, tens, hun, scales, g, rfl, TA, l1, l2, g0, g1, k⟩ := h
    refine ⟨_, pss_cons (ps_asg (pv 0) (pg_tup (by rfl) (pgs_cons (pg_name (i := 2) scGW.nd rfl (.inl rfl)) (pgs_cons (pg_name (i := 3) scGW.nd rfl (.inl rfl)) (pgs_cons (pg_name (i := 4) scGW.nd rfl (.inl rfl)) (pgs_cons (pg_name (i := 5) scGW.nd rfl (.inl rfl)) pgs_nil))))))
      (pss_cons (ps_set (i := 6) scGW.nd rfl (.inl rfl) (pe_lst pa_nil))
      (pss_cons (ps_asg (pe_callB call_divmod (by rfl) mD (by decide +kernel) (pa_cons (pv 1) (pa_cons pe_int pa_nil))) (pg_tup (by rfl) (pgs_cons (pg_name (i := 7) scGW.nd rfl (.inl rfl)) (pgs_cons (pg_name (i := 8) scGW.nd rfl (.inl rfl)) pgs_nil))))
      (pss_mid (ps_if (pt_cmpR op_gt (pv 7) pe_int (nomark _))
        (pss_cons (ps_expr (pe_bm PySem.F.plainAttrs_list PySem.F.slot_list_append PySem.F.type_list_append mt_append (pv 6) (pa_cons (pe_ix ix_list (pv 2) (pv 7) (fun _ _ => rfl)) pa_nil)))
        (pss_one (ps_expr (pe_bm PySem.F.plainAttrs_list PySem.F.slot_list_append PySem.F.type_list_append mt_append (pv 6) (pa_cons (pv 4) pa_nil))))) pss_nil)
      (pss_mid (ps_if (pt_cmpR op_ge (pv 8) pe_int (nomark _))
        (pss_cons (ps_expr (pe_bm PySem.F.plainAttrs_list PySem.F.slot_list_append PySem.F.type_list_append mt_append (pv 6) (pa_cons (pe_ix ix_list (pv 3) (pe_op op_sub (pe_op op_fdiv (pv 8) pe_int) pe_int) (fun _ _ => rfl)) pa_nil)))
        (pss_one (ps_set (i := 8) scGW.nd rfl (.inl rfl) (pe_op op_mod (pv 8) pe_int)))) pss_nil)
      (pss_mid (ps_if (pt_cmpR op_gt (pv 8) pe_int (nomark _))
        (pss_one (ps_expr (pe_bm PySem.F.plainAttrs_list PySem.F.slot_list_append PySem.F.type_list_append mt_append (pv 6) (pa_cons (pe_ix ix_list (pv 2) (pv 8) (fun _ _ => rfl)) pa_nil)))) pss_nil)
      (pss_one (ps_ret (pv 6)))))))), ?_⟩
    refine ⟨_, rfl, t, _, rfl, SqT.of TA.tup, rfl, _, _, rfl, _, _, rfl, _, _, rfl, _, _, rfl, rfl, ?_⟩
    refine ⟨Nat.zero_le _, fun p np => ?_⟩
    have s1 : Same H (upd H p (.lst [])) := same_new np
    refine ⟨_, rfl, _, _, rfl, ⟨by decide, by decide⟩, fun T nT => ⟨T, _, rfl, SqT.of upd_same, rfl, _, _, rfl, _, _, rfl, rfl, ?_⟩⟩
    have s2 := s1.trans (same_new (x := .tup [.int (g / 100), .int (g % 100)]) nT)
    have pT : p ≠ T := ne_of_none upd_same nT
    have big : 10 < sizeLine := by decide
    generalize hw : wd ones tens hun scales = f at k
    have f1 : ∀ {n : Int}, 0 ≤ n → n < 20 → atI (ones.map V.str) n = some (.str (f (.low n))) := fun h0 h1 => by rw [← hw]; exact wd_one l1 h0 h1
    have f2 : ∀ {k : Int}, 2 ≤ k → k ≤ 9 → atI (tens.map V.str) (k - 2) = some (.str (f (.low (10 * k)))) := fun h0 h1 => by rw [← hw]; exact wd_ten l2 h0 h1
    have f3 : hun = f .hun := by rw [← hw]; rfl
    -- the state: what p holds
    let St : List Wo → Int → L2.St → Hp → Prop := fun ws e τ G => τ = [some (.ref t), some (.int g), some (.ref o), some (.ref te), some (.str hun), some (.ref sc), some (.ref p), some (.int (g / 100)), some (.int e)] ∧ G p = some (.lst ((ws.map f).map V.str)) ∧ Same H G
    have put : ∀ {ws : List Wo} {G : Hp} {x : Wo}, G p = some (.lst ((ws.map f).map V.str)) → Same H G → (upd G p (.lst ((ws.map f).map V.str ++ [.str (f x)]))) p = some (.lst (((ws ++ [x]).map f).map V.str)) ∧ Same H (upd G p (.lst ((ws.map f).map V.str ++ [.str (f x)]))) := fun {ws G x} h s => by
      refine ⟨?_, fun b o e => ?_⟩
      · rw [upd_same, List.map_append, List.map_append]
        rfl
      · rw [upd_ne (ne_of_none e np)]
        exact s _ _ e
    refine ⟨St (if g / 100 > 0 then [.low (g / 100), .hun] else []) (g % 100), ?_, ?_⟩
    · refine ⟨_, rfl, _, _, rfl, rfl, _, rfl, ite2 (fun c => ?_) (fun c => ?_)⟩
      · have c' : g / 100 > 0 := of_decide_eq_true c
        have hp0 : upd (upd H p (.lst [])) T (.tup [.int (g / 100), .int (g % 100)]) p = some (.lst ((([] : List Wo).map f).map V.str)) := by
          rw [upd_ne pT, upd_same]
          rfl
        obtain ⟨p1, p2⟩ := put (x := .low (g / 100)) hp0 s2
        refine ⟨_, rfl, .inl ⟨rfl, _, SqL.of hp0⟩, _, rfl, _, rfl, o, _, _, _, rfl, rfl, SqL.of (s2 _ _ TA.lo), f1 (by omega) (by omega), p, _, _, rfl, rfl, hp0, by show 0 < sizeLine; omega, ?_⟩
        obtain ⟨p3, p4⟩ := put (x := .hun) p1 p2
        refine ⟨_, rfl, .inl ⟨rfl, _, SqL.of p1⟩, _, rfl, p, _, _, rfl, rfl, p1, by show 1 < sizeLine; omega, rfl, ?_, ?_⟩
        · rw [if_pos c']
          rw [f3]
          exact p3
        · rw [f3]
          exact p4
      · have c' : ¬ g / 100 > 0 := fun z => c (decide_eq_true z)
        refine ⟨rfl, ?_, s2⟩
        rw [if_neg c', upd_ne pT, upd_same]
        rfl
    rintro τ G ⟨rfl, hp1, s3⟩
    refine ⟨St ((if g / 100 > 0 then [.low (g / 100), .hun] else []) ++ (if g % 100 ≥ 20 then [.low (10 * (g % 100 / 10))] else [])) (if g % 100 ≥ 20 then g % 100 % 10 else g % 100), ?_, ?_⟩
    · refine ⟨_, rfl, _, _, rfl, rfl, _, rfl, ite2 (fun c => ?_) (fun c => ?_)⟩
      · have c' : g % 100 ≥ 20 := of_decide_eq_true c
        obtain ⟨p1, p2⟩ := put (x := .low (10 * (g % 100 / 10))) hp1 s3
        refine ⟨_, rfl, .inl ⟨rfl, _, SqL.of hp1⟩, _, rfl, _, rfl, _, _, rfl, rfl, ⟨by decide, by decide⟩, _, _, rfl, rfl, te, _, _, _, rfl, rfl, SqL.of (s3 _ _ TA.lt), f2 (by omega) (by omega), p, _, _, rfl, rfl, hp1, ?_, ?_⟩
        · rw [List.length_map, List.length_map]
          split <;> (show _ < sizeLine; simp; omega)
        · refine ⟨_, rfl, _, _, rfl, rfl, (by show (0 : Int) < 10; decide), ?_, ?_, ?_⟩
          · rw [if_pos c']
            rfl
          · rw [if_pos c']
            exact p1
          · exact p2
      · have c' : ¬ g % 100 ≥ 20 := fun z => c (decide_eq_true z)
        refine ⟨?_, ?_, s3⟩
        · rw [if_neg c']
        · rw [if_neg c', List.append_nil]
          exact hp1
    rintro τ G2 ⟨rfl, hp2, s4⟩
    have whole : Bg.groupW g = ((if g / 100 > 0 then [.low (g / 100), .hun] else []) ++ (if g % 100 ≥ 20 then [.low (10 * (g % 100 / 10))] else [])) ++ (if (if g % 100 ≥ 20 then g % 100 % 10 else g % 100) > 0 then [.low (if g % 100 ≥ 20 then g % 100 % 10 else g % 100)] else []) := by
      unfold Bg.groupW
      rw [List.append_assoc]
      congr 1
      by_cases z : g % 100 ≥ 20
      · rw [if_pos z, if_pos z, if_pos z]
        rfl
      · rw [if_neg z, if_neg z, if_neg z]
        rfl
    refine ⟨St (Bg.groupW g) (if g % 100 ≥ 20 then g % 100 % 10 else g % 100), ?_, ?_⟩
    · generalize he : (if g % 100 ≥ 20 then g % 100 % 10 else g % 100) = e at hp2 whole ⊢
      have e1 : 0 ≤ e ∧ e < 20 := by
        rw [← he]
        split <;> omega
      refine ⟨_, rfl, _, _, rfl, rfl, _, rfl, ite2 (fun c => ?_) (fun c => ?_)⟩
      · have c' : e > 0 := of_decide_eq_true c
        obtain ⟨p1, p2⟩ := put (x := .low e) hp2 s4
        refine ⟨_, rfl, .inl ⟨rfl, _, SqL.of hp2⟩, _, rfl, _, rfl, o, _, _, _, rfl, rfl, SqL.of (s4 _ _ TA.lo), f1 e1.1 e1.2, p, _, _, rfl, rfl, hp2, ?_, rfl, ?_, p2⟩
        · rw [List.length_map, List.length_map, List.length_append]
          have a1 : (if g / 100 > 0 then [Wo.low (g / 100), Wo.hun] else []).length ≤ 2 := by split <;> simp
          have a2 : (if g % 100 ≥ 20 then [Wo.low (10 * (g % 100 / 10))] else []).length ≤ 1 := by split <;> simp
          omega
        · rw [whole, if_pos c']
          exact p1
      · have c' : ¬ e > 0 := fun z => c (decide_eq_true z)
        refine ⟨rfl, ?_, s4⟩
        rw [whole, if_neg c', List.append_nil]
        exact hp2
    rintro τ G3 ⟨rfl, hp3, s5⟩
    exact ⟨_, rfl, k p G3 np s5 hp3⟩
theorem scSpelled : FnScope ["table", "number", "ones", "_", "scales", "groups", "words", "at"] ["table", "number"] (defScope sSpelled) := ⟨rfl, rfl, rfl, by decide +kernel, rfl, by decide +kernel, by decide +kernel⟩
theorem ok_spelled {f fG fW : Addr} {fd dG dW : FuncData} (F : Fun K "spelled" "spelled" sSpelled f fd) (DG : Def1 P w K mg base "groups_of" 1 fG dG ["number"] spGroups) (DW : Def1 P w K mg base "_group_words" 1 fW dW ["table", "group"] spGW)
    (mR : mg "reversed" = none) (mN : mg "range" = none) (mL : mg "len" = none) : FnOk P w K mg base CX0 2 f fd ["table", "number"] spSpelled := by
  refine F.ok scSpelled (fun vs H Q E h => ?_) (fun cdv A outer s H vs Q E hr h => ?_)
  · obtain ⟨t, o, te, sc, ones, tens, hun, scales, n, rfl, _⟩ := h
    rfl
  · obtain ⟨t, o, te, sc, ones, tens, hun, scales, n, rfl, TA, l1, l2, l3, n0, n1, k⟩ := h
    refine ⟨_, pss_cons (ps_asg (pv 0) (pg_tup (by rfl) (pgs_cons (pg_name (i := 2) scSpelled.nd rfl (.inl rfl)) (pgs_cons (pg_name (i := 3) scSpelled.nd rfl (.inl rfl)) (pgs_cons (pg_name (i := 3) scSpelled.nd rfl (.inl rfl)) (pgs_cons (pg_name (i := 4) scSpelled.nd rfl (.inl rfl)) pgs_nil))))))
      (pss_cons (ps_if (pt_cmpR op_eq (pv 1) pe_int (nomark _)) (pss_one (ps_ret (pe_lst (pa_cons (pe_ix ix_list (pv 2) pe_int (fun _ _ => rfl)) pa_nil)))) pss_nil)
      (pss_cons (ps_set (i := 5) scSpelled.nd rfl (.inl rfl) (pe_call DG.ok hr (by rfl) DG.g DG.k DG.b .nil pass0 (pa_cons (pv 1) pa_nil)))
      (pss_cons (ps_set (i := 6) scSpelled.nd rfl (.inl rfl) (pe_lst pa_nil))
      (pss_cons (ps_for PassesOwn.never rfl (pi_revR rfl mR (prg_1 rfl mN (pe_callB call_len_seq (by rfl) mL PySem.boot_len (pa_cons (pv 5) pa_nil)))) (pg_name (i := 7) scSpelled.nd rfl (.inl rfl))
        (pss_one (ps_if (pt_cmpR op_gt (pe_ix ix_list (pv 5) (pv 7) (fun _ _ => rfl)) pe_int (nomark _))
          (pss_cons (ps_expr (pe_bm PySem.F.plainAttrs_list PySem.F.slot_list_extend PySem.F.type_list_extend mt_extend (pv 6) (pa_cons (pe_call DW.ok hr (by rfl) DW.g DW.k DW.b .nil pass0 (pa_cons (pv 0) (pa_cons (pe_ix ix_list (pv 5) (pv 7) (fun _ _ => rfl)) pa_nil))) pa_nil)))
          (pss_one (ps_if (pt_cmpR op_gt (pv 7) pe_int (nomark _)) (pss_one (ps_expr (pe_bm PySem.F.plainAttrs_list PySem.F.slot_list_append PySem.F.type_list_append mt_append (pv 6) (pa_cons (pe_ix ix_list (pv 4) (pe_op op_sub (pv 7) pe_int) (fun _ _ => rfl)) pa_nil)))) pss_nil)))
          pss_nil)))
      (pss_one (ps_ret (pv 6))))))), ?_⟩
    refine ⟨_, rfl, t, _, rfl, SqT.of TA.tup, rfl, _, _, rfl, _, _, rfl, _, _, rfl, _, _, rfl, rfl, ?_⟩
    have big : 1000 < sizeLine := by decide
    refine ⟨_, rfl, rfl, _, rfl, ite2 (fun c => ?_) (fun c => ?_)⟩
    · have e : n = 0 := V.int.inj (of_decide_eq_true c)
      refine ⟨_, rfl, o, _, _, _, rfl, rfl, SqL.of TA.lo, wd_one (tens := tens) (hun := hun) (scales := scales) l1 (Int.le_refl 0) (by decide), by show 1 ≤ sizeLine; omega, fun p np => k p _ np (same_new np) ?_⟩
      rw [upd_same, e]
      rfl
    have hn : n ≠ 0 := fun z => c (decide_eq_true (by rw [z]))
    refine ⟨_, rfl, n, scales.length + 1, rfl, n0, n1, by omega, fun q i H1 nq s1 il hi1 hi2 hq => ?_⟩
    refine ⟨Nat.zero_le _, fun p np => ?_⟩
    have s2 : Same H1 (upd H1 p (.lst [])) := same_new np
    refine ⟨_, rfl, q, _, rfl, .inl (SqL.of (s2 _ _ hq)), _, rfl, ?_⟩
    rw [List.length_map, List.length_range]
    have n_i : ((i : Int) - 0).toNat = i := by omega
    refine ⟨by omega, by omega, by omega, by omega, ?_⟩
    generalize hw : wd ones tens hun scales = f at k
    have pq : p ≠ q := (ne_of_none hq np).symm
    refine for_rangeC (lo := 0 + ((((i : Int) - 0).toNat : Nat) : Int) - 1) (c := -1) (n := ((i : Int) - 0).toNat) (fun j σ G => ∃ x : Option V, σ = [some (.ref t), some (.int n), some (.ref o), some (.str hun), some (.ref sc), some (.ref q), some (.ref p), x] ∧ Same H1 G ∧ G p = some (.lst (((Bg.accW n i j).map f).map V.str))) ⟨none, rfl, s2, upd_same⟩ ?_ ?_
    · rintro j σ G ji ⟨x, rfl, s3, hp⟩
      rw [n_i] at ji
      have ea : (0 + ((((i : Int) - 0).toNat : Nat) : Int) - 1 + (j : Nat) * (-1) : Int) = ((i - 1 - j : Nat) : Int) := by omega
      rw [ea]
      generalize hm : i - 1 - j = m
      have mi : m < i := by omega
      have at_ : atI ((List.range i).map fun j => V.int (Bg.gr n j)) (m : Int) = some (.int (Bg.gr n m)) := atI_nat (by rw [List.getElem?_map, List.getElem?_range mi]; rfl)
      obtain ⟨g0, g9⟩ := Bg.gr_bnd n m
      have la := Bg.accW_len n i j
      refine ⟨_, rfl, _, rfl, q, _, _, _, rfl, rfl, SqL.of (s3 _ _ hq), at_, _, _, rfl, rfl, _, rfl, ite2 (fun c1 => ?_) (fun c1 => ?_)⟩
      · have c1' : Bg.gr n m > 0 := of_decide_eq_true c1
        have TA3 : TabAt G t ones tens hun scales o te sc := ⟨s3 _ _ (s1 _ _ TA.tup), s3 _ _ (s1 _ _ TA.lo), s3 _ _ (s1 _ _ TA.lt), s3 _ _ (s1 _ _ TA.ls)⟩
        refine ⟨_, rfl, .inl ⟨rfl, _, SqL.of hp⟩, _, rfl, _, rfl, _, rfl, q, _, _, _, rfl, rfl, SqL.of (s3 _ _ hq), at_, t, o, te, sc, ones, tens, hun, scales, _, rfl, TA3, l1, l2, g0, g9, fun z G2 nz s4 hz => ?_⟩
        rw [hw] at hz
        have lg := @Bg.groupW_len (Bg.gr n m)
        refine ⟨p, z, _, _, rfl, rfl, s4 _ _ hp, hz, by rw [List.length_map, List.length_map, List.length_map, List.length_map]; omega, ?_⟩
        have s5 : ∀ {ys : List V}, Same H1 (upd G2 p (.lst ys)) := fun b o e => by
          rw [upd_ne (ne_of_none e np)]
          exact s4 _ _ (s3 _ _ e)
        have part : Bg.accW n i (j + 1) = Bg.accW n i j ++ (Bg.groupW (Bg.gr n m) ++ (if m > 0 then [.sc (m - 1)] else [])) := by
          show Bg.accW n i j ++ Bg.partW n (i - 1 - j) = _
          rw [hm]
          unfold Bg.partW
          rw [if_pos c1']
        refine ⟨_, rfl, _, _, rfl, rfl, _, rfl, ite2 (fun c2 => ?_) (fun c2 => ?_)⟩
        · have c2' : (m : Int) > 0 := of_decide_eq_true c2
          have em : (m : Int) - 1 = ((m - 1 : Nat) : Int) := by omega
          have ls3 : upd G2 p (.lst (((Bg.accW n i j).map f).map V.str ++ ((Bg.groupW (Bg.gr n m)).map f).map V.str)) sc = some (.lst (scales.map V.str)) := s5 _ _ (s1 _ _ TA.ls)
          refine ⟨_, rfl, .inl ⟨rfl, _, SqL.of upd_same⟩, _, rfl, _, rfl, _, _, rfl, rfl, sc, _, _, _, rfl, rfl, SqL.of ls3, by rw [em]; exact wd_sc (ones := ones) (tens := tens) (hun := hun) (by omega), p, _, _, rfl, rfl, upd_same, ?_, ?_⟩
          · rw [List.length_append, List.length_map, List.length_map, List.length_map, List.length_map]
            omega
          · refine ⟨_, rfl, fun b o e => ?_, ?_⟩
            · rw [upd_ne (ne_of_none e np)]
              exact s5 _ _ e
            · rw [upd_same, part, if_pos (by omega), hw]
              simp only [List.map_append, List.append_assoc]
              rfl
        · have c2' : ¬ (m : Int) > 0 := fun z => c2 (decide_eq_true z)
          refine ⟨_, rfl, s5, ?_⟩
          rw [upd_same, part, if_neg (by omega), List.append_nil, List.map_append, List.map_append]
      · have c1' : ¬ Bg.gr n m > 0 := fun z => c1 (decide_eq_true z)
        refine ⟨_, rfl, s3, ?_⟩
        rw [hp]
        show _ = some (HO.lst (((Bg.accW n i j ++ Bg.partW n (i - 1 - j)).map f).map V.str))
        rw [hm]
        unfold Bg.partW
        rw [if_neg c1', List.append_nil]
    · rintro σ G ⟨x, rfl, s3, hp⟩
      refine ⟨_, rfl, k p G (s1.free np) (s1.trans s3) ?_⟩
      rw [hp, n_i, Bg.accW_all]
      unfold Bg.nameW
      rw [if_neg hn, Bg.spW_any n0 hi1 il]
end
end LB
set_option Elab.async false
set_option linter.all false
set_option maxRecDepth 100000
set_option maxHeartbeats 4000000
/-! The program's own: the place of a number, the number at a place. -/
namespace LB
open PySem L2 Wk
open Bg (Bg Wo)
def cfS (F : Int → Int) (e : Str × Bg) : Int := Bg.cf F e.2
/-- the step to the word x: the beginning behind it, or the same one if no step has it -/
def nxt (st : List (Str × Bg)) (b : Bg) (x : Str) : Bg := match st.find? fun e => decide (e.1 = x) with
  | some e => e.2
  | none => b
/-- the place that the program counts -/
def plc (F : Int → Int) (ws : List (Str × Wo)) : Bg → List Str → Int → Int
  | _, [], acc => acc
  | b, x :: xs, acc => plc F ws (nxt (stepsOf b ws) b x) xs (acc + Bg.own F b + Bg.sumL (cfS F) ((stepsOf b ws).takeWhile fun e => decide (e.1 ≠ x)))
/-- the program finds r at the place left behind b -/
inductive NumAt (F : Int → Int) (ws : List (Str × Wo)) : Bg → Int → Int → Prop
  | own {b : Bg} : Bg.own F b = 1 → NumAt F ws b 0 (b.t + b.g)
  | step {b c : Bg} {x : Str} {left r : Int} {pre post : List (Str × Bg)} : stepsOf b ws = pre ++ (x, c) :: post → 0 ≤ left - Bg.own F b - Bg.sumL (cfS F) pre → left - Bg.own F b - Bg.sumL (cfS F) pre < Bg.cf F c →
      NumAt F ws c (left - Bg.own F b - Bg.sumL (cfS F) pre) r → NumAt F ws b left r
theorem steps_sum (F : Int → Int) (b : Bg) : ∀ ws : List (Str × Wo), Bg.sumL (cfS F) (stepsOf b ws) = Bg.sumL (fun e => Bg.cfo F b e.2) ws
  | [] => rfl
  | e :: ws => by
    have ih := steps_sum F b ws
    unfold stepsOf at ih ⊢
    show Bg.sumL (cfS F) (List.filterMap _ (e :: ws)) = Bg.cfo F b e.2 + Bg.sumL (fun e => Bg.cfo F b e.2) ws
    rw [List.filterMap_cons]
    cases h : Bg.fol b e.2 with
    | none =>
      simp only [Option.map_none]
      rw [ih]
      unfold Bg.cfo
      rw [h]
      simp
    | some c =>
      simp only [Option.map_some]
      show cfS F (e.1, c) + _ = _
      rw [ih]
      congr 1
      unfold Bg.cfo
      rw [h]
      rfl
theorem steps_count {F : Int → Int} {b : Bg} {ws : List (Str × Wo)} {k : Nat} (ok : Bg.Ok b) (hm : b.m ≤ k + 1) (hw : (ws.map (·.2)).Perm (Bg.all k)) : Bg.cf F b = Bg.own F b + Bg.sumL (cfS F) (stepsOf b ws) := by
  rw [steps_sum, Bg.count ok hm, ← Bg.sumL_perm _ hw, Bg.sumL_map]
theorem steps_mem {b : Bg} {ws : List (Str × Wo)} {e : Str × Bg} (h : e ∈ stepsOf b ws) : ∃ x, (e.1, x) ∈ ws ∧ Bg.fol b x = some e.2 := by
  obtain ⟨y, hy, he⟩ := List.mem_filterMap.mp h
  cases q : Bg.fol b y.2 with
  | none =>
    rw [q] at he
    cases he
  | some c =>
    rw [q] at he
    cases he
    exact ⟨y.2, hy, q⟩
theorem take_while_next {α : Type} {p : α → Bool} {l : List α} {i : Nat} {x : α} (h : l[i]? = some x) (hb : ∀ y ∈ l.take i, p y = true) (hx : p x = false) : l.takeWhile p = l.take i := by
  obtain ⟨hi, e⟩ := List.getElem?_eq_some_iff.mp h
  have z := List.take_append_drop i l
  rw [List.drop_eq_getElem_cons hi, e] at z
  conv => lhs; rw [← z]
  rw [List.takeWhile_append_of_pos hb, List.takeWhile_cons_of_neg (by simp [hx]), List.append_nil]
theorem take_while_all {α : Type} {p : α → Bool} {l : List α} (hb : ∀ y ∈ l, p y = true) : l.takeWhile p = l := by
  have := List.takeWhile_append_of_pos (l₂ := []) hb
  simpa using this
theorem find_next {α : Type} {p : α → Bool} {l : List α} {i : Nat} {x : α} (h : l[i]? = some x) (hb : ∀ y ∈ l.take i, p y = false) (hx : p x = true) : l.find? p = some x := by
  obtain ⟨hi, e⟩ := List.getElem?_eq_some_iff.mp h
  have z := List.take_append_drop i l
  rw [List.drop_eq_getElem_cons hi, e] at z
  rw [← z, List.find?_append, List.find?_eq_none.mpr (fun y hy => by simp [hb y hy]), List.find?_cons_of_pos hx]
  rfl
/-- the table, valid, with its words -/
structure Tbl (H : Hp) (t : Addr) (ones tens : List Str) (hun : Str) (scales : List Str) (o te sc : Addr) : Prop where
  at_ : TabAt H t ones tens hun scales o te sc
  l1 : ones.length = 20
  l2 : tens.length = 8
  l3 : scales.length ≤ 90
  nd : (ones ++ (tens ++ hun :: scales)).Nodup
theorem Tbl.same {H H' : Hp} {t : Addr} {ones tens : List Str} {hun : Str} {scales : List Str} {o te sc : Addr} (T : Tbl H t ones tens hun scales o te sc) (s : Same H H') : Tbl H' t ones tens hun scales o te sc :=
  ⟨⟨s _ _ T.at_.tup, s _ _ T.at_.lo, s _ _ T.at_.lt, s _ _ T.at_.ls⟩, T.l1, T.l2, T.l3, T.nd⟩
def spPlaceW : Sp := fun vs H Q _ => ∃ (t o te sc : Addr) (ones tens : List Str) (hun : Str) (scales : List Str) (n lo hi : Int), vs = [.ref t, .int n, .int lo, .int hi] ∧ Tbl H t ones tens hun scales o te sc ∧
  0 ≤ n ∧ n < Bg.W (scales.length + 1) ∧ lo ≤ hi ∧ ∀ ws H', Same H H' → ws.Perm (voc ones tens hun scales) → ascW ws →
    Q (.int (plc (Bg.fb lo hi) ws (Bg.start scales.length) ((Bg.nameW n (scales.length + 1)).map (wd ones tens hun scales)) 0)) H'
def spNumW : Sp := fun vs H Q _ => ∃ (t o te sc : Addr) (ones tens : List Str) (hun : Str) (scales : List Str) (n lo hi : Int), vs = [.ref t, .int n, .int lo, .int hi] ∧ Tbl H t ones tens hun scales o te sc ∧
  0 ≤ lo ∧ lo ≤ hi ∧ hi < Bg.W (scales.length + 1) ∧ 0 ≤ n ∧ n ≤ hi - lo ∧ ∀ ws r H', Same H H' → ws.Perm (voc ones tens hun scales) → ascW ws → NumAt (Bg.fb lo hi) ws (Bg.start scales.length) n r → Q (.int r) H'
section
variable {P : Program} {w : World} {K : PySem.W.Frag} {mg : Str → Option Value} {base : Heap}
theorem cs_get {cs : List (Addr × Str × Addr × Bg)} {i : Nat} {y : V} (h : (cs.map fun c => V.ref c.1)[i]? = some y) : ∃ c, cs[i]? = some c ∧ y = .ref c.1 := by
  rw [List.getElem?_map] at h
  cases q : cs[i]? with
  | none =>
    rw [q] at h
    cases h
  | some c =>
    rw [q] at h
    exact ⟨c, rfl, (Option.some.inj h).symm⟩
end
end LB
set_option Elab.async false
set_option linter.all false
set_option maxRecDepth 100000
set_option maxHeartbeats 4000000
/-! Names as paths of beginnings. -/
namespace Bg
def folL : Bg → List Wo → Option Bg
  | b, [] => some b
  | b, x :: xs => (fol b x).bind fun c => folL c xs
theorem folL_app : ∀ (a : List Wo) (b : Bg) (c : List Wo), folL b (a ++ c) = (folL b a).bind fun d => folL d c
  | [], _, _ => rfl
  | x :: a, b, c => by
    show (fol b x).bind (fun d => folL d (a ++ c)) = ((fol b x).bind fun d => folL d a).bind fun d => folL d c
    cases fol b x with
    | none => rfl
    | some d => exact folL_app a d c
theorem folL_one {b c : Bg} {x : Wo} (h : fol b x = some c) (xs : List Wo) : folL b (x :: xs) = folL c xs := by
  show (fol b x).bind (fun d => folL d xs) = _
  rw [h]
  rfl
theorem fol_dig {t g r : Int} {m : Nat} {n : Int} (h1 : 0 < n) (h2 : n < 10) (hr : r ≥ 10) : fol ⟨t, g, r, m⟩ (.low n) = some ⟨t, g + n, 1, m⟩ := by
  unfold fol
  simp only
  rw [if_neg (by omega), if_neg (by omega), if_pos hr]
theorem fol_ten {t g : Int} {m : Nat} {n : Int} (h1 : 10 ≤ n) : fol ⟨t, g, 100, m⟩ (.low n) = some ⟨t, g + n, if n ≥ 20 then 10 else 1, m⟩ := by
  unfold fol
  simp only
  rw [if_neg (by omega), if_pos h1, if_pos trivial]
theorem fol_hun {t g r : Int} {m : Nat} (h1 : 0 < g) (h2 : g < 10) : fol ⟨t, g, r, m⟩ .hun = some ⟨t, g * 100, 100, m⟩ := by
  unfold fol
  simp only
  rw [if_pos ⟨h1, h2⟩]
theorem fol_sc {t g r : Int} {m i : Nat} (h1 : 0 < g) (h2 : i + 1 < m) : fol ⟨t, g, r, m⟩ (.sc i) = some ⟨t + g * W (i + 1), 0, 100, i + 1⟩ := by
  unfold fol
  simp only
  rw [if_pos ⟨h1, h2⟩]
theorem group_path {t g : Int} {m : Nat} (h1 : 1 ≤ g) (h2 : g ≤ 999) : ∃ r, folL ⟨t, 0, 100, m⟩ (groupW g) = some ⟨t, g, r, m⟩ := by
  unfold groupW
  rw [folL_app]
  have hd : folL ⟨t, 0, 100, m⟩ (if g / 100 > 0 then [.low (g / 100), .hun] else []) = some ⟨t, 100 * (g / 100), 100, m⟩ := by
    by_cases c : g / 100 > 0
    · rw [if_pos c, folL_one (fol_dig (by omega) (by omega) (by omega)), folL_one (fol_hun (by omega) (by omega))]
      show some _ = some _
      congr 2
      omega
    · rw [if_neg c, show g / 100 = 0 by omega]
      rfl
  rw [hd]
  show ∃ r, folL ⟨t, 100 * (g / 100), 100, m⟩ _ = _
  by_cases c : g % 100 ≥ 20
  · rw [if_pos c, folL_one (fol_ten (by omega)), if_pos (by omega)]
    by_cases d : g % 100 % 10 > 0
    · rw [if_pos d, folL_one (fol_dig (by omega) (by omega) (by omega))]
      refine ⟨1, ?_⟩
      show some _ = some _
      congr 2
      omega
    · rw [if_neg d]
      refine ⟨10, ?_⟩
      show some _ = some _
      congr 2
      omega
  · rw [if_neg c]
    by_cases d : g % 100 > 0
    · rw [if_pos d]
      by_cases e : 10 ≤ g % 100
      · rw [folL_one (fol_ten e), if_neg (by omega)]
        refine ⟨1, ?_⟩
        show some _ = some _
        congr 2
        omega
      · rw [folL_one (fol_dig (by omega) (by omega) (by omega))]
        refine ⟨1, ?_⟩
        show some _ = some _
        congr 2
        omega
    · rw [if_neg d]
      refine ⟨100, ?_⟩
      show some _ = some _
      congr 2
      omega
theorem mod_succ (n : Int) (k : Nat) : n % W (k + 1) = gr n k * W k + n % W k := by
  have p := W_pos k
  unfold gr
  have e1 := Int.emod_add_mul_ediv n (W k)
  have e2 := Int.emod_add_mul_ediv (n / W k) 1000
  have e3 := Int.emod_add_mul_ediv n (W (k + 1))
  rw [div_succ] at e2
  rw [W_succ] at e3 ⊢
  have b1 := Int.emod_nonneg (n / W k) (show (1000 : Int) ≠ 0 by decide)
  -- n = n % W + W * (n / W); n / W = r + 1000 * q
  rw [W_succ] at e2
  have : W k * (n / W k) = W k * (n / W k % 1000) + 1000 * W k * (n / (1000 * W k)) := by
    conv => lhs; rw [← e2]
    rw [Int.mul_add, ← Int.mul_assoc, Int.mul_comm (W k) 1000]
  rw [Int.mul_comm (n / W k % 1000) (W k)]
  omega
theorem sp_path (n : Int) : ∀ (k : Nat) (t : Int) (m : Nat), k ≤ m → ∃ c, folL ⟨t, 0, 100, m⟩ (spW n k) = some c ∧ c.t + c.g = t + n % W k
  | 0, t, m, _ => ⟨_, rfl, by show t + 0 = t + n % 1; omega⟩
  | k + 1, t, m, h => by
    have gb := gr_bnd n k
    rw [mod_succ]
    show ∃ c, folL ⟨t, 0, 100, m⟩ (partW n k ++ spW n k) = some c ∧ _
    rw [folL_app]
    unfold partW
    by_cases c : gr n k > 0
    · rw [if_pos c, folL_app]
      obtain ⟨r, hr⟩ := group_path (t := t) (m := m) (show 1 ≤ gr n k by omega) gb.2
      rw [hr]
      by_cases d : k > 0
      · rw [if_pos d]
        obtain ⟨j, rfl⟩ : ∃ j, k = j + 1 := ⟨k - 1, by omega⟩
        show ∃ c, (folL ⟨t, gr n (j + 1), r, m⟩ [.sc (j + 1 - 1)]).bind (fun d => folL d (spW n (j + 1))) = some c ∧ _
        rw [Nat.add_sub_cancel, folL_one (fol_sc c (by omega))]
        obtain ⟨c', h1, h2⟩ := sp_path n (j + 1) (t + gr n (j + 1) * W (j + 1)) (j + 1) (Nat.le_refl _)
        exact ⟨c', h1, by omega⟩
      · have e : k = 0 := by omega
        subst e
        rw [if_neg (by decide)]
        refine ⟨_, rfl, ?_⟩
        show t + gr n 0 = t + (gr n 0 * 1 + n % 1)
        omega
    · rw [if_neg c]
      have z : gr n k = 0 := by omega
      obtain ⟨c', h1, h2⟩ := sp_path n k t m (by omega)
      refine ⟨c', h1, ?_⟩
      rw [h2, z, Int.zero_mul, Int.zero_add]
theorem name_path {n : Int} {k : Nat} (h0 : 0 ≤ n) (h1 : n < W (k + 1)) : ∃ c, folL (start k) (nameW n (k + 1)) = some c ∧ has c = true ∧ c.t + c.g = n := by
  unfold nameW
  by_cases z : n = 0
  · rw [if_pos z]
    refine ⟨zero, rfl, rfl, ?_⟩
    rw [z]
    rfl
  · rw [if_neg z]
    obtain ⟨c, h2, h3⟩ := sp_path n (k + 1) 0 (k + 1) (Nat.le_refl _)
    rw [Int.emod_eq_of_lt h0 h1, Int.zero_add] at h3
    refine ⟨c, h2, ?_, h3⟩
    unfold has
    rw [decide_eq_true (show c.t + c.g > 0 by omega)]
    rfl
/-! ### the words of names are words of the table -/
theorem low_all {k : Nat} {n : Int} (h0 : 0 ≤ n) (h1 : n < 20) : Wo.low n ∈ all k := by
  refine List.mem_cons_of_mem _ (List.mem_append_left _ (List.mem_map.mpr ⟨n.toNat, List.mem_range.mpr (by omega), ?_⟩))
  congr 1
  omega
theorem ten_all {k : Nat} {n : Int} (h0 : 2 ≤ n) (h1 : n ≤ 9) : Wo.low (10 * n) ∈ all k := by
  refine List.mem_cons_of_mem _ (List.mem_append_right _ (List.mem_append_left _ (List.mem_map.mpr ⟨(n - 2).toNat, List.mem_range.mpr (by omega), ?_⟩)))
  congr 1
  omega
theorem sc_all {k i : Nat} (h : i < k) : Wo.sc i ∈ all k := List.mem_cons_of_mem _ (List.mem_append_right _ (List.mem_append_right _ (List.mem_map.mpr ⟨i, List.mem_range.mpr h, rfl⟩)))
theorem group_all {k : Nat} {g : Int} (h1 : 0 ≤ g) (h2 : g ≤ 999) : ∀ x ∈ groupW g, x ∈ all k := by
  intro x hx
  unfold groupW at hx
  rcases List.mem_append.mp hx with hx | hx
  · split at hx
    · rcases List.mem_cons.mp hx with rfl | hx
      · exact low_all (by omega) (by omega)
      · rw [List.mem_singleton.mp hx]
        exact List.mem_cons_self
    · cases hx
  · split at hx
    · rcases List.mem_cons.mp hx with rfl | hx
      · exact ten_all (by omega) (by omega)
      · split at hx
        · rw [List.mem_singleton.mp hx]
          exact low_all (by omega) (by omega)
        · cases hx
    · split at hx
      · rw [List.mem_singleton.mp hx]
        exact low_all (by omega) (by omega)
      · cases hx
theorem sp_all {n : Int} {k : Nat} : ∀ i, i ≤ k + 1 → ∀ x ∈ spW n i, x ∈ all k
  | 0, _, x, hx => nomatch hx
  | i + 1, h, x, hx => by
    rcases List.mem_append.mp (show x ∈ partW n i ++ spW n i from hx) with hx | hx
    · have gb := gr_bnd n i
      unfold partW at hx
      split at hx
      · rcases List.mem_append.mp hx with hx | hx
        · exact group_all gb.1 gb.2 x hx
        · split at hx
          · rw [List.mem_singleton.mp hx]
            exact sc_all (by omega)
          · cases hx
      · cases hx
    · exact sp_all i (by omega) x hx
theorem name_all {n : Int} {k : Nat} : ∀ x ∈ nameW n (k + 1), x ∈ all k := by
  intro x hx
  unfold nameW at hx
  split at hx
  · rw [List.mem_singleton.mp hx]
    exact low_all (by decide) (by decide)
  · exact sp_all (k + 1) (Nat.le_refl _) x hx
/-! ### one number alone -/
theorem one_own {m : Int} {b : Bg} : own (fb m m) b = if has b = true ∧ b.t + b.g = m then 1 else 0 := by
  unfold own
  cases has b with
  | false => simp
  | true =>
    rw [if_pos rfl, fb_one (Int.le_refl m)]
    by_cases c : b.t + b.g = m
    · rw [if_pos (by omega), if_pos ⟨rfl, c⟩]
    · rw [if_neg (by omega), if_neg (by simp [c])]
/-- ends of sums of numbers that are not negative -/
theorem sumL_ge {α : Type} {f : α → Int} : ∀ {l : List α}, (∀ x ∈ l, 0 ≤ f x) → ∀ x ∈ l, f x ≤ sumL f l
  | y :: l, h, x, hx => by
    have h0 := h y List.mem_cons_self
    have hl := sumL_nonneg l fun z hz => h z (List.mem_cons_of_mem _ hz)
    show f x ≤ f y + sumL f l
    rcases List.mem_cons.mp hx with rfl | hx
    · omega
    · have := sumL_ge (fun z hz => h z (List.mem_cons_of_mem _ hz)) x hx
      omega
theorem cf_add (F G : Int → Int) (b : Bg) : cf (fun x => F x + G x) b = cf F b + cf G b := by
  unfold cf
  split
  · dsimp only
    omega
  · rw [← sumR_add]
    refine sumR_congr b.m fun j _ => ?_
    unfold cj
    simp only
    split <;> omega
theorem own_add (F G : Int → Int) (b : Bg) : own (fun x => F x + G x) b = own F b + own G b := by
  unfold own
  split
  · dsimp only
    omega
  · rfl
/-- the numbers of a range, one by one -/
theorem fb_sum (lo : Int) (n : Nat) : (fun x => fb lo (lo + (n : Int) - 1) x) = fun x => sumR (fun i => fb (lo + (i : Int)) (lo + (i : Int)) x) n := by
  funext x
  induction n with
  | zero =>
    show fb lo (lo + 0 - 1) x = 0
    unfold fb mx mn
    repeat' split
    all_goals omega
  | succ n ih =>
    show _ = sumR (fun i => fb (lo + (i : Int)) (lo + (i : Int)) x) n + fb (lo + (n : Int)) (lo + (n : Int)) x
    rw [← ih]
    unfold fb mx mn
    repeat' split
    all_goals omega
end Bg
set_option Elab.async false
set_option linter.all false
set_option maxRecDepth 100000
set_option maxHeartbeats 4000000
/-! Places are what the order of the names says. -/
namespace LB
open PySem L2 Wk
open Bg (Bg Wo)
/-- the order of names as lists of words -/
def ltL : List Str → List Str → Bool
  | _, [] => false
  | [], _ :: _ => true
  | a :: as, b :: bs => if WkI.ltS a b = true then true else if a = b then ltL as bs else false
theorem ltS_irrefl (x : Str) : WkI.ltS x x = false := decide_eq_false (List.lt_irrefl _)
theorem ltS_asym {x y : Str} (h : WkI.ltS x y = true) : WkI.ltS y x = false := (WkI.swoS (fun x : Str => x)).asym x y h
theorem ltS_trans {x y z : Str} (h1 : WkI.ltS x y = true) (h2 : WkI.ltS y z = true) : WkI.ltS x z = true := (WkI.swoS (fun x : Str => x)).ltle h1 (ltS_asym h2)
theorem ltL_irrefl : ∀ a : List Str, ltL a a = false
  | [] => rfl
  | x :: a => by
    show (if WkI.ltS x x = true then true else if x = x then ltL a a else false) = false
    rw [ltS_irrefl, if_neg Bool.false_ne_true, if_pos rfl, ltL_irrefl a]
theorem ltL_asym : ∀ {a b : List Str}, ltL a b = true → ltL b a = false
  | [], [], h => nomatch h
  | [], _ :: _, _ => rfl
  | _ :: _, [], h => nomatch h
  | x :: a, y :: b, h => by
    have h' : (if WkI.ltS x y = true then true else if x = y then ltL a b else false) = true := h
    show (if WkI.ltS y x = true then true else if y = x then ltL b a else false) = false
    by_cases c : WkI.ltS x y = true
    · rw [ltS_asym c, if_neg Bool.false_ne_true, if_neg]
      intro e
      rw [e, ltS_irrefl] at c
      cases c
    · rw [if_neg c] at h'
      by_cases d : x = y
      · subst d
        rw [if_pos rfl] at h'
        rw [if_neg c, if_pos rfl, ltL_asym h']
      · rw [if_neg d] at h'
        cases h'
theorem ltL_trans : ∀ {a b c : List Str}, ltL a b = true → ltL b c = true → ltL a c = true
  | a, [], _, h, _ => by
    have z : ltL a [] = false := by cases a <;> rfl
    rw [z] at h
    cases h
  | _, _ :: _, [], _, h => nomatch h
  | [], _ :: _, _ :: _, _, _ => rfl
  | x :: a, y :: b, z :: c, h1, h2 => by
    have h1' : (if WkI.ltS x y = true then true else if x = y then ltL a b else false) = true := h1
    have h2' : (if WkI.ltS y z = true then true else if y = z then ltL b c else false) = true := h2
    show (if WkI.ltS x z = true then true else if x = z then ltL a c else false) = true
    by_cases c1 : WkI.ltS x y = true
    · by_cases c2 : WkI.ltS y z = true
      · rw [if_pos (ltS_trans c1 c2)]
      · rw [if_neg c2] at h2'
        by_cases d : y = z
        · subst d
          rw [if_pos c1]
        · rw [if_neg d] at h2'
          cases h2'
    · rw [if_neg c1] at h1'
      by_cases d : x = y
      · subst d
        rw [if_pos rfl] at h1'
        by_cases c2 : WkI.ltS x z = true
        · rw [if_pos c2]
        · rw [if_neg c2] at h2' ⊢
          by_cases e : x = z
          · subst e
            rw [if_pos rfl] at h2' ⊢
            exact ltL_trans h1' h2'
          · rw [if_neg e] at h2'
            cases h2'
      · rw [if_neg d] at h1'
        cases h1'
theorem ltL_tri : ∀ {a b : List Str}, ltL a b = false → ltL b a = false → a = b
  | [], [], _, _ => rfl
  | [], _ :: _, h, _ => nomatch h
  | _ :: _, [], _, h => nomatch h
  | x :: a, y :: b, h1, h2 => by
    have h1' : (if WkI.ltS x y = true then true else if x = y then ltL a b else false) = false := h1
    have h2' : (if WkI.ltS y x = true then true else if y = x then ltL b a else false) = false := h2
    by_cases c1 : WkI.ltS x y = true
    · rw [if_pos c1] at h1'
      cases h1'
    · by_cases c2 : WkI.ltS y x = true
      · rw [if_pos c2] at h2'
        cases h2'
      · have e : x = y := WkI.ltS_tri (by simpa using c1) (by simpa using c2)
        subst e
        rw [if_neg c1, if_pos rfl] at h1'
        rw [if_neg c2, if_pos rfl] at h2'
        rw [ltL_tri h1' h2']
/-- a table's words, in their order, each once -/
structure Voc (ones tens : List Str) (hun : Str) (scales : List Str) (ws : List (Str × Wo)) : Prop where
  perm : ws.Perm (voc ones tens hun scales)
  asc : ascW ws
  l1 : ones.length = 20
  l2 : tens.length = 8
  nd : (ones ++ (tens ++ hun :: scales)).Nodup
section
variable {ones tens : List Str} {hun : Str} {scales : List Str} {ws : List (Str × Wo)}
theorem voc_wd (l1 : ones.length = 20) (l2 : tens.length = 8) : ∀ e ∈ voc ones tens hun scales, e.1 = wd ones tens hun scales e.2 := by
  have get : ∀ {f : Nat → Wo} {l : List Str} {e : Str × Wo}, e ∈ enumW f l → ∃ i : Nat, l[i]? = some e.1 ∧ e.2 = f i := by
    intro f l e he
    unfold enumW at he
    obtain ⟨y, hy, rfl⟩ := List.mem_map.mp he
    have := List.mem_zipIdx_iff_getElem?.mp hy
    exact ⟨y.2, this, rfl⟩
  intro e he
  unfold voc at he
  rcases List.mem_cons.mp he with rfl | he
  · rfl
  rcases List.mem_append.mp he with he | he
  · obtain ⟨i, hi, e2⟩ := get he
    have := (List.getElem?_eq_some_iff.mp hi).1
    rw [e2]
    unfold wd
    simp only
    rw [if_pos (by omega), Int.toNat_natCast, hi]
    rfl
  rcases List.mem_append.mp he with he | he
  · obtain ⟨i, hi, e2⟩ := get he
    have := (List.getElem?_eq_some_iff.mp hi).1
    rw [e2]
    unfold wd
    simp only
    rw [if_neg (by omega), show 10 * ((i : Int) + 2) / 10 - 2 = (i : Int) by omega, Int.toNat_natCast, hi]
    rfl
  · obtain ⟨i, hi, e2⟩ := get he
    rw [e2]
    unfold wd
    simp only
    rw [hi]
    rfl
theorem Voc.mem (V : Voc ones tens hun scales ws) {x : Wo} (h : x ∈ Bg.all scales.length) : (wd ones tens hun scales x, x) ∈ ws := by
  rw [← voc_snd (hun := hun) (scales := scales) V.l1 V.l2] at h
  obtain ⟨e, he, rfl⟩ := List.mem_map.mp h
  have e1 := voc_wd V.l1 V.l2 e he
  rw [← e1]
  exact V.perm.mem_iff.mpr he
theorem Voc.all (V : Voc ones tens hun scales ws) : (ws.map (·.2)).Perm (Bg.all scales.length) := by
  have := V.perm.map (·.2)
  rw [voc_snd V.l1 V.l2] at this
  exact this
theorem Voc.word (V : Voc ones tens hun scales ws) {e : Str × Wo} (h : e ∈ ws) : e.1 = wd ones tens hun scales e.2 ∧ e.2 ∈ Bg.all scales.length :=
  ⟨voc_wd V.l1 V.l2 e (V.perm.mem_iff.mp h), V.all.mem_iff.mp (List.mem_map.mpr ⟨e, h, rfl⟩)⟩
theorem Voc.inj (V : Voc ones tens hun scales ws) {x y : Wo} (hx : x ∈ Bg.all scales.length) (hy : y ∈ Bg.all scales.length) (h : wd ones tens hun scales x = wd ones tens hun scales y) : x = y := by
  have a := V.mem hx
  have b := V.mem hy
  rw [h] at a
  have key : ∀ {l : List (Str × Wo)}, ascW l → ∀ {w : Str} {p q : Wo}, (w, p) ∈ l → (w, q) ∈ l → p = q := by
    intro l
    induction l with
    | nil => intro _ _ _ _ h; cases h
    | cons e l ih =>
      intro asc w p q h1 h2
      obtain ⟨hd, tl⟩ := List.pairwise_cons.mp asc
      rcases List.mem_cons.mp h1 with e1 | e1
      · rcases List.mem_cons.mp h2 with e2 | e2
        · rw [← e2] at e1
          exact congrArg Prod.snd e1
        · have := hd _ e2
          rw [← e1, ltS_irrefl] at this
          cases this
      · rcases List.mem_cons.mp h2 with e2 | e2
        · have := hd _ e1
          rw [← e2, ltS_irrefl] at this
          cases this
        · exact ih tl e1 e2
  exact key V.asc a b
theorem steps_asc (b : Bg) : ∀ {l : List (Str × Wo)}, ascW l → (stepsOf b l).Pairwise fun e f => WkI.ltS e.1 f.1 = true
  | [], _ => List.Pairwise.nil
  | e :: l, h => by
    obtain ⟨hd, tl⟩ := List.pairwise_cons.mp h
    have ih := steps_asc b tl
    have c : stepsOf b (e :: l) = (match Bg.fol b e.2 with | none => [] | some c => [(e.1, c)]) ++ stepsOf b l := by
      show List.filterMap _ (e :: l) = _
      rw [List.filterMap_cons]
      cases Bg.fol b e.2 with
      | none => rfl
      | some c => rfl
    rw [c]
    cases Bg.fol b e.2 with
    | none => exact ih
    | some c =>
      refine List.pairwise_cons.mpr ⟨fun f hf => ?_, ih⟩
      obtain ⟨x, hx, _⟩ := steps_mem hf
      exact hd _ hx
theorem steps_of_mem {b c : Bg} {l : List (Str × Wo)} {w : Str} {x : Wo} (h : (w, x) ∈ l) (hf : Bg.fol b x = some c) : (w, c) ∈ stepsOf b l :=
  List.mem_filterMap.mpr ⟨(w, x), h, by rw [hf]; rfl⟩
/-- a split of the ascending steps at a word -/
theorem split_at {st : List (Str × Bg)} {w : Str} {c : Bg} (asc : st.Pairwise fun e f => WkI.ltS e.1 f.1 = true) (h : (w, c) ∈ st) :
    ∃ pre post, st = pre ++ (w, c) :: post ∧ st.takeWhile (fun e => decide (e.1 ≠ w)) = pre ∧ (∀ b, nxt st b w = c) ∧ (∀ e ∈ pre, WkI.ltS e.1 w = true) ∧ ∀ e ∈ post, WkI.ltS w e.1 = true := by
  obtain ⟨pre, post, e⟩ := List.append_of_mem h
  subst e
  obtain ⟨a1, a2, a3⟩ := List.pairwise_append.mp asc
  obtain ⟨b1, b2⟩ := List.pairwise_cons.mp a2
  have p1 : ∀ e ∈ pre, WkI.ltS e.1 w = true := fun e he => a3 e he (w, c) List.mem_cons_self
  have ne : ∀ e ∈ pre, e.1 ≠ w := fun e he z => by
    have := p1 e he
    rw [z, ltS_irrefl] at this
    cases this
  refine ⟨pre, post, rfl, ?_, fun b => ?_, p1, b1⟩
  · rw [List.takeWhile_append_of_pos (fun e he => decide_eq_true (ne e he)), List.takeWhile_cons_of_neg (by simp), List.append_nil]
  · unfold nxt
    rw [List.find?_append, List.find?_eq_none.mpr (fun e he => by simpa using ne e he), List.find?_cons_of_pos (by simp)]
    rfl
/-- the hits of one number m -/
theorem hit_own {b : Bg} {m : Int} {k : Nat} (V : Voc ones tens hun scales ws) (ok : Bg.Ok b) (bm : b.m ≤ scales.length + 1) :
    Bg.cf (Bg.fb m m) b = Bg.own (Bg.fb m m) b + Bg.sumL (cfS (Bg.fb m m)) (stepsOf b ws) := steps_count ok bm V.all
theorem step_ok (V : Voc ones tens hun scales ws) {b : Bg} {e : Str × Bg} (ok : Bg.Ok b) (h : e ∈ stepsOf b ws) : Bg.Ok e.2 ∧ e.2.m ≤ b.m := by
  obtain ⟨x, hx, hf⟩ := steps_mem h
  exact ⟨Bg.fol_ok ok (Bg.all_ok (V.word hx).2) hf, Bg.fol_m hf⟩
theorem step_nneg (V : Voc ones tens hun scales ws) {b : Bg} {lo hi : Int} (ok : Bg.Ok b) : ∀ e ∈ stepsOf b ws, 0 ≤ cfS (Bg.fb lo hi) e := fun e he => Bg.cf_nonneg (step_ok V ok he).1
theorem hit_path (V : Voc ones tens hun scales ws) {m : Int} : ∀ (A : List Wo) {b c : Bg}, Bg.Ok b → b.m ≤ scales.length + 1 → (∀ x ∈ A, x ∈ Bg.all scales.length) → Bg.folL b A = some c → Bg.has c = true → c.t + c.g = m → 1 ≤ Bg.cf (Bg.fb m m) b
  | [], b, c, ok, bm, _, hf, hc, hm => by
    cases hf
    have s := Bg.sumL_nonneg _ (step_nneg V (lo := m) (hi := m) ok)
    have o := Bg.one_own (m := m) (b := b)
    rw [if_pos ⟨hc, hm⟩] at o
    have := hit_own (m := m) (k := 0) V ok bm
    omega
  | x :: A, b, c, ok, bm, hA, hf, hc, hm => by
    have hf' : (Bg.fol b x).bind (fun d => Bg.folL d A) = some c := hf
    cases hx : Bg.fol b x with
    | none =>
      rw [hx] at hf'
      cases hf'
    | some d =>
      rw [hx] at hf'
      have xa := hA x List.mem_cons_self
      have okd := Bg.fol_ok ok (Bg.all_ok xa) hx
      have ih := hit_path V A okd (Nat.le_trans (Bg.fol_m hx) bm) (fun y hy => hA y (List.mem_cons_of_mem _ hy)) hf' hc hm
      have mem := steps_of_mem (V.mem xa) hx
      have ge := Bg.sumL_ge (step_nneg V (lo := m) (hi := m) ok) _ mem
      have o0 := Bg.own_nonneg (b := b) (Int.le_refl m)
      have := hit_own (m := m) (k := 0) V ok bm
      have e : cfS (Bg.fb m m) (wd ones tens hun scales x, d) = Bg.cf (Bg.fb m m) d := rfl
      omega
/-- where the number m is not, nothing is counted -/
theorem plc_zero (V : Voc ones tens hun scales ws) {m : Int} : ∀ (B : List Wo) {b c : Bg} (acc : Int), Bg.Ok b → b.m ≤ scales.length + 1 → (∀ x ∈ B, x ∈ Bg.all scales.length) → Bg.folL b B = some c → Bg.cf (Bg.fb m m) b = 0 →
    plc (Bg.fb m m) ws b (B.map (wd ones tens hun scales)) acc = acc
  | [], _, _, _, _, _, _, _, _ => rfl
  | y :: B, b, c, acc, ok, bm, hB, hf, z => by
    have hf' : (Bg.fol b y).bind (fun d => Bg.folL d B) = some c := hf
    cases hy : Bg.fol b y with
    | none =>
      rw [hy] at hf'
      cases hf'
    | some d =>
      rw [hy] at hf'
      have ya := hB y List.mem_cons_self
      have okd := Bg.fol_ok ok (Bg.all_ok ya) hy
      obtain ⟨pre, post, es, e1, e2, _, _⟩ := split_at (steps_asc b V.asc) (steps_of_mem (V.mem ya) hy)
      have tot := hit_own (m := m) (k := 0) V ok bm
      have o0 := Bg.own_nonneg (b := b) (Int.le_refl m)
      have nn := step_nneg V (lo := m) (hi := m) ok
      rw [es, Bg.sumL_append] at tot
      rw [es] at nn
      have s1 := Bg.sumL_nonneg pre fun e he => nn e (List.mem_append_left _ he)
      have s2 := Bg.sumL_nonneg post fun e he => nn e (List.mem_append_right _ (List.mem_cons_of_mem _ he))
      have s3 := Bg.cf_nonneg (lo := m) (hi := m) okd
      have tot' : Bg.cf (Bg.fb m m) b = Bg.own (Bg.fb m m) b + (Bg.sumL (cfS (Bg.fb m m)) pre + (Bg.cf (Bg.fb m m) d + Bg.sumL (cfS (Bg.fb m m)) post)) := tot
      show plc (Bg.fb m m) ws (nxt (stepsOf b ws) b (wd ones tens hun scales y)) (B.map (wd ones tens hun scales)) (acc + Bg.own (Bg.fb m m) b + Bg.sumL (cfS (Bg.fb m m)) ((stepsOf b ws).takeWhile fun e => decide (e.1 ≠ wd ones tens hun scales y))) = acc
      rw [e1, e2, plc_zero V B _ okd (Nat.le_trans (Bg.fol_m hy) bm) (fun x hx => hB x (List.mem_cons_of_mem _ hx)) hf' (by omega)]
      omega
/-- the number m is counted ahead of the name B exactly if its own name A is less -/
theorem plc_one (V : Voc ones tens hun scales ws) {m : Int} : ∀ (B A : List Wo) {b c d : Bg} (acc : Int), Bg.Ok b → b.m ≤ scales.length + 1 → (∀ x ∈ B, x ∈ Bg.all scales.length) → (∀ x ∈ A, x ∈ Bg.all scales.length) → Bg.folL b B = some c →
    Bg.folL b A = some d → Bg.has d = true → d.t + d.g = m → Bg.cf (Bg.fb m m) b = 1 →
    plc (Bg.fb m m) ws b (B.map (wd ones tens hun scales)) acc = acc + if ltL (A.map (wd ones tens hun scales)) (B.map (wd ones tens hun scales)) = true then 1 else 0
  | [], A, _, _, _, acc, _, _, _, _, _, _, _, _, _ => by
    show acc = acc + if ltL _ [] = true then 1 else 0
    have : ltL (A.map (wd ones tens hun scales)) [] = false := by cases A <;> rfl
    rw [this, if_neg Bool.false_ne_true]
    omega
  | y :: B, A, b, c, d, acc, ok, bm, hB, hA, hf, hd, hh, hm, one => by
    have hf' : (Bg.fol b y).bind (fun d => Bg.folL d B) = some c := hf
    cases hy : Bg.fol b y with
    | none =>
      rw [hy] at hf'
      cases hf'
    | some z =>
      rw [hy] at hf'
      have ya := hB y List.mem_cons_self
      have okz := Bg.fol_ok ok (Bg.all_ok ya) hy
      have zm := Nat.le_trans (Bg.fol_m hy) bm
      have hB' : ∀ x ∈ B, x ∈ Bg.all scales.length := fun x hx => hB x (List.mem_cons_of_mem _ hx)
      obtain ⟨pre, post, es, e1, e2, lt1, lt2⟩ := split_at (steps_asc b V.asc) (steps_of_mem (V.mem ya) hy)
      have tot := hit_own (m := m) (k := 0) V ok bm
      have o0 := Bg.own_nonneg (b := b) (Int.le_refl m)
      have nn := step_nneg V (lo := m) (hi := m) ok
      rw [es, Bg.sumL_append] at tot
      rw [es] at nn
      have nn1 : ∀ e ∈ pre, 0 ≤ cfS (Bg.fb m m) e := fun e he => nn e (List.mem_append_left _ he)
      have nn2 : ∀ e ∈ post, 0 ≤ cfS (Bg.fb m m) e := fun e he => nn e (List.mem_append_right _ (List.mem_cons_of_mem _ he))
      have s1 := Bg.sumL_nonneg pre nn1
      have s2 := Bg.sumL_nonneg post nn2
      have s3 := Bg.cf_nonneg (lo := m) (hi := m) okz
      have tot' : Bg.cf (Bg.fb m m) b = Bg.own (Bg.fb m m) b + (Bg.sumL (cfS (Bg.fb m m)) pre + (Bg.cf (Bg.fb m m) z + Bg.sumL (cfS (Bg.fb m m)) post)) := tot
      show plc (Bg.fb m m) ws (nxt (stepsOf b ws) b (wd ones tens hun scales y)) (B.map (wd ones tens hun scales)) (acc + Bg.own (Bg.fb m m) b + Bg.sumL (cfS (Bg.fb m m)) ((stepsOf b ws).takeWhile fun e => decide (e.1 ≠ wd ones tens hun scales y))) = _
      rw [e1, e2]
      cases A with
      | nil =>
        cases hd
        have o := Bg.one_own (m := m) (b := b)
        rw [if_pos ⟨hh, hm⟩] at o
        rw [plc_zero V B _ okz zm hB' hf' (by omega)]
        show _ = acc + if ltL [] (_ :: _) = true then 1 else 0
        rw [show ltL [] (wd ones tens hun scales y :: List.map (wd ones tens hun scales) B) = true from rfl, if_pos rfl]
        omega
      | cons x A =>
        have hd' : (Bg.fol b x).bind (fun d => Bg.folL d A) = some d := hd
        cases hx : Bg.fol b x with
        | none =>
          rw [hx] at hd'
          cases hd'
        | some u =>
          rw [hx] at hd'
          have xa := hA x List.mem_cons_self
          have oku := Bg.fol_ok ok (Bg.all_ok xa) hx
          have um := Nat.le_trans (Bg.fol_m hx) bm
          have hA' : ∀ x ∈ A, x ∈ Bg.all scales.length := fun y hy => hA y (List.mem_cons_of_mem _ hy)
          have hu := hit_path V A oku um hA' hd' hh hm
          have mem := steps_of_mem (V.mem xa) hx
          rw [es] at mem
          have eu : cfS (Bg.fb m m) (wd ones tens hun scales x, u) = Bg.cf (Bg.fb m m) u := rfl
          show _ = acc + if ltL (wd ones tens hun scales x :: A.map (wd ones tens hun scales)) (wd ones tens hun scales y :: B.map (wd ones tens hun scales)) = true then 1 else 0
          have lt_eq : ltL (wd ones tens hun scales x :: A.map (wd ones tens hun scales)) (wd ones tens hun scales y :: B.map (wd ones tens hun scales)) = if WkI.ltS (wd ones tens hun scales x) (wd ones tens hun scales y) = true then true else if wd ones tens hun scales x = wd ones tens hun scales y then ltL (A.map (wd ones tens hun scales)) (B.map (wd ones tens hun scales)) else false := rfl
          rcases List.mem_append.mp mem with mem | mem
          · -- ahead
            have g := Bg.sumL_ge nn1 _ mem
            rw [lt_eq, if_pos (lt1 _ mem), if_pos rfl, plc_zero V B _ okz zm hB' hf' (by omega)]
            omega
          · rcases List.mem_cons.mp mem with e | mem
            · -- the same word
              have ew : wd ones tens hun scales x = wd ones tens hun scales y := congrArg Prod.fst e
              have ez : u = z := congrArg Prod.snd e
              subst ez
              rw [lt_eq, ew, ltS_irrefl, if_neg Bool.false_ne_true, if_pos rfl, plc_one V B A _ okz zm hB' hA' hf' hd' hh hm (by omega)]
              omega
            · have g := Bg.sumL_ge nn2 _ mem
              have l := lt2 _ mem
              have ne : wd ones tens hun scales x ≠ wd ones tens hun scales y := fun q => by
                rw [show wd ones tens hun scales x = wd ones tens hun scales y from q, ltS_irrefl] at l
                cases l
              rw [lt_eq, ltS_asym l, if_neg Bool.false_ne_true, if_neg ne, if_neg Bool.false_ne_true, plc_zero V B _ okz zm hB' hf' (by omega)]
              omega
theorem sumL_add {α : Type} (f g : α → Int) : ∀ l : List α, Bg.sumL (fun x => f x + g x) l = Bg.sumL f l + Bg.sumL g l
  | [] => rfl
  | x :: l => by
    show f x + g x + Bg.sumL (fun x => f x + g x) l = f x + Bg.sumL f l + (g x + Bg.sumL g l)
    rw [sumL_add f g l]
    omega
theorem plc_add (F G : Int → Int) (ws : List (Str × Wo)) : ∀ (xs : List Str) (b : Bg) (p q : Int), plc (fun x => F x + G x) ws b xs (p + q) = plc F ws b xs p + plc G ws b xs q
  | [], _, _, _ => rfl
  | x :: xs, b, p, q => by
    show plc (fun x => F x + G x) ws (nxt (stepsOf b ws) b x) xs (p + q + Bg.own (fun x => F x + G x) b + Bg.sumL (cfS fun x => F x + G x) ((stepsOf b ws).takeWhile fun e => decide (e.1 ≠ x))) =
      plc F ws (nxt (stepsOf b ws) b x) xs (p + Bg.own F b + Bg.sumL (cfS F) ((stepsOf b ws).takeWhile fun e => decide (e.1 ≠ x))) + plc G ws (nxt (stepsOf b ws) b x) xs (q + Bg.own G b + Bg.sumL (cfS G) ((stepsOf b ws).takeWhile fun e => decide (e.1 ≠ x)))
    rw [← plc_add F G ws xs]
    congr 1
    have e : (cfS fun x => F x + G x) = fun e => cfS F e + cfS G e := by
      funext e
      exact Bg.cf_add F G e.2
    rw [e, sumL_add, Bg.own_add]
    omega
theorem plc_null (ws : List (Str × Wo)) : ∀ (xs : List Str) (b : Bg) (p : Int), plc (fun _ => 0) ws b xs p = p
  | [], _, _ => rfl
  | x :: xs, b, p => by
    have c0 : ∀ b : Bg, Bg.cf (fun _ => 0) b = 0 := fun b => by
      unfold Bg.cf
      split
      · rfl
      · refine (Bg.sumR_congr b.m fun j _ => ?_).trans (Bg.sumR_zero b.m)
        unfold Bg.cj
        split <;> rfl
    show plc (fun _ => 0) ws _ xs (p + Bg.own (fun _ => 0) b + Bg.sumL (cfS fun _ => 0) _) = p
    rw [plc_null ws xs, Bg.sumL_zero _ (fun e _ => c0 e.2)]
    unfold Bg.own
    split <;> simp
theorem plc_sum (f : Nat → Int → Int) (ws : List (Str × Wo)) (xs : List Str) (b : Bg) : ∀ n, plc (fun x => Bg.sumR (fun i => f i x) n) ws b xs 0 = Bg.sumR (fun i => plc (f i) ws b xs 0) n
  | 0 => plc_null ws xs b 0
  | n + 1 => by
    show plc (fun x => Bg.sumR (fun i => f i x) n + f n x) ws b xs (0 + 0) = Bg.sumR (fun i => plc (f i) ws b xs 0) n + plc (f n) ws b xs 0
    rw [plc_add, plc_sum f ws xs b n]
/-- the name of a number as a list of words -/
def nmL (ones tens : List Str) (hun : Str) (scales : List Str) (n : Int) : List Str := (Bg.nameW n (scales.length + 1)).map (wd ones tens hun scales)
/-- the numbers of a range that come before n -/
def ahead (ones tens : List Str) (hun : Str) (scales : List Str) (lo hi n : Int) : Int :=
  Bg.sumR (fun i => if ltL (nmL ones tens hun scales (lo + (i : Int))) (nmL ones tens hun scales n) = true then 1 else 0) (hi - lo + 1).toNat
/-- THE PLACE: the program's count is the number of numbers of the range that come before -/
theorem place_is (V : Voc ones tens hun scales ws) {lo hi n : Int} (lo0 : 0 ≤ lo) (lh : lo ≤ hi) (h1 : hi < Bg.W (scales.length + 1)) (n0 : 0 ≤ n) (n1 : n < Bg.W (scales.length + 1)) :
    plc (Bg.fb lo hi) ws (Bg.start scales.length) ((Bg.nameW n (scales.length + 1)).map (wd ones tens hun scales)) 0 = ahead ones tens hun scales lo hi n := by
  have e := Bg.fb_sum lo (hi - lo + 1).toNat
  rw [show lo + (((hi - lo + 1).toNat : Nat) : Int) - 1 = hi by omega] at e
  rw [show Bg.fb lo hi = fun x => Bg.fb lo hi x from rfl, e, plc_sum]
  unfold ahead
  refine Bg.sumR_congr _ fun i hi' => ?_
  have m0 : 0 ≤ lo + (i : Int) := by omega
  have m1 : lo + (i : Int) < Bg.W (scales.length + 1) := by omega
  obtain ⟨c, c1, c2, c3⟩ := Bg.name_path n0 n1
  obtain ⟨d, d1, d2, d3⟩ := Bg.name_path m0 m1
  have one := Bg.start_all (k := scales.length) m0 (Int.le_refl _) m1
  rw [plc_one V _ _ 0 (Bg.start_ok _) (Nat.le_refl _) Bg.name_all Bg.name_all c1 d1 d2 d3 (by omega)]
  show 0 + _ = _
  rw [Int.zero_add]
  rfl
end
end LB
set_option Elab.async false
set_option linter.all false
set_option maxRecDepth 100000
set_option maxHeartbeats 4000000
/-! The number at a place; what places of ranges do; names as texts. -/
namespace LB
open PySem L2 Wk
open Bg (Bg Wo)
section
variable {ones tens : List Str} {hun : Str} {scales : List Str} {ws : List (Str × Wo)}
/-- the path to the number that is found -/
theorem numAt_path (V : Voc ones tens hun scales ws) {F : Int → Int} {b : Bg} {left r : Int} (h : NumAt F ws b left r) : Bg.Ok b → ∃ (A : List Wo) (c : Bg), (∀ x ∈ A, x ∈ Bg.all scales.length) ∧ Bg.folL b A = some c ∧ c.t + c.g = r ∧ Bg.own F c = 1 ∧
    ∀ acc, plc F ws b (A.map (wd ones tens hun scales)) acc = acc + left := by
  induction h with
  | @own b h =>
    intro _
    exact ⟨[], b, (fun x hx => nomatch hx), rfl, rfl, h, fun acc => by show acc = acc + 0; omega⟩
  | @step b c x left r pre post es h0 h1 _ ih =>
    intro ok
    have mem : (x, c) ∈ stepsOf b ws := by rw [es]; exact List.mem_append_right _ List.mem_cons_self
    obtain ⟨w, hw, hf⟩ := steps_mem mem
    obtain ⟨ew, wa⟩ := V.word hw
    obtain ⟨A, d, a1, a2, a3, a4, a5⟩ := ih (Bg.fol_ok ok (Bg.all_ok wa) hf)
    refine ⟨w :: A, d, fun y hy => ?_, ?_, a3, a4, fun acc => ?_⟩
    · rcases List.mem_cons.mp hy with rfl | hy
      · exact wa
      · exact a1 y hy
    · rw [Bg.folL_one hf]
      exact a2
    · obtain ⟨pre', post', es', e1, e2, lt1, _⟩ := split_at (steps_asc b V.asc) mem
      have asc := steps_asc b V.asc
      have e3 : (stepsOf b ws).takeWhile (fun e => decide (e.1 ≠ x)) = pre := by
        rw [es] at asc ⊢
        obtain ⟨_, _, q3⟩ := List.pairwise_append.mp asc
        have ne : ∀ e ∈ pre, (fun e : Str × Bg => decide (e.1 ≠ x)) e = true := fun e he => decide_eq_true fun z => by
          have := q3 e he (x, c) List.mem_cons_self
          rw [z, ltS_irrefl] at this
          cases this
        rw [List.takeWhile_append_of_pos ne, List.takeWhile_cons_of_neg (by simp), List.append_nil]
      have ew' : x = wd ones tens hun scales w := ew
      show plc F ws (nxt (stepsOf b ws) b (wd ones tens hun scales w)) (A.map (wd ones tens hun scales)) (acc + Bg.own F b + Bg.sumL (cfS F) ((stepsOf b ws).takeWhile fun e => decide (e.1 ≠ wd ones tens hun scales w))) = acc + left
      rw [← ew', e2, e3, a5]
      omega
/-- two paths to one number are one -/
theorem path_words (V : Voc ones tens hun scales ws) {m : Int} {A B : List Wo} {b c d : Bg} (ok : Bg.Ok b) (bm : b.m ≤ scales.length + 1) (hA : ∀ x ∈ A, x ∈ Bg.all scales.length) (hB : ∀ x ∈ B, x ∈ Bg.all scales.length)
    (fA : Bg.folL b A = some c) (fB : Bg.folL b B = some d) (hc : Bg.has c = true) (hd : Bg.has d = true) (nc : c.t + c.g = m) (nd : d.t + d.g = m) (one : Bg.cf (Bg.fb m m) b = 1) : A.map (wd ones tens hun scales) = B.map (wd ones tens hun scales) := by
  have h1 := plc_one V B A 0 ok bm hB hA fB fA hc nc one
  have h2 := plc_one V B B 0 ok bm hB hB fB fB hd nd one
  have h3 := plc_one V A B 0 ok bm hA hB fA fB hd nd one
  have h4 := plc_one V A A 0 ok bm hA hA fA fA hc nc one
  rw [ltL_irrefl, if_neg Bool.false_ne_true] at h2 h4
  refine ltL_tri ?_ ?_
  · rw [h2] at h1
    cases q : ltL (A.map (wd ones tens hun scales)) (B.map (wd ones tens hun scales)) with
    | false => rfl
    | true =>
      rw [q, if_pos rfl] at h1
      omega
  · rw [h4] at h3
    cases q : ltL (B.map (wd ones tens hun scales)) (A.map (wd ones tens hun scales)) with
    | false => rfl
    | true =>
      rw [q, if_pos rfl] at h3
      omega
theorem has_of_own {F : Int → Int} {c : Bg} (h : Bg.own F c = 1) : Bg.has c = true := by
  unfold Bg.own at h
  cases e : Bg.has c with
  | true => rfl
  | false =>
    rw [e, if_neg Bool.false_ne_true] at h
    cases h
/-- THE NUMBER AT A PLACE: it is of the range, and so many come before it -/
theorem number_is (V : Voc ones tens hun scales ws) {lo hi p r : Int} (lo0 : 0 ≤ lo) (lh : lo ≤ hi) (h1 : hi < Bg.W (scales.length + 1)) (h : NumAt (Bg.fb lo hi) ws (Bg.start scales.length) p r) :
    lo ≤ r ∧ r ≤ hi ∧ ahead ones tens hun scales lo hi r = p := by
  obtain ⟨A, c, a1, a2, a3, a4, a5⟩ := numAt_path V h (Bg.start_ok _)
  have hc := has_of_own a4
  rw [Bg.own_code lh, a3, hc, Bool.true_and] at a4
  have rng : lo ≤ r ∧ r ≤ hi := by
    by_cases q : (decide (lo ≤ r) && decide (r ≤ hi)) = true
    · rw [Bool.and_eq_true, decide_eq_true_eq, decide_eq_true_eq] at q
      exact q
    · rw [if_neg q] at a4
      cases a4
  have r0 : 0 ≤ r := by omega
  have r1 : r < Bg.W (scales.length + 1) := by omega
  obtain ⟨d, d1, d2, d3⟩ := Bg.name_path r0 r1
  have one := Bg.start_all (k := scales.length) r0 (Int.le_refl _) r1
  have e := path_words V (Bg.start_ok _) (Nat.le_refl _) a1 Bg.name_all a2 d1 hc d2 a3 d3 (by omega)
  refine ⟨rng.1, rng.2, ?_⟩
  have z := a5 0
  rw [e, place_is V lo0 lh h1 r0 r1, Int.zero_add] at z
  exact z
/-- a name is that of one number alone -/
theorem name_inj (V : Voc ones tens hun scales ws) {m n : Int} (m0 : 0 ≤ m) (m1 : m < Bg.W (scales.length + 1)) (n0 : 0 ≤ n) (n1 : n < Bg.W (scales.length + 1)) (h : nmL ones tens hun scales m = nmL ones tens hun scales n) : m = n := by
  have inj : ∀ {A B : List Wo}, (∀ x ∈ A, x ∈ Bg.all scales.length) → (∀ x ∈ B, x ∈ Bg.all scales.length) → A.map (wd ones tens hun scales) = B.map (wd ones tens hun scales) → A = B := by
    intro A
    induction A with
    | nil =>
      intro B _ _ h
      cases B with
      | nil => rfl
      | cons _ _ => cases h
    | cons x A ih =>
      intro B hA hB h
      cases B with
      | nil => cases h
      | cons y B =>
        rw [List.map_cons, List.map_cons] at h
        obtain ⟨h1, h2⟩ := List.cons.inj h
        rw [V.inj (hA x List.mem_cons_self) (hB y List.mem_cons_self) h1, ih (fun z hz => hA z (List.mem_cons_of_mem _ hz)) (fun z hz => hB z (List.mem_cons_of_mem _ hz)) h2]
  have e := inj Bg.name_all Bg.name_all h
  obtain ⟨c, c1, _, c3⟩ := Bg.name_path m0 m1
  obtain ⟨d, d1, _, d3⟩ := Bg.name_path n0 n1
  rw [e, d1] at c1
  cases c1
  omega
end
/-! ### what places do -/
section
variable (ones tens : List Str) (hun : Str) (scales : List Str)
def less (m n : Int) : Bool := ltL (nmL ones tens hun scales m) (nmL ones tens hun scales n)
theorem ahead_nneg (lo hi n : Int) : 0 ≤ ahead ones tens hun scales lo hi n := Bg.sumR_nonneg _ fun j _ => by split <;> decide
theorem sumR_le {f g : Nat → Int} : ∀ n, (∀ j, j < n → f j ≤ g j) → Bg.sumR f n ≤ Bg.sumR g n
  | 0, _ => Int.le_refl 0
  | n + 1, h => by
    have a := sumR_le n fun j hj => h j (Nat.lt_succ_of_lt hj)
    have b := h n (Nat.lt_succ_self n)
    show Bg.sumR f n + f n ≤ Bg.sumR g n + g n
    omega
theorem sumR_lt {f g : Nat → Int} : ∀ n, (∀ j, j < n → f j ≤ g j) → ∀ i, i < n → f i < g i → Bg.sumR f n < Bg.sumR g n
  | n + 1, h, i, hi, lt => by
    have a := sumR_le n fun j hj => h j (Nat.lt_succ_of_lt hj)
    have b := h n (Nat.lt_succ_self n)
    show Bg.sumR f n + f n < Bg.sumR g n + g n
    by_cases e : i = n
    · subst e
      omega
    · have := sumR_lt n (fun j hj => h j (Nat.lt_succ_of_lt hj)) i (by omega) lt
      omega
theorem sumR_one : ∀ n, Bg.sumR (fun _ => 1) n = (n : Int)
  | 0 => rfl
  | n + 1 => by
    show Bg.sumR (fun _ => 1) n + 1 = _
    rw [sumR_one n]
    omega
theorem ahead_le {lo hi n : Int} (h : lo ≤ hi + 1) : ahead ones tens hun scales lo hi n ≤ hi - lo + 1 := by
  unfold ahead
  have := sumR_le (f := fun i : Nat => if ltL (nmL ones tens hun scales (lo + (i : Int))) (nmL ones tens hun scales n) = true then (1 : Int) else 0) (g := fun _ => 1) (hi - lo + 1).toNat fun j _ => by split <;> decide
  rw [sumR_one] at this
  omega
theorem ahead_in {lo hi n : Int} (h1 : lo ≤ n) (h2 : n ≤ hi) : ahead ones tens hun scales lo hi n ≤ hi - lo := by
  unfold ahead
  have := sumR_lt (f := fun i : Nat => if ltL (nmL ones tens hun scales (lo + (i : Int))) (nmL ones tens hun scales n) = true then (1 : Int) else 0) (g := fun _ => 1) (hi - lo + 1).toNat (fun j _ => by split <;> decide) (n - lo).toNat (by omega) (by
    rw [show lo + (((n - lo).toNat : Nat) : Int) = n by omega, ltL_irrefl]
    decide)
  rw [sumR_one] at this
  omega
theorem ahead_mono {lo hi a b : Int} (h : ltL (nmL ones tens hun scales b) (nmL ones tens hun scales a) = false) : ahead ones tens hun scales lo hi a ≤ ahead ones tens hun scales lo hi b := by
  unfold ahead
  refine sumR_le _ fun j _ => ?_
  by_cases c : ltL (nmL ones tens hun scales (lo + (j : Int))) (nmL ones tens hun scales a) = true
  · by_cases d : ltL (nmL ones tens hun scales (lo + (j : Int))) (nmL ones tens hun scales b) = true
    · rw [if_pos c, if_pos d]
      exact Int.le_refl _
    · exfalso
      cases q : ltL (nmL ones tens hun scales b) (nmL ones tens hun scales (lo + (j : Int))) with
      | true =>
        rw [ltL_trans q c] at h
        cases h
      | false =>
        have e := ltL_tri (by simpa using d) q
        rw [e] at c
        rw [h] at c
        cases c
  · rw [if_neg c]
    split <;> decide
theorem ahead_lt {lo hi a b : Int} (h1 : lo ≤ a) (h2 : a ≤ hi) (h : ltL (nmL ones tens hun scales a) (nmL ones tens hun scales b) = true) : ahead ones tens hun scales lo hi a < ahead ones tens hun scales lo hi b := by
  unfold ahead
  refine sumR_lt _ (fun j _ => ?_) (a - lo).toNat (by omega) ?_
  · by_cases c : ltL (nmL ones tens hun scales (lo + (j : Int))) (nmL ones tens hun scales a) = true
    · rw [if_pos c, if_pos (ltL_trans c h)]
      exact Int.le_refl _
    · rw [if_neg c]
      split <;> decide
  · rw [show lo + (((a - lo).toNat : Nat) : Int) = a by omega, ltL_irrefl, h]
    decide
theorem ahead_add {lo hi n : Int} (h : lo ≤ hi + 1) : ahead ones tens hun scales lo (hi + 1) n = ahead ones tens hun scales lo hi n + if ltL (nmL ones tens hun scales (hi + 1)) (nmL ones tens hun scales n) = true then 1 else 0 := by
  unfold ahead
  rw [show (hi + 1 - lo + 1).toNat = (hi - lo + 1).toNat + 1 by omega]
  show _ + (if ltL (nmL ones tens hun scales (lo + (((hi - lo + 1).toNat : Nat) : Int))) (nmL ones tens hun scales n) = true then (1 : Int) else 0) = _
  rw [show lo + (((hi - lo + 1).toNat : Nat) : Int) = hi + 1 by omega]
theorem ahead_grow {lo hi n : Int} : ∀ d : Nat, lo ≤ hi + 1 → ahead ones tens hun scales lo hi n ≤ ahead ones tens hun scales lo (hi + (d : Int)) n
  | 0, _ => by
    rw [show hi + ((0 : Nat) : Int) = hi by omega]
    exact Int.le_refl _
  | d + 1, h => by
    have ih := ahead_grow (n := n) d h
    rw [show hi + ((d + 1 : Nat) : Int) = hi + (d : Int) + 1 by omega, ahead_add ones tens hun scales (by omega)]
    split <;> omega
theorem ahead_cut {lo cut n : Int} : ∀ d : Nat, lo ≤ cut + 1 → ahead ones tens hun scales lo (cut + (d : Int)) n = ahead ones tens hun scales lo cut n + ahead ones tens hun scales (cut + 1) (cut + (d : Int)) n
  | 0, _ => by
    rw [show cut + ((0 : Nat) : Int) = cut by omega]
    unfold ahead
    rw [show (cut - (cut + 1) + 1).toNat = 0 by omega]
    show _ = _ + (0 : Int)
    omega
  | d + 1, h => by
    have ih := ahead_cut (n := n) d h
    rw [show cut + ((d + 1 : Nat) : Int) = cut + (d : Int) + 1 by omega, ahead_add ones tens hun scales (by omega), ahead_add ones tens hun scales (by omega), ih]
    omega
end
/-! ### names as texts -/
def jl : List (List Nat) → List Nat
  | [] => []
  | [x] => x
  | x :: y :: r => x ++ 32 :: jl (y :: r)
theorem glued_jl (xs : List Str) : (Txt.join " " xs).cps.toList = jl (xs.map fun x => x.cps.toList) := by
  have fold : ∀ (l : List Str) (acc : Array Nat), (l.foldl (fun acc p => acc ++ (" " : Str).cps ++ p.cps) acc).toList = acc.toList ++ (l.map fun x => 32 :: x.cps.toList).flatten := by
    intro l
    induction l with
    | nil =>
      intro acc
      simp
    | cons x l ih =>
      intro acc
      rw [List.foldl_cons, ih]
      have : (" " : Str).cps.toList = [32] := by decide +kernel
      simp [this]
  have flat : ∀ (x : List Nat) (l : List Str), x ++ (l.map fun x => 32 :: x.cps.toList).flatten = jl (x :: l.map fun x => x.cps.toList) := by
    intro x l
    induction l generalizing x with
    | nil => simp [jl]
    | cons y l ih =>
      show x ++ (32 :: y.cps.toList ++ (l.map fun x => 32 :: x.cps.toList).flatten) = x ++ 32 :: jl (y.cps.toList :: l.map fun x => x.cps.toList)
      rw [← ih y.cps.toList]
      rfl
  show (⟨(xs.drop 1).foldl (fun acc p => acc ++ (" " : Str).cps ++ p.cps) (xs.headD Str.empty).cps⟩ : Str).cps.toList = _
  show ((xs.drop 1).foldl (fun acc p => acc ++ (" " : Str).cps ++ p.cps) (xs.headD Str.empty).cps).toList = _
  rw [fold]
  cases xs with
  | nil => rfl
  | cons x l => exact flat x.cps.toList l
/-- words behind which something smaller or nothing stands: they are compared as words -/
theorem lt_words : ∀ {x y s t : List Nat}, (∀ c ∈ x, 32 < c) → (∀ c ∈ y, 32 < c) → (s = [] ∨ ∃ r, s = 32 :: r) → (t = [] ∨ ∃ r, t = 32 :: r) → x ≠ y → (x ++ s < y ++ t ↔ x < y)
  | [], [], _, _, _, _, _, _, ne => absurd rfl ne
  | [], b :: y, s, t, _, hy, hs, _, _ => by
    have hb := hy b List.mem_cons_self
    constructor
    · intro _
      exact List.nil_lt_cons b y
    · intro _
      rcases hs with rfl | ⟨r, rfl⟩
      · exact List.nil_lt_cons b (y ++ t)
      · exact List.cons_lt_cons_iff.mpr (.inl hb)
  | a :: x, [], s, t, hx, _, _, ht, _ => by
    have ha := hx a List.mem_cons_self
    constructor
    · intro h
      rcases ht with rfl | ⟨r, rfl⟩
      · exact absurd h (List.not_lt_nil _)
      · rcases List.cons_lt_cons_iff.mp h with z | ⟨z, _⟩ <;> omega
    · intro h
      exact absurd h (List.not_lt_nil _)
  | a :: x, b :: y, s, t, hx, hy, hs, ht, ne => by
    have ih : x ≠ y → (x ++ s < y ++ t ↔ x < y) := lt_words (fun c hc => hx c (List.mem_cons_of_mem _ hc)) (fun c hc => hy c (List.mem_cons_of_mem _ hc)) hs ht
    show a :: (x ++ s) < b :: (y ++ t) ↔ a :: x < b :: y
    rw [List.cons_lt_cons_iff, List.cons_lt_cons_iff]
    by_cases e : a = b
    · subst e
      have := ih fun z => ne (by rw [z])
      rw [this]
    · simp [e]
theorem lt_same : ∀ {x s t : List Nat}, (x ++ s < x ++ t ↔ s < t)
  | [], _, _ => Iff.rfl
  | a :: x, s, t => by
    show a :: (x ++ s) < a :: (x ++ t) ↔ s < t
    rw [List.cons_lt_cons_iff, lt_same (x := x)]
    constructor
    · rintro (h | ⟨_, h⟩)
      · omega
      · exact h
    · intro h
      exact .inr ⟨rfl, h⟩
theorem jl_cons (x : List Nat) (l : List (List Nat)) : ∃ s, jl (x :: l) = x ++ s ∧ ((l = [] ∧ s = []) ∨ (l ≠ [] ∧ s = 32 :: jl l)) := by
  cases l with
  | nil => exact ⟨[], by simp [jl], .inl ⟨rfl, rfl⟩⟩
  | cons y r => exact ⟨32 :: jl (y :: r), rfl, .inr ⟨by simp, rfl⟩⟩
/-- names as texts stand in the order of their lists of words -/
theorem name_lt : ∀ {a b : List Str}, (∀ x ∈ a, GoodWord x) → (∀ x ∈ b, GoodWord x) → b ≠ [] → a ≠ [] → decide ((Txt.join " " a).cps.toList < (Txt.join " " b).cps.toList) = ltL a b := by
  intro a
  induction a with
  | nil => intro b _ _ _ h; exact absurd rfl h
  | cons x a ih =>
    intro b ha hb hbn _
    cases b with
    | nil => exact absurd rfl hbn
    | cons y b =>
      rw [glued_jl, glued_jl, List.map_cons, List.map_cons]
      obtain ⟨s, es, hs⟩ := jl_cons x.cps.toList (a.map fun x => x.cps.toList)
      obtain ⟨t, et, ht⟩ := jl_cons y.cps.toList (b.map fun x => x.cps.toList)
      rw [es, et]
      have gx := ha x List.mem_cons_self
      have gy := hb y List.mem_cons_self
      have sx : ∀ c ∈ x.cps.toList, 32 < c := fun c hc => by have := (gx.2.2 c hc).1; omega
      have sy : ∀ c ∈ y.cps.toList, 32 < c := fun c hc => by have := (gy.2.2 c hc).1; omega
      show _ = if WkI.ltS x y = true then true else if x = y then ltL a b else false
      by_cases e : x = y
      · subst e
        rw [ltS_irrefl, if_neg Bool.false_ne_true, if_pos rfl]
        have q : decide (x.cps.toList ++ s < x.cps.toList ++ t) = decide (s < t) := decide_eq_decide.mpr lt_same
        rw [q]
        rcases hs with ⟨ea, rfl⟩ | ⟨ea, rfl⟩
        · have a0 : a = [] := by simpa using ea
          subst a0
          rcases ht with ⟨eb, rfl⟩ | ⟨eb, rfl⟩
          · have b0 : b = [] := by simpa using eb
            subst b0
            exact decide_eq_false (List.lt_irrefl _)
          · cases b with
            | nil => exact absurd rfl eb
            | cons z b => exact decide_eq_true (List.nil_lt_cons _ _)
        · have a0 : a ≠ [] := by simpa using ea
          rcases ht with ⟨eb, rfl⟩ | ⟨eb, rfl⟩
          · have b0 : b = [] := by simpa using eb
            subst b0
            have z : ltL a [] = false := by cases a <;> rfl
            rw [z]
            exact decide_eq_false (List.not_lt_nil _)
          · have b0 : b ≠ [] := by simpa using eb
            have i := ih (b := b) (fun x hx => ha x (List.mem_cons_of_mem _ hx)) (fun x hx => hb x (List.mem_cons_of_mem _ hx)) b0 a0
            rw [glued_jl, glued_jl] at i
            rw [← i]
            refine decide_eq_decide.mpr ?_
            rw [List.cons_lt_cons_iff]
            constructor
            · rintro (h | ⟨_, h⟩)
              · omega
              · exact h
            · intro h
              exact .inr ⟨rfl, h⟩
      · have ne : x.cps.toList ≠ y.cps.toList := fun z => e (by
          obtain ⟨⟨l⟩⟩ := x
          obtain ⟨⟨m⟩⟩ := y
          have z' : l = m := z
          rw [z'])
        have q : decide (x.cps.toList ++ s < y.cps.toList ++ t) = decide (x.cps.toList < y.cps.toList) := decide_eq_decide.mpr (lt_words sx sy (hs.imp (·.2) fun h => ⟨_, h.2⟩) (ht.imp (·.2) fun h => ⟨_, h.2⟩) ne)
        rw [q, if_neg e]
        show WkI.ltS x y = _
        cases WkI.ltS x y <;> rfl
end LB
set_option Elab.async false
set_option linter.all false
set_option maxRecDepth 100000
set_option maxHeartbeats 4000000
/-! A def with one default, None: what the top has written of it, how calls bind. -/
namespace LB
open PySem L2 Wk
/-- a def of the module, its last parameter with the default None -/
def DefD (K : PySem.W.Frag) (x : Str) (st : Stmt) (f : Addr) : Prop := PySem.W.nsIn K mainGlobals x = some (some (.ref f)) ∧
  (∃ (oc : Value) (od : Option Addr) (T : Addr) (kV doc pm : Value) (an : Option Addr) (cdv ct : Value) (osl : Array (Option Value)),
    K.lookup f = some ⟨oc, od, .func (PySem.W.fnOf x x (defArgs st) (defBody st) (defScope st) (.ref T) kV doc pm an cdv ct), osl⟩ ∧ PySem.W.codeIn K cdv x = true ∧ ∃ (oT : Obj) (n : Nat), K.lookup T = some oT ∧ oT.data = .seq #[.none] n) ∧ PySem.W.keepIn K (.ref f) = true
theorem DefD.fun {K : PySem.W.Frag} {x : Str} {st : Stmt} {f : Addr} (h : DefD K x st f) : ∃ fd, FunD K x x (defArgs st) (defBody st) (defScope st) [.non] [] f fd := by
  obtain ⟨_, ⟨oc, od, T, kV, doc, pm, an, cdv, ct, osl, l, c, oT, n, lT, dT⟩, kp⟩ := h
  exact ⟨_, ⟨oc, od, .ref T, kV, doc, pm, an, cdv, ct, osl, rfl, l, c, .inr ⟨by simp, T, oT, [.none], n, rfl, lT, dT, .cons rfl .nil⟩, .inl rfl⟩, kp⟩
/-- how its calls bind -/
structure Bind3 (K : PySem.W.Frag) (fd : FuncData) (ps ks : List Str) : Prop where
  b3 : Binds K fd ps []
  b2 : ∃ dn, Vals [V.non] [dn] ∧ Binds K fd ps [dn]
  kw : KBn K fd ps 0 ks (fun _ ws => [ws.getD 2 .none, ws.getD 1 .none, ws.getD 0 .none]) (fun _ zs => [zs.getD 2 .non, zs.getD 1 .non, zs.getD 0 .non])
theorem bind3 {K : PySem.W.Frag} {x : Str} {st : Stmt} {f : Addr} {fd : FuncData} {a b c : Str} (F : FunD K x x (defArgs st) (defBody st) (defScope st) [.non] [] f fd)
    (h3 : ∀ (T : Addr) (kV doc pm : Value) (an : Option Addr) (cdv ct : Value) (u v w d : Value),
      ∃ k, bindArgs (PySem.W.fnOf x x (defArgs st) (defBody st) (defScope st) (.ref T) kV doc pm an cdv ct) ⟨[u, v, w], []⟩ = seqItems? (.ref T) >>= k ∧ k (some #[d]) = pure (([a, b, c] : List Str).zip [u, v, w]))
    (h2 : ∀ (T : Addr) (kV doc pm : Value) (an : Option Addr) (cdv ct : Value) (u v d : Value),
      ∃ k, bindArgs (PySem.W.fnOf x x (defArgs st) (defBody st) (defScope st) (.ref T) kV doc pm an cdv ct) ⟨[u, v], []⟩ = seqItems? (.ref T) >>= k ∧ k (some #[d]) = pure (([a, b, c] : List Str).zip [u, v, d]))
    (hk : ∀ (T : Addr) (kV doc pm : Value) (an : Option Addr) (cdv ct : Value) (u v w d : Value),
      ∃ k, bindArgs (PySem.W.fnOf x x (defArgs st) (defBody st) (defScope st) (.ref T) kV doc pm an cdv ct) ⟨[], ([c, b, a] : List Str).zip [u, v, w]⟩ = seqItems? (.ref T) >>= k ∧ k (some #[d]) = pure (([a, b, c] : List Str).zip [w, v, u])) :
    Bind3 K fd [a, b, c] [c, b, a] := by
  refine ⟨?_, ?_, ?_⟩
  · obtain ⟨ds, r, q⟩ := F.binds1 (ps := [a, b, c]) 3 1 (by simp) rfl fun T kV doc pm an cdv ct us its h1 h4 => match us, its, h1, h4 with
      | [u, v, w], [d], _, _ => h3 T kV doc pm an cdv ct u v w d
    cases r
    exact q
  · obtain ⟨ds, r, q⟩ := F.binds1 (ps := [a, b, c]) 2 0 (by simp) rfl fun T kV doc pm an cdv ct us its h1 h4 => match us, its, h1, h4 with
      | [u, v], [d], _, _ => h2 T kV doc pm an cdv ct u v d
    cases r with
    | cons r1 r2 =>
      cases r2
      exact ⟨_, .cons r1 .nil, q⟩
  · obtain ⟨oc, od, dV, kV, doc, pm, an, cdv, ct, osl, rfl, lk, hcd, hD, hK⟩ := F.ex
    rcases hD with ⟨e, _⟩ | ⟨_, T, o, its, m, rfl, lT, oT, rT⟩
    · cases e
    · refine ⟨fun s us ws X e1 e2 => ?_, fun {vs us zs ws} r1 r2 => ?_⟩
      · match us, ws, its, e1, e2, rT, oT with
        | [], [u, v, w], [d], _, _, _, oT =>
          obtain ⟨k, q1, q2⟩ := hk T kV doc pm an cdv ct u v w d
          refine BindsTo.of_looks fun M => ?_
          rw [q1]
          exact looks_items X lT oT (.of_pure q2)
      · have at_ : ∀ j, RelV (zs.getD j .non) (ws.getD j .none) := by
          intro j
          induction r2 generalizing j with
          | nil => rfl
          | cons h _ ih =>
            cases j with
            | zero => exact h
            | succ j => exact ih j
        exact .cons (at_ 2) (.cons (at_ 1) (.cons (at_ 0) .nil))
end LB
set_option Elab.async false
set_option linter.all false
set_option maxRecDepth 100000
set_option maxHeartbeats 4000000
/-! The program's own: from what the top has written to the promises. -/
namespace LB
open PySem L2 Wk
open Bg (Bg Wo)
section
variable {P : Program} {w : World} {K : PySem.W.Frag} {mg : Str → Option Value} {base h : Heap}
theorem def1_mk {x : Str} {st : Stmt} {f : Addr} {ps : List Str} {k : Nat} {sp : Sp} (X : K.In h) (G : h.Ns mainGlobals mg) (a : DefAt K x st f)
    (b : ∀ (kV doc pm : Value) (an : Option Addr) (cdv ct : Value) (us : List Value), us.length = ps.length → bindArgs (PySem.W.fnOf x x (defArgs st) (defBody st) (defScope st) .none kV doc pm an cdv ct) ⟨us, []⟩ = pure (ps.zip us))
    (ok : ∀ fd, Fun K x x st f fd → FnOk P w K mg base CX0 k f fd ps sp) : ∃ fd, Def1 P w K mg base x k f fd ps sp := by
  obtain ⟨n, ⟨oc, od, kV, doc, pm, an, cdv, ct, osl, l, c⟩, kp⟩ := a
  have F := fun_mk (st := st) l c kp
  exact ⟨_, ok _ F, PySem.W.mg_of X G n, kp, F.binds b⟩
/-- the tuple ZERO of the top -/
def ZeroAt (K : PySem.W.Frag) (Z : Addr) : Prop := PySem.W.nsIn K mainGlobals "ZERO" = some (some (.ref Z)) ∧ ∃ (o : Obj) (a b c d : Tok) (m : Nat), K.lookup Z = some o ∧ o.cls = .type "tuple" ∧ o.data = .seq #[.int 0 a, .int 0 b, .int 1 c, .int 1 d] m
theorem zero_at {K : PySem.W.Frag} {Z : Addr} {o : Obj} {a b c d : Tok} {m : Nat} (n : PySem.W.nsIn K mainGlobals "ZERO" = some (some (.ref Z))) (l : K.lookup Z = some o) (c1 : o.cls = .type "tuple") (d1 : o.data = .seq #[.int 0 a, .int 0 b, .int 1 c, .int 1 d] m) : ZeroAt K Z := ⟨n, o, a, b, c, d, m, l, c1, d1⟩
theorem ZeroAt.tup {Z : Addr} (z : ZeroAt K Z) (H : Hp) : SqT K H Z (BgV Bg.zero) := by
  obtain ⟨_, o, a, b, c, d, m, l, c1, d1⟩ := z
  exact .inr ⟨o, _, m, l, c1, d1, by show 4 ≤ sizeLine; decide, .cons ⟨_, rfl⟩ (.cons ⟨_, rfl⟩ (.cons ⟨_, rfl⟩ (.cons ⟨_, rfl⟩ .nil)))⟩
/-- beginnings and how they go on -/
structure CoreA (P : Program) (w : World) (K : PySem.W.Frag) (mg : Str → Option Value) (base : Heap) : Prop where
  topOf : ∃ f fd, Def1 P w K mg base "top_of" 1 f fd ["table"] spTopOf
  worths : ∃ f fd, Def1 P w K mg base "worths" 1 f fd ["table"] spWorths
  vocab : ∃ f fd, Def1 P w K mg base "vocabulary" 2 f fd ["table"] spVocab
  start : ∃ f fd, Def1 P w K mg base "start" 2 f fd ["table"] (spStart K)
  fol : ∃ f fd, Def1 P w K mg base "followed" 2 f fd ["beginning", "worth"] (spFol K)
  steps : ∃ f fd, Def1 P w K mg base "steps" 3 f fd ["beginning", "words"] (spSteps K)
  count : ∃ f fd, Def1 P w K mg base "count_within" 2 f fd ["beginning", "low", "high"] (spCount K)
/-- places -/
structure CoreB (P : Program) (w : World) (K : PySem.W.Frag) (mg : Str → Option Value) (base : Heap) : Prop where
  ends : ∃ f fd, Def1 P w K mg base "ends_within" 2 f fd ["beginning", "low", "high"] (spEnds K)
  own : ∃ f fd, Def1 P w K mg base "own_number" 1 f fd ["beginning"] (spOwn K)
  placeW : ∃ f fd, Def1 P w K mg base "place_within" 4 f fd ["table", "number", "low", "high"] spPlaceW
end
end LB
set_option Elab.async false
set_option linter.all false
set_option maxRecDepth 100000
set_option maxHeartbeats 4000000
/-! The program's own on valid arguments: limit, place, number_at. -/
namespace LB
open PySem L2 Wk
open Bg (Bg Wo)
/-- a valid table -/
structure Tab (H : Hp) (t : Addr) (ones tens : List Str) (hun : Str) (scales : List Str) (o te sc : Addr) : Prop where
  tb : Tbl H t ones tens hun scales o te sc
  good : GoodRow (ones ++ (tens ++ hun :: scales))
theorem Tab.same {H H' : Hp} {t : Addr} {ones tens : List Str} {hun : Str} {scales : List Str} {o te sc : Addr} (T : Tab H t ones tens hun scales o te sc) (s : Same H H') : Tab H' t ones tens hun scales o te sc := ⟨T.tb.same s, T.good⟩
theorem Tab.voc {H : Hp} {t : Addr} {ones tens : List Str} {hun : Str} {scales : List Str} {o te sc : Addr} {ws : List (Str × Wo)} (T : Tab H t ones tens hun scales o te sc) (p : ws.Perm (voc ones tens hun scales)) (a : ascW ws) : Voc ones tens hun scales ws :=
  ⟨p, a, T.tb.l1, T.tb.l2, T.tb.nd⟩
/-- the bound: below, or all numbers -/
def bnd (W : Int) (most : V) : Int := match most with
  | .int m => m
  | _ => W
theorem _root_.L2.FunD.ok0 {P : Program} {w : World} {K : PySem.W.Frag} {mg : Str → Option Value} {base : Heap} {x qual : Str} {params : Arguments} {body : List Stmt} {scope : Scope} {dvs : List V} {kws : List (Str × V)} {f : Addr} {fd : FuncData} {N ps : List Str} {k : Nat} {sp : Sp}
    (F : FunD K x qual params body scope dvs kws f fd) (S : FnScope N ps scope) (len : ∀ vs H Q E, sp vs H Q E → vs.length = ps.length)
    (hbody : ∀ (cdv : Value) (A : Around) (outer : List Env) (s : Shared) (H : Hp) (vs : List V) (Q : VK) (E : XK), Room k (A.deeper (PyProof.Rows.envOfC qual scope s.heap.objs.size f cdv)) → sp vs H Q E →
      ∃ t, PSs (cxOf CX0 P w K mg base N qual scope f cdv A outer s H E).nox body t ∧ t { nx := fun _ H' => Q .non H', rt := Q } (L2.start N vs) H) : FnOk P w K mg base CX0 (k + 1) f fd ps sp :=
  F.ok S len fun cdv A outer s H vs Q E hr h => by
    obtain ⟨t, p, q⟩ := hbody cdv A outer s H vs Q E hr h
    exact ⟨t, p.nox, q⟩
def spLimit0 : Sp := fun vs H Q _ => ∃ (t o te sc : Addr) (ones tens : List Str) (hun : Str) (scales : List Str), vs = [.ref t] ∧ Tab H t ones tens hun scales o te sc ∧ ∀ H', Same H H' → Q (.int (Bg.W (scales.length + 1))) H'
def spBelow0 : Sp := fun vs H Q _ => ∃ (t o te sc : Addr) (ones tens : List Str) (hun : Str) (scales : List Str) (most : V), vs = [.ref t, most] ∧ Tab H t ones tens hun scales o te sc ∧
  (most = .non ∨ ∃ m : Int, most = .int m ∧ 1 ≤ m ∧ m ≤ Bg.W (scales.length + 1)) ∧ ∀ H', Same H H' → Q (.int (bnd (Bg.W (scales.length + 1)) most)) H'
def spPlace0 : Sp := fun vs H Q _ => ∃ (t o te sc : Addr) (ones tens : List Str) (hun : Str) (scales : List Str) (n : Int) (most : V), vs = [.ref t, .int n, most] ∧ Tab H t ones tens hun scales o te sc ∧
  (most = .non ∨ ∃ m : Int, most = .int m ∧ 1 ≤ m ∧ m ≤ Bg.W (scales.length + 1)) ∧ 0 ≤ n ∧ n < bnd (Bg.W (scales.length + 1)) most ∧
  ∀ H', Same H H' → Q (.int (ahead ones tens hun scales 0 (bnd (Bg.W (scales.length + 1)) most - 1) n)) H'
def spNumAt0 : Sp := fun vs H Q _ => ∃ (t o te sc : Addr) (ones tens : List Str) (hun : Str) (scales : List Str) (n : Int) (most : V), vs = [.ref t, .int n, most] ∧ Tab H t ones tens hun scales o te sc ∧
  (most = .non ∨ ∃ m : Int, most = .int m ∧ 1 ≤ m ∧ m ≤ Bg.W (scales.length + 1)) ∧ 0 ≤ n ∧ n < bnd (Bg.W (scales.length + 1)) most ∧
  ∀ r H', Same H H' → 0 ≤ r → r < bnd (Bg.W (scales.length + 1)) most → ahead ones tens hun scales 0 (bnd (Bg.W (scales.length + 1)) most - 1) r = n → Q (.int r) H'
theorem bnd_0 {W : Int} {most : V} (w : 1 ≤ W) (h : most = .non ∨ ∃ m : Int, most = .int m ∧ 1 ≤ m ∧ m ≤ W) : 1 ≤ bnd W most ∧ bnd W most ≤ W := by
  rcases h with rfl | ⟨m, rfl, h⟩
  · exact ⟨w, Int.le_refl _⟩
  · exact h
section
variable {P : Program} {w : World} {K : PySem.W.Frag} {mg : Str → Option Value} {base : Heap}
theorem scLimit0 : FnScope ["table"] ["table"] (defScope sLimit) := ⟨rfl, rfl, rfl, by decide +kernel, rfl, by decide +kernel, by decide +kernel⟩
theorem ok_limit0 {f fC fT : Addr} {fd dC dT : FuncData} (F : Fun K "limit" "limit" sLimit f fd) (C : Def1 P w K mg base "check_table" 2 fC dC ["table"] spCheck) (T : Def1 P w K mg base "top_of" 1 fT dT ["table"] spTopOf) : FnOk P w K mg base CX0 3 f fd ["table"] spLimit0 := by
  refine F.ok scLimit0 (fun vs H Q E h => ?_) (fun cdv A outer s H vs Q E hr h => ?_)
  · obtain ⟨t, o, te, sc, ones, tens, hun, scales, rfl, _⟩ := h
    rfl
  · obtain ⟨t, o, te, sc, ones, tens, hun, scales, rfl, TB, k⟩ := h
    have l3 := TB.tb.l3
    refine ⟨_, pss_cons (ps_expr (pe_call C.ok hr (by rfl) C.g C.k C.b .nil pass0 (pa_cons (pv 0) pa_nil)))
      (pss_one (ps_ret (pe_call T.ok (hr.mono (by decide)) (by rfl) T.g T.k T.b .nil pass0 (pa_cons (pv 0) pa_nil)))), ?_⟩
    refine ⟨_, rfl, t, o, te, sc, ones, tens, hun, scales, rfl, TB.tb.at_, TB.tb.l1, TB.tb.l2, by omega, TB.good, fun H1 s1 => ?_⟩
    have T1 := TB.same s1
    refine ⟨_, rfl, t, o, te, sc, ones, tens, hun, scales, rfl, T1.tb.at_, by omega, ?_⟩
    rw [limit_W]
    exact k _ s1
theorem scBelow0 : FnScope ["table", "below", "top"] ["table", "below"] (defScope sBelow) := ⟨rfl, rfl, rfl, by decide +kernel, rfl, by decide +kernel, by decide +kernel⟩
theorem ok_below0 {f fL : Addr} {fd dL : FuncData} (F : Fun K "checked_below" "checked_below" sBelow f fd) (L : Def1 P w K mg base "limit" 3 fL dL ["table"] spLimit0) : FnOk P w K mg base CX0 4 f fd ["table", "below"] spBelow0 := by
  refine F.ok scBelow0 (fun vs H Q E h => ?_) (fun cdv A outer s H vs Q E hr h => ?_)
  · obtain ⟨t, o, te, sc, ones, tens, hun, scales, most, rfl, _⟩ := h
    rfl
  · obtain ⟨t, o, te, sc, ones, tens, hun, scales, most, rfl, TB, hm, k⟩ := h
    refine ⟨_, pss_cons (ps_set (i := 2) scBelow0.nd rfl (.inl rfl) (pe_call L.ok hr (by rfl) L.g L.k L.b .nil pass0 (pa_cons (pv 0) pa_nil)))
      (pss_cons (ps_if (pt_cmp (pc_isN (pv 1))) (pss_one (ps_ret (pv 2))) pss_nil)
      (pss_cons (ps_if (PW.pt (pw_or (pt_cmpR op_lt (pv 1) pe_int (nomark _)) (pw_or1 (pt_cmpR op_gt (pv 1) (pv 2) (nomark _))))) pss_never pss_nil)
      (pss_one (ps_ret (pv 1))))), ?_⟩
    refine ⟨_, rfl, t, o, te, sc, ones, tens, hun, scales, rfl, TB, fun H1 s1 => ?_⟩
    rcases hm with rfl | ⟨m, rfl, m1, m2⟩
    · exact ⟨_, rfl, _, rfl, ite2 (fun _ => ⟨_, rfl, k _ s1⟩) (fun z => absurd (decide_eq_true rfl) z)⟩
    · refine ⟨_, rfl, _, rfl, ite2 (fun z => absurd (of_decide_eq_true z) (by simp)) (fun _ => ?_)⟩
      refine ⟨_, rfl, _, _, rfl, rfl, _, rfl, ite2 (fun c1 => ?_) (fun c1 => ?_)⟩
      · have := of_decide_eq_true c1
        omega
      · refine ⟨_, rfl, _, rfl, _, _, rfl, rfl, _, rfl, ite2 (fun c2 => ?_) (fun c2 => ?_)⟩
        · have := of_decide_eq_true c2
          omega
        · exact ⟨_, rfl, k _ s1⟩
end
end LB
set_option Elab.async false
set_option linter.all false
set_option maxRecDepth 100000
set_option maxHeartbeats 4000000
/-! The program's own: the number at a place. -/
namespace LB
open PySem L2 Wk
open Bg (Bg Wo)
section
variable {P : Program} {w : World} {K : PySem.W.Frag} {mg : Str → Option Value} {base : Heap}
end
end LB
set_option Elab.async false
set_option linter.all false
set_option maxRecDepth 100000
set_option maxHeartbeats 4000000
/-! The program's own on valid arguments: ranges. -/
namespace LB
open PySem L2 Wk
open Bg (Bg Wo)
def spCN0 : Sp := fun vs H Q _ => ∃ (t o te sc : Addr) (ones tens : List Str) (hun : Str) (scales : List Str) (n : Int), vs = [.ref t, .int n] ∧ Tab H t ones tens hun scales o te sc ∧ 0 ≤ n ∧ n < Bg.W (scales.length + 1) ∧ ∀ H', Same H H' → Q .non H'
def spCR0 : Sp := fun vs H Q _ => ∃ (t o te sc : Addr) (ones tens : List Str) (hun : Str) (scales : List Str) (lo hi : Int), vs = [.ref t, .int lo, .int hi] ∧ Tab H t ones tens hun scales o te sc ∧ 0 ≤ lo ∧ lo ≤ hi ∧ hi < Bg.W (scales.length + 1) ∧ ∀ H', Same H H' → Q .non H'
def spCB0 : Sp := fun vs H Q _ => ∃ (t o te sc : Addr) (ones tens : List Str) (hun : Str) (scales : List Str) (n lo hi : Int), vs = [.ref t, .int n, .int lo, .int hi] ∧ Tab H t ones tens hun scales o te sc ∧ 0 ≤ n ∧ n < Bg.W (scales.length + 1) ∧
  0 ≤ lo ∧ lo ≤ hi ∧ hi < Bg.W (scales.length + 1) ∧ ∀ H', Same H H' → Q (.int (ahead ones tens hun scales lo hi n)) H'
def spNth0 : Sp := fun vs H Q _ => ∃ (t o te sc : Addr) (ones tens : List Str) (hun : Str) (scales : List Str) (n lo hi : Int), vs = [.ref t, .int n, .int lo, .int hi] ∧ Tab H t ones tens hun scales o te sc ∧ 0 ≤ n ∧ n ≤ hi - lo ∧
  0 ≤ lo ∧ lo ≤ hi ∧ hi < Bg.W (scales.length + 1) ∧ ∀ r H', Same H H' → lo ≤ r → r ≤ hi → ahead ones tens hun scales lo hi r = n → Q (.int r) H'
/-- the neighbour of a number: at this place, if there is one -/
def spNext0 (up : Bool) : Sp := fun vs H Q _ => ∃ (t o te sc : Addr) (ones tens : List Str) (hun : Str) (scales : List Str) (n lo hi : Int), vs = [.ref t, .int n, .int lo, .int hi] ∧ Tab H t ones tens hun scales o te sc ∧ 0 ≤ n ∧ n < Bg.W (scales.length + 1) ∧
  0 ≤ lo ∧ lo ≤ hi ∧ hi < Bg.W (scales.length + 1) ∧ (∀ p : Int, p = (if up then ahead ones tens hun scales lo hi n + (if lo ≤ n ∧ n ≤ hi then 1 else 0) else ahead ones tens hun scales lo hi n - 1) →
    ((p < 0 ∨ p > hi - lo) → ∀ H', Same H H' → Q .non H') ∧ (0 ≤ p → p ≤ hi - lo → ∀ r H', Same H H' → lo ≤ r → r ≤ hi → ahead ones tens hun scales lo hi r = p → Q (.int r) H'))
section
variable {P : Program} {w : World} {K : PySem.W.Frag} {mg : Str → Option Value} {base : Heap}
end
end LB
set_option Elab.async false
set_option linter.all false
set_option maxRecDepth 100000
set_option maxHeartbeats 4000000
/-! f(k = v, ..): keywords alone; what is raised is wished for at the caller's slots. -/
namespace Wk
open PySem PySem.Spec PyProof.Rows L2
def tCallKS (m : Nat) (sp : Sp) (gV : List V → List V → List V) (E : L2.St → XK) (tk : TA) : TE := fun σ H Q => tk σ H fun zs H2 => zs.length = m ∧ sp (gV [] zs) H2 Q (E σ)
section
variable {X : Cx} {CX : CXT} {k : Nat} {f : Addr} {fd : FuncData} {ps ks : List Str} {sp : Sp} {E : L2.St → XK} {x : Str} {p pos : Pos} {kws : List Keyword} {tk : TA} {g : List Value → List Value → List Value} {gV : List V → List V → List V}
theorem run_fnKS {pins : List (Addr × Obj)} {σ : L2.St} {H : Hp} {s : Shared} {Q : VK} {ws : List Value} {zs : List V} (F : FnOk X.prog X.w X.K X.mg X.base CX k f fd ps sp) (hr : Room k X.A) (hb : KBn X.K fd ps 0 ks g gV) (hx : PassesAt CX X σ (E σ))
    (I : L2.Inv X pins σ H s) (rz : Vals zs ws) (l2 : zs.length = ks.length) (h : sp (gV [] zs) H Q (E σ)) : wpAny (model X.prog X.w) X.A (call (.ref f) [] (ks.zip ws)) (EP X pins σ Q) X.xe s := by
  have r2 := hb.rel .nil rz
  refine wpAny_call (codeAny_mono (F.run X.A X.stack s H ⟨[], ks.zip ws⟩ (g [] ws) (gV [] zs) Q (E σ) hr I.env0 (hb.to s [] ws I.kIn rfl (rz.length.symm.trans l2)) r2 h) fun r s' hq => ?_)
  cases r with
  | error e => exact hx pins H s e s' I hq
  | ok fl =>
    cases fl with
    | ret u => exact I.after hq
    | next => exact False.elim hq
    | brk => exact False.elim hq
    | cont => exact False.elim hq
theorem pe_callKS (F : FnOk X.prog X.w X.K X.mg X.base CX k f fd ps sp) (hr : Room k X.A) (hg : Gl X x) (hm : X.mg x = some (.ref f)) (hk : PySem.W.keepIn X.K (.ref f) = true) (hb : KBn X.K fd ps 0 ks g gV) (hx : ∀ σ, PassesAt CX X σ (E σ))
    (hkw : PK X kws tk) (hall : (backToKw pos (keywordEach kws X.env)).all (·.1.isSome) = true := by rfl) (hks : (backToKw pos (keywordEach kws X.env)).filterMap (·.1) = ks := by rfl)
    (hdb : (x == ("__debug__" : Str)) = false := by decide) (hpl : ((backTo pos (starEach [] X.env)).any (·.1) || (backToKw pos (keywordEach kws X.env)).any (·.1.isNone)) = false := by rfl) :
    PE X (.Call (.Name x p) [] kws pos) (tCallKS ks.length sp gV E tk) := by
  constructor
  intro pins s σ H Q I h
  refine wpAny_Call_Name_kw (ld_glob I hg hm ?_ hdb)
  refine PySem.W.callWith_KW0 (h₀ := X.base) I.ok.mod.kin hk hall (thn (hkw.run pos pins s σ H _ I h) ?_) hpl
  rintro ws s2 ⟨zs, H2, I2, rz, l2, q2⟩
  refine ⟨I2.kIn, ?_⟩
  rw [hks]
  exact run_fnKS F hr hb (hx σ) I2 rz l2 q2
end
end Wk
set_option Elab.async false
set_option linter.all false
set_option maxRecDepth 100000
set_option maxHeartbeats 4000000
/-! Methods and classes called where an error is due at the caller's slots; a method called by keywords alone. -/
namespace Wk
open PySem PySem.Spec PyProof.Rows L2
def tMethAt (C : Addr) (m : Str) (sp : Sp) (E : L2.St → XK) (ta : TE) (t : TA) : TE := fun σ H Q => ta σ H fun x H1 => ∃ a dx fs, x = .ref a ∧ H1 a = some (.ins C dx fs) ∧ fs.lookup m = none ∧ t σ H1 fun vs H2 => sp (x :: vs) H2 Q (E σ)
def tMethKAt (C : Addr) (m : Str) (n : Nat) (sp : Sp) (gV : List V → List V → List V) (E : L2.St → XK) (ta : TE) (tk : TA) : TE := fun σ H Q => ta σ H fun x H1 => ∃ a dx fs, x = .ref a ∧ H1 a = some (.ins C dx fs) ∧ fs.lookup m = none ∧ tk σ H1 fun zs H2 => zs.length = n ∧ sp (gV [x] zs) H2 Q (E σ)
def tMakeAt (C : Addr) (sp : Sp) (E : L2.St → XK) (t : TA) : TE := fun σ H Q => t σ H fun vs H1 => ∀ x dx, H1 x = none → H1 dx = none → dx ≠ x → sp (.ref x :: vs) (upd (upd H1 dx (.own x)) x (.ins C dx [])) (fun v H2 => v = .non ∧ Q (.ref x) H2) (E σ)
section
variable {X : Cx} {CX : CXT} {k : Nat} {f C : Addr} {fd : FuncData} {ps ks : List Str} {sp : Sp} {E : L2.St → XK} {x m : Str} {p pos apos : Pos} {e o : Expr} {es : List Expr} {kws : List Keyword} {ta : TE} {t tk : TA} {g : List Value → List Value → List Value} {gV : List V → List V → List V}
theorem pe_methAt {pl : Sem Bool} (he : PE X o ta) (c : Cls X.K C) (hm : Meth X.K C m f) (F : FnOk X.prog X.w X.K X.mg X.base CX k f fd ps sp) (room : Room k X.A) (hb : Binds X.K fd ps []) (hx : ∀ σ, PassesAt CX X σ (E σ)) (ha : PA X (e :: es) t)
    (s1 : starEach (e :: es) X.env = (false, eval e X.env) :: starEach es X.env := by rfl) (s2 : (backTo pos (starEach es X.env)).any (·.1) = false := by rfl)
    (s3 : eval (.Call (.Attribute o m apos) (e :: es) [] pos) X.env = (do
      let ov ← eval o X.env
      standAt apos.atName
      let (f, first) ← holding [ov] (getMethod ov m pl)
      callWith pos f first (backTo pos (starEach (e :: es) X.env)) (backToKw pos (keywordEach [] X.env))) := by rfl) :
    PE X (.Call (.Attribute o m apos) (e :: es) [] pos) (tMethAt C m sp E ta t) := by
  constructor
  intro pins s σ H Q I h
  refine PySem.W.methodCall_KW (pl := pl) (thn (he.run pins s σ H _ I h) ?_) s3
  rintro u s1' ⟨x, H1, I1, rx, a, dx, fs, rfl, ea, l, q⟩
  obtain rfl : u = Value.ref a := rx
  refine getmeth_ok I1 ea c hm l ?_
  refine PySem.W.callWith_K (first := [.ref a]) (h₀ := X.base) I.ok.mod.kin hm.kp (thn (ha.run pos pins s1' σ H1 _ I1 q) ?_) s1 s2
  rintro us s2' ⟨vs, H2, I2, r, q2⟩
  exact ⟨I2.kIn, run_fnS (us := .ref a :: us) (vs := .ref a :: vs) F room hb (hx σ) I2 (.cons rfl r) q2⟩
theorem pe_methKAt {pl : Sem Bool} (he : PE X o ta) (c : Cls X.K C) (hm : Meth X.K C m f) (F : FnOk X.prog X.w X.K X.mg X.base CX k f fd ps sp) (room : Room k X.A) (hb : KBn X.K fd ps 1 ks g gV) (hx : ∀ σ, PassesAt CX X σ (E σ)) (hkw : PK X kws tk)
    (hall : (backToKw pos (keywordEach kws X.env)).all (·.1.isSome) = true := by rfl) (hks : (backToKw pos (keywordEach kws X.env)).filterMap (·.1) = ks := by rfl)
    (s2 : ((backTo pos (starEach [] X.env)).any (·.1) || (backToKw pos (keywordEach kws X.env)).any (·.1.isNone)) = false := by rfl)
    (s3 : eval (.Call (.Attribute o m apos) [] kws pos) X.env = (do
      let ov ← eval o X.env
      standAt apos.atName
      let (f, first) ← holding [ov] (getMethod ov m pl)
      callWith pos f first (backTo pos (starEach [] X.env)) (backToKw pos (keywordEach kws X.env))) := by rfl) :
    PE X (.Call (.Attribute o m apos) [] kws pos) (tMethKAt C m ks.length sp gV E ta tk) := by
  constructor
  intro pins s σ H Q I h
  refine PySem.W.methodCall_KW (pl := pl) (thn (he.run pins s σ H _ I h) ?_) s3
  rintro u s1' ⟨x, H1, I1, rx, a, dx, fs, rfl, ea, l, q⟩
  obtain rfl : u = Value.ref a := rx
  refine getmeth_ok I1 ea c hm l ?_
  refine PySem.W.callWith_KW0 (first := [.ref a]) (h₀ := X.base) I.ok.mod.kin hm.kp hall (thn (hkw.run pos pins s1' σ H1 _ I1 q) ?_) s2
  rintro ws s2' ⟨zs, H2, I2, rz, l2, q2⟩
  refine ⟨I2.kIn, ?_⟩
  rw [hks]
  have r2 := hb.rel (.cons rfl .nil : Vals [V.ref a] [Value.ref a]) rz
  refine wpAny_call (codeAny_mono (F.run X.A X.stack s2' H2 ⟨[.ref a], ks.zip ws⟩ (g [.ref a] ws) (gV [.ref a] zs) Q (E σ) room I2.env0 (hb.to s2' [.ref a] ws I2.kIn rfl (rz.length.symm.trans l2)) r2 q2) fun r s' hq => ?_)
  cases r with
  | error er => exact hx σ pins H2 s2' er s' I2 hq
  | ok fl =>
    cases fl with
    | ret u => exact I2.after hq
    | next => exact False.elim hq
    | brk => exact False.elim hq
    | cont => exact False.elim hq
theorem pe_makeAt (M : Mk X.K C f) (F : FnOk X.prog X.w X.K X.mg X.base CX k f fd ps sp) (room : Room (k + 1) X.A) (hg : Gl X x) (hm : X.mg x = some (.ref C)) (hb : Binds X.K fd ps []) (hx : ∀ σ, PassesAt CX X σ (E σ)) (ha : PA X (e :: es) t)
    (s0 : (x == ("__debug__" : Str)) = false := by decide) (s1 : starEach (e :: es) X.env = (false, eval e X.env) :: starEach es X.env := by rfl) (s2 : (backTo pos (starEach es X.env)).any (·.1) = false := by rfl) :
    PE X (.Call (.Name x p) (e :: es) [] pos) (tMakeAt C sp E t) := by
  constructor
  intro pins s σ H Q I h
  refine wpAny_Call_Name_kw (ld_glob I hg hm ?_ s0)
  refine PySem.W.callWith_K (h₀ := X.base) I.ok.mod.kin M.kp (thn (ha.run pos pins s σ H _ I h) ?_) s1 s2
  rintro us s1' ⟨vs, H1, I1, r, q⟩
  refine ⟨I1.kIn, ?_⟩
  have want := q (s1'.heap.objs.size + 1) s1'.heap.objs.size (I1.hok.fresh (Nat.le_succ _)) (I1.hok.fresh (Nat.le_refl _)) (Nat.ne_of_lt (Nat.lt_succ_self _))
  have I2 := Inv.made (C := C) I1
  have r2 : Vals (V.ref (s1'.heap.objs.size + 1) :: vs) (Value.ref (s1'.heap.objs.size + 1) :: us) := .cons rfl r
  have hl : (Value.ref (s1'.heap.objs.size + 1) :: us).length = ps.length := by
    have e := r2.length
    rw [F.len _ _ _ _ want] at e
    exact e.symm
  refine wpAny_call (make_map (f := f) I1.kIn M.makes M.init (beq_iff_eq.mp M.fn) (codeAny_mono (F.run _ X.stack _ _ ⟨Value.ref (s1'.heap.objs.size + 1) :: us, []⟩ (Value.ref (s1'.heap.objs.size + 1) :: us) _ _ (E σ) (room.make C us [])
    (I2.env0.make C us []) (by have z := hb _ (Value.ref (s1'.heap.objs.size + 1) :: us) I2.kIn (by rw [List.append_nil]; exact hl); rw [List.append_nil] at z; exact z) r2 want) fun r s' hq' => ?_))
  cases r with
  | error er => exact hx σ pins _ _ er s' I2 hq'
  | ok fl =>
    cases fl with
    | ret u =>
      obtain ⟨v, H', I3, rv, ev, q3⟩ := I2.after hq'
      subst ev
      exact ⟨rv, ⟨V.ref (s1'.heap.objs.size + 1), H', I3, rfl, q3⟩⟩
    | next => exact False.elim hq'
    | brk => exact False.elim hq'
    | cont => exact False.elim hq'
end
end Wk
set_option Elab.async false
set_option linter.all false
set_option maxRecDepth 100000
set_option maxHeartbeats 4000000
/-! try .. except X as n, where the suite works with the error (gives it to defs, reads its fields) and may return: the error is tracked from the suite's start. Defs that run whatever error is handled. -/
namespace Wk
open PySem PySem.Spec PyProof.Rows L2
/-! ### the same state, whatever is handled -/
/-- a context with other surroundings and another wish -/
abbrev hotX (X : Cx) (B : Around) (xe : Value → Shared → Prop) : Cx := { X with A := B, calm := false, xe := xe }
theorem okHot {X : Cx} {B : Around} {xe : Value → Shared → Prop} (o : X.Ok) (hA : B.frames = X.A.frames) : (hotX X B xe).Ok where
  mod := o.mod
  kind := o.kind
  glob := o.glob
  blt := o.blt
  above := o.above
  inj := o.inj
  has := o.has
  cab := o.cab
  hd := fun z => Bool.noConfusion z
  frames := hA.trans o.frames
  stk := o.stk
  exf := o.exf
  bs := o.bs
  bsz := o.bsz
  noex := o.noex
  exfs := o.exfs
  funs := o.funs
  frf := o.frf
theorem invHot {X : Cx} {B : Around} {xe : Value → Shared → Prop} {pins : List (Addr × Obj)} {σ : L2.St} {H : Hp} {s : Shared} (I : L2.Inv X pins σ H s) (hA : B.frames = X.A.frames) : L2.Inv (hotX X B xe) pins σ H s where
  ok := okHot I.ok hA
  os := I.os
  bare := I.bare
  base := I.base
  loc := I.loc
  cell := I.cell
  free := I.free
  freeC := I.freeC
  pin := I.pin
  hok := I.hok
  len := I.len
/-- no exception is handled there -/
abbrev quietA (A : Around) : Around := { A with handled := none }
theorem env0_quiet {P : Program} {w : World} {K : PySem.W.Frag} {mg : Str → Option Value} {base : Heap} {A : Around} {out : List Env} {s : Shared} {H : Hp} (e : Env0 P w K mg base A out s H) : Env0 P w K mg base (quietA A) out s H where
  frames := e.frames
  mod := e.mod
  bs := e.bs
  bsz := e.bsz
  funs := e.funs
  frf := e.frf
  hok := e.hok
  bare := e.bare
/-- a def's promise, whatever exception is handled around it -/
structure FnA (P : Program) (w : World) (K : PySem.W.Frag) (mg : Str → Option Value) (base : Heap) (CX : CXT)
    (k : Nat) (f : Addr) (fd : FuncData) (ps : List Str) (sp : Sp) : Prop where
  args : ∀ vs H Q E, sp vs H Q E → vs.length = ps.length
  go : ∀ (A : Around) (out : List Env) (s : Shared) (H : Hp) (ar : Args) (us : List Value) (vs : List V) (Q : VK) (E : XK),
    L2H.RoomH k A → Env0 P w K mg base A out s H → BindsTo s fd ar (ps.zip us) → Vals vs us →
    sp vs H Q E → codeAny (model P w) A (.call (.ref f) ar) (CR CX out P w H s Q E) s
/-- its body's context -/
abbrev cxAny (CX : CXT) (P : Program) (w : World) (K : PySem.W.Frag) (mg : Str → Option Value) (base : Heap) (N : List Str) (qual : Str) (scope : Scope) (f : Addr) (cd : Value) (A : Around) (outer : List Env) (s : Shared) (H : Hp) (E : XK) : Cx :=
  { cxOf CX P w K mg base N qual scope f cd A outer s H E with calm := false }
section
variable {P : Program} {w : World} {K : PySem.W.Frag} {mg : Str → Option Value} {base : Heap} {CX : CXT}
variable {k : Nat} {f : Addr} {fd : FuncData} {ps : List Str} {sp : Sp}
theorem fnA_of {name qual : Str} {params : Arguments} {body : List Stmt} {scope : Scope} {dV kV doc pm cdv ct oc : Value} {an od : Option Addr}
    {osl : Array (Option Value)} {N : List Str}
    (lk : K.lookup f = some ⟨oc, od, .func (PySem.W.fnOf name qual params body scope dV kV doc pm an cdv ct), osl⟩)
    (code : PySem.W.codeIn K cdv qual = true) (S : FnScope N ps scope) (args : ∀ vs H Q E, sp vs H Q E → vs.length = ps.length)
    (hb : ∀ (A : Around) (out : List Env) (s : Shared) (H : Hp) (vs : List V) (Q : VK) (E : XK),
      L2H.RoomH k (A.deeper (envOfC qual scope s.heap.objs.size f cdv)) → sp vs H Q E →
      ∃ t, PSs (cxAny CX P w K mg base N qual scope f cdv A out s H E) body t ∧ t { nx := fun _ H' => Q .non H', rt := Q } (start N vs) H) :
    FnA P w K mg base CX (k + 1) f (PySem.W.fnOf name qual params body scope dV kV doc pm an cdv ct) ps sp := by
  refine ⟨args, ?_⟩
  intro A out s H ar us vs Q E room e0 bt rv want
  have nargs := args vs H Q E want
  have inK : K.In s.heap := e0.mod.kin.keeps (fun b o z => (e0.bs b o z).1)
  have noL : s.heap.NoLimit := e0.mod.nolimit.keeps (fun b o z => (e0.bs b o z).1)
  have kinds : ∀ y ∈ ps.zip us, scope.names.lookup y.1 = some .local ∨
      (scope.names.lookup y.1 = some .cell ∧ ((cellsFrom (s.heap.objs.size + 1) scope.names []).lookup y.1).isSome = true) := by
    intro y hy
    have hm := (List.of_mem_zip (show (y.1, y.2) ∈ ps.zip us from hy)).1
    cases S.par y.1 hm with
    | inl q => exact Or.inl q
    | inr q => exact Or.inr ⟨q, PySem.W.cellsFrom_some _ _ _ (Or.inl q)⟩
  refine codeAny_call_function room.depth (inK _ _ lk) rfl S.co S.gen rfl (PySem.W.codeRec_of inK code) (bt _ _ _ _ ?_)
  refine wpAny_newFunctionEnv_cells S.kind kinds fun env he s1 x => ?_
  cases he
  refine ⟨noL.keeps x.toInCall.keep, codeAny_func ?_⟩
  obtain ⟨t, ht, hq⟩ := hb A out s H vs Q E (room.deeper _) want
  have I0 := inv_start (CX := CX) (P := P) (w := w) (K := K) (mg := mg) (base := base) (E := E) (A := quietA A) S rfl (env0_quiet e0) nargs rv x
  have I : L2.Inv (cxAny CX P w K mg base N qual scope f cdv A out s H E) [] (start N vs) H s1 :=
    invHot (X := cxOf CX P w K mg base N qual scope f cdv (quietA A) out s H E) (B := A.deeper (envOfC qual scope s.heap.objs.size f cdv)) (xe := (cxOf CX P w K mg base N qual scope f cdv A out s H E).xe) I0 rfl
  refine wpAny_mono (ht.run [] s1 (start N vs) H _ I hq) ?_ (fun _ _ z => z)
  intro fl s' hs
  cases fl with
  | ret u =>
    obtain ⟨v, σ', H', J, r', q⟩ := hs
    exact ⟨v, H', J.os, J.bare, J.base, J.hok, r', q⟩
  | next =>
    obtain ⟨σ', H', J, q⟩ := hs
    exact ⟨V.non, H', J.os, J.bare, J.base, J.hok, rfl, q⟩
  | brk => obtain ⟨_, _, _, q⟩ := hs; exact q.elim
  | cont => obtain ⟨_, _, _, q⟩ := hs; exact q.elim
end
/-- .. where nothing leaves the def -/
theorem okA {P : Program} {w : World} {K : PySem.W.Frag} {mg : Str → Option Value} {base : Heap} {x qual : Str} {st : Stmt} {f : Addr} {fd : FuncData}
    {N ps : List Str} {k : Nat} {sp : Sp} (F : Fun K x qual st f fd) (S : FnScope N ps (defScope st)) (args : ∀ vs H Q E, sp vs H Q E → vs.length = ps.length)
    (hb : ∀ (cdv : Value) (A : Around) (out : List Env) (s : Shared) (H : Hp) (vs : List V) (Q : VK) (E : XK),
      L2H.RoomH k (A.deeper (envOfC qual (defScope st) s.heap.objs.size f cdv)) → sp vs H Q E →
      ∃ t, PSs (cxAny CX0 P w K mg base N qual (defScope st) f cdv A out s H E).nox (defBody st) t ∧ t { nx := fun _ H' => Q .non H', rt := Q } (start N vs) H) :
    FnA P w K mg base CX0 (k + 1) f fd ps sp := by
  obtain ⟨oc, od, kV, doc, pm, an, cdv, ct, osl, rfl, lk, code⟩ := F.ex
  refine fnA_of lk code S args ?_
  intro A out s H vs Q E room want
  obtain ⟨t, h, q⟩ := hb cdv A out s H vs Q E room want
  exact ⟨t, h.nox, q⟩
section
variable {X : Cx} {CX : CXT} {k : Nat} {f : Addr} {fd : FuncData} {ps : List Str} {sp : Sp} {E : XK}
/-- f(e, ..) of such a def -/
theorem pe_callA {x : Str} {p pos : Pos} {e : Expr} {es : List Expr} {t : TA} (F : FnA X.prog X.w X.K X.mg X.base CX k f fd ps sp) (hr : L2H.RoomH k X.A)
    (hg : Gl X x) (hm : X.mg x = some (.ref f)) (hk : PySem.W.keepIn X.K (.ref f) = true) (hb : Binds X.K fd ps []) (hx : Passes CX X E) (ha : PA X (e :: es) t)
    (hdb : (x == ("__debug__" : Str)) = false := by decide) (he : starEach (e :: es) X.env = (false, eval e X.env) :: starEach es X.env := by rfl)
    (hpl : (backTo pos (starEach es X.env)).any (·.1) = false := by rfl) :
    PE X (.Call (.Name x p) (e :: es) [] pos) (tCall sp [] E t) := by
  constructor
  intro pins s σ H Q I h
  refine wpAny_Call_Name_kw (ld_glob I hg hm ?_ hdb)
  refine PySem.W.callWith_K (h₀ := X.base) I.ok.mod.kin hk (thn (ha.run pos pins s σ H _ I h) ?_) he hpl
  rintro us s1 ⟨vs, H1, I1, r, q⟩
  refine ⟨I1.kIn, ?_⟩
  have r2 : Vals (vs ++ []) (us ++ []) := r.append .nil
  have hl : (us ++ []).length = ps.length := r2.length.symm.trans (F.args _ _ _ _ q)
  refine wpAny_call (codeAny_mono (F.go X.A X.stack s1 H1 ⟨us, []⟩ (us ++ []) (vs ++ []) Q E hr I1.env0 (hb s1 us I1.kIn hl) r2 q) ?_)
  intro r s' hq
  match r, hq with
  | .error e, hq => exact hx pins σ H1 s1 e s' I1 hq
  | .ok (.ret u), hq => exact I1.after hq
end
/-- a field of a caught error, K told -/
theorem pe_xhK {X : Cx} {e : Expr} {te : TE} {pos : Pos} {f : Str} (K0 : PySem.W.Frag) (hK : X.K = K0) (he : PE X e te) (hb : attributeBase e f X.env (eval e X.env) = eval e X.env := by rfl) : PE X (.Attribute e f pos) (tXh K0 f te) := by
  subst hK
  exact pe_xh he hb
/-! ### the error is tracked within the suite -/
/-- what the clause wishes: its suite, with the error in slot i and in the heap -/
def wRet (K : PySem.W.Frag) (c : Value) (i : Nat) (ts : Addr → Value → Option Addr → TS) (Wout : WX) (D : Ends) : WX := fun cls d σ H =>
  ∃ b, PySem.W.exmOne K cls c = some b ∧
    (b = true → ∀ a, H a = none → ts a cls d { nx := fun τ G => D.nx (τ.set i none) G, rt := D.rt, bk := fun τ G => D.bk (τ.set i none) G, ct := fun τ G => D.ct (τ.set i none) G } (σ.set i (some (.ref a))) (upd H a (ExH cls d a))) ∧
    (b = false → Wout cls d σ H)
section
variable {X : Cx} {x n : Str} {c : Value} {i : Nat} {body suite : List Stmt} {b0 : Stmt} {np pos pos' : Pos} {tb : WX → TS} {ts : Addr → Value → Option Addr → TS} {Wout : WX}
theorem inv_unpin {pins : List (Addr × Obj)} {σ : L2.St} {H : Hp} {s : Shared} {a : Addr} {q : Addr × Obj} (I : L2.Inv (X.suite a (q :: (X.pn ++ pins))) [] σ H s) (ok : X.Ok) : L2.Inv (X.suite a (X.pn ++ pins)) [] σ H s where
  ok := ok.suite a _
  os := I.os
  bare := I.bare
  base := I.base
  loc := I.loc
  cell := I.cell
  free := I.free
  freeC := I.freeC
  pin := fun p hp => I.pin p (by
    rw [List.append_nil] at hp
    exact List.mem_append_left _ (List.mem_cons_of_mem _ hp))
  hok := I.hok
  len := I.len
theorem inv_out {pins : List (Addr × Obj)} {σ : L2.St} {H : Hp} {s : Shared} {a : Addr} (I : L2.Inv (X.suite a (X.pn ++ pins)) [] σ H s) (ok : X.Ok) : L2.Inv X pins σ H s where
  ok := ok
  os := I.os
  bare := I.bare
  base := I.base
  loc := I.loc
  cell := I.cell
  free := I.free
  freeC := I.freeC
  pin := fun p hp => I.pin p (List.mem_append_left _ hp)
  hok := I.hok
  len := I.len
theorem ps_try_ret (hs : X.stack = X.env :: X.outer) (hf : X.env.frame = some X.env.locals) (hex : X.ex = []) (hN : X.N.Nodup) (hi : X.N[i]? = some n) (hln : X.env.kindOf n = some .local) (hc : Names X x c) (tk : Takes X Wout)
    (hb : ∀ (W : WX) (pn : List (Addr × Obj)) (xe : Value → Shared → Prop), Takes (X.tr pn xe) W → PassesOwn (model X.prog X.w) X.A X.env xe → PSs (X.tr pn xe) body (tb W))
    (hsu : ∀ (a : Addr) (cls : Value) (d : Option Addr) (pn : List (Addr × Obj)), PSs (X.suite a pn) (b0 :: suite) (ts a cls d)) :
    PS X (.Try body [.ExceptHandler (some (.Name x np)) (some n) (b0 :: suite) pos'] [] [] pos) (fun D σ H => tb (wRet X.K c i ts Wout D) D σ H) := by
  constructor
  intro pins s σ H D I h
  have ok := I.ok
  have frames : X.A.frames = some (X.env :: X.outer) := by rw [ok.frames, hs]
  refine wpAny_Try_except ?_
  let after : Value → Shared → Prop := fun e s₁ => wpAny (model X.prog X.w) X.A (noteFrame e X.env) (fun _ s₂ => wpAny (model X.prog X.w) X.A (setFlight e none)
    (fun _ s₃ => wpAny (model X.prog X.w) X.A (handleBy e X.env [.ExceptHandler (some (.Name x np)) (some n) (b0 :: suite) pos']) (SP X pins D) X.xe s₃) X.xe s₂) X.xe s₁
  have catch_ : Takes (X.tr (X.pn ++ pins) after) (wRet X.K c i ts Wout D) := by
    rintro u s' ⟨a, B, sI, pins', σ', H', cls, d, rfl, J', nb, up, sky, na, os, ag, b, hb1, yes, no⟩
    have J : L2.Inv X pins σ' H' sI := J'.ofTry ok
    have sky' : Sky B (X.env :: X.outer) a (Zc cls d) X.env.locals s'.heap := by rw [← hs]; exact sky
    show wpAny (model X.prog X.w) X.A (noteFrame (.ref a) X.env) _ _ _
    refine Sky.land Zc.steady frames hf sky' fun h3 fl3 up3 => ?_
    have J3 : L2.Inv X pins σ' H' { s' with heap := h3 } := J.landed nb fl3.1 (up.trans up3) os ag
    obtain ⟨oe3, vs3, he3, hz3, hd3⟩ := fl3.there
    have noB : B.get? a = none := fl3.2.1
    have nfr : a ∉ frs (X.env :: X.outer) := by
      intro hm
      obtain ⟨_, o', e', hnf⟩ := fl3.2.2.1.mem hm
      rw [he3] at e'
      cases e'
      exact hnf _ hd3
    have nL : a ≠ X.env.locals := fun z => nfr (List.mem_filterMap.mpr ⟨X.env, List.mem_cons_self, by rw [hf, z]⟩)
    have nF : a ∉ X.fs := by
      intro hm
      obtain ⟨e, he, q⟩ := List.mem_filterMap.mp hm
      exact nfr (List.mem_filterMap.mpr ⟨e, List.mem_cons_of_mem _ he, q⟩)
    have late : ∀ b u, X.s_0.heap.get? b = some u → b ≠ a := by
      intro b u e z
      by_cases hm : b ∈ frs (X.env :: X.outer)
      · exact nfr (z ▸ hm)
      · obtain ⟨o', e'⟩ := J.base.there b u e (by rw [hex]; exact List.not_mem_nil)
        have q := nb b o' e' (by rw [hs]; exact hm)
        rw [z, noB] at q
        cases q
    have pinsA : ∀ p ∈ X.pn ++ pins, p.1 ≠ a := by
      intro p hp z
      obtain ⟨e, _, ne, nf, _⟩ := J.pin p hp
      have hm : p.1 ∉ frs (X.env :: X.outer) := by rw [z]; exact nfr
      have q := nb p.1 p.2 e (by rw [hs]; exact hm)
      rw [z, noB] at q
      cases q
    have S3 := J3.suite he3 hd3 na nL nF
    refine wpAny_handleBy_cons (codeAny_handlers_test ?_) (by intro q; cases q)
    have tyA : PySem.W.Looks (model X.prog X.w) h3 (typeOf (.ref a)) cls := fun A Q E s k q => wpAny_typeOf_ref (k _ _ he3) (by rw [hz3.1]; exact q)
    have meets := PySem.W.exm_one (M := model X.prog X.w) (J3.kIn) tyA hb1
    have asked : ∀ {Q : Value → Shared → Prop} {E : Value → Shared → Prop}, Q c { s' with heap := h3 } → wpAny (model X.prog X.w) (X.A.mark (some (.ref a))) (eval (.Name x np) X.env) Q E { s' with heap := h3 } := by
      intro Q E q
      obtain ⟨hg, hdbg, hm | ⟨hm, hv, hnn⟩⟩ := hc
      · exact ld_glob (X := X.suite a ((a, oe3) :: (X.pn ++ pins))) S3 hg hm q hdbg
      · exact ld_blt (X := X.suite a ((a, oe3) :: (X.pn ++ pins))) S3 hg hm hv q hnn hdbg
    refine asked (meets.here ?_)
    cases b with
    | true =>
      refine codeAny_handlers_suite_as (HandSPX.lands_againZ fl3 fun h4 fl4 up4 => ?_)
      have J4 : L2.Inv X pins σ' H' { s' with heap := h4 } := J.landed nb fl4.1 ((up.trans up3).trans up4) os ag
      obtain ⟨oe4, vs4, he4, hz4, hd4⟩ := fl4.there
      have S4 := J4.suite he4 hd4 na nL nF
      refine store_ok (X := X.suite a ((a, oe4) :: (X.pn ++ pins))) (v := .ref a) S4 hN hi (.inl hln) rfl (fun s5 S5 => ?_) (.inr hln)
      obtain ⟨g5, f5, _, _, dc⟩ := S5.pin (a, oe4) (List.mem_append_left _ List.mem_cons_self)
      have U5 := inv_unpin S5 ok
      have T5 : L2.Inv (X.suite a (X.pn ++ pins)) [] (σ'.set i (some (.ref a))) (upd H' a (ExH cls d a)) s5 := by
        refine track U5 f5 late nL ?_ (fun p hp => pinsA p ?_) (exH_ok g5 hz4 hd4)
        · intro y cc e z
          obtain ⟨v, o, ho, hd⟩ := U5.cell y cc e
          rw [z, g5] at ho
          cases ho
          exact dc v hd
        · rw [List.append_nil] at hp
          exact hp
      refine wpAny_mono ((hsu a cls d (X.pn ++ pins)).run [] s5 _ _ _ T5 (yes rfl a na)) ?_ (fun _ _ z => z.elim)
      intro f s6 hsp
      have leave : ∀ {σ6 : L2.St} {H6 : Hp} {Q : Shared → Prop}, L2.Inv (X.suite a (X.pn ++ pins)) [] σ6 H6 s6 → (∀ s7, L2.Inv X pins (σ6.set i none) H6 s7 → Q s7) →
          wpAny (model X.prog X.w) X.A (do bindName X.env n .none; unbindBehindTheSuite X.env n pos') (fun _ s7 => Q s7) X.xe s6 :=
        fun S6 hq => gone_ok (inv_out S6 ok) hN hi hln hq
      cases f with
      | next =>
        obtain ⟨σ6, H6, S6, q6⟩ := hsp
        exact leave S6 fun s7 J7 => ⟨_, _, J7, q6⟩
      | brk =>
        obtain ⟨σ6, H6, S6, q6⟩ := hsp
        exact leave S6 fun s7 J7 => ⟨_, _, J7, q6⟩
      | cont =>
        obtain ⟨σ6, H6, S6, q6⟩ := hsp
        exact leave S6 fun s7 J7 => ⟨_, _, J7, q6⟩
      | ret u =>
        obtain ⟨v6, σ6, H6, S6, r6, q6⟩ := hsp
        exact leave S6 fun s7 J7 => ⟨_, _, _, J7, r6, q6⟩
    | false =>
      show wpAny _ X.A (handleBy (.ref a) X.env []) _ _ _
      refine wpAny_handleBy_nil ?_
      obtain ⟨k1, k2, k3, oe, vs, T, oT, tt, he, hz, hd, h1, hr⟩ := id fl3
      unfold PySem.passOn
      refine wpAny_bind (wpAny_field he hd h1 ?_)
      rw [if_neg (show ¬ ((Value.ref T == Value.none) = true) from by simp)]
      have fin : wpAny (model X.prog X.w) X.A (setFlight (.ref a) X.env.frame) (fun _ s4 => wpAny (model X.prog X.w) X.A (throw (.ref a) : Sem Flow) (SP X pins D) X.xe s4) X.xe { s' with heap := h3 } := by
        rw [hf]
        refine HandSPX.setFlight_upZ fl3 fun h4 fl4 up4 => wpAny_throw (tk _ _ ?_)
        exact ⟨a, B, sI, pins, σ', H', cls, d, rfl, J, nb, (up.trans up3).trans up4, .inr (.inr (by rw [hs]; exact fl4)), na, os, ag, no rfl⟩
      first
        | exact wpAny_bind (wpAny_pure (wpAny_bind fin))
        | exact wpAny_bind fin
  refine wpAny_mono ((hb (wRet X.K c i ts Wout D) (X.pn ++ pins) after catch_ PassesOwn.looking).run [] s σ H D (I.toTry _) h) ?_ (fun e s1 he => he)
  intro f s1 hsp
  cases f with
  | next =>
    obtain ⟨σ', H', J', q⟩ := hsp
    exact wpAny_execs_nil ⟨σ', H', J'.ofTry ok, q⟩
  | brk =>
    obtain ⟨σ', H', J', q⟩ := hsp
    exact ⟨σ', H', J'.ofTry ok, q⟩
  | cont =>
    obtain ⟨σ', H', J', q⟩ := hsp
    exact ⟨σ', H', J'.ofTry ok, q⟩
  | ret u =>
    obtain ⟨v, σ', H', J', r, q⟩ := hsp
    exact ⟨v, σ', H', J'.ofTry ok, r, q⟩
end
end Wk
set_option Elab.async false
set_option linter.all false
set_option maxRecDepth 100000
set_option maxHeartbeats 4000000
/-! While an error is handled whose context is None: the ends of walks over lists and tuples, a tuple taken apart. -/
namespace Wk
open PySem PySem.Spec PyProof.Rows L2 HotX
section
variable {P : Program} {w : World} {B : Around} {W : Value → Shared → Prop} {z : Shared}
/-- what a walk's end does: a StopIteration that is caught at once -/
theorem stop_hot {α : Type} {x1 : Addr} {q : Value → Shared → Prop} (hot : HotAt B x1 z.heap)
    (k : ∀ (h : Heap) (a : Addr), (∀ b o, z.heap.get? b = some o → h.get? b = some o) → (∃ o, h.get? a = some o ∧ o.cls = .type "StopIteration") → q (.ref a) { z with heap := h }) :
    wpAny (model P w) B (newExc (.type "StopIteration") [] >>= fun e => (raiseNew e : Sem α)) (fun _ _ => False) q z := by
  obtain ⟨hh, o1, v1, g1, d1, c1⟩ := hot
  refine wpAny_bind ?_
  simp only [newExc, newTuple]
  refine wpAny_bind (wpAny_newObj_type ?_ (by size_fits))
  refine wpAny_bind (m := firstArgMember _ _) (wpAny_of_eq (a := Value.none) (by first | (simp only [firstArgMember]; rfl) | rfl) ?_)
  refine wpAny_newObj_type ?_ (by size_fits)
  refine raiseNew_hot ⟨hh, o1, v1, Heap.get?_push_of_some _ (Heap.get?_push_of_some _ g1), d1, c1⟩ (Nat.ne_of_lt (Heap.lt_size (Heap.get?_push_of_some _ g1))) (Heap.get?_push_size _ rfl) rfl (by first | (simp; omega) | (simp; done) | (simp only [Array.size_append]; simp; omega)) ?_
  refine k _ _ (fun b o e => ?_) ⟨_, Heap.get?_update_self _ (Heap.get?_push_size _ rfl) rfl, rfl⟩
  rw [Heap.get?_update_other _ _ (Nat.ne_of_gt (Heap.lt_size (Heap.get?_push_of_some _ e)))]
  exact Heap.get?_push_of_some _ (Heap.get?_push_of_some _ e)
theorem HotAt.keep {x1 : Addr} {h h' : Heap} (hot : HotAt B x1 h) (k : ∀ o, h.get? x1 = some o → h'.get? x1 = some o) : HotAt B x1 h' := by
  obtain ⟨a, o, v, b, c⟩ := hot
  exact ⟨a, o, v, k _ b, c⟩
theorem lnext_end {j l x1 : Addr} {i : Nat} {xs : Array Value} {q : Option Value → Shared → Prop} (hot : HotAt B x1 z.heap) (ne : x1 ≠ j) (hj : z.heap.IsListIter j l i) (hl : z.heap.IsList l xs) (hx : xs[i]? = none)
    (k : ∀ h, Heap.ExtBut j z.heap h → q none { z with heap := h }) : wpAny (model P w) B (pyNext (.ref j)) q W z := by
  obtain ⟨oj, gj, cj, dj⟩ := id hj
  obtain ⟨ol, gl, _, nl, dl⟩ := hl
  unfold pyNext
  refine wpAny_bind (wpAny_attempt (wpAny_callSpecial?_slot (name := Str.ofString "__next__") hj.typeIs slot_listiter_next (wpAny_call_entry slot_listiter_next hj.typeIs entry_listiter_next ?_ (args_listiter_next _))))
  show wpAny _ _ (field (.ref j) 0 >>= _) _ _ z
  refine wpAny_bind (wpAny_field gj dj (x := .ref l) rfl ?_)
  show wpAny _ _ (if (Value.ref l == Value.none) = true then _ else _) _ _ z
  rw [if_neg (fun y : (Value.ref l == Value.none) = true => Bool.false_ne_true y)]
  show wpAny _ _ (field (.ref j) 1 >>= _) _ _ z
  refine wpAny_bind (wpAny_field gj dj (x := .int i 0) rfl ?_)
  show wpAny _ _ (seqItems? (.ref l) >>= _) _ _ z
  refine wpAny_bind (wpAny_seqItems gl dl ?_)
  simp only [Int.toNat_natCast, hx]
  refine wpAny_bind (wpAny_rule (wpAny_bind (wpAny_setField gj dj (by simp) ?_)))
  have sb := Heap.SameBut.update z.heap j (Obj.mapFields (·.setIfInBounds 0 .none))
  refine wpAny_mono (stop_hot (HotAt.keep hot fun o e => (sb.2 x1 ne).trans e) fun h a k1 ⟨o, ga, ca⟩ => ?_) (fun _ _ y => y.elim) (fun _ _ y => y)
  refine wpAny_bind (wpAny_isInstance (T := "StopIteration") (b := true) ⟨o, ga, ca⟩ isSubtype_stop ?_)
  exact wpAny_pure (k _ fun b u hb e => k1 b u ((sb.2 b hb).trans e))
theorem tnext_end {j t x1 : Addr} {i : Nat} {xs : Array Value} {q : Option Value → Shared → Prop} (hot : HotAt B x1 z.heap) (ne : x1 ≠ j) (hj : IsTupIter z.heap j t i) (ht : IsTup z.heap t xs) (hx : xs[i]? = none)
    (k : ∀ h, Heap.ExtBut j z.heap h → q none { z with heap := h }) : wpAny (model P w) B (pyNext (.ref j)) q W z := by
  obtain ⟨oj, gj, cj, dj⟩ := id hj
  obtain ⟨ol, gl, _, nl, dl⟩ := ht
  unfold pyNext
  refine wpAny_bind (wpAny_attempt (wpAny_callSpecial?_slot (name := Str.ofString "__next__") hj.typeIs slot_tupleiter_next (wpAny_call_entry slot_tupleiter_next hj.typeIs entry_tupleiter_next ?_ (args_tupleiter_next _))))
  show wpAny _ _ (field (.ref j) 0 >>= _) _ _ z
  refine wpAny_bind (wpAny_field gj dj (x := .ref t) rfl ?_)
  show wpAny _ _ (if (Value.ref t == Value.none) = true then _ else _) _ _ z
  rw [if_neg (fun y : (Value.ref t == Value.none) = true => Bool.false_ne_true y)]
  show wpAny _ _ (field (.ref j) 1 >>= _) _ _ z
  refine wpAny_bind (wpAny_field gj dj (x := .int i 0) rfl ?_)
  show wpAny _ _ (seqItems? (.ref t) >>= _) _ _ z
  refine wpAny_bind (wpAny_seqItems gl dl ?_)
  simp only [Int.toNat_natCast, hx]
  refine wpAny_bind (wpAny_rule (wpAny_bind (wpAny_setField gj dj (by simp) ?_)))
  have sb := Heap.SameBut.update z.heap j (Obj.mapFields (·.setIfInBounds 0 .none))
  refine wpAny_mono (stop_hot (HotAt.keep hot fun o e => (sb.2 x1 ne).trans e) fun h a k1 ⟨o, ga, ca⟩ => ?_) (fun _ _ y => y.elim) (fun _ _ y => y)
  refine wpAny_bind (wpAny_isInstance (T := "StopIteration") (b := true) ⟨o, ga, ca⟩ isSubtype_stop ?_)
  exact wpAny_pure (k _ fun b u hb e => k1 b u ((sb.2 b hb).trans e))
/-- a tuple taken apart -/
theorem tupleHot {es : List Expr} {ek : Nat} {ep : Pos} {env : Env} {t x1 : Addr} {xs : Array Value} {q : Unit → Shared → Prop} (hot : HotAt B x1 z.heap) (ht : IsTup z.heap t xs) (n : (assignEach es env).length = xs.size) (st : (assignEach es env).findIdx? (·.1) = none)
    (k : ∀ h, Heap.ExtBut z.heap.objs.size z.heap h → wpAny (model P w) B (assignInOrder ((assignEach es env).map (·.2)) xs.toList) q W { z with heap := h }) :
    wpAny (model P w) B (assign (.Tuple es ek ep) env (.ref t)) q W z := by
  rw [assign_Tuple]
  refine wpAny_bind (wpAny_standAt ?_)
  unfold unpack
  rw [n, st]
  have tl : t ≠ z.heap.objs.size := by
    obtain ⟨o, ho, _⟩ := ht
    exact Nat.ne_of_lt (Heap.lt_size ho)
  have xl : x1 < z.heap.objs.size := by
    obtain ⟨_, o, _, ho, _⟩ := hot
    exact Heap.lt_size ho
  refine wpAny_bind (wpAny_holding ?_)
  unfold unpackItems notIterableAtAll
  refine wpAny_bind (wpAny_bind (wpAny_specialOf ht.typeIs slot_tuple_iter.lookup (wpAny_pure ?_)))
  rw [if_neg (by simp)]
  refine wpAny_bind (wpAny_holding (iter_tuple ht ?_))
  refine wpAny_bind (wpAny_holding (draw_tuple tl xs.size 0 _ _ ⟨_, Heap.get?_push_size _ rfl, rfl, rfl⟩ (ht.push _) (by omega) fun h1 j1 s1 => ?_))
  rw [List.drop_zero, List.take_of_length_le (by simp), if_neg (by simp)]
  have t1 : IsTup h1 t xs := (ht.push _).extBut s1.extBut tl
  refine wpAny_bind (wpAny_holding (tnext_end (HotAt.keep hot fun o e => (s1.2 x1 (Nat.ne_of_lt xl)).trans (Heap.get?_push_of_some _ e)) (Nat.ne_of_lt xl) j1 t1 (by simp) fun h2 e2 => ?_))
  rw [if_neg (by simp)]
  exact wpAny_pure (k h2 fun b o hb e => e2 b o hb (s1.extBut b o hb (Heap.get?_push_of_some _ e)))
end
end Wk
set_option Elab.async false
set_option linter.all false
set_option maxRecDepth 100000
set_option maxHeartbeats 4000000
/-! Errors with an own __init__ whose context is None: raised, caught, tracked while they are handled; defs that get the handled error. -/
namespace Wk
open PySem PySem.Spec PyProof.Rows L2 HotX
/-- an error that has been caught: its class, its own dict, no context -/
def ExN (cls : Value) (d : Option Addr) (a : Addr) : HO := .ext fun h => ∃ (oe : Obj) (vs : Array Value), h.get? a = some oe ∧ L2N.Zn cls d oe ∧ oe.data = .fields vs
theorem exN_ok {P : Program} {w : World} {H : Hp} {h : Heap} {a : Addr} {cls : Value} {d : Option Addr} {oe : Obj} {vs : Array Value} (e : h.get? a = some oe) (z : L2N.Zn cls d oe) (dd : oe.data = .fields vs) : ObjOk P w H h a (ExN cls d a) :=
  ⟨⟨oe, vs, e, z, dd⟩, ⟨oe, e⟩, fun _ _ ⟨o, v, q, r⟩ k => ⟨o, v, k o q, r⟩⟩
/-- the handled error is tracked -/
theorem hot_of {X : Cx} {pins : List (Addr × Obj)} {σ : L2.St} {H : Hp} {s : Shared} {a : Addr} {cls : Value} {d : Option Addr} (I : L2.Inv X pins σ H s) (hh : X.A.handled = some (.ref a)) (ea : H a = some (ExN cls d a)) : HotAt X.A a s.heap := by
  obtain ⟨⟨oe, vs, ho, hz, hd⟩, _, _⟩ := (show ObjOk X.prog X.w H s.heap a (ExN cls d a) from I.hok a _ ea)
  exact ⟨hh, oe, vs, ho, hd, hz.2.2 vs hd⟩
/-- what the clause wishes: its suite, with the error in slot i and in the heap -/
def wRetN (K : PySem.W.Frag) (c : Value) (i : Nat) (ts : Addr → Value → Option Addr → TS) (Wout : WX) (D : Ends) : WX := fun cls d σ H =>
  ∃ b, PySem.W.exmOne K cls c = some b ∧
    (b = true → ∀ a, H a = none → ts a cls d { nx := fun τ G => D.nx (τ.set i none) G, rt := D.rt, bk := fun τ G => D.bk (τ.set i none) G, ct := fun τ G => D.ct (τ.set i none) G } (σ.set i (some (.ref a))) (upd H a (ExN cls d a))) ∧
    (b = false → Wout cls d σ H)
section
variable {X : Cx} {x n : Str} {c : Value} {i : Nat} {body suite : List Stmt} {b0 : Stmt} {np pos pos' : Pos} {tb : WX → TS} {ts : Addr → Value → Option Addr → TS} {Wout : WX}
theorem ps_try_retN (hs : X.stack = X.env :: X.outer) (hf : X.env.frame = some X.env.locals) (hex : X.ex = []) (hN : X.N.Nodup) (hi : X.N[i]? = some n) (hln : X.env.kindOf n = some .local) (hc : Names X x c) (tk : L2N.Takes X Wout)
    (hb : ∀ (W : WX) (pn : List (Addr × Obj)) (xe : Value → Shared → Prop), L2N.Takes (X.tr pn xe) W → PassesOwn (model X.prog X.w) X.A X.env xe → PSs (X.tr pn xe) body (tb W))
    (hsu : ∀ (a : Addr) (cls : Value) (d : Option Addr) (pn : List (Addr × Obj)), PSs (X.suite a pn) (b0 :: suite) (ts a cls d)) :
    PS X (.Try body [.ExceptHandler (some (.Name x np)) (some n) (b0 :: suite) pos'] [] [] pos) (fun D σ H => tb (wRetN X.K c i ts Wout D) D σ H) := by
  constructor
  intro pins s σ H D I h
  have ok := I.ok
  have frames : X.A.frames = some (X.env :: X.outer) := by rw [ok.frames, hs]
  refine wpAny_Try_except ?_
  let after : Value → Shared → Prop := fun e s₁ => wpAny (model X.prog X.w) X.A (noteFrame e X.env) (fun _ s₂ => wpAny (model X.prog X.w) X.A (setFlight e none)
    (fun _ s₃ => wpAny (model X.prog X.w) X.A (handleBy e X.env [.ExceptHandler (some (.Name x np)) (some n) (b0 :: suite) pos']) (SP X pins D) X.xe s₃) X.xe s₂) X.xe s₁
  have catch_ : L2N.Takes (X.tr (X.pn ++ pins) after) (wRetN X.K c i ts Wout D) := by
    rintro u s' ⟨a, B, sI, pins', σ', H', cls, d, rfl, J', nb, up, sky, na, os, ag, b, hb1, yes, no⟩
    have J : L2.Inv X pins σ' H' sI := J'.ofTry ok
    have sky' : Sky B (X.env :: X.outer) a (L2N.Zn cls d) X.env.locals s'.heap := by rw [← hs]; exact sky
    show wpAny (model X.prog X.w) X.A (noteFrame (.ref a) X.env) _ _ _
    refine L2N.Sky.land L2N.Zn.steady frames hf sky' fun h3 fl3 up3 => ?_
    have J3 : L2.Inv X pins σ' H' { s' with heap := h3 } := J.landed nb fl3.1 (up.trans up3) os ag
    obtain ⟨oe3, vs3, he3, hz3, hd3⟩ := fl3.there
    have noB : B.get? a = none := fl3.2.1
    have nfr : a ∉ frs (X.env :: X.outer) := by
      intro hm
      obtain ⟨_, o', e', hnf⟩ := fl3.2.2.1.mem hm
      rw [he3] at e'
      cases e'
      exact hnf _ hd3
    have nL : a ≠ X.env.locals := fun z => nfr (List.mem_filterMap.mpr ⟨X.env, List.mem_cons_self, by rw [hf, z]⟩)
    have nF : a ∉ X.fs := by
      intro hm
      obtain ⟨e, he, q⟩ := List.mem_filterMap.mp hm
      exact nfr (List.mem_filterMap.mpr ⟨e, List.mem_cons_of_mem _ he, q⟩)
    have late : ∀ b u, X.s_0.heap.get? b = some u → b ≠ a := by
      intro b u e z
      by_cases hm : b ∈ frs (X.env :: X.outer)
      · exact nfr (z ▸ hm)
      · obtain ⟨o', e'⟩ := J.base.there b u e (by rw [hex]; exact List.not_mem_nil)
        have q := nb b o' e' (by rw [hs]; exact hm)
        rw [z, noB] at q
        cases q
    have pinsA : ∀ p ∈ X.pn ++ pins, p.1 ≠ a := by
      intro p hp z
      obtain ⟨e, _, ne, nf, _⟩ := J.pin p hp
      have hm : p.1 ∉ frs (X.env :: X.outer) := by rw [z]; exact nfr
      have q := nb p.1 p.2 e (by rw [hs]; exact hm)
      rw [z, noB] at q
      cases q
    have S3 := J3.suite he3 hd3 na nL nF
    refine wpAny_handleBy_cons (codeAny_handlers_test ?_) (by intro q; cases q)
    have tyA : PySem.W.Looks (model X.prog X.w) h3 (typeOf (.ref a)) cls := fun A Q E s k q => wpAny_typeOf_ref (k _ _ he3) (by rw [hz3.1]; exact q)
    have meets := PySem.W.exm_one (M := model X.prog X.w) (J3.kIn) tyA hb1
    have asked : ∀ {Q : Value → Shared → Prop} {E : Value → Shared → Prop}, Q c { s' with heap := h3 } → wpAny (model X.prog X.w) (X.A.mark (some (.ref a))) (eval (.Name x np) X.env) Q E { s' with heap := h3 } := by
      intro Q E q
      obtain ⟨hg, hdbg, hm | ⟨hm, hv, hnn⟩⟩ := hc
      · exact ld_glob (X := X.suite a ((a, oe3) :: (X.pn ++ pins))) S3 hg hm q hdbg
      · exact ld_blt (X := X.suite a ((a, oe3) :: (X.pn ++ pins))) S3 hg hm hv q hnn hdbg
    refine asked (meets.here ?_)
    cases b with
    | true =>
      refine codeAny_handlers_suite_as (HandSPX.lands_againZ fl3 fun h4 fl4 up4 => ?_)
      have J4 : L2.Inv X pins σ' H' { s' with heap := h4 } := J.landed nb fl4.1 ((up.trans up3).trans up4) os ag
      obtain ⟨oe4, vs4, he4, hz4, hd4⟩ := fl4.there
      have S4 := J4.suite he4 hd4 na nL nF
      refine store_ok (X := X.suite a ((a, oe4) :: (X.pn ++ pins))) (v := .ref a) S4 hN hi (.inl hln) rfl (fun s5 S5 => ?_) (.inr hln)
      obtain ⟨g5, f5, _, _, dc⟩ := S5.pin (a, oe4) (List.mem_append_left _ List.mem_cons_self)
      have U5 := inv_unpin S5 ok
      have T5 : L2.Inv (X.suite a (X.pn ++ pins)) [] (σ'.set i (some (.ref a))) (upd H' a (ExN cls d a)) s5 := by
        refine track U5 f5 late nL ?_ (fun p hp => pinsA p ?_) (exN_ok g5 hz4 hd4)
        · intro y cc e z
          obtain ⟨v, o, ho, hd⟩ := U5.cell y cc e
          rw [z, g5] at ho
          cases ho
          exact dc v hd
        · rw [List.append_nil] at hp
          exact hp
      refine wpAny_mono ((hsu a cls d (X.pn ++ pins)).run [] s5 _ _ _ T5 (yes rfl a na)) ?_ (fun _ _ z => z.elim)
      intro f s6 hsp
      have leave : ∀ {σ6 : L2.St} {H6 : Hp} {Q : Shared → Prop}, L2.Inv (X.suite a (X.pn ++ pins)) [] σ6 H6 s6 → (∀ s7, L2.Inv X pins (σ6.set i none) H6 s7 → Q s7) →
          wpAny (model X.prog X.w) X.A (do bindName X.env n .none; unbindBehindTheSuite X.env n pos') (fun _ s7 => Q s7) X.xe s6 :=
        fun S6 hq => gone_ok (inv_out S6 ok) hN hi hln hq
      cases f with
      | next =>
        obtain ⟨σ6, H6, S6, q6⟩ := hsp
        exact leave S6 fun s7 J7 => ⟨_, _, J7, q6⟩
      | brk =>
        obtain ⟨σ6, H6, S6, q6⟩ := hsp
        exact leave S6 fun s7 J7 => ⟨_, _, J7, q6⟩
      | cont =>
        obtain ⟨σ6, H6, S6, q6⟩ := hsp
        exact leave S6 fun s7 J7 => ⟨_, _, J7, q6⟩
      | ret u =>
        obtain ⟨v6, σ6, H6, S6, r6, q6⟩ := hsp
        exact leave S6 fun s7 J7 => ⟨_, _, _, J7, r6, q6⟩
    | false =>
      show wpAny _ X.A (handleBy (.ref a) X.env []) _ _ _
      refine wpAny_handleBy_nil ?_
      obtain ⟨k1, k2, k3, oe, vs, T, oT, tt, he, hz, hd, h1, hr⟩ := id fl3
      unfold PySem.passOn
      refine wpAny_bind (wpAny_field he hd h1 ?_)
      rw [if_neg (show ¬ ((Value.ref T == Value.none) = true) from by simp)]
      have fin : wpAny (model X.prog X.w) X.A (setFlight (.ref a) X.env.frame) (fun _ s4 => wpAny (model X.prog X.w) X.A (throw (.ref a) : Sem Flow) (SP X pins D) X.xe s4) X.xe { s' with heap := h3 } := by
        rw [hf]
        refine HandSPX.setFlight_upZ fl3 fun h4 fl4 up4 => wpAny_throw (tk _ _ ?_)
        exact ⟨a, B, sI, pins, σ', H', cls, d, rfl, J, nb, (up.trans up3).trans up4, .inr (.inr (by rw [hs]; exact fl4)), na, os, ag, no rfl⟩
      first
        | exact wpAny_bind (wpAny_pure (wpAny_bind fin))
        | exact wpAny_bind fin
  refine wpAny_mono ((hb (wRetN X.K c i ts Wout D) (X.pn ++ pins) after catch_ PassesOwn.looking).run [] s σ H D (I.toTry _) h) ?_ (fun e s1 he => he)
  intro f s1 hsp
  cases f with
  | next =>
    obtain ⟨σ', H', J', q⟩ := hsp
    exact wpAny_execs_nil ⟨σ', H', J'.ofTry ok, q⟩
  | brk =>
    obtain ⟨σ', H', J', q⟩ := hsp
    exact ⟨σ', H', J'.ofTry ok, q⟩
  | cont =>
    obtain ⟨σ', H', J', q⟩ := hsp
    exact ⟨σ', H', J'.ofTry ok, q⟩
  | ret u =>
    obtain ⟨v, σ', H', J', r, q⟩ := hsp
    exact ⟨v, σ', H', J'.ofTry ok, r, q⟩
end
section
variable {X : Cx}
/-- making an error with an own __init__ -/
theorem pmk_oexN {CX : CXT} {x : Str} {C fI : Addr} {k : Nat} {fd : FuncData} {ps : List Str} {sp : Sp} {ta : TA} {e : Expr} {es : List Expr} {p pos : Pos} (T : OexC X.K C) (iC : PySem.W.findIn X.K (.ref C) "__init__" = some (some (.ref fI))) (tI : PySem.W.typeIn X.K (.ref fI) = some (.type "function"))
    (F1 : FnOk X.prog X.w X.K X.mg X.base CX k fI fd ps sp) (room : Room (k + 1) X.A) (hb : Binds X.K fd ps []) (lets : Passes CX X (fun _ _ _ => False)) (gl : Gl X x) (at_ : X.mg x = some (.ref C)) (args : PA X (e :: es) ta)
    (nd : (x == ("__debug__" : Str)) = false := by decide) (st : starEach (e :: es) X.env = (false, eval e X.env) :: starEach es X.env := by rfl) (pl : (backTo pos (starEach es X.env)).any (·.1) = false := by rfl) :
    L2N.PMk X (.Call (.Name x p) (e :: es) [] pos) (tMkO C sp [] ta) := by
  intro pins s σ H Q I want
  obtain ⟨_, _, _, _, bm, _, _, _, _, _, _, _, _, _, _, lk, ve⟩ := T.cls
  refine wpAny_Call_Name_kw (ld_glob I gl at_ ?_ nd)
  refine PySem.W.callWith_K (h₀ := X.base) I.ok.mod.kin T.kC (thn (args.run pos pins s σ H _ I want) ?_) st pl
  rintro us ⟨hp, gn, dr, tk, os⟩ ⟨vs, H1, I1, rv, few, next⟩
  refine ⟨I1.kIn, ?_⟩
  show wpAny _ _ (call (.ref C) us) _ _ _
  have up : hp.objs.size ≤ hp.objs.size + 1 := Nat.le_succ _
  have want1 := next (hp.objs.size + 1) (I1.hok.fresh up)
  have get1 : ((hp.push (PySem.W.kdv_tup us)).push (PySem.HandSPX.excO C hp.objs.size)).get? (hp.objs.size + 1) = some (PySem.HandSPX.excO C hp.objs.size) := by
    heap_get
  have I2 : L2.Inv X pins σ (upd H1 (hp.objs.size + 1) (exo (hp.objs.size + 1) C none)) ⟨(hp.push (PySem.W.kdv_tup us)).push (PySem.HandSPX.excO C hp.objs.size), gn, dr, tk, os⟩ :=
    I1.laid (t' := tk) (a := hp.objs.size + 1) (o := exo (hp.objs.size + 1) C none) (h' := (hp.push (PySem.W.kdv_tup us)).push (PySem.HandSPX.excO C hp.objs.size)) (fun b o y => Heap.get?_push_of_some _ (Heap.get?_push_of_some _ y)) up (exo_ok get1)
  have rv2 : Vals (V.ref (hp.objs.size + 1) :: (vs ++ [])) (Value.ref (hp.objs.size + 1) :: (us ++ [])) := .cons rfl (rv.append .nil)
  have len : (Value.ref (hp.objs.size + 1) :: us ++ []).length = ps.length := by
    have y := rv2.length
    rw [F1.len _ _ _ _ want1] at y
    exact y.symm
  have small : us.length ≤ sizeLine := by
    rw [← Paired.length rv, sizeLine_eq]
    omega
  have bb := hb ⟨(hp.push (PySem.W.kdv_tup us)).push (PySem.HandSPX.excO C hp.objs.size), gn, dr, tk, os⟩ (Value.ref (hp.objs.size + 1) :: us) I2.kIn len
  rw [List.cons_append] at bb
  have run1 := F1.run (X.A.under (.builtin "type.__call__" ⟨.ref C :: us, []⟩)) X.stack _ _ ⟨Value.ref (hp.objs.size + 1) :: us, []⟩ (Value.ref (hp.objs.size + 1) :: (us ++ [])) _ _ (fun _ _ _ => False) (room.make C us []) (I2.env0.make C us []) bb rv2 want1
  refine wpAny_call (PySem.HandSPX.call_own F.excBase_ValueError (fun Y => PySem.HandSPX.refsVE_contains Y bm ve) (I1.kIn _ _ lk) (PySem.W.looks_findIn I1.kIn iC) (fun self => PySem.W.bind_fn I1.kIn self tI) small (codeAny_mono run1 fun r s' hr => ?_))
  match r, hr with
  | .error er, hr => exact lets pins σ _ _ er s' I2 hr
  | .ok (.ret u), ⟨v, H2, os2, bare2, un2, hok2, rr, ev, d, fs, ea, ed, free, want2⟩ =>
    subst ev
    obtain ⟨h2, g2, d2, t2, os'⟩ := s'
    refine ⟨rr, ?_⟩
    obtain ⟨t0, G, J, kG, ge, hoe, na⟩ := mk_end0 (d2 := d2) (t2 := t2) I1 up (fun b o y => Heap.get?_push_of_some _ (Heap.get?_push_of_some _ y)) un2 hok2 os2 bare2 ea ed free
    exact ⟨hp.objs.size + 1, _, _, ⟨G, g2, d2, t2, os'⟩, _, .ref C, some d, rfl, J, kG, ge, hoe, ⟨rfl, rfl, fun w' y => by cases y; rfl⟩, rfl, rfl, na, rfl, bare2, raises_own T.exC T.tyC, want2⟩
/-- raise X(e) -/
theorem ps_raiseN {W : WX} {x : Str} {C fI : Addr} {fd : FuncData} {e : Expr} {te : TE} {p pos pos2 : Pos} (F : ClsF X.prog X.w X.K X.mg X.base x C fI fd) (hr : Room 2 X.A) (hc : X.calm = true) (tk : L2N.Takes X W) (hg : Gl X x) (he : PE X e te)
    (hdb : (x == ("__debug__" : Str)) = false := by decide) (hs : starEach (e :: []) X.env = (false, eval e X.env) :: starEach [] X.env := by rfl) :
    PS X (.Raise (some (.Call (.Name x p) [e] [] pos)) none pos2) (fun _ σ H => tMkO C (spInit C) [] (tCons te tNil) σ H fun cls d H' => W cls d σ H') :=
  L2N.ps_raise hc tk (pmk_oexN F.t.oex F.t.ini F.t.ty F.ok hr F.b pass0 hg F.t.g (pa_cons he pa_nil hs) hdb hs)
end
section
variable {P : Program} {w : World} {K : PySem.W.Frag} {mg : Str → Option Value} {base : Heap}
theorem okN {x qual : Str} {st : Stmt} {f : Addr} {fd : FuncData} {N ps : List Str} {k : Nat} {sp : Sp} (F : Fun K x qual st f fd) (S : FnScope N ps (defScope st)) (args : ∀ vs H Q E, sp vs H Q E → vs.length = ps.length)
    (hb : ∀ (cdv : Value) (A : Around) (outer : List Env) (s : Shared) (H : Hp) (vs : List V) (Q : VK) (E : XK), Room k (A.deeper (envOfC qual (defScope st) s.heap.objs.size f cdv)) → sp vs H Q E →
      ∃ t, PSs (cxOf (L2N.CX P w) P w K mg base N qual (defScope st) f cdv A outer s H E) (defBody st) t ∧ t { nx := fun _ H' => Q .non H', rt := Q } (start N vs) H) : FnOk P w K mg base (L2N.CX P w) (k + 1) f fd ps sp := by
  obtain ⟨oc, od, kV, doc, pm, an, cdv, ct, osl, rfl, lk, hcd⟩ := F.ex
  exact fn_of lk hcd S args fun A outer s H vs Q E hr want => hb cdv A outer s H vs Q E hr want
end
end Wk
set_option Elab.async false
set_option linter.all false
set_option maxRecDepth 100000
set_option maxHeartbeats 4000000
/-! While an error is handled and tracked: isinstance of it, its fields, a tuple as a target, a comprehension over a list, defs that get it. -/
namespace Wk
open PySem PySem.Spec PyProof.Rows L2 HotX
/-! ### isinstance of the error, its fields -/
def rIsN (K : PySem.W.Frag) : List V → Hp → VK → Prop := fun xs H Q => ∃ (a C dx : Addr) (fs : List (Str × V)) (c : V) (u : Value) (b : Bool),
  xs = [.ref a, c] ∧ H a = some (ExN (.ref C) (some dx) a) ∧ H dx = some (.xd fs) ∧ IsC K C ∧ ClsV c u ∧ PySem.W.kitOne K (.ref C) u = some b ∧ Q (.bl b) H
def tXn (K : PySem.W.Frag) (f : Str) (te : TE) : TE := fun σ H Q => te σ H fun x H1 => ∃ (a C dx : Addr) (fs : List (Str × V)) (v : V), x = .ref a ∧ XfC K C ∧ PySem.W.findIn K (.ref C) f = some none ∧
  H1 a = some (ExN (.ref C) (some dx) a) ∧ H1 dx = some (.xd fs) ∧ fs.lookup f = some v ∧ Q v H1
section
variable {X : Cx}
theorem heldN_at {pins : List (Addr × Obj)} {σ : L2.St} {H : Hp} {s : Shared} {a C dx : Addr} {fs : List (Str × V)} (I : L2.Inv X pins σ H s) (ea : H a = some (ExN (.ref C) (some dx) a)) (ed : H dx = some (.xd fs)) :
    ∃ (oe : Obj) (od : Obj) (mA : Str → Option Value), PySem.W.InstAt s.heap a oe C (some od) ∧ (∀ name, PySem.W.lookIn name od = some (mA name)) ∧ ∀ f, RelO (fs.lookup f) (mA f) := by
  obtain ⟨⟨oe, vs, ho, hz, hd⟩, _, _⟩ := (show ObjOk X.prog X.w H s.heap a (ExN (.ref C) (some dx) a) from I.hok a _ ea)
  obtain ⟨mA, hns, rel⟩ := (show ObjOk X.prog X.w H s.heap dx (.xd fs) from I.hok dx _ ed)
  obtain ⟨od, hod, hl⟩ := lookIn_ns hns
  exact ⟨oe, od, mA, ⟨ho, hz.1, by unfold PySem.W.notCls; rw [hd] <;> rfl, by rw [hz.2.1]; exact hod⟩, hl, rel⟩
theorem call_isN (K : PySem.W.Frag) (hK : X.K = K) : CallR X (.builtin "isinstance") (rIsN K) := by
  subst hK
  intro pins s σ H xs us Q I r h
  obtain ⟨a, C, dx, fs, c, u, b, rfl, ea, ed, T, kc, e, q⟩ := h
  obtain ⟨u1, u2, rfl, r1, r2⟩ := vals2 r
  cases kc.eq r2
  cases (show u1 = Value.ref a from r1)
  obtain ⟨oe, od, mA, J, _, _⟩ := heldN_at I ea ed
  exact PySem.W.kia_one (PySem.W.kitx_exc T.cl T.ga T.gt T.sub T.cls T.get T.tak T.mro) I.kIn J e (fun z => nomatch z) fun tk => ⟨.bl b, H, I.tok tk, rfl, q⟩
theorem pe_xn {e : Expr} {te : TE} {pos : Pos} {f : Str} (K : PySem.W.Frag) (hK : X.K = K) (he : PE X e te) (hb : attributeBase e f X.env (eval e X.env) = eval e X.env := by rfl) : PE X (.Attribute e f pos) (tXn K f te) := by
  subst hK
  constructor
  intro pins s σ H Q I h
  refine attr_of hb (thn (he.run pins s σ H _ I h) ?_)
  rintro u s1 ⟨x, H1, I1, rx, a, C, dx, fs, v, rfl, T, no, ea, ed, l, q⟩
  cases (show u = Value.ref a from rx)
  obtain ⟨oe, od, mA, J, hl, rel⟩ := heldN_at I1 ea ed
  obtain ⟨u, hu, ru⟩ := RelO.some_of (v := v) (o := mA f) (by rw [← l]; exact rel f)
  exact HandSPX.exc_get I1.kIn J T.ga T.gg T.exC (PySem.W.findObj_own T.hdC no rfl (by rw [hl, hu])) (handed_of ru) ⟨v, H1, I1.tok _, ru, q⟩
/-! ### (n1, n2, ..) = a tuple -/
def gTupE (K : PySem.W.Frag) (a : Addr) (n : Nat) (t : TGs) : TG := fun v σ H Q => ∃ (b : Addr) (xs : List V), v = .ref b ∧ SqT K H b xs ∧ xs.length = n ∧ (∃ cls d, H a = some (ExN cls d a)) ∧ t xs σ H Q
theorem pg_tupE {a : Addr} {es : List Expr} {k : Nat} {t : TGs} {n : Nat} {pos : Pos} (K : PySem.W.Frag) (hK : X.K = K) (hh : X.A.handled = some (.ref a)) (h : PGs X es t) (hn : (assignEach es X.env).length = n := by rfl) (hst : (assignEach es X.env).findIdx? (·.1) = none := by rfl) :
    PG X (.Tuple es k pos) (gTupE K a n t) := by
  subst hK
  constructor
  rintro pins s σ H v u Q I r ⟨b, xs, rfl, hs, hl, ⟨cls, d, ea⟩, q⟩
  cases r
  obtain ⟨its, rv, ht, hz⟩ := I.tuple hs
  refine tupleHot (hot_of I hh ea) ht (by simp [hn, ← hl, rv.length]) hst fun h' ext => ?_
  exact h.run pins _ σ H xs _ Q (I.kept (t' := s.toks) fun c o e => ext c o (Nat.ne_of_lt (Heap.lt_size e)) e) (by simpa using rv) q
/-! ### [e for target in list if ..] -/
def tLcE (K : PySem.W.Frag) (a : Addr) (to : TE) (g : TG) (tt : TT) (te : TE) (vs : List Nat) : TE := fun σ H Q => to σ H fun v H1 => ∃ (l : Addr) (xs : List V), v = .ref l ∧ SqL K H1 l xs ∧ ∀ D, H1 D = none →
  ∃ Pv : Nat → Hp → Prop, Pv 0 (upd H1 D (.lst [])) ∧ (∀ i H2, i ≤ xs.length → Pv i H2 → SqL K H2 l xs ∧ ∃ cls d, H2 a = some (ExN cls d a)) ∧
    (∀ i x H2, xs[i]? = some x → Pv i H2 → g x (wipe σ vs) H2 fun σ2 H4 => wipe σ2 vs = wipe σ vs ∧ tt σ2 H4 fun b H5 =>
      if b = true then te σ2 H5 fun y H6 => ∃ acc, H6 D = some (.lst acc) ∧ acc.length < sizeLine ∧ Pv (i + 1) (upd H6 D (.lst (acc ++ [y]))) else Pv (i + 1) H5) ∧
    ∀ H2, Pv xs.length H2 → Q (.ref D) H2
theorem lcE_core {a : Addr} {pins : List (Addr × Obj)} {s : Shared} {σ : L2.St} {H : Hp} {Q : VK} {elt tg iter : Expr} {ifs : List Expr} {scope : Scope} {own : List (PySem.Str × Nat)} {pos pos' : Pos} {to : TE} {g : TG} {tt : TT} {te : TE} {use : Option (Value → Sem Unit)} {Qf : Value → Shared → Prop}
    (hh : X.A.handled = some (.ref a)) (nd : X.N.Nodup) (I : L2.Inv X pins σ H s) (hi : PE X iter to) (ok : BlkOk X.N X.env.scope scope own)
    (hg : ∀ (s : Shared) (H : Hp) (C : Addr) (cl : List (PySem.Str × Addr)) (fp : List Addr), PG (X.blk s H scope (compEnvC scope cl C X.env) fp) tg g)
    (ht : ∀ (s : Shared) (H : Hp) (C : Addr) (cl : List (PySem.Str × Addr)) (fp : List Addr), PTs (X.blk s H scope (compEnvC scope cl C X.env) fp) ifs tt)
    (he : ∀ (s : Shared) (H : Hp) (C : Addr) (cl : List (PySem.Str × Addr)) (fp : List Addr), PE (X.blk s H scope (compEnvC scope cl C X.env) fp) elt te) (fold : ∀ x, foldedSetIterable iter X.env x = pure x)
    (h : tLcE X.K a to g tt te (own.map (·.2)) σ H Q)
    (out : ∀ D C s' m H', L2.Inv X pins σ H' s' → Q (.ref D) H' → s'.heap.Ns C m → FpOk X pins H' C → compPost (model X.prog X.w) X.A X.xe use Qf (.ref D) C (.ok .next) s') :
    wpAny (model X.prog X.w) X.A (comprehension (.ListComp elt [⟨tg, iter, ifs, 0⟩] scope pos) scope X.env pos' (newList []) false (eval iter X.env) use) Qf X.xe s := by
  have fr : ∀ y ∈ scope.names, y.2 = .free → ∃ c, X.env.cells.lookup y.1 = some c := fun y hy e => by
    rcases ok.free y hy e with z | z
    · exact I.ok.has _ (.inl z)
    · exact I.ok.has _ (.inr z)
  refine wpAny_comprehension_free rfl fold (closure_ok fr) ok.kind (fun y hy e => by rw [ok.uniq y hy, e]) (thn (hi.run pins s σ H _ I h) fun v0 t0 h0 => ?_)
  obtain ⟨vv, H1, I0, r0, l, xs, rfl, hl, q⟩ := h0
  cases r0
  obtain ⟨its, rv, li, hz⟩ := I0.list hl
  refine wpAny_pyIter_list li.isList ?_
  have ll := Heap.lt_size (show t0.heap.get? l = some li.isList.choose from li.isList.choose_spec.1)
  have I1 : L2.Inv X pins σ H1 { t0 with heap := t0.heap.push { cls := .type "list_iterator", data := .fields #[.ref l, .int 0 0] } } := I0.kept (t' := t0.toks) fun b o e => Heap.get?_push_of_some _ e
  have at1 : (t0.heap.push { cls := .type "list_iterator", data := .fields #[.ref l, .int 0 0] }).IsListIter t0.heap.objs.size l 0 := ⟨_, Heap.get?_push_size _ rfl, rfl, rfl⟩
  have f1 : FpOk X pins H1 t0.heap.objs.size := I0.fpOk (Nat.le_refl _) (I0.hok.fresh (Nat.le_refl _))
  have lt1 : t0.heap.objs.size < (t0.heap.push { cls := .type "list_iterator", data := .fields #[.ref l, .int 0 0] }).objs.size := by
    rw [Heap.size_push]
    exact Nat.lt_succ_self _
  have lne : l ≠ t0.heap.objs.size := Nat.ne_of_lt ll
  generalize t0.heap.objs.size = it at at1 f1 lt1 lne ⊢
  suffices key0 : ∀ t1 : Shared, t1 = { t0 with heap := t0.heap.push { cls := .type "list_iterator", data := .fields #[.ref l, .int 0 0] } } → _ by exact key0 _ rfl
  intro t1 ht1
  have I1 : L2.Inv X pins σ H1 t1 := by rw [ht1]; exact I1
  have at1 : t1.heap.IsListIter it l 0 := by rw [ht1]; exact at1
  have lt1 : it < t1.heap.objs.size := by rw [ht1]; exact lt1
  clear ht1
  refine wpAny_newObj_type (newEnv_comp ?_) (by show 0 ≤ sizeLine; decide)
  generalize hD : t1.heap.objs.size = D
  obtain ⟨Pv, p0, pG, turn, fin⟩ := q D (I1.hok.fresh (Nat.le_of_eq hD))
  suffices key : ∀ t2 : Shared, t2 = { t1 with heap := t1.heap.push { cls := .type "list", data := .seq ([] : List Value).toArray } } →
      codeAny (model X.prog X.w) X.A (.compStart (.ListComp elt [⟨tg, iter, ifs, 0⟩] scope pos) 0 (.ref it) (.ref D) (compEnvC scope (cellsFrom (t2.heap.objs.size + 1) scope.names (cloFrom X.env.cells scope.names [])) t2.heap.objs.size X.env))
        (compPost (model X.prog X.w) X.A X.xe use Qf (.ref D) t2.heap.objs.size) { t2 with heap := pushCells (t2.heap.push { cls := .type "dict", data := .dict #[] }) scope.names } by
    exact key _ rfl
  intro t2 ht2
  have e2 : t2.heap = t1.heap.push { cls := .type "list", data := .seq ([] : List Value).toArray } := by rw [ht2]
  -- the new list, and the walk's own object beside it
  have I2 : L2.Inv X pins σ (upd H1 D (.lst [])) t2 := by
    rw [ht2]
    refine I1.laid (t' := t1.toks) (fun b o e => Heap.get?_push_of_some _ e) (Nat.le_of_eq hD) ⟨Nat.zero_le _, [], 0, .nil, ?_⟩
    rw [← hD]
    exact Heap.get?_push_size _ rfl
  generalize hH2 : upd H1 D (.lst []) = H2 at p0 I2
  have f2 : ∀ b ∈ [it], FpOk X pins H2 b ∧ b < t2.heap.objs.size := fun b hb => by
    obtain rfl := List.mem_singleton.mp hb
    refine ⟨⟨?_, f1.2⟩, by rw [e2, Heap.size_push]; exact Nat.lt_succ_of_lt lt1⟩
    rw [← hH2, upd_ne (fun e => absurd (hD ▸ e ▸ lt1) (Nat.lt_irrefl _))]
    exact f1.1
  have at2 : t2.heap.IsListIter it l 0 := by
    rw [e2]
    obtain ⟨o, ho, r⟩ := at1
    exact ⟨o, Heap.get?_push_of_some _ ho, r⟩
  -- the comprehension's own frame
  have I3 := block_start I2 ok nd f2
  have pg := hg t2 H2 t2.heap.objs.size (cellsFrom (t2.heap.objs.size + 1) scope.names (cloFrom X.env.cells scope.names [])) [it]
  have pt := ht t2 H2 t2.heap.objs.size (cellsFrom (t2.heap.objs.size + 1) scope.names (cloFrom X.env.cells scope.names [])) [it]
  have pe := he t2 H2 t2.heap.objs.size (cellsFrom (t2.heap.objs.size + 1) scope.names (cloFrom X.env.cells scope.names [])) [it]
  generalize hce : compEnvC scope (cellsFrom (t2.heap.objs.size + 1) scope.names (cloFrom X.env.cells scope.names [])) t2.heap.objs.size X.env = ce at I3 pg pt pe ⊢
  have own0 : ce.locals = t2.heap.objs.size := by rw [← hce]; rfl
  generalize ht3 : ({ t2 with heap := pushCells (t2.heap.push { cls := .type "dict", data := .dict #[] }) scope.names } : Shared) = t3 at I3 ⊢
  have at3 : t3.heap.IsListIter it l 0 := by
    rw [← ht3]
    obtain ⟨o, ho, r⟩ := at2
    exact ⟨o, pushCells_keeps _ _ _ _ (Heap.get?_push_of_some _ ho), r⟩
  -- one turn, and the walk's end
  let B := X.blk t2 H2 scope ce [it]
  let In : Nat → Shared → Prop := fun m s' => ∃ i H', m = xs.length - i ∧ i ≤ xs.length ∧ L2.Inv B [] (wipe σ (own.map (·.2))) H' s' ∧ s'.heap.IsListIter it l i ∧ H' it = none ∧ Pv i H'
  have still : ∀ {pl : List (Addr × Obj)} {σ' : L2.St} {H' : Hp} {s' : Shared}, L2.Inv B pl σ' H' s' → H' it = none → ∀ b ∈ [it], FpOk B [] H' b := fun {pl σ' H' s'} I' no b hb => by
    have e := List.mem_singleton.mp hb
    subst e
    exact ⟨no, (I'.ok.exf _ List.mem_cons_self).1, I'.ok.exfs _ List.mem_cons_self, .inl List.mem_cons_self, fun x c y => (I'.ok.exf _ List.mem_cons_self).2 x c y, fun p hp => absurd (show p ∈ ([] : List (Addr × Obj)) ++ [] from hp) (by simp)⟩
  have loop : codeAny (model X.prog X.w) X.A (.compLoop (.ListComp elt [⟨tg, iter, ifs, 0⟩] scope pos) 0 (.ref it) (.ref D) ce) (compPost (model X.prog X.w) X.A X.xe use Qf (.ref D) t2.heap.objs.size) t3 := by
    refine compLoop_any In ?_ xs.length ⟨0, H2, rfl, Nat.zero_le _, I3, at3, (f2 it List.mem_cons_self).1.1, p0⟩
    rintro _ s4 ⟨i, H4, rfl, le, I4, at4, no4, pv⟩
    obtain ⟨hl4, cls, d, ea⟩ := pG i H4 le pv
    obtain ⟨its4, rv4, li4, hz4⟩ := I4.list hl4
    have len4 : its4.length = xs.length := rv4.length.symm
    have fp4 := still I4 no4 it List.mem_cons_self
    obtain ⟨c0, c1, c2, c3, c4, c5⟩ := fp4
    rcases Nat.lt_or_ge i xs.length with lt | ge
    · obtain ⟨u, hu0, rx⟩ := rv4.get (List.getElem?_eq_getElem lt)
      have hu : its4.toArray[i]? = some u := by
        rw [List.getElem?_toArray]
        exact hu0
      refine wpAny_pyNext_list_item at4 li4.isList hu fun h5 at5 sb => ?_
      have I5 : L2.Inv B [] (wipe σ (own.map (·.2))) H4 { s4 with heap := h5 } := I4.turned (t' := s4.toks) (fun b o hb e => (sb.2 b hb).trans e) c0 c1 c3 c4 c5
      refine go_of (s := { s4 with heap := h5 }) (n := "list_iterator") at5.choose_spec.1 at5.choose_spec.2.1 at5.choose_spec.2.2 (by decide) ?_
      have no5 : ∀ b ∈ [it], FpOk B [] H4 b := still I5 no4
      have obj5 : ∀ b ∈ [it], ∃ o, h5.get? b = some o ∧ ∀ v, o.data ≠ .cell v := fun b hb => by
        have e := List.mem_singleton.mp hb
        subst e
        obtain ⟨o, ho, _, hd⟩ := at5
        exact ⟨o, ho, fun v y => by rw [hd] at y; cases y⟩
      have again : ∀ {σ' : L2.St} {s' : Shared} {H' : Hp}, L2.Inv B ([] ++ pinsAt [it] h5) σ' H' s' → wipe σ' (own.map (·.2)) = wipe σ (own.map (·.2)) → Pv (i + 1) H' → ∃ m, m < xs.length - i ∧ In m s' := fun {σ' s' H'} I' hw p' => by
        obtain ⟨o, ho, r5⟩ := at5
        have pin := I'.pin (it, o) (List.mem_append_right _ (List.mem_append_right _ (mem_pinsAt List.mem_cons_self ho)))
        have len : (wipe σ (own.map (·.2))).length = σ'.length := by rw [← hw, wipe_length]
        refine ⟨xs.length - (i + 1), by omega, i + 1, H', rfl, lt, I'.unpinned.weak len (fun j v e => ?_), ⟨o, pin.1, r5⟩, pin.2.1, p'⟩
        rw [← hw] at e
        exact (wipe_some e).1
      refine thnF (pg.run _ { s4 with heap := h5 } _ H4 xs[i] _ _ (I5.pinned no5 obj5) rx (turn i xs[i] H4 (List.getElem?_eq_getElem lt) pv)) fun _ s7 ⟨σ7, H7, I7, hw, q7⟩ => ?_
      refine thnF (pt.run _ s7 σ7 H7 _ I7 q7) fun b s8 ⟨H8, I8, q8⟩ => ?_
      cases b with
      | false =>
        rw [if_neg Bool.false_ne_true] at q8 ⊢
        exact again I8 hw q8
      | true =>
        rw [if_pos rfl] at q8 ⊢
        refine thnF (pe.run _ s8 σ7 H8 _ I8 q8) fun z s9 ⟨y, H9, I9, r9, acc, hD9, hz9, p9⟩ => ?_
        exact app_ok (X := B) I9 hD9 hz9 r9 fun s' I' => again I' hw p9
    · obtain rfl : i = xs.length := by omega
      refine lnext_end (hot_of (X := B) I4 (show B.A.handled = some (.ref a) from hh) ea) (ne_of_none ea no4) at4 li4.isList (by rw [List.getElem?_toArray]; exact List.getElem?_eq_none (by omega)) fun h5 ext => ?_
      have I5 : L2.Inv B [] (wipe σ (own.map (·.2))) H4 { s4 with heap := h5 } := I4.turned (t' := s4.toks) (fun b o hb e => ext b o hb e) c0 c1 c3 c4 c5
      have I6 : L2.Inv X pins σ H4 { s4 with heap := h5 } := I2.call' (ch := [it]) I5.os I5.base I5.hok I5.bare fun b hb => ⟨(f2 b hb).1.2.2.2.1, (f2 b hb).1.2.1, (f2 b hb).1.2.2.2.2.1, (f2 b hb).1.2.2.2.2.2⟩
      obtain ⟨m, hn, _⟩ := I5.loc
      have no5 : H4 t2.heap.objs.size = none := own0 ▸ (show H4 ce.locals = none from I5.free)
      have hn : h5.Ns t2.heap.objs.size m := own0 ▸ (show h5.Ns ce.locals m from hn)
      exact out D t2.heap.objs.size _ m H4 I6 (fin H4 pv) hn (I2.fpOk (Nat.le_refl _) no5)
  exact codeAny_compStart_list loop (wpAny_pyIter_listiter at3 loop)
theorem ps_setLcE {a : Addr} {i : Nat} {y : PySem.Str} {py : Pos} {elt tg iter : Expr} {ifs : List Expr} {scope : Scope} {own : List (PySem.Str × Nat)} {pos spos : Pos} {to : TE} {g : TG} {tt : TT} {te : TE} (K : PySem.W.Frag) (hK : X.K = K) (hh : X.A.handled = some (.ref a)) (nd : X.N.Nodup) (at_ : X.N[i]? = some y) (loc : X.env.scope.names.lookup y = some .local)
    (sw : swapsWith (.ListComp elt [⟨tg, iter, ifs, 0⟩] scope pos) (some (.Name y py)) spos.line X.env = pure true) (hi : PE X iter to) (ok : BlkOk X.N X.env.scope scope own)
    (hg : ∀ (s : Shared) (H : Hp) (C : Addr) (cl : List (PySem.Str × Addr)) (fp : List Addr), PG (X.blk s H scope (compEnvC scope cl C X.env) fp) tg g)
    (ht : ∀ (s : Shared) (H : Hp) (C : Addr) (cl : List (PySem.Str × Addr)) (fp : List Addr), PTs (X.blk s H scope (compEnvC scope cl C X.env) fp) ifs tt)
    (he : ∀ (s : Shared) (H : Hp) (C : Addr) (cl : List (PySem.Str × Addr)) (fp : List Addr), PE (X.blk s H scope (compEnvC scope cl C X.env) fp) elt te) (fold : ∀ x, foldedSetIterable iter X.env x = pure x := by intro _; rfl) :
    PS X (.Assign [.Name y py] (.ListComp elt [⟨tg, iter, ifs, 0⟩] scope pos) spos) (tAsg (tLcE K a to g tt te (own.map (·.2))) (gName i)) := by
  subst hK
  refine ⟨fun pins s σ H D I h => ?_⟩
  rw [exec_Assign_Name_used _ _ _ _ sw]
  refine wpAny_bind (wpAny_standAt (wpAny_bind ?_))
  show wpAny _ X.A (do let _ ← comprehension (.ListComp elt [⟨tg, iter, ifs, 0⟩] scope pos) scope X.env (firstIterPos [⟨tg, iter, ifs, 0⟩] pos) (newList []) false (eval iter X.env) (some (assign (.Name y py) X.env))) _ _ s
  have h : tLcE X.K a to g tt te (own.map (·.2)) σ H (fun x H1 => gName i x σ H1 D.nx) := h
  refine wpAny_bind (thn (lcE_core (Qf := fun _ s' => SP X pins D .next s') hh nd I hi ok hg ht he fold h fun L C s' m H' I' q hn f => ?_) fun _ s' hq => wpAny_pure (wpAny_pure hq))
  show wpAny _ _ (assign (.Name y py) X.env (.ref L)) _ _ _
  refine wpAny_assign_Name (store_ok2 (v := V.ref L) I' nd at_ (.inl loc) rfl (fun s2 I2 ⟨b, sb, hb⟩ => ?_) (.inr loc))
  obtain ⟨f0, f1, f2, f3, f4, f5⟩ := f
  have ne : C ≠ b := by
    rcases hb with z | z
    · rw [z]
      exact f1
    · exact fun e => f4 y b z e.symm
  refine ⟨m, hn.sameBut sb ne, fun h3 sb3 => ?_⟩
  exact ⟨_, H', I2.turned (t' := s2.toks) (fun b o hb e => (sb3.2 b hb).trans e) f0 f1 f3 f4 f5, q⟩
end
/-! ### defs that get the handled error -/
structure FnE (P : Program) (w : World) (K : PySem.W.Frag) (mg : PySem.Str → Option Value) (base : Heap) (k : Nat) (f : Addr) (fd : FuncData) (ps : List PySem.Str) (sp : Sp) : Prop where
  args : ∀ vs H Q E, sp vs H Q E → vs.length = ps.length
  go : ∀ (A : Around) (out : List Env) (s : Shared) (H : Hp) (ar : Args) (us : List Value) (vs : List V) (Q : VK) (E : XK) (a : Addr) (cls : Value) (d : Option Addr),
    L2H.RoomH k A → A.handled = some (.ref a) → H a = some (ExN cls d a) → Env0 P w K mg base A out s H → BindsTo s fd ar (ps.zip us) → Vals vs us →
    sp vs H Q E → codeAny (model P w) A (.call (.ref f) ar) (CR CX0 out P w H s Q E) s
section
variable {P : Program} {w : World} {K : PySem.W.Frag} {mg : PySem.Str → Option Value} {base : Heap}
theorem okE {x qual : PySem.Str} {st : Stmt} {f : Addr} {fd : FuncData} {N ps : List PySem.Str} {k : Nat} {sp : Sp} (F : Fun K x qual st f fd) (S : FnScope N ps (defScope st)) (args : ∀ vs H Q E, sp vs H Q E → vs.length = ps.length)
    (hb : ∀ (cdv : Value) (A : Around) (out : List Env) (s : Shared) (H : Hp) (vs : List V) (Q : VK) (E : XK) (a : Addr) (cls : Value) (d : Option Addr),
      L2H.RoomH k (A.deeper (envOfC qual (defScope st) s.heap.objs.size f cdv)) → (A.deeper (envOfC qual (defScope st) s.heap.objs.size f cdv)).handled = some (.ref a) → H a = some (ExN cls d a) → sp vs H Q E →
      ∃ t, PSs (cxAny CX0 P w K mg base N qual (defScope st) f cdv A out s H E).nox (defBody st) t ∧ t { nx := fun _ H' => Q .non H', rt := Q } (start N vs) H) :
    FnE P w K mg base (k + 1) f fd ps sp := by
  obtain ⟨oc, od, kV, doc, pm, an, cdv, ct, osl, rfl, lk, code⟩ := F.ex
  refine ⟨args, ?_⟩
  intro A out s H ar us vs Q E a cls d room hh ea e0 bt rv want
  have nargs := args vs H Q E want
  have inK : K.In s.heap := e0.mod.kin.keeps (fun b o z => (e0.bs b o z).1)
  have noL : s.heap.NoLimit := e0.mod.nolimit.keeps (fun b o z => (e0.bs b o z).1)
  have kinds : ∀ y ∈ ps.zip us, (defScope st).names.lookup y.1 = some .local ∨
      ((defScope st).names.lookup y.1 = some .cell ∧ ((cellsFrom (s.heap.objs.size + 1) (defScope st).names []).lookup y.1).isSome = true) := by
    intro y hy
    have hm := (List.of_mem_zip (show (y.1, y.2) ∈ ps.zip us from hy)).1
    cases S.par y.1 hm with
    | inl q => exact Or.inl q
    | inr q => exact Or.inr ⟨q, PySem.W.cellsFrom_some _ _ _ (Or.inl q)⟩
  refine codeAny_call_function room.depth (inK _ _ lk) rfl S.co S.gen rfl (PySem.W.codeRec_of inK code) (bt _ _ _ _ ?_)
  refine wpAny_newFunctionEnv_cells S.kind kinds fun env he s1 x => ?_
  cases he
  refine ⟨noL.keeps x.toInCall.keep, codeAny_func ?_⟩
  obtain ⟨t, ht, hq⟩ := hb cdv A out s H vs Q E a cls d (room.deeper _) hh ea want
  have I0 := inv_start (CX := CX0) (P := P) (w := w) (K := K) (mg := mg) (base := base) (E := E) (A := quietA A) S rfl (env0_quiet e0) nargs rv x
  have I : L2.Inv (cxAny CX0 P w K mg base N qual (defScope st) f cdv A out s H E) [] (start N vs) H s1 :=
    invHot (X := cxOf CX0 P w K mg base N qual (defScope st) f cdv (quietA A) out s H E) (B := A.deeper (envOfC qual (defScope st) s.heap.objs.size f cdv)) (xe := (cxOf CX0 P w K mg base N qual (defScope st) f cdv A out s H E).xe) I0 rfl
  refine wpAny_mono (ht.nox.run [] s1 (start N vs) H _ I hq) ?_ (fun _ _ z => z)
  intro fl s' hs
  cases fl with
  | ret u =>
    obtain ⟨v, σ', H', J, r', q⟩ := hs
    exact ⟨v, H', J.os, J.bare, J.base, J.hok, r', q⟩
  | next =>
    obtain ⟨σ', H', J, q⟩ := hs
    exact ⟨V.non, H', J.os, J.bare, J.base, J.hok, rfl, q⟩
  | brk => obtain ⟨_, _, _, q⟩ := hs; exact q.elim
  | cont => obtain ⟨_, _, _, q⟩ := hs; exact q.elim
end
section
variable {X : Cx} {k : Nat} {f : Addr} {fd : FuncData} {ps : List PySem.Str} {sp : Sp}
def tCallE (a : Addr) (sp : Sp) (t : TA) : TE := fun σ H Q => t σ H fun vs H1 => (∃ cls d, H1 a = some (ExN cls d a)) ∧ sp vs H1 Q (fun _ _ _ => False)
/-- f(e, ..) of such a def -/
theorem pe_callE {a : Addr} {x : PySem.Str} {p pos : Pos} {e : Expr} {es : List Expr} {t : TA} (F : FnE X.prog X.w X.K X.mg X.base k f fd ps sp) (hr : L2H.RoomH k X.A) (hh : X.A.handled = some (.ref a))
    (hg : Gl X x) (hm : X.mg x = some (.ref f)) (hk : PySem.W.keepIn X.K (.ref f) = true) (hb : Binds X.K fd ps []) (ha : PA X (e :: es) t)
    (hdb : (x == ("__debug__" : PySem.Str)) = false := by decide) (he : starEach (e :: es) X.env = (false, eval e X.env) :: starEach es X.env := by rfl)
    (hpl : (backTo pos (starEach es X.env)).any (·.1) = false := by rfl) :
    PE X (.Call (.Name x p) (e :: es) [] pos) (tCallE a sp t) := by
  constructor
  intro pins s σ H Q I h
  refine wpAny_Call_Name_kw (ld_glob I hg hm ?_ hdb)
  refine PySem.W.callWith_K (h₀ := X.base) I.ok.mod.kin hk (thn (ha.run pos pins s σ H _ I h) ?_) he hpl
  rintro us s1 ⟨vs, H1, I1, r, ⟨cls, d, ea⟩, q⟩
  refine ⟨I1.kIn, ?_⟩
  have r2 : Vals (vs ++ []) (us ++ []) := r.append .nil
  rw [List.append_nil] at r2
  have q2 : sp (vs ++ []) H1 Q (fun _ _ _ => False) := by rw [List.append_nil]; exact q
  have hl : (us ++ []).length = ps.length := by
    rw [List.append_nil, ← r.length]
    exact F.args _ _ _ _ q
  refine wpAny_call (codeAny_mono (F.go X.A X.stack s1 H1 ⟨us, []⟩ (us ++ []) (vs ++ []) Q (fun _ _ _ => False) a cls d hr hh ea I1.env0 (hb s1 us I1.kIn hl) (by rw [List.append_nil]; exact r2) q2) ?_)
  intro r s' hq
  match r, hq with
  | .error e, hq => exact pass0 (X := X) pins σ H1 s1 e s' I1 hq
  | .ok (.ret u), hq => exact I1.after hq
end
end Wk
set_option Elab.async false
set_option linter.all false
set_option maxRecDepth 100000
set_option maxHeartbeats 4000000
/-! The program's own: the checks, whose errors have no context. -/
namespace LB
open PySem L2 Wk
open Bg (Bg Wo)
/-- a table of words that may be wrong -/
structure TabX (H : Hp) (t : Addr) (ones tens : List Str) (hun : Str) (scales : List Str) (o te sc : Addr) : Prop where
  at_ : TabAt H t ones tens hun scales o te sc
  l1 : ones.length ≤ 30
  l2 : tens.length ≤ 20
  l3 : scales.length ≤ 10
  short : ∀ x ∈ ones ++ (tens ++ hun :: scales), x.length ≤ 21 ∧ ∀ c ∈ x.cps.toList, c < 128
theorem TabX.same {H G : Hp} {t : Addr} {ones tens : List Str} {hun : Str} {scales : List Str} {o te sc : Addr} (T : TabX H t ones tens hun scales o te sc) (s : Same H G) : TabX G t ones tens hun scales o te sc :=
  ⟨⟨s _ _ T.at_.tup, s _ _ T.at_.lo, s _ _ T.at_.lt, s _ _ T.at_.ls⟩, T.l1, T.l2, T.l3, T.short⟩
theorem TabX.tab {H : Hp} {t : Addr} {ones tens : List Str} {hun : Str} {scales : List Str} {o te sc : Addr} (T : TabX H t ones tens hun scales o te sc) (f : fault ones tens hun scales = none) : Tab H t ones tens hun scales o te sc := by
  obtain ⟨a, b, g⟩ := fault_none f
  exact ⟨⟨T.at_, a, b, by have := T.l3; omega, g.nd⟩, g⟩
/-- a def that may raise errors without context, as its callers see it -/
structure DefN (P : Program) (w : World) (K : PySem.W.Frag) (mg : Str → Option Value) (base : Heap) (x : Str) (n : Nat) (f : Addr) (fd : FuncData) (ps : List Str) (sp : Sp) : Prop where
  ok : FnOk P w K mg base (L2N.CX P w) n f fd ps sp
  g : mg x = some (.ref f)
  k : PySem.W.keepIn K (.ref f) = true
  b : Binds K fd ps []
/-- the error C with this value -/
def Err (C : Addr) (v : V) (H : Hp) (E : XK) : Prop := ∀ d H', H d = none → Same H H' → H' d = some (.xd [("value", v)]) → E (.ref C) (some d) H'
theorem Err.later {C : Addr} {v : V} {H G : Hp} {E : XK} (e : Err C v H E) (s : Same H G) : Err C v G E := fun d H' n s' m => e d H' (Same.free s n) (Same.trans s s') m
/-- a table and numbers, checked: the table first, then what good asks of the number n, below W; the result is res -/
def spDoor (C0 C1 : Addr) (mk : V → Int → Int → List V) (good : Int → Int → Prop) (res : Int → V → Prop) : Sp := fun vs H Q E => ∃ (t o te sc : Addr) (ones tens : List Str) (hun : Str) (scales : List Str) (n m : Int), vs = mk (.ref t) n m ∧ TabX H t ones tens hun scales o te sc ∧ (-100 ≤ m ∧ m ≤ 100) ∧
  (∀ v, fault ones tens hun scales = some v → Err C0 v H E) ∧ (fault ones tens hun scales = none → ¬ good n (Bg.W (scales.length + 1)) → Err C1 (.int n) H E) ∧
  (fault ones tens hun scales = none → good n (Bg.W (scales.length + 1)) → ∀ r H', res n r → Same H H' → Q r H')
def mkN : V → Int → Int → List V := fun t n _ => [t, .int n]
def gNum : Int → Int → Prop := fun n W => 0 ≤ n ∧ n < W
def gBelow : Int → Int → Prop := fun n W => 1 ≤ n ∧ n ≤ W
section
variable {P : Program} {w : World} {K : PySem.W.Frag} {mg : Str → Option Value} {base : Heap} {E1 E2 : Addr}
theorem ok_checkN {f fW C fI : Addr} {fd dW dI : FuncData} (F : Fun K "check_table" "check_table" sCheck f fd) (T : TxtP K mg E1 E2)
    (GW : FnOk P w K mg base CX0 1 fW dW ["text"] spIsWordB) (gW : mg "is_word" = some (.ref fW)) (kW : PySem.W.keepIn K (.ref fW) = true) (bW : Binds K dW ["text"] [])
    (FC : ClsF P w K mg base "InvalidTable" C fI dI) : FnOk P w K mg base (L2N.CX P w) 3 f fd ["table"] (spCheckX C) := by
  refine okN F scCheck (fun vs H Q E h => ?_) (fun cdv A outer s H vs Q E hr h => ?_)
  · obtain ⟨t, o, te, sc, ones, tens, hun, scales, rfl, _⟩ := h
    rfl
  · obtain ⟨t, o, te, sc, ones, tens, hun, scales, rfl, TA, l1, l2, l3, short, k, kE⟩ := h
    obtain ⟨xs1, xl1, q1⟩ := T.e1
    obtain ⟨xs2, xl2, q2⟩ := T.e2
    have hu := hu_of hr
    have hr1 : Room 1 _ := hr.mono (by decide)
    refine ⟨_, pss_cons (ps_asg (pv 0) (pg_tup (by rfl) (pgs_cons (pg_name (i := 1) scCheck.nd rfl (.inl rfl)) (pgs_cons (pg_name (i := 2) scCheck.nd rfl (.inl rfl)) (pgs_cons (pg_name (i := 3) scCheck.nd rfl (.inl rfl)) (pgs_cons (pg_name (i := 4) scCheck.nd rfl (.inl rfl)) pgs_nil))))))
      (pss_cons (ps_if (PW.pt (pw_or (pt_cmpR op_ne (pe_callB call_len_seq (by rfl) T.len PySem.boot_len (pa_cons (pv 1) pa_nil)) (pe_callB call_len_seq (by rfl) T.len PySem.boot_len (pa_cons (pe_glob (v := .ref E1) rfl T.g1 rfl) pa_nil)) (nomark _))
          (pw_or1 (pt_cmpR op_ne (pe_callB call_len_seq (by rfl) T.len PySem.boot_len (pa_cons (pv 2) pa_nil)) (pe_callB call_len_seq (by rfl) T.len PySem.boot_len (pa_cons (pe_glob (v := .ref E2) rfl T.g2 rfl) pa_nil)) (nomark _)))))
        (pss_one (ps_raiseN FC hr rfl (L2N.takes_of rfl rfl rfl rfl) rfl pe_non)) pss_nil)
      (pss_cons (ps_set (i := 5) scCheck.nd rfl (.inl rfl) pe_dnewK)
      (pss_one (ps_for (PassesOwn.leaving) rfl (pi_list (pe_lst (StX.pa_star (pv 1) (StX.pa_star (pv 2) (pa_cons (pv 3) (StX.pa_star (pv 4) pa_nil)))))) (pg_name (i := 6) scCheck.nd rfl (.inl rfl))
        (pss_cons (ps_if (PW.pt (pw_or (pt_cmp (pc_din hu (pv 6) (pv 5))) (pw_or1 (pt_not (pt_val (pe_call GW hr1 (by rfl) gW kW bW .nil pass0 (pa_cons (pv 6) pa_nil)))))))
          (pss_one (ps_raiseN FC hr rfl (L2N.takes_of rfl rfl rfl rfl) rfl (pv 6))) pss_nil)
        (pss_one (ps_dput hu (pv 5) (pv 6) pe_bl rfl))))))), ?_⟩
    have wrong : ¬ (ones.length = 20 ∧ tens.length = 8) → fault ones tens hun scales = some .non := fun n => by
      unfold fault
      rw [if_pos]
      by_cases c : ones.length = 20
      · exact .inr fun z => n ⟨c, z⟩
      · exact .inl c
    refine ⟨_, rfl, t, _, rfl, SqT.of TA.tup, rfl, _, _, rfl, _, _, rfl, _, _, rfl, _, _, rfl, rfl, ?_⟩
    refine ⟨_, rfl, o, _, rfl, .inl (SqL.of TA.lo), E1, xs1, rfl, .inr (q1 _), rfl, _, rfl, ?_⟩
    rw [List.length_map, xl1]
    refine ite2 (fun c1 => ?_) (fun c1 => ?_)
    · refine iteT (mk_read fun d H' n s e => kE _ (wrong ?_) d H' n s e)
      rintro ⟨z, _⟩
      rw [z] at c1
      exact absurd c1 (by decide)
    have o20 : ones.length = 20 := by
      have z : decide (V.int ((ones.length : Nat) : Int) = V.int ((20 : Nat) : Int)) = true := by
        cases q : decide (V.int ((ones.length : Nat) : Int) = V.int ((20 : Nat) : Int)) with
        | true => rfl
        | false =>
          rw [q] at c1
          exact absurd rfl c1
      have z2 := V.int.inj (of_decide_eq_true z)
      omega
    refine ⟨_, rfl, te, _, rfl, .inl (SqL.of TA.lt), E2, xs2, rfl, .inr (q2 _), rfl, _, rfl, ?_⟩
    rw [List.length_map, xl2]
    refine ite2 (fun c2 => ?_) (fun c2 => ?_)
    · refine mk_read fun d H' n s e => kE _ (wrong ?_) d H' n s e
      rintro ⟨_, z⟩
      rw [z] at c2
      exact absurd c2 (by decide)
    have t8 : tens.length = 8 := by
      have z : decide (V.int ((tens.length : Nat) : Int) = V.int ((8 : Nat) : Int)) = true := by
        cases q : decide (V.int ((tens.length : Nat) : Int) = V.int ((8 : Nat) : Int)) with
        | true => rfl
        | false =>
          rw [q] at c2
          exact absurd rfl c2
      have z2 := V.int.inj (of_decide_eq_true z)
      omega
    intro e ne
    obtain ⟨row, hrow⟩ : ∃ row, row = ones ++ (tens ++ hun :: scales) := ⟨_, rfl⟩
    have hf : fault ones tens hun scales = firstBad [] row := by
      unfold fault
      rw [if_neg (fun z => z.elim (fun z => z o20) (fun z => z t8)), hrow]
    have rl : row.length ≤ 1000 := by
      rw [hrow, List.length_append, List.length_append, List.length_cons]
      omega
    have s1 : Same H (upd H e (.dK [])) := fun b u z => by
      rw [upd_ne (ne_of_none z ne)]
      exact z
    have eqs : ones.map V.str ++ (tens.map V.str ++ V.str hun :: (scales.map V.str ++ [])) = row.map V.str := by
      rw [hrow, List.append_nil, List.map_append, List.map_append, List.map_cons]
    refine ⟨_, rfl, o, _, rfl, .inr (SqL.of (s1 _ _ TA.lo)), _, rfl, te, _, rfl, .inr (SqL.of (s1 _ _ TA.lt)), _, rfl, _, rfl, sc, _, rfl, .inr (SqL.of (s1 _ _ TA.ls)), ?_, fun L nL => ?_⟩
    · rw [eqs, List.length_map]
      exact Nat.le_of_lt (small1000 rl)
    have Le : L ≠ e := fun z => by
      rw [z, upd_same] at nL
      cases nL
    have nLH : H L = none := by
      rw [upd_ne Le] at nL
      exact nL
    refine ⟨L, rfl, ⟨_, SqL.of upd_same⟩, for_list (K := K) (a := L) (xs := row.map V.str) (fun i σ H2 => ∃ x : Option V, σ = [some (.ref t), some (.ref o), some (.ref te), some (.str hun), some (.ref sc), some (.ref e), x] ∧
      H2 L = some (.lst (row.map V.str)) ∧ H2 e = some (.dK (seenK (row.take i))) ∧ firstBad [] (row.take i) = none ∧ Same H H2) ?_ ?_ ?_ ?_⟩
    · refine ⟨none, rfl, ?_, by rw [upd_ne Le.symm, upd_same]; rfl, rfl, fun b u z => ?_⟩
      · rw [upd_same]
        exact congrArg (fun z => some (HO.lst z)) eqs
      · rw [upd_ne (ne_of_none z nLH)]
        exact s1 b u z
    · rintro i σ H2 _ ⟨x, rfl, hL, _⟩
      exact SqL.of hL
    · rintro i y σ H2 hi ⟨x, rfl, hL, he, fb, s2⟩
      obtain ⟨z, hz, rfl⟩ : ∃ z, row[i]? = some z ∧ y = V.str z := by
        rw [List.getElem?_map] at hi
        cases q : row[i]? with
        | none =>
          rw [q] at hi
          cases hi
        | some z =>
          rw [q] at hi
          exact ⟨z, rfl, (Option.some.inj hi).symm⟩
      have il := (List.getElem?_eq_some_iff.mp hz).1
      have next : row = row.take i ++ z :: row.drop (i + 1) := by
        obtain ⟨h1, h2⟩ := List.getElem?_eq_some_iff.mp hz
        have q := List.take_append_drop i row
        rw [List.drop_eq_getElem_cons h1, h2] at q
        exact q.symm
      have hfz : z ∈ row.take i ∨ goodB z = false → fault ones tens hun scales = some (.str z) := fun c => by
        rw [hf, next, firstBad_split _ _ _ fb, List.nil_append, firstBad_cons, if_pos c]
      have dg := DGet.k (k := (Sum.inr z : Key)) he
      refine ⟨_, rfl, _, rfl, e, _, rfl, dg, _, rfl, ?_⟩
      rw [seen_yes]
      refine ite2 (fun c3 => ?_) (fun c3 => ?_)
      · refine iteT ⟨_, rfl, ?_⟩
        exact mk_read fun d H' n s q => kE _ (hfz (.inl (of_decide_eq_true c3))) d H' (s2.free n) (s2.trans s) q
      have c3' : ¬ z ∈ row.take i := fun m => c3 (decide_eq_true m)
      refine ⟨_, rfl, z, rfl, short z (by rw [← hrow]; exact List.mem_of_getElem? hz), _, rfl, ?_⟩
      cases gz : goodB z with
      | false =>
        refine iteT ⟨_, rfl, ?_⟩
        exact mk_read fun d H' n s q => kE _ (hfz (.inr gz)) d H' (s2.free n) (s2.trans s) q
      | true =>
        refine iteF ?_
        have sl : (seenK (row.take i)).length < sizeLine := by
          refine small1000 ?_
          unfold seenK
          rw [List.length_map, List.length_take]
          omega
        refine ⟨_, rfl, _, rfl, e, _, rfl, DPut.k (k := (Sum.inr z : Key)) (v := .bl true) he sl, ?_⟩
        refine ⟨_, rfl, by rw [upd_ne Le]; exact hL, ?_, ?_, fun b u q => ?_⟩
        · rw [upd_same, putK_new _ (seen_no c3'), List.take_add_one, hz]
          unfold seenK
          rw [List.map_append]
          rfl
        · rw [List.take_add_one, hz]
          show firstBad [] (row.take i ++ [z]) = none
          rw [firstBad_split _ _ _ fb, List.nil_append, firstBad_cons, if_neg]
          · rfl
          · rintro (m | m)
            · exact c3' m
            · rw [gz] at m
              cases m
        · rw [upd_ne (ne_of_none q ne)]
          exact s2 b u q
    · rintro σ H2 ⟨x, rfl, hL, he, fb, s2⟩
      rw [List.length_map, List.take_length] at fb
      exact k (hf.trans fb) H2 s2
theorem ok_limitN {f fC C fT : Addr} {fd dC dT : FuncData} (F : Fun K "limit" "limit" sLimit f fd)
    (GC : FnOk P w K mg base (L2N.CX P w) 3 fC dC ["table"] (spCheckX C)) (gC : mg "check_table" = some (.ref fC)) (kC : PySem.W.keepIn K (.ref fC) = true) (bC : Binds K dC ["table"] [])
    (T : Def1 P w K mg base "top_of" 1 fT dT ["table"] spTopOf) : FnOk P w K mg base (L2N.CX P w) 4 f fd ["table"] (spLimitX C) := by
  refine okN F scLimit (fun vs H Q E h => ?_) (fun cdv A outer s H vs Q E hr h => ?_)
  · obtain ⟨t, o, te, sc, ones, tens, hun, scales, rfl, _⟩ := h
    rfl
  · obtain ⟨t, o, te, sc, ones, tens, hun, scales, rfl, TA, l1, l2, l3, short, k, kE⟩ := h
    refine ⟨_, pss_cons (ps_expr (pe_call GC hr (by rfl) gC kC bC .nil (L2N.passes_call (L2N.takes_of rfl rfl rfl rfl) (fun _ _ _ _ h => h)) (pa_cons (pv 0) pa_nil)))
      (pss_one (ps_ret (pe_call T.ok (hr.mono (by decide)) (by rfl) T.g T.k T.b .nil pass0 (pa_cons (pv 0) pa_nil)))), ?_⟩
    refine ⟨_, rfl, t, o, te, sc, ones, tens, hun, scales, rfl, TA, l1, l2, l3, short, fun hf H1 s1 => ?_, fun v hv d H' n s m => kE v hv d H' n s m⟩
    exact ⟨_, rfl, t, o, te, sc, ones, tens, hun, scales, rfl, ⟨s1 _ _ TA.tup, s1 _ _ TA.lo, s1 _ _ TA.lt, s1 _ _ TA.ls⟩, by omega, k hf _ s1⟩
theorem scBelowN : FnScope ["table", "below", "top"] ["table", "below"] (defScope sBelow) := ⟨rfl, rfl, rfl, by decide +kernel, rfl, by decide +kernel, by decide +kernel⟩
theorem ok_belowN {f fL C0 C1 I1 : Addr} {fd dL d1 : FuncData} (F : Fun K "checked_below" "checked_below" sBelow f fd) (L : DefN P w K mg base "limit" 4 fL dL ["table"] (spLimitX C0)) (F1 : ClsF P w K mg base "InvalidRange" C1 I1 d1) :
    FnOk P w K mg base (L2N.CX P w) 5 f fd ["table", "below"] (spDoor C0 C1 mkN gBelow (fun n r => r = .int n)) := by
  refine okN F scBelowN (fun vs H Q E h => ?_) (fun cdv A outer s H vs Q E hr h => ?_)
  · obtain ⟨t, o, te, sc, ones, tens, hun, scales, n, m, rfl, _⟩ := h
    rfl
  · obtain ⟨t, o, te, sc, ones, tens, hun, scales, n, m, rfl, T, _, k0, k1, k⟩ := h
    have hr2 : Room 2 _ := hr.mono (by decide)
    refine ⟨_, pss_cons (ps_set (i := 2) scBelowN.nd rfl (.inl rfl) (pe_call L.ok hr (by rfl) L.g L.k L.b .nil (L2N.passes_call (L2N.takes_of rfl rfl rfl rfl) (fun _ _ _ _ h => h)) (pa_cons (pv 0) pa_nil)))
        (pss_cons (ps_if (pt_cmp (pc_isN (pv 1))) (pss_one (ps_ret (pv 2))) pss_nil)
        (pss_cons (ps_if (PW.pt (pw_or (pt_cmpR op_lt (pv 1) pe_int (nomark _)) (pw_or1 (pt_cmpR op_gt (pv 1) (pv 2) (nomark _))))) (pss_one (ps_raiseN F1 hr2 rfl (L2N.takes_of rfl rfl rfl rfl) rfl (pv 1))) pss_nil)
        (pss_one (ps_ret (pv 1))))), ?_⟩
    refine ⟨_, rfl, t, o, te, sc, ones, tens, hun, scales, rfl, T.at_, by have := T.l1; omega, by have := T.l2; omega, by have := T.l3; omega, fun x hx => by have := (T.short x hx).1; omega, fun hf H1 s1 => ?_, fun v hv d H' n s m => k0 v hv d H' n s m⟩
    rw [limit_W]
    have k1 := k1 hf
    have k := k hf
    refine ⟨_, rfl, _, rfl, ite2 (fun z => absurd (of_decide_eq_true z) (by simp)) (fun _ => ?_)⟩
    refine ⟨_, rfl, _, _, rfl, rfl, _, rfl, ite2 (fun c1 => ?_) (fun c1 => ?_)⟩
    · refine iteT ⟨_, rfl, mk_read ((k1 fun z => ?_).later s1)⟩
      have y := of_decide_eq_true c1
      have := z.1
      omega
    · refine ⟨_, rfl, _, rfl, _, _, rfl, rfl, _, rfl, ite2 (fun c2 => ?_) (fun c2 => ?_)⟩
      · refine ⟨_, rfl, mk_read ((k1 fun z => ?_).later s1)⟩
        have y := of_decide_eq_true c2
        have := z.2
        omega
      · have y1 : ¬ n < 1 := fun y => c1 (decide_eq_true y)
        have y2 : ¬ Bg.W (scales.length + 1) < n := fun y => c2 (decide_eq_true y)
        exact ⟨_, rfl, k ⟨by omega, by omega⟩ _ _ rfl s1⟩
end
end LB
set_option Elab.async false
set_option linter.all false
set_option maxRecDepth 100000
set_option maxHeartbeats 4000000
/-! Rings: the mathematics of counting again and again. -/
namespace LB
def itf (f : Nat → Nat) : Nat → Nat → Nat
  | 0, x => x
  | i + 1, x => f (itf f i x)
theorem itf_add (f : Nat → Nat) (x : Nat) (i : Nat) : ∀ j, itf f (i + j) x = itf f j (itf f i x)
  | 0 => rfl
  | j + 1 => congrArg f (itf_add f x i j)
/-- x comes back after p steps, and not before -/
structure Per (f : Nat → Nat) (x p : Nat) : Prop where
  pos : 0 < p
  back : itf f p x = x
  first : ∀ q, 0 < q → q < p → itf f q x ≠ x
/-- a ring from x on -/
def ringN (f : Nat → Nat) (p x : Nat) : List Nat := (List.range p).map fun i => itf f i x
theorem ringN_len (f : Nat → Nat) (p x : Nat) : (ringN f p x).length = p := by
  unfold ringN
  rw [List.length_map, List.length_range]
theorem ringN_at {f : Nat → Nat} {p x i : Nat} (h : i < p) : (ringN f p x)[i]? = some (itf f i x) := by
  unfold ringN
  rw [List.getElem?_map, List.getElem?_range h]
  rfl
theorem ringN_succ (f : Nat → Nat) (p x : Nat) : ringN f (p + 1) x = ringN f p x ++ [itf f p x] := by
  unfold ringN
  rw [List.range_succ, List.map_append]
  rfl
/-- steps that come back -/
theorem Per.mul {f : Nat → Nat} {x p : Nat} (P : Per f x p) (i : Nat) : itf f (p + i) x = itf f i x := by
  rw [itf_add, P.back]
/-- where the first value comes a second time, its ring begins -/
theorem per_of {f : Nat → Nat} {x m j : Nat} (jm : j < m) (e : itf f m x = itf f j x) (d : ∀ a b, a < b → b < m → itf f a x ≠ itf f b x) : Per f (itf f j x) (m - j) := by
  refine ⟨by omega, ?_, fun q q0 qp => ?_⟩
  · rw [← itf_add, show j + (m - j) = m by omega, e]
  · rw [← itf_add]
    exact fun z => d j (j + q) (by omega) (by omega) z.symm
/-- no two places of a ring hold the same -/
theorem Per.inj {f : Nat → Nat} {x p : Nat} (P : Per f x p) {a b : Nat} (ab : a < b) (bp : b < p) : itf f a x ≠ itf f b x := by
  intro e
  have h : itf f (a + (p - b)) x = x := by
    rw [itf_add, e, ← itf_add, show b + (p - b) = p by omega, P.back]
  exact P.first (a + (p - b)) (by omega) (by omega) h
theorem Per.nodup {f : Nat → Nat} {x p : Nat} (P : Per f x p) : (ringN f p x).Nodup := by
  refine List.pairwise_iff_getElem.mpr fun i j hi hj ij => ?_
  rw [ringN_len] at hi hj
  have a := ringN_at (f := f) (x := x) hi
  have b := ringN_at (f := f) (x := x) hj
  obtain ⟨_, a⟩ := List.getElem?_eq_some_iff.mp a
  obtain ⟨_, b⟩ := List.getElem?_eq_some_iff.mp b
  rw [a, b]
  exact P.inj ij hj
/-- any place of a ring is a beginning of it -/
theorem Per.turn {f : Nat → Nat} {x p k : Nat} (P : Per f x p) (hk : k < p) : Per f (itf f k x) p := by
  refine ⟨P.pos, ?_, fun q q0 qp e => ?_⟩
  · rw [← itf_add, Nat.add_comm, P.mul]
  · rw [← itf_add] at e
    rcases Nat.lt_or_ge (k + q) p with h | h
    · exact P.inj (by omega) h e.symm
    · have e2 : itf f (k + q) x = itf f (k + q - p) x := by
        rw [← P.mul (k + q - p), show p + (k + q - p) = k + q by omega]
      rw [e2] at e
      exact P.inj (show k + q - p < k by omega) hk e
theorem Per.rot {f : Nat → Nat} {x p k : Nat} (P : Per f x p) (hk : k < p) : ringN f p (itf f k x) = (ringN f p x).drop k ++ (ringN f p x).take k := by
  refine List.ext_getElem? fun i => ?_
  rcases Nat.lt_or_ge i p with h | h
  · rw [ringN_at h, ← itf_add]
    rcases Nat.lt_or_ge i (p - k) with c | c
    · rw [List.getElem?_append_left (by rw [List.length_drop, ringN_len]; exact c), List.getElem?_drop, ringN_at (by omega)]
    · rw [List.getElem?_append_right (by rw [List.length_drop, ringN_len]; exact c), List.length_drop, ringN_len, List.getElem?_take_of_lt (by omega), ringN_at (by omega)]
      rw [← P.mul (i - (p - k)), show p + (i - (p - k)) = k + i by omega]
  · rw [List.getElem?_eq_none (by rw [ringN_len]; exact h), List.getElem?_eq_none]
    rw [List.length_append, List.length_drop, List.length_take, ringN_len]
    omega
/-- a list of different numbers below n has at most n -/
theorem few_nat : ∀ (l m : List Nat), l.Nodup → (∀ x ∈ l, x ∈ m) → l.length ≤ m.length
  | [], m, _, _ => Nat.zero_le _
  | x :: l, m, nd, hs => by
    obtain ⟨n1, n2⟩ := List.nodup_cons.mp nd
    have hx : x ∈ m := hs x List.mem_cons_self
    have h := few_nat l (m.erase x) n2 fun y hy => (List.mem_erase_of_ne (fun z : y = x => n1 (z ▸ hy))).mpr (hs y (List.mem_cons_of_mem _ hy))
    rw [List.length_erase_of_mem hx] at h
    have := List.length_pos_of_mem hx
    rw [List.length_cons]
    omega
theorem few_below {l : List Nat} {M : Nat} (nd : l.Nodup) (h : ∀ x ∈ l, x < M) : l.length ≤ M := by
  have := few_nat l (List.range M) nd fun x hx => List.mem_range.mpr (h x hx)
  rw [List.length_range] at this
  exact this
/-- so many steps without the same value twice -/
theorem steps_few {f : Nat → Nat} {x m M : Nat} (d : ∀ a b, a < b → b < m → itf f a x ≠ itf f b x) (h : ∀ i, i < m → itf f i x < M) : m ≤ M := by
  have nd : (ringN f m x).Nodup := by
    refine List.pairwise_iff_getElem.mpr fun i j hi hj ij => ?_
    rw [ringN_len] at hi hj
    obtain ⟨_, a⟩ := List.getElem?_eq_some_iff.mp (ringN_at (f := f) (x := x) hi)
    obtain ⟨_, b⟩ := List.getElem?_eq_some_iff.mp (ringN_at (f := f) (x := x) hj)
    rw [a, b]
    exact d i j ij hj
  have := few_below nd (M := M) fun y hy => by
    unfold ringN at hy
    obtain ⟨i, hi, rfl⟩ := List.mem_map.mp hy
    exact h i (List.mem_range.mp hi)
  rw [ringN_len] at this
  exact this
/-- the value that comes back first: two numbers with the same first repeat agree -/
theorem rep_one {f : Nat → Nat} {x m j m' j' : Nat} (jm : j < m) (e : itf f m x = itf f j x) (d : ∀ a b, a < b → b < m → itf f a x ≠ itf f b x) (jm' : j' < m') (e' : itf f m' x = itf f j' x) (d' : ∀ a b, a < b → b < m' → itf f a x ≠ itf f b x) : m = m' ∧ j = j' := by
  have mm : m = m' := by
    rcases Nat.lt_trichotomy m m' with h | h | h
    · exact absurd e.symm (d' j m jm h)
    · exact h
    · exact absurd e'.symm (d j' m' jm' h)
  subst mm
  refine ⟨rfl, ?_⟩
  rcases Nat.lt_trichotomy j j' with h | h | h
  · exact absurd (e.symm.trans e') (d j j' h jm')
  · exact h
  · exact absurd (e'.symm.trans e) (d j' j h jm)
end LB
set_option Elab.async false
set_option linter.all false
set_option maxRecDepth 100000
set_option maxHeartbeats 4000000
/-! Family B: the law's own names and numbers. -/
namespace LB
open PySem L2 Wk
open Bg (Bg Wo)
theorem wds_dp {K : PySem.W.Frag} {H : Hp} : ∀ l : List Str, DpAll K H (l.map V.str) (l.map PyData.str)
  | [] => .nil
  | x :: l => .cons (.str x) (wds_dp l)
theorem wds_lay : ∀ l : List Str, (∀ x ∈ l, ∀ c ∈ x.cps.toList, c < 128) → PyData.canLayAll0 (l.map PyData.str) = true ∧ PyData.depthAll (l.map PyData.str) ≤ 1
  | [], _ => ⟨rfl, by decide⟩
  | x :: l, h => by
    obtain ⟨a, b⟩ := wds_lay l fun y hy => h y (List.mem_cons_of_mem _ hy)
    have hc := h x List.mem_cons_self
    refine ⟨?_, ?_⟩
    · rw [List.map_cons, PyData.canLayAll0, a, Bool.and_true, PyData.canLay0]
      unfold PyData.strOk
      rw [Array.all_eq_true_iff_forall_mem]
      intro c hm
      have := hc c (Array.mem_toList_iff.mpr hm)
      exact decide_eq_true (by omega)
    · rw [List.map_cons, PyData.depthAll, PyData.depth]
      omega
theorem wds_shaped {l : List Str} (h : ∀ x ∈ l, ∀ c ∈ x.cps.toList, c < 128) : SeqAt.shaped (.list (l.map PyData.str)) = true := by
  obtain ⟨a, b⟩ := wds_lay l h
  unfold SeqAt.shaped
  rw [PyData.canLay0, a, PyData.depth]
  simp
  omega
theorem wds_eqv (l : List Str) : PyData.eqv (.list (l.map PyData.str)) (.list []) = l.isEmpty := by
  cases l with
  | nil => rfl
  | cons c l => rfl
theorem wd_mem {ones tens : List Str} {hun : Str} {scales : List Str} (x : Wo) : wd ones tens hun scales x ∈ ones ++ (tens ++ hun :: scales) := by
  have hh : hun ∈ ones ++ (tens ++ hun :: scales) := List.mem_append_right _ (List.mem_append_right _ List.mem_cons_self)
  have get : ∀ {l : List Str} {i : Nat}, (∀ y ∈ l, y ∈ ones ++ (tens ++ hun :: scales)) → (l[i]?).getD hun ∈ ones ++ (tens ++ hun :: scales) := by
    intro l i h
    cases q : l[i]? with
    | none => exact hh
    | some y => exact h y (List.mem_of_getElem? q)
  unfold wd
  cases x with
  | low n =>
    simp only
    split
    · exact get fun y hy => List.mem_append_left _ hy
    · exact get fun y hy => List.mem_append_right _ (List.mem_append_left _ hy)
  | hun => exact hh
  | sc i => exact get fun y hy => List.mem_append_right _ (List.mem_append_right _ (List.mem_cons_of_mem _ hy))
theorem names_low {ones tens : List Str} {hun : Str} {scales : List Str} (good : GoodRow (ones ++ (tens ++ hun :: scales))) (A : List Wo) : ∀ x ∈ A.map (wd ones tens hun scales), ∀ c ∈ x.cps.toList, c < 128 := by
  intro x hx c hc
  obtain ⟨y, _, rfl⟩ := List.mem_map.mp hx
  have := (good.ok _ (wd_mem y)).2.2 c hc
  omega
def spSpelt : Sp := fun vs H Q _ => ∃ (t o te sc : Addr) (ones tens : List Str) (hun : Str) (scales : List Str) (n : Int), vs = [.ref t, .int n] ∧ Tab H t ones tens hun scales o te sc ∧ 0 ≤ n ∧ n < Bg.W (scales.length + 1) ∧
  ∀ p H', H p = none → Same H H' → H' p = some (.lst ((nmL ones tens hun scales n).map V.str)) → Q (.ref p) H'
theorem partW_split (n : Int) (j : Nat) : Bg.partW n j = Bg.groupW (Bg.gr n j) ++ (if (Bg.groupW (Bg.gr n j)).isEmpty = false ∧ j > 0 then [.sc (j - 1)] else []) := by
  have gb := Bg.gr_bnd n j
  unfold Bg.partW
  by_cases c : Bg.gr n j > 0
  · rw [if_pos c]
    have ne : (Bg.groupW (Bg.gr n j)).isEmpty = false := by
      unfold Bg.groupW
      by_cases c1 : Bg.gr n j / 100 > 0
      · rw [if_pos c1]
        rfl
      · rw [if_neg c1]
        by_cases c2 : Bg.gr n j % 100 ≥ 20
        · rw [if_pos c2]
          rfl
        · rw [if_neg c2, if_pos (by omega)]
          rfl
    by_cases d : j > 0
    · rw [if_pos d, if_pos ⟨ne, d⟩]
    · rw [if_neg d, if_neg (by omega)]
  · have z : Bg.gr n j = 0 := by omega
    rw [if_neg c, z]
    rfl
section
variable {P : Program} {w : World} {K : PySem.W.Frag} {mg : Str → Option Value} {base : Heap}
end
end LB
set_option Elab.async false
set_option linter.all false
set_option maxRecDepth 100000
set_option maxHeartbeats 4000000
/-! Family B: great numbers. -/
namespace LB
open PySem L2 Wk
open Bg (Bg Wo)
/-- all but the source of draws is as it was -/
def Kp (p : Addr) (H G : Hp) : Prop := ∀ q o, H q = some o → q ≠ p → G q = some o
theorem Kp.refl (p : Addr) (H : Hp) : Kp p H H := fun _ _ h _ => h
theorem Kp.trans {p : Addr} {H G J : Hp} (a : Kp p H G) (b : Kp p G J) : Kp p H J := fun q o h n => b q o (a q o h n) n
theorem Kp.same {p : Addr} {H G J : Hp} (a : Kp p H G) (b : Same G J) : Kp p H J := fun q o h n => b q o (a q o h n)
theorem Kp.lst {p q : Addr} {H G : Hp} {xs : List V} (a : Kp p H G) (h : H q = some (.lst xs)) (n : q ≠ p) : G q = some (.lst xs) := a q _ h n
theorem RngAt.same {H G : Hp} {p : Addr} {d s c : Int} (B : RngAt H p d s c) (e : Same H G) : RngAt G p d s c := ⟨e _ _ B.at_, B.d0, B.s0, B.s1, B.c0⟩
/-- a list of texts is not the source -/
theorem RngAt.off {H : Hp} {p a : Addr} {d s c : Int} {xs : List Str} (B : RngAt H p d s c) (h : H a = some (.lst (xs.map V.str))) : a ≠ p := fun e => by
  rw [e, B.at_] at h
  cases xs with
  | nil => cases h
  | cons x r => cases h
theorem Tab.kp {H G : Hp} {p t o te sc : Addr} {d s c : Int} {ones tens : List Str} {hun : Str} {scales : List Str} (T : Tab H t ones tens hun scales o te sc) (B : RngAt H p d s c) (k : Kp p H G) : Tab G t ones tens hun scales o te sc := by
  have A := T.tb.at_
  refine ⟨⟨⟨k _ _ A.tup fun z => ?_, k _ _ A.lo (B.off A.lo), k _ _ A.lt (B.off A.lt), k _ _ A.ls (B.off A.ls)⟩, T.tb.l1, T.tb.l2, T.tb.l3, T.tb.nd⟩, T.good⟩
  have e := A.tup
  rw [z, B.at_] at e
  cases e
theorem W_small {j : Nat} (h : j ≤ 95) : (Bg.W j).natAbs < 2 ^ 1000 := by
  have e : Bg.W j = ((1000 ^ j : Nat) : Int) := by
    show (1000 : Int) ^ j = _
    rw [Int.natCast_pow]
    rfl
  rw [e]
  show 1000 ^ j < 2 ^ 1000
  have a : (1000 : Nat) ^ j ≤ (2 ^ 10) ^ j := Nat.pow_le_pow_left (by decide) j
  rw [← Nat.pow_mul] at a
  have b : (2 : Nat) ^ (10 * j) ≤ 2 ^ 950 := Nat.pow_le_pow_right (by decide) (by omega)
  have c : (2 : Nat) ^ 950 < 2 ^ 1000 := Nat.pow_lt_pow_right (by decide) (by decide)
  exact Nat.lt_of_le_of_lt (Nat.le_trans a b) c
/-- what a call that draws leaves: a number, the source, all else as it was -/
def Drawn (H : Hp) (p : Addr) (s c : Int) (n : Int) (G : Hp) : Prop := ∃ d' c', RngAt G p d' s c' ∧ c' ≤ c + n ∧ Kp p H G
def spGreat : Sp := fun vs H Q _ => ∃ (p : Addr) (d s c : Int) (k : Nat), vs = [.ref p, .int (Bg.W (k + 1))] ∧ RngAt H p d s c ∧ k ≤ 20 ∧ c < 2 ^ 29 ∧
  ∀ r H', 0 ≤ r → r < Bg.W (k + 1) → Drawn H p s c 100 H' → Q (.int r) H'
section
variable {P : Program} {w : World} {K : PySem.W.Frag} {mg : Str → Option Value} {base : Heap}
/-- the reading of a draw -/
theorem draw_use {H : Hp} {p : Addr} {d s c upper : Int} {Q : VK} {E : XK} (B : RngAt H p d s c) (u0 : 0 < upper) (u1 : upper.natAbs < 2 ^ 1000) (hc : c < 2 ^ 30) (k : ∀ r d' c' G, 0 ≤ r → r < upper → c' ≤ c + 1 → RngAt G p d' s c' → Kp p H G → Q (.int r) G) : spDraw [.ref p, .int upper] H Q E :=
  ⟨p, d, s, c, upper, rfl, B, u0, u1, hc, fun r d' c' G h1 h2 h3 h4 h5 => k r d' c' G h1 h2 h3 h4 h5⟩
end
end LB
set_option Elab.async false
set_option linter.all false
set_option maxRecDepth 100000
set_option maxHeartbeats 8000000
/-! Names as texts, numbers compared. -/
namespace LB
open PySem L2 Wk
open Bg (Bg Wo)
/-- sep.join(xs) where K is known beforehand: within a comprehension -/
def rJn (K : PySem.W.Frag) : V → List V → Hp → VK → Prop := fun x xs H Q => ∃ a p, ∃ ys : List Str, x = .str a ∧ xs = [.ref p] ∧ (SqL K H p (ys.map V.str) ∨ SqT K H p (ys.map V.str)) ∧ (ys.map (·.length)).sum + ys.length * a.length ≤ 16777216 ∧ Q (.str (Txt.join a ys)) H
theorem pe_joinK {X : Cx} {o e : Expr} {to te : TE} {apos pos : Pos} (K : PySem.W.Frag) (hK : X.K = K) (ho : PE X o to) (he : PE X e te) (hs : starEach [e] X.env = [(false, eval e X.env)] := by rfl) (hbase : attributeBase o "join" X.env (eval o X.env) = eval o X.env := by rfl) (hline : (apos.endLine == pos.line) = true := by rfl) :
    PE X (.Call (.Attribute o "join" apos) [e] [] pos) (tM1 (rJn K) to te) := by
  subst hK
  exact pe_join ho he hs hbase hline
/-- a sorted vocabulary there is -/
theorem sort_one (x : Str × Wo) : ∀ {ws : List (Str × Wo)}, ascW ws → (∀ e ∈ ws, e.1 ≠ x.1) → ∃ us, us.Perm (x :: ws) ∧ ascW us
  | [], _, _ => ⟨[x], List.Perm.refl _, List.pairwise_singleton _ _⟩
  | y :: ws, h, n => by
    obtain ⟨hd, tl⟩ := List.pairwise_cons.mp h
    cases c : WkI.ltS x.1 y.1 with
    | true =>
      refine ⟨x :: y :: ws, List.Perm.refl _, List.pairwise_cons.mpr ⟨fun e he => ?_, h⟩⟩
      rcases List.mem_cons.mp he with rfl | he
      · exact c
      · exact ltS_trans c (hd e he)
    | false =>
      have lt : WkI.ltS y.1 x.1 = true := by
        cases d : WkI.ltS y.1 x.1 with
        | true => rfl
        | false => exact absurd (WkI.ltS_tri d c) (n y List.mem_cons_self)
      obtain ⟨us, p, a⟩ := sort_one x tl fun e he => n e (List.mem_cons_of_mem _ he)
      refine ⟨y :: us, (List.Perm.cons y p).trans (List.Perm.swap x y ws), List.pairwise_cons.mpr ⟨fun e he => ?_, a⟩⟩
      rcases List.mem_cons.mp (p.mem_iff.mp he) with rfl | he
      · exact lt
      · exact hd e he
theorem sort_all : ∀ {l : List (Str × Wo)}, (l.map (·.1)).Nodup → ∃ ws, ws.Perm l ∧ ascW ws
  | [], _ => ⟨[], List.Perm.refl _, List.Pairwise.nil⟩
  | x :: l, h => by
    rw [List.map_cons, List.nodup_cons] at h
    obtain ⟨ws, p, a⟩ := sort_all h.2
    obtain ⟨us, q, b⟩ := sort_one x a fun e he z => h.1 (List.mem_map.mpr ⟨e, p.mem_iff.mp he, z⟩)
    exact ⟨us, q.trans (List.Perm.cons x p), b⟩
theorem Tab.has_voc {H : Hp} {t : Addr} {ones tens : List Str} {hun : Str} {scales : List Str} {o te sc : Addr} (T : Tab H t ones tens hun scales o te sc) : ∃ ws, Voc ones tens hun scales ws := by
  have n : ((LB.voc ones tens hun scales).map (·.1)).Nodup := by
    rw [voc_fst]
    exact (perm_hun ones tens hun scales).nodup_iff.mpr T.tb.nd
  obtain ⟨ws, p, a⟩ := sort_all n
  exact ⟨ws, T.voc p a⟩
section
variable {ones tens : List Str} {hun : Str} {scales : List Str} {ws : List (Str × Wo)}
/-- two numbers, one name ahead of the other -/
theorem less_or (V : Voc ones tens hun scales ws) {a b : Int} (a0 : 0 ≤ a) (a1 : a < Bg.W (scales.length + 1)) (b0 : 0 ≤ b) (b1 : b < Bg.W (scales.length + 1)) (ne : a ≠ b) (h : ltL (nmL ones tens hun scales a) (nmL ones tens hun scales b) = false) :
    ltL (nmL ones tens hun scales b) (nmL ones tens hun scales a) = true := by
  cases c : ltL (nmL ones tens hun scales b) (nmL ones tens hun scales a) with
  | true => rfl
  | false => exact absurd (name_inj V a0 a1 b0 b1 (ltL_tri h c)) ne
/-- places below a bound are in the order of the names -/
theorem place_lt (V : Voc ones tens hun scales ws) {a b m : Int} (a0 : 0 ≤ a) (b0 : 0 ≤ b) (am : a < m) (bm : b < m) (m1 : m ≤ Bg.W (scales.length + 1)) (ne : a ≠ b) :
    decide (ahead ones tens hun scales 0 (m - 1) a < ahead ones tens hun scales 0 (m - 1) b) = ltL (nmL ones tens hun scales a) (nmL ones tens hun scales b) := by
  cases c : ltL (nmL ones tens hun scales a) (nmL ones tens hun scales b) with
  | true => exact decide_eq_true (ahead_lt ones tens hun scales a0 (by omega) c)
  | false =>
    have d := less_or V a0 (by omega) b0 (by omega) ne c
    have := ahead_lt ones tens hun scales (lo := 0) (hi := m - 1) b0 (by omega) d
    exact decide_eq_false (by omega)
theorem ahead_up {m m' n : Int} (h0 : 1 ≤ m) (h : m ≤ m') : ahead ones tens hun scales 0 (m - 1) n ≤ ahead ones tens hun scales 0 (m' - 1) n := by
  have := ahead_grow ones tens hun scales (lo := 0) (hi := m - 1) (n := n) (m' - m).toNat (by omega)
  rw [show m - 1 + (((m' - m).toNat : Nat) : Int) = m' - 1 by omega] at this
  exact this
theorem nm_good (good : GoodRow (ones ++ (tens ++ hun :: scales))) (n : Int) : ∀ x ∈ nmL ones tens hun scales n, GoodWord x := by
  intro x hx
  obtain ⟨y, _, rfl⟩ := List.mem_map.mp hx
  exact good.ok _ (wd_mem y)
theorem nm_ne {n : Int} (h0 : 0 ≤ n) (h1 : n < Bg.W (scales.length + 1)) : nmL ones tens hun scales n ≠ [] := by
  intro h
  have e : Bg.nameW n (scales.length + 1) = [] := List.map_eq_nil_iff.mp h
  obtain ⟨c, c1, c2, c3⟩ := Bg.name_path h0 h1
  rw [e] at c1
  cases c1
  have : Bg.has (Bg.start scales.length) = false := rfl
  rw [this] at c2
  cases c2
theorem nm_len (n : Int) : (nmL ones tens hun scales n).length ≤ 5 * (scales.length + 1) + 1 := by
  unfold nmL Bg.nameW
  rw [List.length_map]
  split
  · show 1 ≤ _
    omega
  · have := Bg.accW_len n (scales.length + 1) (scales.length + 1)
    rw [Bg.accW_all] at this
    omega
/-- the text of a name is not too long to be joined -/
theorem nm_join (good : GoodRow (ones ++ (tens ++ hun :: scales))) (l3 : scales.length ≤ 90) (n : Int) : ((nmL ones tens hun scales n).map (·.length)).sum + (nmL ones tens hun scales n).length * (" " : Str).length ≤ 16777216 := by
  have l := nm_len (ones := ones) (tens := tens) (hun := hun) (scales := scales) n
  have s : ∀ l : List Str, (∀ x ∈ l, GoodWord x) → (l.map (·.length)).sum ≤ 20 * l.length := by
    intro l
    induction l with
    | nil => intro _; exact Nat.le_refl _
    | cons x l ih =>
      intro h
      rw [List.map_cons, List.sum_cons, List.length_cons]
      have a := (h x List.mem_cons_self).2.1
      have b := ih fun y hy => h y (List.mem_cons_of_mem _ hy)
      omega
  have q := s _ (nm_good good n)
  have e : (" " : Str).length = 1 := by decide +kernel
  rw [e]
  omega
end
def nameT (ones tens : List Str) (hun : Str) (scales : List Str) (n : Int) : Str := Txt.join " " (nmL ones tens hun scales n)
/-- the law's own text: what it does for each script -/
def spTrue (K : PySem.W.Frag) : Sp := fun vs H Q _ => ∃ (a : Addr) (ns : List Int), vs = [.ref a] ∧ SqL K H a (ns.map V.int) ∧ ns.length ≤ 63 ∧ ∀ H', Q (.bl true) H'
theorem Tab.of {H : Hp} {t : Addr} {ones tens : List Str} {hun : Str} {scales : List Str} {o te sc : Addr} (A : TabAt H t ones tens hun scales o te sc) (l1 : ones.length = 20) (l2 : tens.length = 8) (l3 : scales.length ≤ 90) (g : GoodRow (ones ++ (tens ++ hun :: scales))) :
    Tab H t ones tens hun scales o te sc := ⟨⟨A, l1, l2, l3, g.nd⟩, g⟩
section
variable {P : Program} {w : World} {K : PySem.W.Frag} {mg : Str → Option Value} {base : Heap}
theorem int_at {ns : List Int} {i : Nat} {y : V} (h : (ns.map V.int)[i]? = some y) : ∃ m, ns[i]? = some m ∧ y = .int m := by
  rw [List.getElem?_map] at h
  cases q : ns[i]? with
  | none =>
    rw [q] at h
    cases h
  | some m =>
    rw [q] at h
    exact ⟨m, rfl, (Option.some.inj h).symm⟩
end
end LB
set_option Elab.async false
set_option linter.all false
set_option maxRecDepth 100000
set_option maxHeartbeats 4000000
/-! Family C: the source of draws. -/
namespace LB
open PySem L2 Wk
open Bg (Bg Wo)
structure SrcAt (H : Hp) (p G : Addr) (gs : List Int) (l m c : Int) : Prop where
  at_ : H p = some (.lst [.ref G, .int l, .int m, .int c])
  list : H G = some (.lst (gs.map V.int))
  gnn : ∀ g ∈ gs, 0 ≤ g
  l0 : 0 ≤ l
  m0 : 0 ≤ m
  m1 : m < 2305843009213693951
  c0 : 0 ≤ c
  few : gs.length ≤ 63
  ne : p ≠ G
def spSource (K : PySem.W.Frag) : Sp := fun vs H Q _ => ∃ (a : Addr) (ns : List Int), vs = [.ref a] ∧ SqL K H a (ns.map V.int) ∧ ns.length ≤ 63 ∧
  ∀ (p G : Addr) (gs : List Int) (m : Int) (H' : Hp), H p = none → H G = none → SrcAt H' p G gs 0 m 0 → Same H H' → Q (.ref p) H'
/-- what draws leave: all but the source -/
def Kq (p G : Addr) (H H' : Hp) : Prop := ∀ q o, H q = some o → q ≠ p → q ≠ G → H' q = some o
theorem Kq.refl {p G : Addr} {H : Hp} : Kq p G H H := fun _ _ e _ _ => e
theorem Kq.trans {p G : Addr} {A B C : Hp} (a : Kq p G A B) (b : Kq p G B C) : Kq p G A C := fun q o e n m => b q o (a q o e n m) n m
theorem Kq.same {p G : Addr} {A B C : Hp} (a : Kq p G A B) (b : Same B C) : Kq p G A C := fun q o e n m => b q o (a q o e n m)
theorem Same.kq {p G : Addr} {A B C : Hp} (a : Same A B) (b : Kq p G B C) : Kq p G A C := fun q o e n m => b q o (a q o e) n m
theorem SrcAt.same {H H' : Hp} {p G : Addr} {gs : List Int} {l m c : Int} (B : SrcAt H p G gs l m c) (s : Same H H') : SrcAt H' p G gs l m c := ⟨s _ _ B.at_, s _ _ B.list, B.gnn, B.l0, B.m0, B.m1, B.c0, B.few, B.ne⟩
/-- what stands and is a list or tuple of no draws stays: it is at another address -/
theorem SrcAt.apart {H : Hp} {p G q : Addr} {gs : List Int} {l m c : Int} {x : HO} (B : SrcAt H p G gs l m c) (h : H q = some x) (n1 : x ≠ .lst [.ref G, .int l, .int m, .int c]) (n2 : x ≠ .lst (gs.map V.int)) : q ≠ p ∧ q ≠ G :=
  ⟨fun z => n1 (by rw [z, B.at_] at h; exact (Option.some.inj h).symm), fun z => n2 (by rw [z, B.list] at h; exact (Option.some.inj h).symm)⟩
theorem SrcAt.free {H : Hp} {p G q : Addr} {gs : List Int} {l m c : Int} (B : SrcAt H p G gs l m c) (h : H q = none) : q ≠ p ∧ q ≠ G := by
  refine ⟨fun z => ?_, fun z => ?_⟩
  · rw [z, B.at_] at h
    cases h
  · rw [z, B.list] at h
    cases h
/-- a draw below wide -/
def spDrawC : Sp := fun vs H Q _ => ∃ (p G : Addr) (gs : List Int) (l m c wide : Int), vs = [.ref p, .int wide] ∧ SrcAt H p G gs l m c ∧ 0 < wide ∧ wide.natAbs < 2 ^ 1000 ∧ c < 2 ^ 30 ∧
  ∀ (r : Int) (gs' : List Int) (l' c' : Int) (H' : Hp), 0 ≤ r → r < wide → c' ≤ c + 1 → SrcAt H' p G gs' l' m c' → Kq p G H H' → Q (.int r) H'
theorem ints_lay : ∀ l : List Int, PyData.canLayAll0 (l.map PyData.int) = true ∧ PyData.depthAll (l.map PyData.int) ≤ 1
  | [] => ⟨rfl, by decide⟩
  | x :: l => by
    obtain ⟨a, b⟩ := ints_lay l
    refine ⟨?_, ?_⟩
    · rw [List.map_cons, PyData.canLayAll0, a, Bool.and_true, PyData.canLay0]
    · rw [List.map_cons, PyData.depthAll, PyData.depth]
      omega
theorem ints_shaped (l : List Int) : SeqAt.shaped (.list (l.map PyData.int)) = true := by
  obtain ⟨a, b⟩ := ints_lay l
  unfold SeqAt.shaped
  rw [PyData.canLay0, a, PyData.depth]
  simp
  omega
theorem ints_dp {K : PySem.W.Frag} {H : Hp} : ∀ l : List Int, DpAll K H (l.map V.int) (l.map PyData.int)
  | [] => .nil
  | x :: l => .cons (.int x) (ints_dp l)
theorem ints_nil (l : List Int) : PyData.eqv (.list (l.map PyData.int)) (.list []) = l.isEmpty := by
  cases l <;> rfl
section
variable {P : Program} {w : World} {K : PySem.W.Frag} {mg : Str → Option Value} {base : Heap}
theorem scSource : FnScope ["script", "mix", "digits", "cell", "span"] ["script"] (defScope sSource) := ⟨rfl, rfl, rfl, by decide +kernel, rfl, by decide +kernel, by decide +kernel⟩
theorem ok_source {f : Addr} {fd : FuncData} (F : Fun K "_law_source" "_law_source" sSource f fd) (mX : mg "max" = none) : FnOk P w K mg base CX0 1 f fd ["script"] (spSource K) := by
  refine F.ok scSource (fun vs H Q E h => ?_) (fun cdv A outer s H vs Q E hr h => ?_)
  · obtain ⟨a, ns, rfl, _⟩ := h
    rfl
  · obtain ⟨a, ns, rfl, hS, hlen, k⟩ := h
    refine ⟨_, pss_cons (ps_set (i := 1) scSource.nd rfl (.inl rfl) pe_int)
        (pss_cons (ps_set (i := 2) scSource.nd rfl (.inl rfl) (pe_lst pa_nil))
        (pss_cons (ps_for PassesOwn.never rfl (pi_list (pv 0)) (pg_name (i := 3) scSource.nd rfl (.inl rfl))
          (pss_cons (ps_set (i := 1) scSource.nd rfl (.inl rfl) (pe_op op_mod (pe_op op_add (pe_op op_mul (pv 1) pe_int) (pv 3)) (pe_op op_sub (pe_op op_pow pe_int pe_int) pe_int)))
        (pss_mid (ps_set (i := 4) scSource.nd rfl (.inl rfl) (pe_callB (call_max2 rfl) (by rfl) mX (by decide +kernel) (pa_cons (pv 3) (pa_cons (pe_op op_sub pe_int (pv 3)) pa_nil))))
        (pss_one (ps_if (pt_cmpR op_ge (pv 4) (pe_op op_pow pe_int pe_int) (nomark _)) (pss_one (ps_expr (pe_bm PySem.F.plainAttrs_list PySem.F.slot_list_append PySem.F.type_list_append mt_append (pv 2) (pa_cons (pe_op op_sub (pv 4) (pe_op op_pow pe_int pe_int)) pa_nil)))) pss_nil)))))
        (pss_one (ps_ret (pe_lst (pa_cons (pv 2) (pa_cons pe_int (pa_cons (pv 1) (pa_cons pe_int pa_nil))))))))), ?_⟩
    refine ⟨Nat.zero_le _, fun G nG => ?_⟩
    have sG := same_new (x := .lst []) nG
    refine ⟨_, rfl, a, rfl, ⟨_, sG.seq hS⟩, ?_⟩
    refine for_list (K := K) (a := a) (xs := ns.map V.int)
      (fun i σ H2 => ∃ (m : Int) (gs : List Int) (x y : Option V), σ = [some (.ref a), some (.int m), some (.ref G), x, y] ∧ Same H H2 ∧ H2 G = some (.lst (gs.map V.int)) ∧ (∀ g ∈ gs, 0 ≤ g) ∧ gs.length ≤ i ∧ 0 ≤ m ∧ m < 2305843009213693951)
      ⟨_, [], none, none, rfl, sG, upd_same, (fun _ h => nomatch h), Nat.le_refl _, by decide, by decide⟩ ?_ ?_ ?_
    · rintro i σ H2 _ ⟨_, _, _, _, _, s, _⟩
      exact s.seq hS
    · rintro i y σ H2 hi ⟨m, gs, x, z, rfl, s2, hG, g0, gl, m0, m1⟩
      have hi' : i < 63 := by
        have z := (List.getElem?_eq_some_iff.mp hi).1
        rw [List.length_map] at z
        omega
      obtain ⟨cell, _, rfl⟩ := int_at hi
      refine ⟨_, rfl, _, _, rfl, rfl, .inl ⟨by omega, by omega⟩, _, rfl, _, _, rfl, rfl, _, _, rfl, rfl, ⟨by decide, by decide, by decide⟩, _, _, rfl, rfl, _, _, rfl, rfl, (by show (0 : Int) < 2 ^ 61 - 1; decide), ?_⟩
      have v0 : 0 ≤ (m * 1000033 + cell) % (2 ^ 61 - 1) := Int.emod_nonneg _ (by decide)
      have v1 : (m * 1000033 + cell) % (2 ^ 61 - 1) < 2305843009213693951 := Int.emod_lt_of_pos _ (by decide)
      refine ⟨fun τ H3 => H3 = H2 ∧ ∃ span, τ = [some (.ref a), some (.int ((m * 1000033 + cell) % (2 ^ 61 - 1))), some (.ref G), some (.int cell), some (.int span)], ?_, ?_⟩
      · refine ⟨_, rfl, _, rfl, _, _, rfl, rfl, _, _, rfl, rfl, _, rfl⟩
      rintro τ H3 ⟨rfl, span, rfl⟩
      refine ⟨_, rfl, _, _, rfl, rfl, ⟨by decide, by decide, by decide⟩, _, _, rfl, rfl, _, rfl, ite2 (fun z => ?_) (fun _ => ?_)⟩
      · have z' : span ≥ 10 ^ (Int.toNat 18) := of_decide_eq_true z
        have bigs : 1000 < sizeLine := by decide
        refine ⟨_, rfl, .inl ⟨rfl, _, SqL.of hG⟩, _, rfl, _, _, rfl, rfl, ⟨by decide, by decide, by decide⟩, _, _, rfl, rfl, G, _, _, rfl, rfl, hG, by rw [List.length_map]; omega, ?_⟩
        have nGH : H G = none := nG
        refine ⟨_, gs ++ [span - 10 ^ (Int.toNat 18)], _, _, rfl, fun b o e => ?_, ?_, ?_, ?_, v0, v1⟩
        · rw [upd_ne (ne_of_none e nGH)]
          exact s2 b o e
        · rw [upd_same, List.map_append]
          rfl
        · intro g hg
          rcases List.mem_append.mp hg with h | h
          · exact g0 g h
          · rw [List.mem_singleton.mp h]
            omega
        · rw [List.length_append]
          show gs.length + 1 ≤ i + 1
          omega
      · exact ⟨_, gs, _, _, rfl, s2, hG, g0, by omega, v0, v1⟩
    · rintro σ H2 ⟨m, gs, x, z, rfl, s2, hG, g0, gl, m0, m1⟩
      rw [List.length_map] at gl
      refine ⟨_, rfl, _, rfl, by show 4 ≤ sizeLine; decide, fun p np => ?_⟩
      have pG : p ≠ G := fun z => by
        rw [z, hG] at np
        cases np
      refine k p G gs m _ (s2.free np) nG ⟨upd_same, by rw [upd_ne pG.symm]; exact hG, g0, by decide, m0, m1, by decide, by omega, pG⟩ (s2.trans (same_new np))
theorem scDrawC : FnScope ["source", "wide", "drawn", "mixed"] ["source", "wide"] (defScope sDraw) := ⟨rfl, rfl, rfl, by decide +kernel, rfl, by decide +kernel, by decide +kernel⟩
theorem ok_drawC {f : Addr} {fd : FuncData} (F : Fun K "_law_draw" "_law_draw" sDraw f fd) : FnOk P w K mg base CX0 1 f fd ["source", "wide"] spDrawC := by
  refine F.ok scDrawC (fun vs H Q E h => ?_) (fun cdv A outer s H vs Q E hr h => ?_)
  · obtain ⟨p, G, gs, l, m, c, u, rfl, _⟩ := h
    rfl
  · obtain ⟨p, G, gs, l, m, c, u, rfl, B, u0, u9, c30, k⟩ := h
    refine ⟨_, pss_mid (ps_while PassesOwn.never (PW.pt (pw_and (pt_cmpR op_lt (pe_ix ix_list (pv 0) pe_int (fun _ _ => rfl)) pe_int (nomark _)) (pw_and1 (pt_cmpR (op_neD hr.units) (pe_ix ix_list (pv 0) pe_int (fun _ _ => rfl)) (pe_lst pa_nil) (nomark _))))) (pss_one (ps_asg (pe_bm PySem.F.plainAttrs_list PySem.F.slot_list_pop PySem.F.type_list_pop mt_popAt (pe_ix ix_list (pv 0) pe_int (fun _ _ => rfl)) (pa_cons pe_int pa_nil)) (pg_sub (pv 0) pe_int set_list))))
        (pss_cons (ps_if (pt_cmpR op_ge (pe_ix ix_list (pv 0) pe_int (fun _ _ => rfl)) pe_int (nomark _)) (pss_cons (ps_set (i := 2) scDrawC.nd rfl (.inl rfl) (pe_op op_mod (pe_ix ix_list (pv 0) pe_int (fun _ _ => rfl)) (pv 1)))
        (pss_cons (ps_asg (pe_op op_fdivW (pe_ix ix_list (pv 0) pe_int (fun _ _ => rfl)) (pv 1)) (pg_sub (pv 0) pe_int set_list))
        (pss_one (ps_ret (pv 2))))) pss_nil)
        (pss_cons (ps_asg (pe_op op_add (pe_ix ix_list (pv 0) pe_int (fun _ _ => rfl)) pe_int) (pg_sub (pv 0) pe_int set_list))
        (pss_cons (ps_set (i := 3) scDrawC.nd rfl (.inl rfl) (pe_op op_mul (pe_op op_add (pe_ix ix_list (pv 0) pe_int (fun _ _ => rfl)) pe_int) (pe_op op_pow (pe_op op_add (pe_ix ix_list (pv 0) pe_int (fun _ _ => rfl)) pe_int) pe_int)))
        (pss_cons (ps_set (i := 3) scDrawC.nd rfl (.inl rfl) (pe_op op_mod (pe_op op_add (pv 3) (pe_op op_mul pe_int (pe_ix ix_list (pv 0) pe_int (fun _ _ => rfl)))) (pe_op op_sub (pe_op op_pow pe_int pe_int) pe_int)))
        (pss_one (ps_ret (pe_op op_mod (pe_op op_fdiv (pe_op op_mod (pe_op op_powB (pv 3) pe_int) (pe_op op_add (pe_op op_pow pe_int pe_int) pe_int)) pe_int) (pv 1)))))))), ?_⟩
    have a0 : ∀ x y z : Int, atI [V.ref G, V.int x, V.int y, V.int z] 0 = some (.ref G) := fun _ _ _ => rfl
    have a1 : ∀ x y z : Int, atI [V.ref G, V.int x, V.int y, V.int z] 1 = some (.int x) := fun _ _ _ => rfl
    have a2 : ∀ x y z : Int, atI [V.ref G, V.int x, V.int y, V.int z] 2 = some (.int y) := fun _ _ _ => rfl
    have a3 : ∀ x y z : Int, atI [V.ref G, V.int x, V.int y, V.int z] 3 = some (.int z) := fun _ _ _ => rfl
    have i1 : ∀ x y z : Int, ixN [V.ref G, V.int x, V.int y, V.int z].length 1 = some 1 := fun _ _ _ => rfl
    have i3 : ∀ x y z : Int, ixN [V.ref G, V.int x, V.int y, V.int z].length 3 = some 3 := fun _ _ _ => rfl
    refine ⟨fun τ H1 => τ = [some (.ref p), some (.int u), none, none] ∧ ∃ gs1 l1, SrcAt H1 p G gs1 l1 m c ∧ Kq p G H H1, ?_, ?_⟩
    · refine ⟨fun n τ H1 => τ = [some (.ref p), some (.int u), none, none] ∧ ∃ gs1 l1, gs1.length = n ∧ SrcAt H1 p G gs1 l1 m c ∧ Kq p G H H1, ⟨_, rfl, gs, l, rfl, B, Kq.refl⟩, ?_⟩
      · rintro n τ H1 ⟨rfl, gs1, l1, rfl, B1, K1⟩
        refine ⟨_, rfl, _, _, _, _, rfl, rfl, SqL.of B1.at_, a1 _ _ _, _, _, rfl, rfl, _, rfl, ite2 (fun z => ?_) (fun z => ?_)⟩
        · refine ⟨_, rfl, _, _, _, _, rfl, rfl, SqL.of B1.at_, a0 _ _ _, Nat.zero_le _, fun e ne => ?_⟩
          have s2 := same_new (x := .lst []) ne
          have B2 := B1.same s2
          refine ⟨.list (gs1.map PyData.int), .list [], .lst (SqL.of B2.list) (ints_dp _), .lst (SqL.of upd_same) .nil, ints_shaped _, by decide, _, rfl, ?_⟩
          rw [ints_nil]
          match gs1, B1, B2 with
          | [], B1, B2 => exact iteF ⟨rfl, [], l1, B2, K1.same s2⟩
          | g :: gs', B1, B2 =>
            refine iteT ⟨fun τ H' => τ = [some (.ref p), some (.int u), none, none] ∧ ∃ l2, SrcAt H' p G gs' l2 m c ∧ Kq p G H H', fun τ H' ⟨e1, l2, e2, e3⟩ => ⟨gs'.length, Nat.lt_succ_self _, e1, gs', l2, rfl, e2, e3⟩, ?_⟩
            have g0 : 0 ≤ g := B1.gnn g List.mem_cons_self
            have sq : seqIndex? 0 ((g :: gs').map V.int).length = some 0 := by
              rw [List.length_map, List.length_cons]
              simp [seqIndex?]
            refine ⟨_, rfl, _, _, _, _, rfl, rfl, SqL.of B2.at_, a0 _ _ _, .inl ⟨rfl, _, SqL.of B2.list⟩, G, _, 0, 0, _, rfl, rfl, B2.list, by decide, by decide, sq, rfl, ?_⟩
            have B3 : SrcAt (upd (upd H1 e (.lst [])) G (.lst (((g :: gs').map V.int).eraseIdx 0))) p G gs' l1 m c := ⟨by rw [upd_ne B1.ne]; exact B2.at_, upd_same, fun y hy => B1.gnn y (List.mem_cons_of_mem _ hy), B1.l0, B1.m0, B1.m1, B1.c0, Nat.le_trans (Nat.le_succ _) B1.few, B1.ne⟩
            refine ⟨_, rfl, p, _, _, _, rfl, rfl, B3.at_, i1 _ _ _, rfl, g, ⟨upd_same, by rw [upd_ne B1.ne.symm]; exact B3.list, B3.gnn, g0, B1.m0, B1.m1, B1.c0, B3.few, B1.ne⟩, fun q o e n1 n2 => ?_⟩
            rw [upd_ne n1, upd_ne n2]
            exact s2 _ _ (K1 q o e n1 n2)
        · exact ⟨rfl, gs1, l1, B1, K1⟩
    rintro τ H1 ⟨rfl, gs1, l1, B1, K1⟩
    refine ⟨_, rfl, _, _, _, _, rfl, rfl, SqL.of B1.at_, a1 _ _ _, _, _, rfl, rfl, _, rfl, ite2 (fun z => ?_) (fun z => ?_)⟩
    · refine ⟨_, rfl, _, _, _, _, rfl, rfl, SqL.of B1.at_, a1 _ _ _, _, rfl, _, _, rfl, rfl, u0, ?_⟩
      refine ⟨_, rfl, _, _, _, _, rfl, rfl, SqL.of B1.at_, a1 _ _ _, _, rfl, _, _, rfl, rfl, wide_div u0 u9 (by decide) (by decide), ?_⟩
      refine ⟨_, rfl, p, _, _, _, rfl, rfl, B1.at_, i1 _ _ _, _, rfl, ?_⟩
      refine k (l1 % u) gs1 (l1 / u) c _ (Int.emod_nonneg _ (by omega)) (Int.emod_lt_of_pos _ u0) (by omega) ⟨upd_same, by rw [upd_ne B1.ne.symm]; exact B1.list, B1.gnn, Int.ediv_nonneg B1.l0 (by omega), B1.m0, B1.m1, B1.c0, B1.few, B1.ne⟩ fun q o e n1 n2 => ?_
      rw [upd_ne n1]
      exact K1 q o e n1 n2
    · have c0 := B1.c0
      have m0 := B1.m0
      have m1 := B1.m1
      refine ⟨_, rfl, _, _, _, _, rfl, rfl, SqL.of B1.at_, a3 _ _ _, _, _, rfl, rfl, _, rfl, p, _, _, _, rfl, rfl, B1.at_, i3 _ _ _, ?_⟩
      have B2 : SrcAt (upd H1 p (.lst ([V.ref G, V.int l1, V.int m, V.int c].set 3 (V.int (c + 1))))) p G gs1 l1 m (c + 1) := ⟨upd_same, by rw [upd_ne B1.ne.symm]; exact B1.list, B1.gnn, B1.l0, m0, m1, by omega, B1.few, B1.ne⟩
      refine ⟨_, rfl, _, _, _, _, rfl, rfl, SqL.of B2.at_, a2 _ _ _, _, _, rfl, rfl, _, rfl, _, _, _, _, rfl, rfl, SqL.of B2.at_, a3 _ _ _, _, _, rfl, rfl, _, _, rfl, rfl, ⟨by decide, by decide, by omega⟩, _, _, rfl, rfl, .inl ⟨by omega, by omega⟩, ?_⟩
      obtain ⟨z1, hz1⟩ : ∃ z1, z1 = (m + 7) * (c + 1 + 3) ^ (Int.toNat 3) := ⟨_, rfl⟩
      refine ⟨_, rfl, _, rfl, _, _, _, _, rfl, rfl, SqL.of B2.at_, a3 _ _ _, _, _, rfl, rfl, .inl ⟨by decide, by decide⟩, _, _, rfl, rfl, _, _, rfl, rfl, ⟨by decide, by decide, by decide⟩, _, _, rfl, rfl, _, _, rfl, rfl, (by show (0 : Int) < 2 ^ 61 - 1; decide), ?_⟩
      have v0 : 0 ≤ (z1 + 1000081 * (c + 1)) % (2 ^ (Int.toNat 61) - 1) := Int.emod_nonneg _ (by decide)
      have v1 : (z1 + 1000081 * (c + 1)) % (2 ^ (Int.toNat 61) - 1) < 2305843009213693951 := Int.emod_lt_of_pos _ (by decide)
      have bz := bits_le (i := (z1 + 1000081 * (c + 1)) % (2 ^ (Int.toNat 61) - 1)) (a := 64) (by omega) (by decide)
      rw [hz1] at bz
      refine ⟨_, rfl, _, _, rfl, rfl, ⟨by decide, by omega⟩, _, _, rfl, rfl, ⟨by decide, by decide, by decide⟩, _, _, rfl, rfl, _, _, rfl, rfl, (by show (0 : Int) < 10 ^ 18 + 9; decide), _, _, rfl, rfl, ⟨by decide, by decide⟩, _, rfl, _, _, rfl, rfl, u0, ?_⟩
      exact k _ gs1 l1 (c + 1) _ (Int.emod_nonneg _ (by omega)) (Int.emod_lt_of_pos _ u0) (by omega) B2 fun q o e n1 n2 => by
        rw [upd_ne n1]
        exact K1 q o e n1 n2
end
end LB
set_option Elab.async false
set_option linter.all false
set_option maxRecDepth 100000
set_option maxHeartbeats 4000000
/-! Family C: equal values. -/
namespace LB
open PySem L2 Wk
open Bg (Bg Wo)
theorem ix_listK {X : Cx} (K : PySem.W.Frag) (h : X.K = K) : IxR X (rIxL K) := h ▸ ix_list
structure TyNo (mg : Str → Option Value) : Prop where
  isi : mg "isinstance" = none
  bool : mg "bool" = none
  int : mg "int" = none
  str : mg "str" = none
  list : mg "list" = none
  tuple : mg "tuple" = none
  len : mg "len" = none
  range : mg "range" = none
/-- one number, twice -/
def spSame1 : Sp := fun vs H Q _ => ∃ n : Int, vs = [.int n, .int n] ∧ Q (.bl true) H
/-- two lists of the same numbers -/
def spSame2 : Sp := fun vs H Q _ => ∃ (a b : Addr) (ns : List Int), vs = [.ref a, .ref b] ∧ H a = some (.lst (ns.map V.int)) ∧ H b = some (.lst (ns.map V.int)) ∧ ns.length ≤ 1000 ∧ ∀ H', Same H H' → Q (.bl true) H'
section
variable {P : Program} {w : World} {K : PySem.W.Frag} {mg : Str → Option Value} {base : Heap}
theorem scSame : FnScope ["found", "due", "k"] ["found", "due"] (defScope sSame) := ⟨rfl, rfl, rfl, by decide +kernel, rfl, by decide +kernel, by decide +kernel⟩
theorem ok_same1 {f : Addr} {fd : FuncData} (F : Fun K "_law_same" "_law_same" sSame f fd) (T : TyNo mg) : FnOk P w K mg base CX0 1 f fd ["found", "due"] spSame1 := by
  refine F.ok scSame (fun vs H Q E h => ?_) (fun cdv A outer s H vs Q E hr h => ?_)
  · obtain ⟨n, rfl, _⟩ := h
    rfl
  · obtain ⟨n, rfl, k⟩ := h
    refine ⟨_, pss_cons (ps_if (pt_cmp (pc_isN (pv 1))) pss_never pss_nil) (pss_cons (ps_if (pt_val (pe_callB call_isi (by rfl) T.isi (by decide +kernel) (pa_cons (pv 1) (pa_cons (pe_bltn (v := .ty "bool") (u := .type "bool") (by rfl) T.bool (by decide +kernel) rfl) pa_nil)))) (pss_never) pss_nil) (pss_cons (ps_if (pt_val (pe_callB call_isi (by rfl) T.isi (by decide +kernel) (pa_cons (pv 1) (pa_cons (pe_bltn (v := .ty "int") (u := .type "int") (by rfl) T.int (by decide +kernel) rfl) pa_nil)))) (pss_one (ps_ret (pe_and (pe_callB call_isi (by rfl) T.isi (by decide +kernel) (pa_cons (pv 0) (pa_cons (pe_bltn (v := .ty "int") (u := .type "int") (by rfl) T.int (by decide +kernel) rfl) pa_nil))) (pe_and (pe_not (pe_callB call_isi (by rfl) T.isi (by decide +kernel) (pa_cons (pv 0) (pa_cons (pe_bltn (v := .ty "bool") (u := .type "bool") (by rfl) T.bool (by decide +kernel) rfl) pa_nil)))) (pe_one (pe_cmpR op_eq (pv 0) (pv 1) (nomark _))))))) pss_nil) pss_never)), ?_⟩
    have tb : ∀ {H : Hp}, TyX K H (.int n) (.type "int") := .base (.int n)
    refine ⟨_, rfl, _, rfl, ?_⟩
    rw [decide_eq_false (show ¬ V.int n = V.non from fun z => nomatch z)]
    refine iteF ?_
    refine ⟨_, rfl, _, _, _, _, false, rfl, .ty _, tb, kit_ty (by decide +kernel), false, rfl, iteF ?_⟩
    refine ⟨_, rfl, _, _, _, _, true, rfl, .ty _, tb, kit_ty (by decide +kernel), true, rfl, iteT ?_⟩
    refine ⟨_, rfl, _, _, _, _, true, rfl, .ty _, tb, kit_ty (by decide +kernel), true, rfl, iteT ?_⟩
    refine ⟨_, rfl, _, _, _, _, false, rfl, .ty _, tb, kit_ty (by decide +kernel), false, rfl, true, rfl, iteT ⟨_, rfl, _, rfl, rfl, ?_⟩⟩
    rw [decide_eq_true rfl]
    exact k
theorem ok_same2 {f : Addr} {fd : FuncData} (F : Fun K "_law_same" "_law_same" sSame f fd) (S : Def1 P w K mg base "_law_same" 1 f fd ["found", "due"] spSame1) (T : TyNo mg) : FnOk P w K mg base CX0 2 f fd ["found", "due"] spSame2 := by
  refine F.ok scSame (fun vs H Q E h => ?_) (fun cdv A outer s H vs Q E hr h => ?_)
  · obtain ⟨a, b, ns, rfl, _⟩ := h
    rfl
  · obtain ⟨a, b, ns, rfl, ha, hb, n1000, k⟩ := h
    have hr1 : Room 1 _ := hr
    refine ⟨_, pss_cons (ps_if (pt_cmp (pc_isN (pv 1))) pss_never pss_nil)
        (pss_cons (ps_if (pt_val (pe_callB call_isi (by rfl) T.isi (by decide +kernel) (pa_cons (pv 1) (pa_cons (pe_bltn (v := .ty "bool") (u := .type "bool") (by rfl) T.bool (by decide +kernel) rfl) pa_nil)))) (pss_never) pss_nil)
        (pss_cons (ps_if (pt_val (pe_callB call_isi (by rfl) T.isi (by decide +kernel) (pa_cons (pv 1) (pa_cons (pe_bltn (v := .ty "int") (u := .type "int") (by rfl) T.int (by decide +kernel) rfl) pa_nil)))) (pss_never) pss_nil)
        (pss_cons (ps_if (pt_val (pe_callB call_isi (by rfl) T.isi (by decide +kernel) (pa_cons (pv 1) (pa_cons (pe_bltn (v := .ty "str") (u := .type "str") (by rfl) T.str (by decide +kernel) rfl) pa_nil)))) (pss_never) pss_nil)
        (pss_cons (ps_if (pt_cmpR op_ne (pe_callB call_isi (by rfl) T.isi (by decide +kernel) (pa_cons (pv 0) (pa_cons (pe_bltn (v := .ty "list") (u := .type "list") (by rfl) T.list (by decide +kernel) rfl) pa_nil))) (pe_callB call_isi (by rfl) T.isi (by decide +kernel) (pa_cons (pv 1) (pa_cons (pe_bltn (v := .ty "list") (u := .type "list") (by rfl) T.list (by decide +kernel) rfl) pa_nil))) (nomark _)) (pss_never) pss_nil)
        (pss_cons (ps_if (PW.pt (pw_or (pt_cmpR op_ne (pe_callB call_isi (by rfl) T.isi (by decide +kernel) (pa_cons (pv 0) (pa_cons (pe_bltn (v := .ty "tuple") (u := .type "tuple") (by rfl) T.tuple (by decide +kernel) rfl) pa_nil))) (pe_callB call_isi (by rfl) T.isi (by decide +kernel) (pa_cons (pv 1) (pa_cons (pe_bltn (v := .ty "tuple") (u := .type "tuple") (by rfl) T.tuple (by decide +kernel) rfl) pa_nil))) (nomark _)) (pw_or1 (pt_cmpR op_ne (pe_callB call_len_seq (by rfl) T.len PySem.boot_len (pa_cons (pv 0) pa_nil)) (pe_callB call_len_seq (by rfl) T.len PySem.boot_len (pa_cons (pv 1) pa_nil)) (nomark _))))) (pss_never) pss_nil)
        (pss_one (ps_ret (pe_cmpR (op_eqD hr.units) (pe_lc (own := [("k", 2)]) (g := gName 2) rfl scSame.nd (pi_range1 rfl T.range (pa_cons (pe_callB call_len_seq (by rfl) T.len PySem.boot_len (pa_cons (pv 1) pa_nil)) pa_nil)) (blkOk_by (own := [("k", 2)]) (N := ["found", "due", "k"]) (sc := defScope sSame) (by decide +kernel)) (fun _ _ _ _ _ => pg_name (i := 2) scSame.nd rfl (Or.inl rfl)) (fun _ _ _ _ _ => pts_one (pt_not (pt_val (pe_call S.ok hr1 (by rfl) S.g S.k S.b .nil pass0 (pa_cons (pe_ix (ix_listK K rfl) (pv 0) (pv 2) (fun _ _ => rfl)) (pa_cons (pe_ix (ix_listK K rfl) (pv 1) (pv 2) (fun _ _ => rfl)) pa_nil)))))) (fun _ _ _ _ _ => pv 2)) (pe_lst pa_nil) (nomark _))))))))), ?_⟩
    have ta : ∀ {x : Addr}, H x = some (.lst (ns.map V.int)) → TyX K H (.ref x) (.type "list") := fun h => .base (.lst h)
    refine ⟨_, rfl, _, rfl, ?_⟩
    rw [decide_eq_false (show ¬ V.ref b = V.non from fun z => nomatch z)]
    refine iteF ?_
    refine ⟨_, rfl, _, _, _, _, false, rfl, .ty _, ta hb, kit_ty (by decide +kernel), false, rfl, iteF ?_⟩
    refine ⟨_, rfl, _, _, _, _, false, rfl, .ty _, ta hb, kit_ty (by decide +kernel), false, rfl, iteF ?_⟩
    refine ⟨_, rfl, _, _, _, _, false, rfl, .ty _, ta hb, kit_ty (by decide +kernel), false, rfl, iteF ?_⟩
    refine ⟨_, rfl, _, _, _, _, true, rfl, .ty _, ta ha, kit_ty (by decide +kernel), _, rfl, _, _, _, _, true, rfl, .ty _, ta hb, kit_ty (by decide +kernel), ?_⟩
    refine ⟨rfl, _, rfl, iteNS rfl ?_⟩
    refine ⟨_, rfl, _, _, _, _, false, rfl, .ty _, ta ha, kit_ty (by decide +kernel), _, rfl, _, _, _, _, false, rfl, .ty _, ta hb, kit_ty (by decide +kernel), rfl, _, rfl, iteNS rfl ?_⟩
    refine ⟨_, rfl, a, _, rfl, .inl (SqL.of ha), _, rfl, b, _, rfl, .inl (SqL.of hb), rfl, _, rfl, iteNS rfl ?_⟩
    refine ⟨_, rfl, b, _, rfl, .inl (SqL.of hb), (ns.length : Int), by rw [List.length_map], by omega, by omega, fun D nD => ?_⟩
    have sD := same_new (x := .lst []) nD
    refine lc_range (lo := 0) (n := ns.length) (fun i G => Same H G ∧ G D = some (.lst [])) ⟨sD, upd_same⟩ ?_ ?_
    · rintro i G hi ⟨s1, hD⟩
      obtain ⟨n, hn⟩ : ∃ n, ns[i]? = some n := ⟨_, List.getElem?_eq_getElem hi⟩
      have at_ : atI (ns.map V.int) (0 + (i : Int)) = some (.int n) := by
        rw [Int.zero_add]
        exact atI_nat (by rw [List.getElem?_map, hn]; rfl)
      refine ⟨rfl, ?_⟩
      refine ⟨_, rfl, _, rfl, _, _, _, _, rfl, rfl, SqL.of (s1 _ _ ha), at_, _, rfl, _, rfl, _, _, _, _, rfl, rfl, SqL.of (s1 _ _ hb), at_, n, rfl, ?_⟩
      exact ⟨true, rfl, iteF ⟨s1, hD⟩⟩
    · rintro G ⟨s1, hD⟩
      refine ⟨Nat.zero_le _, fun e ne => ?_⟩
      have eD : D ≠ e := ne_of_none hD ne
      refine ⟨.list [], .list [], .lst (SqL.of ((upd_ne eD).trans hD)) .nil, .lst (SqL.of upd_same) .nil, by decide, by decide, ?_⟩
      rw [show PyData.eqv (.list []) (.list []) = true from rfl]
      exact k _ (s1.trans (same_new ne))
end
end LB
set_option Elab.async false
set_option linter.all false
set_option maxRecDepth 100000
set_option maxHeartbeats 4000000
/-! The usual table. -/
namespace LB
open PySem L2 Wk
open Bg (Bg Wo)
def enOnes : List Str := ["zero", "one", "two", "three", "four", "five", "six", "seven", "eight", "nine", "ten", "eleven", "twelve", "thirteen", "fourteen", "fifteen", "sixteen", "seventeen", "eighteen", "nineteen"]
def enTens : List Str := ["twenty", "thirty", "forty", "fifty", "sixty", "seventy", "eighty", "ninety"]
def enHun : Str := "hundred"
def enScales : List Str := ["thousand", "million", "billion", "trillion", "quadrillion", "quintillion", "sextillion", "septillion", "octillion", "nonillion"]
theorem en_good : GoodRow (enOnes ++ (enTens ++ enHun :: enScales)) := ⟨by decide +kernel, fun x hx => goodB_ok (List.all_eq_true.mp (by decide +kernel : (enOnes ++ (enTens ++ enHun :: enScales)).all goodB = true) x hx)⟩
theorem en_good_take (k : Nat) : GoodRow (enOnes ++ (enTens ++ enHun :: enScales.take k)) := by
  have s : (enOnes ++ (enTens ++ enHun :: enScales.take k)).Sublist (enOnes ++ (enTens ++ enHun :: enScales)) :=
    List.Sublist.append (List.Sublist.refl _) (List.Sublist.append (List.Sublist.refl _) (List.Sublist.cons_cons _ (List.take_sublist _ _)))
  exact ⟨en_good.nd.sublist s, fun x hx => en_good.ok x (s.mem hx)⟩
structure EngT (K : PySem.W.Frag) (mg : Str → Option Value) (E1 E2 E3 : Addr) (tk : Tok) : Prop where
  e1 : mg "ENGLISH_ONES" = some (.ref E1)
  e2 : mg "ENGLISH_TENS" = some (.ref E2)
  e3 : mg "ENGLISH_SCALES" = some (.ref E3)
  eh : mg "ENGLISH_HUNDRED" = some (.str enHun tk)
  s1 : ∀ H, SqT K H E1 (enOnes.map V.str)
  s2 : ∀ H, SqT K H E2 (enTens.map V.str)
  s3 : ∀ H, SqT K H E3 (enScales.map V.str)
  len : mg "len" = none
  list : mg "list" = none
/-- a new table of the usual words -/
def spEng : Sp := fun vs H Q _ => ∃ k : Nat, vs = [.int (k : Int)] ∧ k ≤ 10 ∧ ∀ t o te sc H', H t = none → H sc = none → Same H H' → Tab H' t enOnes enTens enHun (enScales.take k) o te sc → Q (.ref t) H'
section
variable {P : Program} {w : World} {K : PySem.W.Frag} {mg : Str → Option Value} {base : Heap}
theorem scEnglish : FnScope ["scales"] ["scales"] (defScope sEnglish) := ⟨rfl, rfl, rfl, by decide +kernel, rfl, by decide +kernel, by decide +kernel⟩
theorem ok_english {f E1 E2 E3 : Addr} {tk : Tok} {fd : FuncData} (F : Fun K "english" "english" sEnglish f fd) (T : EngT K mg E1 E2 E3 tk) : FnOk P w K mg base CX0 1 f fd ["scales"] spEng := by
  refine F.ok scEnglish (fun vs H Q E h => ?_) (fun cdv A outer s H vs Q E hr h => ?_)
  · obtain ⟨k, rfl, _⟩ := h
    rfl
  · obtain ⟨k, rfl, k10, q⟩ := h
    refine ⟨_, pss_cons (ps_if (PW.pt (pw_or (pt_cmpR op_lt (pv 0) pe_int (nomark _)) (pw_or1 (pt_cmpR op_gt (pv 0) (pe_callB call_len_seq (by rfl) T.len PySem.boot_len (pa_cons (pe_glob (v := .ref E3) (by rfl) T.e3 rfl) pa_nil)) (nomark _))))) (pss_never) pss_nil)
        (pss_one (ps_ret (pe_tup (pa_cons (pe_callTy call_list_of (by rfl) T.list (by decide +kernel) (pa_cons (pe_glob (v := .ref E1) (by rfl) T.e1 rfl) pa_nil)) (pa_cons (pe_callTy call_list_of (by rfl) T.list (by decide +kernel) (pa_cons (pe_glob (v := .ref E2) (by rfl) T.e2 rfl) pa_nil)) (pa_cons (pe_glob (v := .str enHun) (by rfl) T.eh ⟨_, rfl⟩) (pa_cons (pe_callTy call_list_of (by rfl) T.list (by decide +kernel) (pa_cons (pe_slice sl_tupA (pe_glob (v := .ref E3) (by rfl) T.e3 rfl) po_none (po_some (pv 0))) pa_nil)) pa_nil))))))), ?_⟩
    have big : 1000 < sizeLine := by decide
    refine ⟨_, rfl, _, _, rfl, rfl, _, rfl, ite2 (fun z => absurd (of_decide_eq_true z) (by omega)) (fun _ => ?_)⟩
    refine ⟨_, rfl, E3, _, rfl, .inr (T.s3 _), _, _, rfl, rfl, _, rfl, ite2 (fun z => absurd (of_decide_eq_true z) (by show ¬ (k : Int) > 10; omega)) (fun _ => ?_)⟩
    refine ⟨E1, _, rfl, .inr (T.s1 _), fun o no => ?_⟩
    have s1 := same_new (x := .lst (enOnes.map V.str)) no
    refine ⟨E2, _, rfl, .inr (T.s2 _), fun te nte => ?_⟩
    have s2 := same_new (x := .lst (enTens.map V.str)) nte
    refine ⟨_, rfl, (k : Int), rfl, E3, enScales.map V.str, rfl, T.s3 _, fun z => ?_, fun z p np => ?_⟩
    · have e : enScales = enScales.take k := by
        have : k = 10 := by
          have z2 : HT.sIx (enScales.map V.str).length (enScales.map V.str).length (some (k : Int)) = (enScales.map V.str).length := z.2
          rw [HT.sIx_nat] at z2
          have : (enScales.map V.str).length = 10 := rfl
          omega
        rw [this]
        rfl
      have hT : ∀ {H : Hp}, SqT K H E3 ((enScales.take k).map V.str) := fun {H} => by
        rw [← e]
        exact T.s3 H
      refine ⟨E3, _, rfl, .inr hT, fun sc nsc => ?_⟩
      refine ⟨by show 4 ≤ sizeLine; omega, fun t nt => ?_⟩
      have s3 := same_new (x := .lst ((enScales.take k).map V.str)) nsc
      have s4 := same_new (x := .tup [.ref o, .ref te, .str enHun, .ref sc]) nt
      have hs : H sc = none := (s1.trans s2).free nsc
      refine q t o te sc _ ((s1.trans s2).free (s3.free nt)) hs (s1.trans (s2.trans (s3.trans s4))) ?_
      refine .of ⟨upd_same, s4 _ _ (s3 _ _ (s2 _ _ upd_same)), s4 _ _ (s3 _ _ upd_same), s4 _ _ upd_same⟩ rfl rfl (by rw [List.length_take]; exact Nat.le_trans (Nat.min_le_right _ _) (by decide)) (en_good_take k)
    · have e : cutV (enScales.map V.str) none (some (k : Int)) = (enScales.take k).map V.str := cut_a (by show k ≤ 10; exact k10)
      rw [e]
      have s25 := same_new (x := .tup ((enScales.take k).map V.str)) np
      refine ⟨p, _, rfl, .inr (SqT.of upd_same), fun sc nsc => ?_⟩
      refine ⟨by show 4 ≤ sizeLine; omega, fun t nt => ?_⟩
      have s3 := same_new (x := .lst ((enScales.take k).map V.str)) nsc
      have s4 := same_new (x := .tup [.ref o, .ref te, .str enHun, .ref sc]) nt
      have hs : H sc = none := (s1.trans s2).free (s25.free nsc)
      refine q t o te sc _ ((s1.trans s2).free (s25.free (s3.free nt))) hs (s1.trans (s2.trans (s25.trans (s3.trans s4)))) ?_
      refine .of ⟨upd_same, s4 _ _ (s3 _ _ (s25 _ _ (s2 _ _ upd_same))), s4 _ _ (s3 _ _ (s25 _ _ upd_same)), s4 _ _ upd_same⟩ rfl rfl (by rw [List.length_take]; exact Nat.le_trans (Nat.min_le_right _ _) (by decide)) (en_good_take k)
end
end LB
set_option Elab.async false
set_option linter.all false
set_option maxRecDepth 100000
set_option maxHeartbeats 4000000
/-! Family C: its tables. -/
namespace LB
open PySem L2 Wk
open Bg (Bg Wo)
/-- the word at a place: any letters, then two of its own -/
def WordOf (j : Nat) (x : Str) : Prop := x.length ≤ 20 ∧ (∀ c ∈ x.cps.toList, 97 ≤ c ∧ c ≤ 122) ∧ ∃ a, x.cps.toList = a ++ [97 + j / 26, 97 + j % 26]
theorem WordOf.good {j : Nat} {x : Str} (h : WordOf j x) : GoodWord x := by
  obtain ⟨h1, h2, a, h3⟩ := h
  refine ⟨?_, h1, h2⟩
  show 1 ≤ x.cps.size
  rw [← Array.length_toList, h3, List.length_append]
  simp
theorem WordOf.inj {i j : Nat} {x : Str} (h : WordOf i x) (g : WordOf j x) : i = j := by
  obtain ⟨_, _, a, h3⟩ := h
  obtain ⟨_, _, b, g3⟩ := g
  rw [h3] at g3
  have e := List.append_inj_right' g3 rfl
  have e1 := (List.cons.inj e).1
  have e2 := (List.cons.inj (List.cons.inj e).2).1
  omega
theorem words_good {ws : List Str} (h : ∀ (j : Nat) (x : Str), ws[j]? = some x → WordOf j x) : GoodRow ws := by
  refine ⟨?_, fun x hx => ?_⟩
  · refine List.pairwise_iff_getElem.mpr fun i j hi hj hij e => ?_
    have hx : ws[i]? = some ws[i] := List.getElem?_eq_getElem hi
    have hy : ws[j]? = some ws[j] := List.getElem?_eq_getElem hj
    exact absurd ((h i _ hx).inj (e ▸ h j _ hy)) (by omega)
  · obtain ⟨j, hj⟩ := List.getElem?_of_mem hx
    exact (h j x hj).good
theorem join_nil (xs : List Str) : (Txt.join "" xs).cps.toList = (xs.map fun x => x.cps.toList).flatten := by
  have fold : ∀ (l : List Str) (acc : Array Nat), (l.foldl (fun acc p => acc ++ ("" : Str).cps ++ p.cps) acc).toList = acc.toList ++ (l.map fun x => x.cps.toList).flatten := by
    intro l
    induction l with
    | nil =>
      intro acc
      simp
    | cons x l ih =>
      intro acc
      rw [List.foldl_cons, ih]
      have : ("" : Str).cps.toList = [] := by decide +kernel
      simp [this]
  show (⟨(xs.drop 1).foldl (fun acc p => acc ++ ("" : Str).cps ++ p.cps) (xs.headD Str.empty).cps⟩ : Str).cps.toList = _
  show ((xs.drop 1).foldl (fun acc p => acc ++ ("" : Str).cps ++ p.cps) (xs.headD Str.empty).cps).toList = _
  rw [fold]
  cases xs with
  | nil => rfl
  | cons x l => rfl
/-- a table that draws don't change -/
structure TabC (H : Hp) (p G t : Addr) (ones tens : List Str) (hun : Str) (scales : List Str) (o te sc : Addr) : Prop where
  tab : Tab H t ones tens hun scales o te sc
  n1 : t ≠ p ∧ t ≠ G
  n2 : o ≠ p ∧ o ≠ G
  n3 : te ≠ p ∧ te ≠ G
  n4 : sc ≠ p ∧ sc ≠ G
theorem TabC.kq {H H' : Hp} {p G t : Addr} {ones tens : List Str} {hun : Str} {scales : List Str} {o te sc : Addr} (T : TabC H p G t ones tens hun scales o te sc) (k : Kq p G H H') : TabC H' p G t ones tens hun scales o te sc :=
  ⟨⟨⟨⟨k _ _ T.tab.tb.at_.tup T.n1.1 T.n1.2, k _ _ T.tab.tb.at_.lo T.n2.1 T.n2.2, k _ _ T.tab.tb.at_.lt T.n3.1 T.n3.2, k _ _ T.tab.tb.at_.ls T.n4.1 T.n4.2⟩, T.tab.tb.l1, T.tab.tb.l2, T.tab.tb.l3, T.tab.tb.nd⟩, T.tab.good⟩, T.n1, T.n2, T.n3, T.n4⟩
theorem TabC.same {H H' : Hp} {p G t : Addr} {ones tens : List Str} {hun : Str} {scales : List Str} {o te sc : Addr} (T : TabC H p G t ones tens hun scales o te sc) (k : Same H H') : TabC H' p G t ones tens hun scales o te sc :=
  T.kq fun q o e _ _ => k q o e
theorem str_ne {ws : List Str} (h : ws ≠ []) {G : Addr} {l m c : Int} {gs : List Int} : HO.lst (ws.map V.str) ≠ .lst [.ref G, .int l, .int m, .int c] ∧ HO.lst (ws.map V.str) ≠ .lst (gs.map V.int) := by
  cases ws with
  | nil => exact absurd rfl h
  | cons w r =>
    refine ⟨fun z => ?_, fun z => ?_⟩
    · have e := (List.cons.inj (HO.lst.inj z)).1
      cases e
    · cases gs with
      | nil => exact nomatch HO.lst.inj z
      | cons g gs =>
        have e := (List.cons.inj (HO.lst.inj z)).1
        cases e
theorem SrcAt.strs {H : Hp} {p G q : Addr} {gs : List Int} {l m c : Int} {ws : List Str} (B : SrcAt H p G gs l m c) (h : H q = some (.lst (ws.map V.str))) (ne : 0 < ws.length) : q ≠ p ∧ q ≠ G :=
  have n : ws ≠ [] := List.ne_nil_of_length_pos ne
  B.apart h (str_ne (gs := []) n).1 (str_ne (G := 0) (l := 0) (m := 0) (c := 0) n).2
theorem TabC.of {H : Hp} {p G t : Addr} {ones tens : List Str} {hun : Str} {scales : List Str} {o te sc : Addr} {gs : List Int} {l m c : Int} (T : Tab H t ones tens hun scales o te sc) (B : SrcAt H p G gs l m c) (n : sc ≠ p ∧ sc ≠ G) : TabC H p G t ones tens hun scales o te sc :=
  ⟨T, B.apart T.tb.at_.tup (fun z => nomatch z) (fun z => nomatch z), B.strs T.tb.at_.lo (by have := T.tb.l1; omega), B.strs T.tb.at_.lt (by have := T.tb.l2; omega), n⟩
theorem Kq.none {H H' : Hp} {p G q : Addr} {gs : List Int} {l m c : Int} (k : Kq p G H H') (B : SrcAt H' p G gs l m c) (h : H' q = none) : H q = none := by
  cases e : H q with
  | none => rfl
  | some o =>
    obtain ⟨n1, n2⟩ := B.free h
    rw [k q o e n1 n2] at h
    cases h
def spTableC : Sp := fun vs H Q _ => ∃ (p G : Addr) (gs : List Int) (l m c most : Int), vs = [.ref p, .int most] ∧ SrcAt H p G gs l m c ∧ 0 ≤ most ∧ most ≤ 20 ∧ c < 2 ^ 29 ∧
  ∀ t o te sc (ones tens : List Str) (hun : Str) (scales : List Str) (gs' : List Int) (l' c' : Int) (H' : Hp), H t = none → TabC H' p G t ones tens hun scales o te sc → (scales.length : Int) ≤ most → SrcAt H' p G gs' l' m c' → c' ≤ c + 2000 → Kq p G H H' → Q (.ref t) H'
theorem sgn : ∀ k : Fin 26, atI (("abcdefghijklmnopqrstuvwxyz" : Str).cps.toList) ((k.1 : Nat) : Int) = some (97 + k.1) := by decide +kernel
section
variable {P : Program} {w : World} {K : PySem.W.Frag} {mg : Str → Option Value} {base : Heap}
theorem scTableC : FnScope ["source", "most", "way", "lots", "signs", "found", "time", "far", "head", "letter"] ["source", "most"] (defScope sTable) := ⟨rfl, rfl, rfl, by decide +kernel, rfl, by decide +kernel, by decide +kernel⟩
theorem ok_tableC {f fD fE : Addr} {fd dD dE : FuncData} (F : Fun K "_law_table" "_law_table" sTable f fd) (D : Def1 P w K mg base "_law_draw" 1 fD dD ["source", "wide"] spDrawC) (En : Def1 P w K mg base "english" 1 fE dE ["scales"] spEng) (mR : mg "range" = none) (mN : mg "min" = none) :
    FnOk P w K mg base CX0 2 f fd ["source", "most"] spTableC := by
  refine F.ok scTableC (fun vs H Q E h => ?_) (fun cdv A outer s H vs Q E hr h => ?_)
  · obtain ⟨p, G, gs, l, m, c, most, rfl, _⟩ := h
    rfl
  · obtain ⟨p, G, gs, l, m, c, most, rfl, B, m0, m20, c29, k⟩ := h
    have hr1 : Room 1 _ := hr
    refine ⟨_, pss_mid (ps_asg (pe_tup (pa_cons (pe_call D.ok hr1 (by rfl) D.g D.k D.b .nil pass0 (pa_cons (pv 0) (pa_cons pe_int pa_nil))) (pa_cons (pe_call D.ok hr1 (by rfl) D.g D.k D.b .nil pass0 (pa_cons (pv 0) (pa_cons (pe_op op_add (pv 1) pe_int) pa_nil))) pa_nil))) (pg_tup (by rfl) (pgs_cons (pg_name (i := 2) scTableC.nd rfl (by first | exact .inl rfl | exact .inr rfl)) (pgs_cons (pg_name (i := 3) scTableC.nd rfl (by first | exact .inl rfl | exact .inr rfl)) pgs_nil))))
        (pss_cons (ps_if (pt_cmpR op_eq (pv 2) pe_int (nomark _)) (pss_one (ps_ret (pe_call En.ok hr1 (by rfl) En.g En.k En.b .nil pass0 (pa_cons (pe_callB (call_min2 rfl) (by rfl) mN (by decide +kernel) (pa_cons pe_int (pa_cons (pv 3) pa_nil))) pa_nil)))) pss_nil)
        (pss_mid (ps_asg (pe_tup (pa_cons pe_str (pa_cons (pe_lst pa_nil) pa_nil))) (pg_tup (by rfl) (pgs_cons (pg_name (i := 4) scTableC.nd rfl (by first | exact .inl rfl | exact .inr rfl)) (pgs_cons (pg_name (i := 5) scTableC.nd rfl (by first | exact .inl rfl | exact .inr rfl)) pgs_nil))))
        (pss_cons (ps_for PassesOwn.never rfl (pi_range1 rfl mR (pa_cons (pe_op op_add pe_int (pv 3)) pa_nil)) (pg_name (i := 6) scTableC.nd rfl (.inl rfl))
          (pss_mid (ps_set (i := 7) scTableC.nd rfl (.inl rfl) (pe_ix ix_list (pe_lst (pa_cons pe_int (pa_cons pe_int pa_nil))) (pe_call D.ok hr1 (by rfl) D.g D.k D.b .nil pass0 (pa_cons (pv 0) (pa_cons pe_int pa_nil))) (fun _ _ => rfl)))
        (pss_mid (ps_set (i := 8) scTableC.nd rfl (.inl rfl) (pe_join pe_str (pe_lc (own := [("letter", 9)]) (g := gName 9) rfl scTableC.nd (pi_range1 rfl mR (pa_cons (pe_call D.ok hr1 (by rfl) D.g D.k D.b .nil pass0 (pa_cons (pv 0) (pa_cons (pv 7) pa_nil))) pa_nil)) (blkOk_by (own := [("letter", 9)]) (N := ["source", "most", "way", "lots", "signs", "found", "time", "far", "head", "letter"]) (sc := defScope sTable) (by decide +kernel)) (fun _ _ _ _ _ => pg_name (i := 9) scTableC.nd rfl (Or.inl rfl)) (fun _ _ _ _ _ => pts_nil) (fun _ _ _ _ _ => pe_ix ix_str (pv 4) (pe_call D.ok hr1 (by rfl) D.g D.k D.b .nil pass0 (pa_cons (pv 0) (pa_cons (pe_ix (ix_listK K rfl) (pe_lst (pa_cons pe_int (pa_cons pe_int pa_nil))) (pe_op op_sub (pv 2) pe_int) (fun _ _ => rfl)) pa_nil))) (fun _ _ => rfl)))))
        (pss_one (ps_expr (pe_bm PySem.F.plainAttrs_list PySem.F.slot_list_append PySem.F.type_list_append mt_append (pv 5) (pa_cons (pe_op op_add_str (pe_op op_add_str (pv 8) (pe_ix ix_str (pv 4) (pe_op op_fdiv (pv 6) pe_int) (fun _ _ => rfl))) (pe_ix ix_str (pv 4) (pe_op op_mod (pv 6) pe_int) (fun _ _ => rfl))) pa_nil)))))))
        (pss_one (ps_ret (pe_tup (pa_cons (pe_slice sl_list (pv 5) po_none (po_some pe_int)) (pa_cons (pe_slice sl_list (pv 5) (po_some pe_int) (po_some pe_int)) (pa_cons (pe_ix ix_list (pv 5) pe_int (fun _ _ => rfl)) (pa_cons (pe_slice sl_list (pv 5) (po_some pe_int) po_none) pa_nil)))))))))), ?_⟩
    have big : 1000 < sizeLine := by decide
    -- way, lots
    refine ⟨fun τ G1 => ∃ (way lots : Int) (gs1 : List Int) (l1 c1 : Int), τ = [some (.ref p), some (.int most), some (.int way), some (.int lots), none, none, none, none, none, none] ∧ 0 ≤ way ∧ way < 3 ∧ 0 ≤ lots ∧ lots ≤ most ∧ SrcAt G1 p G gs1 l1 m c1 ∧ c1 ≤ c + 2 ∧ Kq p G H G1, ?_, ?_⟩
    · refine ⟨_, rfl, p, G, gs, l, m, c, 3, rfl, B, by decide, by decide, by omega, fun way gs1 l1 c1 G1 w0 w1 e1 B1 K1 => ?_⟩
      refine ⟨_, rfl, _, rfl, _, _, rfl, rfl, p, G, gs1, l1, m, c1, most + 1, rfl, B1, by omega, Nat.lt_of_le_of_lt (show (most + 1).natAbs ≤ 100 by omega) (by decide), by omega, fun lots gs2 l2 c2 G2 w2 w3 e2 B2 K2 => ?_⟩
      exact ⟨by show 2 ≤ sizeLine; omega, fun T nT => ⟨T, _, rfl, .inl (.inl upd_same), rfl, _, _, rfl, _, _, rfl, rfl, way, lots, gs2, l2, c2, rfl, w0, w1, w2, by omega, B2.same (same_new nT), by omega, (K1.trans K2).same (same_new nT)⟩⟩
    rintro τ G1 ⟨way, lots, gs1, l1, c1, rfl, w0, w1, lo0, lo1, B1, e1, K1⟩
    refine ⟨_, rfl, rfl, _, rfl, ite2 (fun z => ?_) (fun z => ?_)⟩
    · -- the usual words
      obtain ⟨n, hn⟩ : ∃ n : Nat, (if lots < 10 then lots else 10) = (n : Int) := ⟨(if lots < 10 then lots else 10).toNat, by split <;> omega⟩
      have n10 : n ≤ 10 ∧ (n : Int) ≤ most := by
        rw [← hn]
        split at hn <;> split <;> omega
      refine ⟨_, rfl, _, _, rfl, n, congrArg (fun z => [V.int z]) hn, n10.1, fun t o te sc G2 nt ns s2 T2 => ?_⟩
      have B2 := B1.same s2
      refine k t o te sc _ _ _ _ gs1 l1 c1 G2 (K1.none B1 nt) (.of T2 B2 (B1.free ns)) ?_ B2 (by omega) (K1.same s2)
      rw [List.length_take]
      have := n10.2
      omega
    -- own words
    refine ⟨fun τ G2 => ∃ Fo : Addr, τ = [some (.ref p), some (.int most), some (.int way), some (.int lots), some (.str "abcdefghijklmnopqrstuvwxyz"), some (.ref Fo), none, none, none, none] ∧ G1 Fo = none ∧ Same G1 G2 ∧ G2 Fo = some (.lst []), ?_, ?_⟩
    · refine ⟨Nat.zero_le _, fun Fo nF => ?_⟩
      have sF := same_new (x := .lst []) nF
      refine ⟨by show 2 ≤ sizeLine; omega, fun T nT => ⟨T, _, rfl, .inl (.inl upd_same), rfl, _, _, rfl, _, _, rfl, rfl, ?_⟩⟩
      have sT := same_new (x := .tup [.str "abcdefghijklmnopqrstuvwxyz", .ref Fo]) nT
      exact ⟨Fo, rfl, nF, sF.trans sT, sT _ _ upd_same⟩
    rintro τ G2 ⟨Fo, rfl, nF, s2, hF⟩
    have B2 := B1.same s2
    have Fn := B1.free nF
    obtain ⟨n, hn⟩ : ∃ n : Nat, lots = (n : Int) := ⟨lots.toNat, by omega⟩
    subst hn
    have nN : (29 + (n : Int)) = ((29 + n : Nat) : Int) := by omega
    refine ⟨_, rfl, _, _, rfl, rfl, ((29 + n : Nat) : Int), congrArg (fun z => [V.int z]) nN, by omega, by omega, ?_⟩
    refine for_range (lo := 0) (n := (((29 + n : Nat) : Int)).toNat) (fun i σ H2 => ∃ (x6 x7 x8 x9 : Option V) (ws : List Str) (gs2 : List Int) (l2 c2 : Int), σ = [some (.ref p), some (.int most), some (.int way), some (.int (n : Int)), some (.str "abcdefghijklmnopqrstuvwxyz"), some (.ref Fo), x6, x7, x8, x9] ∧
      H2 Fo = some (.lst (ws.map V.str)) ∧ ws.length = i ∧ (∀ (j : Nat) (x : Str), ws[j]? = some x → WordOf j x) ∧ SrcAt H2 p G gs2 l2 m c2 ∧ c2 ≤ c + 2 + 20 * (i : Int) ∧ Kq p G H H2) ?_ ?_ ?_
    · exact ⟨none, none, none, none, [], gs1, l1, c1, rfl, hF, rfl, fun _ _ h => (by cases h), B2, by omega, K1.same s2⟩
    · rintro i σ H2 hi ⟨x6, x7, x8, x9, ws, gs2, l2, c2, rfl, hF2, wl, hw, B3, e3, K3⟩
      have i49 : i < 49 := by omega
      -- far
      refine ⟨fun τ G3 => ∃ (far : Int) (gs3 : List Int) (l3 c3 : Int), τ = [some (.ref p), some (.int most), some (.int way), some (.int (n : Int)), some (.str "abcdefghijklmnopqrstuvwxyz"), some (.ref Fo), some (.int (0 + (i : Int))), some (.int far), x8, x9] ∧ 3 ≤ far ∧ far ≤ 19 ∧ G3 Fo = some (.lst (ws.map V.str)) ∧ SrcAt G3 p G gs3 l3 m c3 ∧ c3 ≤ c2 + 1 ∧ Kq p G H G3, ?_, ?_⟩
      · refine ⟨by show 2 ≤ sizeLine; omega, fun L nL => ?_⟩
        have sL := same_new (x := .lst [.int 3, .int 19]) nL
        have Ln := B3.free nL
        refine ⟨_, rfl, p, G, gs2, l2, m, c2, 2, rfl, B3.same sL, by decide, by decide, by omega, fun r gs3 l3 c3 G3 r0 r1 e4 B4 K4 => ?_⟩
        obtain ⟨far, hfar, f0, f1⟩ : ∃ far : Int, atI [V.int 3, V.int 19] r = some (.int far) ∧ 3 ≤ far ∧ far ≤ 19 := by
          rcases (show r = 0 ∨ r = 1 by omega) with rfl | rfl
          · exact ⟨3, rfl, by decide, by decide⟩
          · exact ⟨19, rfl, by decide, by decide⟩
        refine ⟨L, _, _, _, rfl, rfl, SqL.of (K4 _ _ upd_same Ln.1 Ln.2), hfar, far, gs3, l3, c3, rfl, f0, f1, K4 _ _ (sL _ _ hF2) Fn.1 Fn.2, B4, by omega, (K3.same sL).trans K4⟩
      rintro τ G3 ⟨far, gs3, l3, c3, rfl, f0, f1, hF3, B4, e4, K4⟩
      -- head
      refine ⟨fun τ G4 => ∃ (hd : Str) (gs4 : List Int) (l4 c4 : Int), τ = [some (.ref p), some (.int most), some (.int way), some (.int (n : Int)), some (.str "abcdefghijklmnopqrstuvwxyz"), some (.ref Fo), some (.int (0 + (i : Int))), some (.int far), some (.str hd), x9] ∧ hd.length ≤ 18 ∧ (∀ c ∈ hd.cps.toList, 97 ≤ c ∧ c ≤ 122) ∧ G4 Fo = some (.lst (ws.map V.str)) ∧ SrcAt G4 p G gs4 l4 m c4 ∧ c4 ≤ c3 + 19 ∧ Kq p G H G4, ?_, ?_⟩
      · refine ⟨⟨_, rfl⟩, _, rfl, _, rfl, p, G, gs3, l3, m, c3, far, rfl, B4, by omega, Nat.lt_of_le_of_lt (show far.natAbs ≤ 100 by omega) (by decide), by omega, fun kl gs4 l4 c4 G4 k0 k1 e5 B5 K5 => ?_⟩
        refine ⟨kl, rfl, by omega, by omega, fun Dl nD => ?_⟩
        have sD := same_new (x := .lst []) nD
        have Dn := B5.free nD
        have hF4 := K5 _ _ hF3 Fn.1 Fn.2
        have DF : Fo ≠ Dl := ne_of_none hF4 nD
        refine lc_range (lo := 0) (n := kl.toNat) (fun i2 G5 => ∃ (xs : List Str) (gs5 : List Int) (l5 c5 : Int), G5 Dl = some (.lst (xs.map V.str)) ∧ xs.length = i2 ∧ (∀ x ∈ xs, x.length = 1 ∧ ∀ c ∈ x.cps.toList, 97 ≤ c ∧ c ≤ 122) ∧ SrcAt G5 p G gs5 l5 m c5 ∧ c5 ≤ c4 + (i2 : Int) ∧ G5 Fo = some (.lst (ws.map V.str)) ∧ Kq p G H G5) ?_ ?_ ?_
        · exact ⟨[], gs4, l4, c4, upd_same, rfl, fun _ h => (by cases h), B5.same sD, by omega, sD _ _ hF4, (K4.trans K5).same sD⟩
        · rintro i2 G5 hi2 ⟨xs, gs5, l5, c5, hD5, xl, hx, B6, e6, hF5, K6⟩
          have i18 : i2 < 18 := by omega
          refine ⟨rfl, ?_⟩
          refine ⟨_, rfl, _, rfl, by show 2 ≤ sizeLine; omega, fun L nL => ?_⟩
          have sL := same_new (x := .lst [.int 2, .int 26]) nL
          have Ln := B6.free nL
          obtain ⟨wi, hwi, wi0, wi1⟩ : ∃ wi : Int, atI [V.int 2, V.int 26] (way - 1) = some (.int wi) ∧ 0 < wi ∧ wi ≤ 26 := by
            have wn : way ≠ 0 := fun h => z (decide_eq_true (by rw [h]))
            rcases (show way = 1 ∨ way = 2 by omega) with h | h
            · exact ⟨2, by rw [h]; rfl, by decide, by decide⟩
            · exact ⟨26, by rw [h]; rfl, by decide, by decide⟩
          refine ⟨_, rfl, _, _, rfl, rfl, L, _, _, _, rfl, rfl, SqL.of upd_same, hwi, p, G, gs5, l5, m, c5, wi, rfl, B6.same sL, wi0, Nat.lt_of_le_of_lt (show wi.natAbs ≤ 100 by omega) (by decide), by omega, fun r gs6 l6 c6 G6 r0 r1 e7 B7 K7 => ?_⟩
          obtain ⟨rn, hrn, rn26⟩ : ∃ rn : Nat, r = (rn : Int) ∧ rn < 26 := ⟨r.toNat, by omega, by omega⟩
          have hat := sgn ⟨rn, rn26⟩
          refine ⟨_, r, 97 + rn, rfl, rfl, by show 26 ≤ sizeLine; omega, by rw [hrn]; exact hat, ?_⟩
          have hD6 := K7 _ _ (sL _ _ hD5) Dn.1 Dn.2
          refine ⟨_, hD6, by rw [List.length_map, xl]; omega, xs ++ [⟨#[97 + rn]⟩], gs6, l6, c6, ?_, ?_, ?_, ?_, by omega, ?_, ?_⟩
          · rw [upd_same, List.map_append]
            rfl
          · rw [List.length_append, xl]
            rfl
          · intro x hx'
            rcases List.mem_append.mp hx' with h | h
            · exact hx x h
            · rw [List.mem_singleton.mp h]
              refine ⟨rfl, fun c hc => ?_⟩
              have hc' : c ∈ [97 + rn] := hc
              rw [List.mem_singleton.mp hc']
              omega
          · exact ⟨by rw [upd_ne Dn.1.symm]; exact B7.at_, by rw [upd_ne Dn.2.symm]; exact B7.list, B7.gnn, B7.l0, B7.m0, B7.m1, B7.c0, B7.few, B7.ne⟩
          · rw [upd_ne DF]
            exact K7 _ _ (sL _ _ hF5) Fn.1 Fn.2
          · intro q o e n1 n2
            have e' := K7 _ _ (sL _ _ (K6 q o e n1 n2)) n1 n2
            by_cases qd : q = Dl
            · exact absurd (K4.trans K5 q o e n1 n2) (by rw [qd, nD]; exact fun h => nomatch h)
            · rw [upd_ne qd]
              exact e'
        · rintro G5 ⟨xs, gs5, l5, c5, hD5, xl, hx, B6, e6, hF5, K6⟩
          have lens : ∀ ys : List Str, (∀ x ∈ ys, x.length = 1 ∧ ∀ c ∈ x.cps.toList, 97 ≤ c ∧ c ≤ 122) → (ys.map (·.length)).sum = ys.length ∧ ((ys.map fun x => x.cps.toList).flatten).length = ys.length := by
            intro ys
            induction ys with
            | nil => exact fun _ => ⟨rfl, rfl⟩
            | cons y ys ih =>
              intro h
              obtain ⟨a1, a2⟩ := ih fun x hx => h x (List.mem_cons_of_mem _ hx)
              have y1 := (h y List.mem_cons_self).1
              have y2 : y.cps.toList.length = 1 := by
                rw [Array.length_toList]
                exact y1
              refine ⟨?_, ?_⟩
              · rw [List.map_cons, List.sum_cons, a1, y1, List.length_cons]
                omega
              · rw [List.map_cons, List.flatten_cons, List.length_append, a2, y2, List.length_cons]
                omega
          obtain ⟨s1, s2⟩ := lens xs hx
          have kl18 : kl.toNat ≤ 18 := by omega
          refine ⟨"", Dl, xs, rfl, rfl, .inl (SqL.of hD5), ?_, ?_⟩
          · rw [s1]
            show xs.length + xs.length * 0 ≤ _
            omega
          · refine ⟨_, gs5, l5, c5, rfl, ?_, ?_, hF5, B6, by omega, K6⟩
            · show (Txt.join "" xs).cps.size ≤ 18
              rw [← Array.length_toList, join_nil, s2]
              omega
            · intro c hc
              rw [join_nil] at hc
              obtain ⟨y, hy, hcy⟩ := List.mem_flatten.mp hc
              obtain ⟨x, hx', rfl⟩ := List.mem_map.mp hy
              exact (hx x hx').2 c hcy
      rintro τ G4 ⟨hd, gs4, l4, c4, rfl, hd18, hdl, hF4, B5, e5, K5⟩
      have z1 : atI ("abcdefghijklmnopqrstuvwxyz" : Str).cps.toList ((0 + (i : Int)) / 26) = some (97 + i / 26) := by
        rw [show (0 + (i : Int)) / 26 = ((i / 26 : Nat) : Int) by omega]
        exact sgn ⟨i / 26, by omega⟩
      have z2 : atI ("abcdefghijklmnopqrstuvwxyz" : Str).cps.toList ((0 + (i : Int)) % 26) = some (97 + i % 26) := by
        rw [show (0 + (i : Int)) % 26 = ((i % 26 : Nat) : Int) by omega]
        exact sgn ⟨i % 26, by omega⟩
      have l26 : ("abcdefghijklmnopqrstuvwxyz" : Str).length ≤ sizeLine := by show 26 ≤ sizeLine; omega
      have lz : (hd ++ (⟨#[97 + i / 26]⟩ : Str)).length = hd.length + 1 := by
        show (hd.cps ++ #[97 + i / 26]).size = _
        rw [Array.size_append]
        rfl
      have lz2 : (hd ++ (⟨#[97 + i / 26]⟩ : Str) ++ (⟨#[97 + i % 26]⟩ : Str)).length = hd.length + 2 := by
        show ((hd ++ (⟨#[97 + i / 26]⟩ : Str)).cps ++ #[97 + i % 26]).size = _
        rw [Array.size_append]
        show (hd ++ (⟨#[97 + i / 26]⟩ : Str)).length + 1 = _
        rw [lz]
      have wo : WordOf i (hd ++ (⟨#[97 + i / 26]⟩ : Str) ++ (⟨#[97 + i % 26]⟩ : Str)) := by
        have e : (hd ++ (⟨#[97 + i / 26]⟩ : Str) ++ (⟨#[97 + i % 26]⟩ : Str)).cps.toList = hd.cps.toList ++ [97 + i / 26, 97 + i % 26] := by
          show ((hd.cps ++ #[97 + i / 26]) ++ #[97 + i % 26]).toList = _
          simp
        refine ⟨by rw [lz2]; omega, ?_, _, e⟩
        intro c hc
        rw [e] at hc
        rcases List.mem_append.mp hc with h | h
        · exact hdl c h
        · rcases List.mem_cons.mp h with h | h
          · omega
          · have := List.mem_singleton.mp h
            omega
      refine ⟨_, rfl, .inl ⟨rfl, _, SqL.of hF4⟩, _, rfl, _, rfl, _, rfl, _, _, rfl, rfl, ⟨by decide, by decide⟩, _, _, _, rfl, rfl, l26, z1, _, _, rfl, rfl, ?_, _, rfl, _, rfl, _, _, rfl, rfl, (by show (0 : Int) < 26; decide), _, _, _, rfl, rfl, l26, z2, _, _, rfl, rfl, ?_, ?_⟩
      · show hd.length + 1 ≤ sizeLine
        omega
      · show (hd ++ (⟨#[97 + i / 26]⟩ : Str)).length + 1 ≤ sizeLine
        rw [lz]
        omega
      refine ⟨Fo, _, _, rfl, rfl, hF4, by rw [List.length_map]; omega, ?_⟩
      refine ⟨_, _, _, _, ws ++ [hd ++ (⟨#[97 + i / 26]⟩ : Str) ++ (⟨#[97 + i % 26]⟩ : Str)], gs4, l4, c4, rfl, ?_, ?_, ?_, ?_, by omega, ?_⟩
      · rw [upd_same, List.map_append]
        rfl
      · rw [List.length_append, wl]
        rfl
      · intro j x hx
        rcases Nat.lt_or_ge j ws.length with h | h
        · rw [List.getElem?_append_left h] at hx
          exact hw j x hx
        · rw [List.getElem?_append_right h] at hx
          have j0 : j - ws.length = 0 := by
            by_cases q : j - ws.length = 0
            · exact q
            · rw [List.getElem?_eq_none (by show 1 ≤ _; omega)] at hx
              cases hx
          rw [j0] at hx
          have e := Option.some.inj hx
          rw [← e, show j = i by omega]
          exact wo
      · exact ⟨by rw [upd_ne Fn.1.symm]; exact B5.at_, by rw [upd_ne Fn.2.symm]; exact B5.list, B5.gnn, B5.l0, B5.m0, B5.m1, B5.c0, B5.few, B5.ne⟩
      · intro q o e n1 n2
        have e' := K5 q o e n1 n2
        by_cases qf : q = Fo
        · exact absurd (K1 q o e n1 n2) (by rw [qf, nF]; exact fun h => nomatch h)
        · rw [upd_ne qf]
          exact e'
    · rintro σ H2 ⟨x6, x7, x8, x9, ws, gs2, l2, c2, rfl, hF2, wl, hw, B3, e3, K3⟩
      have wl' : ws.length = 29 + n := by omega
      have g := words_good hw
      obtain ⟨hun, hh⟩ : ∃ hun, ws[28]? = some hun := ⟨_, List.getElem?_eq_getElem (by omega)⟩
      refine ⟨_, rfl, _, rfl, Fo, _, rfl, SqL.of hF2, fun a1 n1 => ?_⟩
      have t1 := same_new (x := .lst (cutV (ws.map V.str) none (some 20))) n1
      refine ⟨_, rfl, _, rfl, _, rfl, Fo, _, rfl, SqL.of (t1 _ _ hF2), fun a2 n2 => ?_⟩
      have t2 := same_new (x := .lst (cutV (ws.map V.str) (some 20) (some 28))) n2
      refine ⟨_, rfl, Fo, _, _, _, rfl, rfl, SqL.of (t2 _ _ (t1 _ _ hF2)), atI_nat (j := 28) (v := .str hun) (by rw [List.getElem?_map, hh]; rfl), ?_⟩
      refine ⟨_, rfl, _, rfl, Fo, _, rfl, SqL.of (t2 _ _ (t1 _ _ hF2)), fun a3 n3 => ?_⟩
      have t3 := same_new (x := .lst (cutV (ws.map V.str) (some 29) none)) n3
      refine ⟨by show 4 ≤ sizeLine; omega, fun t nt => ?_⟩
      have t4 := same_new (x := .tup [.ref a1, .ref a2, .str hun, .ref a3]) nt
      have tt := t1.trans (t2.trans (t3.trans t4))
      have B9 := B3.same tt
      have e : ws.take 20 ++ ((ws.drop 20).take 8 ++ hun :: ws.drop 29) = ws := by
        have e1 : hun :: ws.drop 29 = ws.drop 28 := by
          obtain ⟨h28, e28⟩ := List.getElem?_eq_some_iff.mp hh
          rw [List.drop_eq_getElem_cons h28, e28]
        have e2 : (ws.drop 20).take 8 ++ ws.drop 28 = ws.drop 20 := by
          have z := List.take_append_drop 8 (ws.drop 20)
          rw [List.drop_drop] at z
          exact z
        rw [e1, e2, List.take_append_drop]
      have T : Tab (upd (upd (upd (upd H2 a1 (.lst (cutV (ws.map V.str) none (some 20)))) a2 (.lst (cutV (ws.map V.str) (some 20) (some 28)))) a3 (.lst (cutV (ws.map V.str) (some 29) none))) t (.tup [.ref a1, .ref a2, .str hun, .ref a3])) t (ws.take 20) ((ws.drop 20).take 8) hun (ws.drop 29) a1 a2 a3 := by
        refine .of ⟨upd_same, t4 _ _ (t3 _ _ (t2 _ _ ?_)), t4 _ _ (t3 _ _ ?_), t4 _ _ ?_⟩ ?_ ?_ ?_ (by rw [e]; exact g)
        · rw [upd_same]
          exact congrArg (fun z => some (HO.lst z)) (cut_a (k := 20) (by omega))
        · rw [upd_same]
          exact congrArg (fun z => some (HO.lst z)) (cut_b (k := 20) (j := 28) (by omega) (by omega))
        · rw [upd_same]
          exact congrArg (fun z => some (HO.lst z)) (cut_c (k := 29) (by omega))
        · rw [List.length_take]
          omega
        · rw [List.length_take, List.length_drop]
          omega
        · rw [List.length_drop]
          omega
      have na3 := t2.free n3
      refine k t a1 a2 a3 _ _ _ _ gs2 l2 c2 _ (K3.none B3 (t1.free (t2.free (t3.free nt)))) (.of T B9 (B3.free (t1.free na3))) ?_ B9 (by omega) (K3.same tt)
      rw [List.length_drop]
      omega
end
end LB
set_option Elab.async false
set_option linter.all false
set_option maxRecDepth 100000
set_option maxHeartbeats 4000000
/-! Family C: how many names, numbers. -/
namespace LB
open PySem L2 Wk
open Bg (Bg Wo)
def spWhole : Sp := fun vs H Q _ => ∃ (t o te sc : Addr) (ones tens : List Str) (hun : Str) (scales : List Str), vs = [.ref t] ∧ Tab H t ones tens hun scales o te sc ∧ Q (.int (Bg.W (scales.length + 1))) H
def spValue : Sp := fun vs H Q _ => ∃ (p G : Addr) (gs : List Int) (l m c : Int) (t o te sc : Addr) (ones tens : List Str) (hun : Str) (scales : List Str), vs = [.ref p, .ref t] ∧ SrcAt H p G gs l m c ∧ TabC H p G t ones tens hun scales o te sc ∧ c < 2 ^ 29 ∧
  ∀ (n : Int) (gs' : List Int) (l' c' : Int) (H' : Hp), 0 ≤ n → n < Bg.W (scales.length + 1) → SrcAt H' p G gs' l' m c' → c' ≤ c + 400 → Kq p G H H' → Q (.int n) H'
section
variable {P : Program} {w : World} {K : PySem.W.Frag} {mg : Str → Option Value} {base : Heap}
theorem scWhole : FnScope ["chart", "found", "word"] ["chart"] (defScope sWhole) := ⟨rfl, rfl, rfl, by decide +kernel, rfl, by decide +kernel, by decide +kernel⟩
theorem ok_whole {f : Addr} {fd : FuncData} (F : Fun K "_law_whole" "_law_whole" sWhole f fd) : FnOk P w K mg base CX0 1 f fd ["chart"] spWhole := by
  refine F.ok scWhole (fun vs H Q E h => ?_) (fun cdv A outer s H vs Q E hr h => ?_)
  · obtain ⟨t, o, te, sc, ones, tens, hun, scales, rfl, _⟩ := h
    rfl
  · obtain ⟨t, o, te, sc, ones, tens, hun, scales, rfl, TB, k⟩ := h
    refine ⟨_, pss_cons (ps_set (i := 1) scWhole.nd rfl (.inl rfl) pe_int)
        (pss_cons (ps_for PassesOwn.never rfl (pi_list (pe_ix ix_tup (pv 0) pe_int (fun _ _ => rfl))) (pg_name (i := 2) scWhole.nd rfl (.inl rfl))
          (pss_one (ps_set (i := 1) scWhole.nd rfl (.inl rfl) (pe_op op_mul (pv 1) pe_int))))
        (pss_one (ps_ret (pv 1)))), ?_⟩
    refine ⟨_, rfl, t, _, _, _, rfl, rfl, SqT.of TB.tb.at_.tup, (rfl : atI [V.ref o, V.ref te, V.str hun, V.ref sc] 3 = some (.ref sc)), sc, rfl, ⟨_, SqL.of TB.tb.at_.ls⟩, ?_⟩
    refine for_list (K := K) (a := sc) (xs := scales.map V.str) (fun j σ G' => H = G' ∧ ∃ x, σ = [some (.ref t), some (.int (Bg.W (j + 1))), x]) ⟨rfl, none, rfl⟩ ?_ ?_ ?_
    · rintro j σ G' _ ⟨rfl, _⟩
      exact SqL.of TB.tb.at_.ls
    · rintro j y σ G' hj ⟨rfl, x, rfl⟩
      refine ⟨_, rfl, _, _, rfl, rfl, .inr ⟨by decide, by decide⟩, rfl, some y, ?_⟩
      rw [Bg.W_succ (j + 1), Int.mul_comm]
      rfl
    · rintro σ G' ⟨rfl, x, rfl⟩
      rw [List.length_map]
      exact ⟨_, rfl, k⟩
theorem scValue : FnScope ["source", "chart", "way", "found", "time", "group"] ["source", "chart"] (defScope sValue) := ⟨rfl, rfl, rfl, by decide +kernel, rfl, by decide +kernel, by decide +kernel⟩
theorem ok_value {f fD : Addr} {fd dD : FuncData} (F : Fun K "_law_value" "_law_value" sValue f fd) (D : Def1 P w K mg base "_law_draw" 1 fD dD ["source", "wide"] spDrawC) (mR : mg "range" = none) (mL : mg "len" = none) : FnOk P w K mg base CX0 2 f fd ["source", "chart"] spValue := by
  refine F.ok scValue (fun vs H Q E h => ?_) (fun cdv A outer s H vs Q E hr h => ?_)
  · obtain ⟨p, G, gs, l, m, c, t, o, te, sc, ones, tens, hun, scales, rfl, _⟩ := h
    rfl
  · obtain ⟨p, G, gs, l, m, c, t, o, te, sc, ones, tens, hun, scales, rfl, B, TC, c29, k⟩ := h
    have hr1 : Room 1 _ := hr
    refine ⟨_, pss_mid (ps_par (i := 2) (j := 3) (by rfl) scValue.nd rfl rfl (by decide) rfl rfl (pa_cons (pe_call D.ok hr1 (by rfl) D.g D.k D.b .nil pass0 (pa_cons (pv 0) (pa_cons pe_int pa_nil))) (pa_cons pe_int pa_nil)) (by rfl))
        (pss_cons (ps_if (pt_cmpR op_eq (pv 2) pe_int (nomark _)) (pss_one (ps_ret (pe_call D.ok hr1 (by rfl) D.g D.k D.b .nil pass0 (pa_cons (pv 0) (pa_cons pe_int pa_nil))))) pss_nil)
        (pss_cons (ps_for PassesOwn.never rfl (pi_range1 rfl mR (pa_cons (pe_op op_add (pe_callB call_len_seq (by rfl) mL PySem.boot_len (pa_cons (pe_ix ix_tup (pv 1) pe_int (fun _ _ => rfl)) pa_nil)) pe_int) pa_nil)) (pg_name (i := 4) scValue.nd rfl (.inl rfl))
          (pss_mid (ps_set (i := 5) scValue.nd rfl (.inl rfl) (pe_ix ix_list (pe_lst (pa_cons (pe_call D.ok hr1 (by rfl) D.g D.k D.b .nil pass0 (pa_cons (pv 0) (pa_cons pe_int pa_nil))) (pa_cons (pe_op op_mul (pe_call D.ok hr1 (by rfl) D.g D.k D.b .nil pass0 (pa_cons (pv 0) (pa_cons pe_int pa_nil))) (pe_op op_fdiv (pe_call D.ok hr1 (by rfl) D.g D.k D.b .nil pass0 (pa_cons (pv 0) (pa_cons pe_int pa_nil))) pe_int)) pa_nil))) (pe_op op_mod (pv 2) pe_int) (fun _ _ => rfl)))
        (pss_mid (ps_if (pt_cmpR op_eq (pv 2) pe_int (nomark _)) (pss_one (ps_set (i := 5) scValue.nd rfl (.inl rfl) (pe_ix ix_list (pe_lst (pa_cons pe_int (pa_cons pe_int (pa_cons pe_int (pa_cons pe_int (pa_cons pe_int (pa_cons pe_int (pa_cons pe_int (pa_cons pe_int pa_nil))))))))) (pe_call D.ok hr1 (by rfl) D.g D.k D.b .nil pass0 (pa_cons (pv 0) (pa_cons pe_int pa_nil))) (fun _ _ => rfl)))) pss_nil)
        (pss_one (ps_set (i := 3) scValue.nd rfl (.inl rfl) (pe_op op_add (pe_op op_mul pe_int (pv 3)) (pv 5)))))))
        (pss_one (ps_ret (pv 3))))), ?_⟩
    have big : 1000 < sizeLine := by decide
    have s1000 : (1000 : Int).natAbs < 2 ^ 1000 := Nat.lt_of_le_of_lt (show (1000 : Int).natAbs ≤ 1000 by decide) (by decide)
    have wp := Bg.W_pos scales.length
    have l90 := TC.tab.tb.l3
    refine ⟨fun τ G1 => ∃ (way : Int) (gs1 : List Int) (l1 c1 : Int), τ = [some (.ref p), some (.ref t), some (.int way), some (.int 0), none, none] ∧ 0 ≤ way ∧ way < 4 ∧ SrcAt G1 p G gs1 l1 m c1 ∧ c1 ≤ c + 1 ∧ Kq p G H G1, ?_, ?_⟩
    · refine ⟨_, rfl, p, G, gs, l, m, c, 4, rfl, B, by decide, by decide, by omega, fun way gs1 l1 c1 G1 w0 w1 e1 B1 K1 => ?_⟩
      exact ⟨_, _, rfl, way, gs1, l1, c1, rfl, w0, w1, B1, e1, K1⟩
    rintro τ G1 ⟨way, gs1, l1, c1, rfl, w0, w1, B1, e1, K1⟩
    refine ⟨_, rfl, rfl, _, rfl, ite2 (fun z => ?_) (fun z => ?_)⟩
    · refine ⟨_, rfl, p, G, gs1, l1, m, c1, 1000, rfl, B1, by decide, s1000, by omega, fun n gs2 l2 c2 G2 n0 n1 e2 B2 K2 => ?_⟩
      refine k n gs2 l2 c2 G2 n0 ?_ B2 (by omega) (K1.trans K2)
      rw [Bg.W_succ]
      omega
    have T1 := TC.kq K1
    have wn : way ≠ 3 := fun h => z (decide_eq_true (by rw [h]))
    refine ⟨_, rfl, t, _, _, _, rfl, rfl, SqT.of T1.tab.tb.at_.tup, (rfl : atI [V.ref o, V.ref te, V.str hun, V.ref sc] 3 = some (.ref sc)), sc, _, rfl, .inl (SqL.of T1.tab.tb.at_.ls), _, _, rfl, rfl, ((scales.length + 1 : Nat) : Int), by rw [List.length_map]; rfl, by omega, by omega, ?_⟩
    refine for_range (lo := 0) (n := (((scales.length + 1 : Nat) : Int)).toNat) (fun i σ H2 => ∃ (found : Int) (x4 x5 : Option V) (gs2 : List Int) (l2 c2 : Int), σ = [some (.ref p), some (.ref t), some (.int way), some (.int found), x4, x5] ∧ 0 ≤ found ∧ found < Bg.W i ∧ SrcAt H2 p G gs2 l2 m c2 ∧ c2 ≤ c1 + 4 * (i : Int) ∧ Kq p G H H2) ⟨0, none, none, gs1, l1, c1, rfl, Int.le_refl _, by decide, B1, by omega, K1⟩ ?_ ?_
    · rintro i σ H2 hi ⟨found, x4, x5, gs2, l2, c2, rfl, f0, f1, B2, e2, K2⟩
      -- group
      refine ⟨fun τ G3 => ∃ (g : Int) (gs3 : List Int) (l3 c3 : Int), τ = [some (.ref p), some (.ref t), some (.int way), some (.int found), some (.int (0 + (i : Int))), some (.int g)] ∧ 0 ≤ g ∧ g ≤ 999 ∧ SrcAt G3 p G gs3 l3 m c3 ∧ c3 ≤ c2 + 3 ∧ Kq p G H G3, ?_, ?_⟩
      · refine ⟨_, rfl, p, G, gs2, l2, m, c2, 1000, rfl, B2, by decide, s1000, by omega, fun r1 gs3 l3 c3 G3 r10 r11 e3 B3 K3 => ?_⟩
        refine ⟨_, rfl, p, G, gs3, l3, m, c3, 1000, rfl, B3, by decide, s1000, by omega, fun r2 gs4 l4 c4 G4 r20 r21 e4 B4 K4 => ?_⟩
        refine ⟨_, rfl, p, G, gs4, l4, m, c4, 4, rfl, B4, by decide, by decide, by omega, fun r3 gs5 l5 c5 G5 r30 r31 e5 B5 K5 => ?_⟩
        refine ⟨_, _, rfl, rfl, ⟨by decide, by decide⟩, _, _, rfl, rfl, .inl ⟨by omega, by omega⟩, by show 2 ≤ sizeLine; omega, fun L nL => ?_⟩
        have sL := same_new (x := .lst [.int r1, .int (r2 * (r3 / 3))]) nL
        obtain ⟨g, hg, g0, g9⟩ : ∃ g : Int, atI [V.int r1, V.int (r2 * (r3 / 3))] (way % 2) = some (.int g) ∧ 0 ≤ g ∧ g ≤ 999 := by
          rcases (show way % 2 = 0 ∨ way % 2 = 1 by omega) with h | h
          · exact ⟨r1, by rw [h]; rfl, by omega, by omega⟩
          · refine ⟨r2 * (r3 / 3), by rw [h]; rfl, ?_⟩
            rcases (show r3 / 3 = 0 ∨ r3 / 3 = 1 by omega) with h2 | h2 <;> rw [h2] <;> omega
        refine ⟨_, rfl, _, _, rfl, rfl, (by show (0 : Int) < 2; decide), L, _, _, _, rfl, rfl, SqL.of upd_same, hg, ?_⟩
        exact ⟨g, gs5, l5, c5, rfl, g0, g9, B5.same sL, by omega, (K2.trans (K3.trans (K4.trans K5))).same sL⟩
      rintro τ G3 ⟨g, gs3, l3, c3, rfl, g0, g9, B3, e3, K3⟩
      refine ⟨fun τ G4 => ∃ (g : Int) (gs4 : List Int) (l4 c4 : Int), τ = [some (.ref p), some (.ref t), some (.int way), some (.int found), some (.int (0 + (i : Int))), some (.int g)] ∧ 0 ≤ g ∧ g ≤ 999 ∧ SrcAt G4 p G gs4 l4 m c4 ∧ c4 ≤ c2 + 4 ∧ Kq p G H G4, ?_, ?_⟩
      · refine ⟨_, rfl, rfl, _, rfl, ite2 (fun _ => ?_) (fun _ => ⟨g, gs3, l3, c3, rfl, g0, g9, B3, by omega, K3⟩)⟩
        refine ⟨by show 8 ≤ sizeLine; omega, fun L nL => ?_⟩
        have sL := same_new (x := .lst [.int 0, .int 100, .int 20, .int 7, .int 300, .int 90, .int 15, .int 110]) nL
        have Ln := B3.free nL
        refine ⟨_, rfl, p, G, gs3, l3, m, c3, 8, rfl, B3.same sL, by decide, by decide, by omega, fun r gs4 l4 c4 G4 r0 r1 e4 B4 K4 => ?_⟩
        obtain ⟨g2, hg, h0, h9⟩ : ∃ g : Int, atI [V.int 0, .int 100, .int 20, .int 7, .int 300, .int 90, .int 15, .int 110] r = some (.int g) ∧ 0 ≤ g ∧ g ≤ 999 := by
          rcases (show r = 0 ∨ r = 1 ∨ r = 2 ∨ r = 3 ∨ r = 4 ∨ r = 5 ∨ r = 6 ∨ r = 7 by omega) with rfl | rfl | rfl | rfl | rfl | rfl | rfl | rfl <;> exact ⟨_, rfl, by decide, by decide⟩
        exact ⟨L, _, _, _, rfl, rfl, SqL.of (K4 _ _ upd_same Ln.1 Ln.2), hg, g2, gs4, l4, c4, rfl, h0, h9, B4, by omega, (K3.same sL).trans K4⟩
      rintro τ G4 ⟨g, gs4, l4, c4, rfl, g0, g9, B4, e4, K4⟩
      refine ⟨_, rfl, _, _, rfl, rfl, .inl ⟨by decide, by decide⟩, _, rfl, _, _, rfl, rfl, ?_⟩
      refine ⟨1000 * found + g, _, _, gs4, l4, c4, rfl, by omega, ?_, B4, by omega, K4⟩
      rw [Bg.W_succ]
      omega
    · rintro σ H2 ⟨found, x4, x5, gs2, l2, c2, rfl, f0, f1, B2, e2, K2⟩
      have e : (((scales.length + 1 : Nat) : Int)).toNat = scales.length + 1 := by omega
      rw [e] at f1
      exact ⟨_, rfl, k found gs2 l2 c2 H2 f0 f1 B2 (by omega) K2⟩
end
end LB
set_option Elab.async false
set_option linter.all false
set_option maxRecDepth 100000
set_option maxHeartbeats 4000000
/-! Family C: the words of a number. -/
namespace LB
open PySem L2 Wk
open Bg (Bg Wo)
def spWords : Sp := fun vs H Q _ => ∃ (t o te sc : Addr) (ones tens : List Str) (hun : Str) (scales : List Str) (n : Int), vs = [.ref t, .int n] ∧ Tab H t ones tens hun scales o te sc ∧ 0 ≤ n ∧ n < Bg.W (scales.length + 1) ∧
  ∀ p H', H p = none → Same H H' → H' p = some (.lst ((nmL ones tens hun scales n).map V.str)) → Q (.ref p) H'
section
variable {P : Program} {w : World} {K : PySem.W.Frag} {mg : Str → Option Value} {base : Heap}
theorem scWords : FnScope ["chart", "value", "found", "groups", "spot", "group", "last"] ["chart", "value"] (defScope sWords) := ⟨rfl, rfl, rfl, by decide +kernel, rfl, by decide +kernel, by decide +kernel⟩
theorem ok_words {f : Addr} {fd : FuncData} (F : Fun K "_law_words" "_law_words" sWords f fd) (mR : mg "range" = none) (mL : mg "len" = none) : FnOk P w K mg base CX0 1 f fd ["chart", "value"] spWords := by
  refine F.ok scWords (fun vs H Q E h => ?_) (fun cdv A outer s H vs Q E hr h => ?_)
  · obtain ⟨t, o, te, sc, ones, tens, hun, scales, n, rfl, _⟩ := h
    rfl
  · obtain ⟨t, o, te, sc, ones, tens, hun, scales, n, rfl, TB, n0, n1, k⟩ := h
    refine ⟨_, pss_mid (ps_par (i := 2) (j := 3) (by rfl) scWords.nd rfl rfl (by decide) rfl rfl (pa_cons (pe_lst pa_nil) (pa_cons (pe_lst pa_nil) pa_nil)) (by rfl))
        (pss_cons (ps_while PassesOwn.never (pt_cmpR op_gt (pv 1) pe_int (nomark _)) (pss_cons (ps_expr (pe_bm PySem.F.plainAttrs_list PySem.F.slot_list_append PySem.F.type_list_append mt_append (pv 3) (pa_cons (pe_op op_mod (pv 1) pe_int) pa_nil)))
        (pss_one (ps_set (i := 1) scWords.nd rfl (.inl rfl) (pe_op op_fdiv (pv 1) pe_int)))))
        (pss_cons (ps_for PassesOwn.never rfl (pi_range3 rfl mR (pa_cons (pe_op op_sub (pe_callB call_len_seq (by rfl) mL PySem.boot_len (pa_cons (pv 3) pa_nil)) pe_int) (pa_cons (pe_un un_neg pe_int) (pa_cons (pe_un un_neg pe_int) pa_nil)))) (pg_name (i := 4) scWords.nd rfl (.inl rfl))
          (pss_cons (ps_set (i := 5) scWords.nd rfl (.inl rfl) (pe_ix ix_list (pv 3) (pv 4) (fun _ _ => rfl)))
        (pss_mid (ps_if (pt_cmpR op_gt (pv 5) pe_int (nomark _)) (pss_one (ps_expr (pe_bm PySem.F.plainAttrs_list PySem.F.slot_list_extend PySem.F.type_list_extend mt_extend (pv 2) (pa_cons (pe_lst (pa_cons (pe_ix ix_list (pe_ix ix_tup (pv 0) pe_int (fun _ _ => rfl)) (pe_op op_fdiv (pv 5) pe_int) (fun _ _ => rfl)) (pa_cons (pe_ix ix_tup (pv 0) pe_int (fun _ _ => rfl)) pa_nil))) pa_nil)))) pss_nil)
        (pss_cons (ps_set (i := 6) scWords.nd rfl (.inl rfl) (pe_op op_mod (pv 5) pe_int))
        (pss_mid (ps_if (pt_cmpR op_gt (pv 6) pe_int (nomark _)) (pss_cons (ps_expr (pe_bm PySem.F.plainAttrs_list PySem.F.slot_list_append PySem.F.type_list_append mt_append (pv 2) (pa_cons (pe_ix ix_list (pe_ix ix_tup (pv 0) pe_int (fun _ _ => rfl)) (pe_op op_sub (pe_op op_fdiv (pv 6) pe_int) pe_int) (fun _ _ => rfl)) pa_nil)))
        (pss_one (ps_set (i := 6) scWords.nd rfl (.inl rfl) (pe_op op_mod (pv 6) pe_int)))) pss_nil)
        (pss_mid (ps_if (pt_cmpR op_gt (pv 6) pe_int (nomark _)) (pss_one (ps_expr (pe_bm PySem.F.plainAttrs_list PySem.F.slot_list_append PySem.F.type_list_append mt_append (pv 2) (pa_cons (pe_ix ix_list (pe_ix ix_tup (pv 0) pe_int (fun _ _ => rfl)) (pv 6) (fun _ _ => rfl)) pa_nil)))) pss_nil)
        (pss_one (ps_if (PW.pt (pw_and (pt_cmpR op_gt (pv 5) pe_int (nomark _)) (pw_and1 (pt_cmpR op_gt (pv 4) pe_int (nomark _))))) (pss_one (ps_expr (pe_bm PySem.F.plainAttrs_list PySem.F.slot_list_append PySem.F.type_list_append mt_append (pv 2) (pa_cons (pe_ix ix_list (pe_ix ix_tup (pv 0) pe_int (fun _ _ => rfl)) (pe_op op_sub (pv 4) pe_int) (fun _ _ => rfl)) pa_nil)))) pss_nil))))))))
        (pss_one (ps_ret (pe_ifExp (pt_cmpR (op_neD hr.units) (pv 2) (pe_lst pa_nil) (nomark _)) (pv 2) (pe_lst (pa_cons (pe_ix ix_list (pe_ix ix_tup (pv 0) pe_int (fun _ _ => rfl)) pe_int (fun _ _ => rfl)) pa_nil))))))), ?_⟩
    have big : 1000 < sizeLine := by decide
    have l90 := TB.tb.l3
    have l1 := TB.tb.l1
    have l2 := TB.tb.l2
    -- found, groups
    refine ⟨fun τ G => ∃ p q : Addr, τ = [some (.ref t), some (.int n), some (.ref p), some (.ref q), none, none, none] ∧ H p = none ∧ H q = none ∧ p ≠ q ∧ Same H G ∧ G p = some (.lst []) ∧ G q = some (.lst []), ?_, ?_⟩
    · refine ⟨Nat.zero_le _, fun p np => ⟨Nat.zero_le _, fun q nq => ⟨_, _, rfl, ?_⟩⟩⟩
      have s1 := same_new (x := .lst []) np
      have s2 := same_new (x := .lst []) nq
      exact ⟨p, q, rfl, np, s1.free nq, ne_of_none upd_same nq, s1.trans s2, s2 _ _ upd_same, upd_same⟩
    rintro τ G0 ⟨p, q, rfl, np, nq, pq, s0, hp0, hq0⟩
    refine while_by (fun σ G => ∃ (i : Nat), σ = [some (.ref t), some (.int (n / Bg.W i)), some (.ref p), some (.ref q), none, none, none] ∧ i ≤ scales.length + 1 ∧ (0 < i → Bg.W (i - 1) ≤ n) ∧ Same H G ∧ G p = some (.lst []) ∧ G q = some (.lst ((List.range i).map fun j => V.int (Bg.gr n j))))
      (fun σ _ => match σ with | [_, some (.int x), _, _, _, _, _] => x.toNat | _ => 0) ⟨0, ?_, Nat.zero_le _, fun h => absurd h (by decide), s0, hp0, hq0⟩ ?_ ?_
    · rw [show Bg.W 0 = 1 from rfl, Int.ediv_one]
    · rintro σ G ⟨i, rfl, ik, wi, s1, hp, hq⟩
      refine ⟨_, rfl, _, _, rfl, rfl, _, rfl, ite2 (fun c => ?_) (fun c => ?_)⟩
      · have pos : n / Bg.W i > 0 := of_decide_eq_true c
        have wn : Bg.W i ≤ n := by
          rcases Int.lt_or_le n (Bg.W i) with z | z
          · rw [Int.ediv_eq_zero_of_lt n0 z] at pos
            omega
          · exact z
        have ik' : i < scales.length + 1 := by
          rcases Nat.lt_or_ge i (scales.length + 1) with z | z
          · exact z
          · have := Bg.W_le z
            omega
        refine ⟨_, rfl, .inl ⟨rfl, _, SqL.of hq⟩, _, rfl, _, _, rfl, rfl, (by show (0 : Int) < 1000; decide), q, _, _, rfl, rfl, hq, ?_, ?_⟩
        · rw [List.length_map, List.length_range]
          omega
        refine ⟨_, rfl, _, _, rfl, rfl, ⟨by decide, by decide⟩, ⟨i + 1, by rw [← Bg.div_succ]; rfl, ik', fun _ => wn, fun b o e => ?_, ?_, ?_⟩, ?_⟩
        · rw [upd_ne (ne_of_none e nq)]
          exact s1 _ _ e
        · rw [upd_ne pq]
          exact hp
        · rw [upd_same, List.range_succ, List.map_append]
          rfl
        · show (n / Bg.W i / 1000).toNat < (n / Bg.W i).toNat
          omega
      · have zero : ¬ n / Bg.W i > 0 := fun z => c (decide_eq_true z)
        have lt : n < Bg.W i := by
          rcases Int.lt_or_le n (Bg.W i) with z | z
          · exact z
          · have : 1 ≤ n / Bg.W i := (Int.le_ediv_iff_mul_le (Bg.W_pos i)).mpr (by omega)
            omega
        obtain ⟨v0, hv0⟩ : ∃ v0, v0 = n / Bg.W i := ⟨_, rfl⟩
        have n_i : ((i : Int) - 1 - (-1)).toNat = i := by omega
        refine ⟨_, rfl, q, _, rfl, .inl (SqL.of hq), _, _, rfl, rfl, _, rfl, _, rfl, (i : Int) - 1, -1, -1, ((i : Int) - 1 - (-1)).toNat, by rw [List.length_map, List.length_range], RgC.neg (by omega) (by omega) (by omega) (by omega), ?_⟩
        obtain ⟨f, hw⟩ : ∃ f, f = wd ones tens hun scales := ⟨_, rfl⟩
        have f1 : ∀ {n : Int}, 0 ≤ n → n < 20 → atI (ones.map V.str) n = some (.str (f (.low n))) := fun h0 h1 => by rw [hw]; exact wd_one l1 h0 h1
        have f2 : ∀ {k : Int}, 2 ≤ k → k ≤ 9 → atI (tens.map V.str) (k - 2) = some (.str (f (.low (10 * k)))) := fun h0 h1 => by rw [hw]; exact wd_ten l2 h0 h1
        have f3 : hun = f .hun := by rw [hw]; rfl
        have f4 : ∀ {i : Nat}, i < scales.length → atI (scales.map V.str) (i : Int) = some (.str (f (.sc i))) := fun h => by rw [hw]; exact wd_sc h
        have tup : ∀ {G : Hp}, Same H G → SqT K G t [.ref o, .ref te, .str hun, .ref sc] := fun s => SqT.of (s _ _ TB.tb.at_.tup)
        have a0 : atI [V.ref o, V.ref te, V.str hun, V.ref sc] 0 = some (.ref o) := rfl
        have a1 : atI [V.ref o, V.ref te, V.str hun, V.ref sc] 1 = some (.ref te) := rfl
        have a2 : atI [V.ref o, V.ref te, V.str hun, V.ref sc] 2 = some (.str hun) := rfl
        have a3 : atI [V.ref o, V.ref te, V.str hun, V.ref sc] 3 = some (.ref sc) := rfl
        refine for_rangeC (lo := (i : Int) - 1) (c := -1) (n := ((i : Int) - 1 - (-1)).toNat) (fun j σ G => ∃ x4 x5 x6 : Option V, σ = [some (.ref t), some (.int (n / Bg.W i)), some (.ref p), some (.ref q), x4, x5, x6] ∧ Same H G ∧ G p = some (.lst (((Bg.accW n i j).map f).map V.str)) ∧ G q = some (.lst ((List.range i).map fun j => V.int (Bg.gr n j)))) ⟨none, none, none, rfl, s1, hp, hq⟩ ?_ ?_
        · rintro j σ G ji ⟨x4, x5, x6, rfl, s3, hp3, hq3⟩
          rw [n_i] at ji
          have ea : ((i : Int) - 1 + (j : Nat) * (-1) : Int) = ((i - 1 - j : Nat) : Int) := by omega
          rw [ea]
          obtain ⟨mm, hm⟩ : ∃ mm, mm = i - 1 - j := ⟨_, rfl⟩
          rw [← hm]
          have mi : mm < i := by omega
          have at_ : atI ((List.range i).map fun j => V.int (Bg.gr n j)) (mm : Int) = some (.int (Bg.gr n mm)) := atI_nat (by rw [List.getElem?_map, List.getElem?_range mi]; rfl)
          obtain ⟨g0, g9⟩ := Bg.gr_bnd n mm
          have part : Bg.accW n i (j + 1) = Bg.accW n i j ++ Bg.partW n mm := by
            show Bg.accW n i j ++ Bg.partW n (i - 1 - j) = _
            rw [hm]
          have la := Bg.accW_len n i j
          have j100 : j < 100 := by omega
          generalize hacc : Bg.accW n i j = acc at hp3 part la
          unfold Bg.partW at part
          generalize hg : Bg.gr n mm = g at g0 g9 part at_
          have lg := @Bg.groupW_len g
          -- what holds between
          let St : List Wo → Option V → L2.St → Hp → Prop := fun ws e τ G2 => τ = [some (.ref t), some (.int (n / Bg.W i)), some (.ref p), some (.ref q), some (.int (mm : Int)), some (.int g), e] ∧ Same H G2 ∧ G2 p = some (.lst (((acc ++ ws).map f).map V.str)) ∧ G2 q = some (.lst ((List.range i).map fun j => V.int (Bg.gr n j)))
          have put : ∀ {ws : List Wo} {G2 : Hp} {x : Wo}, Same H G2 → G2 p = some (.lst (((acc ++ ws).map f).map V.str)) → G2 q = some (.lst ((List.range i).map fun j => V.int (Bg.gr n j))) → Same H (upd G2 p (.lst (((acc ++ ws).map f).map V.str ++ [.str (f x)]))) ∧ (upd G2 p (.lst (((acc ++ ws).map f).map V.str ++ [.str (f x)]))) p = some (.lst (((acc ++ (ws ++ [x])).map f).map V.str)) ∧ (upd G2 p (.lst (((acc ++ ws).map f).map V.str ++ [.str (f x)]))) q = some (.lst ((List.range i).map fun j => V.int (Bg.gr n j))) := by
            intro ws G2 x s hp hq
            refine ⟨fun b o e => ?_, ?_, ?_⟩
            · rw [upd_ne (ne_of_none e np)]
              exact s _ _ e
            · rw [upd_same]
              simp only [List.map_append, List.append_assoc]
              rfl
            · rw [upd_ne pq.symm]
              exact hq
          refine ⟨_, rfl, _, rfl, q, _, _, _, rfl, rfl, SqL.of hq3, at_, ?_⟩
          refine ⟨St (if g / 100 > 0 then [.low (g / 100), .hun] else []) x6, ?_, ?_⟩
          · refine ⟨_, rfl, _, _, rfl, rfl, _, rfl, ite2 (fun c => ?_) (fun c => ?_)⟩
            · have c' : g > 99 := of_decide_eq_true c
              refine ⟨_, rfl, .inl ⟨rfl, _, SqL.of hp3⟩, _, rfl, t, _, _, _, rfl, rfl, tup s3, a0, _, rfl, _, _, rfl, rfl, ⟨by decide, by decide⟩, o, _, _, _, rfl, rfl, SqL.of (s3 _ _ TB.tb.at_.lo), f1 (by omega) (by omega), _, rfl, t, _, _, _, rfl, rfl, tup s3, a2, by show 2 ≤ sizeLine; omega, fun L nL => ?_⟩
              have sL := same_new (x := .lst [.str (f (.low (g / 100))), .str hun]) nL
              refine ⟨p, L, _, _, rfl, rfl, sL _ _ hp3, upd_same, by rw [List.length_map, List.length_map]; show acc.length + 2 ≤ sizeLine; omega, rfl, fun b o e => ?_, ?_, ?_⟩
              · rw [upd_ne (ne_of_none e np)]
                exact sL _ _ (s3 _ _ e)
              · rw [upd_same, if_pos (by omega), List.map_append, List.map_append, f3]
                rfl
              · rw [upd_ne pq.symm]
                exact sL _ _ hq3
            · have c' : ¬ g > 99 := fun z => c (decide_eq_true z)
              refine ⟨rfl, s3, ?_, hq3⟩
              rw [if_neg (by omega), List.append_nil]
              exact hp3
          rintro τ G1 ⟨rfl, s4, hp4, hq4⟩
          refine ⟨_, rfl, _, _, rfl, rfl, (by show (0 : Int) < 100; decide), ?_⟩
          refine ⟨St ((if g / 100 > 0 then [.low (g / 100), .hun] else []) ++ (if g % 100 ≥ 20 then [.low (10 * (g % 100 / 10))] else [])) (some (.int (if g % 100 ≥ 20 then g % 100 % 10 else g % 100))), ?_, ?_⟩
          · refine ⟨_, rfl, _, _, rfl, rfl, _, rfl, ite2 (fun c => ?_) (fun c => ?_)⟩
            · have c' : g % 100 > 19 := of_decide_eq_true c
              obtain ⟨p1, p2, p3⟩ := put (x := .low (10 * (g % 100 / 10))) s4 hp4 hq4
              refine ⟨_, rfl, .inl ⟨rfl, _, SqL.of hp4⟩, _, rfl, t, _, _, _, rfl, rfl, tup s4, a1, _, rfl, _, _, rfl, rfl, ⟨by decide, by decide⟩, _, _, rfl, rfl, te, _, _, _, rfl, rfl, SqL.of (s4 _ _ TB.tb.at_.lt), f2 (by omega) (by omega), p, _, _, rfl, rfl, hp4, ?_, ?_⟩
              · rw [List.length_map, List.length_map, List.length_append]
                split <;> (show _ < sizeLine; simp; omega)
              · refine ⟨_, rfl, _, _, rfl, rfl, (by show (0 : Int) < 10; decide), ?_, p1, ?_, p3⟩
                · rw [if_pos (by omega)]
                  rfl
                · rw [if_pos (by omega : g % 100 ≥ 20)]
                  exact p2
            · have c' : ¬ g % 100 > 19 := fun z => c (decide_eq_true z)
              refine ⟨?_, s4, ?_, hq4⟩
              · rw [if_neg (by omega)]
                rfl
              · rw [if_neg (by omega : ¬ g % 100 ≥ 20), List.append_nil]
                exact hp4
          rintro τ G2 ⟨rfl, s5, hp5, hq5⟩
          have whole : Bg.groupW g = ((if g / 100 > 0 then [.low (g / 100), .hun] else []) ++ (if g % 100 ≥ 20 then [.low (10 * (g % 100 / 10))] else [])) ++ (if (if g % 100 ≥ 20 then g % 100 % 10 else g % 100) > 0 then [.low (if g % 100 ≥ 20 then g % 100 % 10 else g % 100)] else []) := by
            unfold Bg.groupW
            rw [List.append_assoc]
            congr 1
            by_cases z : g % 100 ≥ 20
            · rw [if_pos z, if_pos z, if_pos z]
              rfl
            · rw [if_neg z, if_neg z, if_neg z]
              rfl
          obtain ⟨le, hle⟩ : ∃ le, le = (if g % 100 ≥ 20 then g % 100 % 10 else g % 100) := ⟨_, rfl⟩
          rw [← hle] at whole
          refine ⟨St (Bg.groupW g) (some (.int (if g % 100 ≥ 20 then g % 100 % 10 else g % 100))), ?_, ?_⟩
          · rw [← hle]
            have e1 : 0 ≤ le ∧ le < 20 := by
              rw [hle]
              split <;> omega
            refine ⟨_, rfl, _, _, rfl, rfl, _, rfl, ite2 (fun c => ?_) (fun c => ?_)⟩
            · have c' : le > 0 := of_decide_eq_true c
              obtain ⟨p1, p2, p3⟩ := put (x := .low le) s5 hp5 hq5
              refine ⟨_, rfl, .inl ⟨rfl, _, SqL.of hp5⟩, _, rfl, t, _, _, _, rfl, rfl, tup s5, a0, _, rfl, o, _, _, _, rfl, rfl, SqL.of (s5 _ _ TB.tb.at_.lo), f1 e1.1 e1.2, p, _, _, rfl, rfl, hp5, ?_, rfl, p1, ?_, p3⟩
              · rw [List.length_map, List.length_map, List.length_append, List.length_append]
                have b1 : (if g / 100 > 0 then [Wo.low (g / 100), Wo.hun] else []).length ≤ 2 := by split <;> simp
                have b2 : (if g % 100 ≥ 20 then [Wo.low (10 * (g % 100 / 10))] else []).length ≤ 1 := by split <;> simp
                omega
              · rw [whole, if_pos c']
                exact p2
            · have c' : ¬ le > 0 := fun z => c (decide_eq_true z)
              refine ⟨rfl, s5, ?_, hq5⟩
              rw [whole, if_neg c', List.append_nil]
              exact hp5
          rintro τ G3 ⟨rfl, s6, hp6, hq6⟩
          refine ⟨_, rfl, _, _, rfl, rfl, _, rfl, ite2 (fun c1 => ?_) (fun c1 => ?_)⟩
          · have c1' : g > 0 := of_decide_eq_true c1
            refine ⟨_, rfl, _, _, rfl, rfl, _, rfl, ite2 (fun c2 => ?_) (fun c2 => ?_)⟩
            · have c2' : (mm : Int) > 0 := of_decide_eq_true c2
              have em : (mm : Int) - 1 = ((mm - 1 : Nat) : Int) := by omega
              obtain ⟨p1, p2, p3⟩ := put (x := .sc (mm - 1)) s6 hp6 hq6
              refine ⟨_, rfl, .inl ⟨rfl, _, SqL.of hp6⟩, _, rfl, t, _, _, _, rfl, rfl, tup s6, a3, _, rfl, _, _, rfl, rfl, sc, _, _, _, rfl, rfl, SqL.of (s6 _ _ TB.tb.at_.ls), by rw [em]; exact f4 (by omega), p, _, _, rfl, rfl, hp6, ?_, _, _, _, rfl, p1, ?_, p3⟩
              · rw [List.length_map, List.length_map, List.length_append]
                omega
              · rw [part, if_pos c1', if_pos (by omega)]
                exact p2
            · have c2' : ¬ (mm : Int) > 0 := fun z => c2 (decide_eq_true z)
              refine ⟨_, _, _, rfl, s6, ?_, hq6⟩
              rw [part, if_pos c1', if_neg (by omega), List.append_nil]
              exact hp6
          · have c1' : ¬ g > 0 := fun z => c1 (decide_eq_true z)
            have gz : g = 0 := by omega
            refine ⟨_, _, _, rfl, s6, ?_, hq6⟩
            rw [part, if_neg c1']
            rw [gz] at hp6
            exact hp6
        · rintro σ G ⟨x4, x5, x6, rfl, s3, hp3, hq3⟩
          rw [n_i] at hp3
          refine ⟨_, rfl, Nat.zero_le _, fun e ne => ?_⟩
          have se := same_new (x := .lst []) ne
          have low := wds_shaped (names_low (ones := ones) (tens := tens) (hun := hun) (scales := scales) TB.good (Bg.accW n i i))
          rw [← hw] at low
          refine ⟨_, _, .lst (SqL.of (se _ _ hp3)) (wds_dp _), .lst (SqL.of upd_same) .nil, low, by decide, _, rfl, ?_⟩
          rw [wds_eqv]
          by_cases hn : n = 0
          · have i0 : i = 0 := by
              rcases Nat.eq_zero_or_pos i with h | h
              · exact h
              · have := wi h
                have := Bg.W_pos (i - 1)
                omega
            rw [i0]
            refine iteF ⟨_, rfl, t, _, _, _, rfl, rfl, tup (s3.trans se), a0, o, _, _, _, rfl, rfl, SqL.of (se _ _ (s3 _ _ TB.tb.at_.lo)), f1 (Int.le_refl 0) (by decide), by show 1 ≤ sizeLine; omega, fun P nP => ?_⟩
            refine k P _ (s3.free (se.free nP)) (s3.trans (se.trans (same_new nP))) ?_
            rw [upd_same, hn, hw]
            rfl
          · have e : (Bg.accW n i i).map f = nmL ones tens hun scales n := by
              rw [Bg.accW_all, hw]
              unfold nmL Bg.nameW
              rw [if_neg hn, Bg.spW_any n0 lt ik]
            have ne0 : ((Bg.accW n i i).map f).isEmpty = false := by
              rw [e, List.isEmpty_eq_false_iff]
              exact nm_ne n0 n1
            rw [ne0]
            refine iteT ⟨_, rfl, k p _ np (s3.trans se) ?_⟩
            rw [← e]
            exact se _ _ hp3
    · rintro σ G Q1 Q2 m ⟨x1, h1, i, j, hi, hj, y, hy, q⟩
      exact ⟨x1, h1, i, j, hi, hj, y, hy, m _ _ q⟩
end
end LB
set_option Elab.async false
set_option linter.all false
set_option maxRecDepth 100000
set_option maxHeartbeats 4000000
/-! Family C: the letters of names. -/
namespace Wk
open PySem PySem.Spec PyProof.Rows L2
theorem pe_callK0 {X : Cx} {CX : CXT} {k : Nat} {f : Addr} {fd : FuncData} {ps ks : List Str} {sp : Sp} {E : XK} {x : Str} {p pos : Pos} {kws : List Keyword} {tk : TA} {g : List Value → List Value → List Value} {gV : List V → List V → List V} (F : FnOk X.prog X.w X.K X.mg X.base CX k f fd ps sp) (hr : Room k X.A) (hg : Gl X x) (hm : X.mg x = some (.ref f)) (hk : PySem.W.keepIn X.K (.ref f) = true) (hb : KBn X.K fd ps 0 ks g gV) (hx : Passes CX X E)
    (hkw : PK X kws tk) (hall : (backToKw pos (keywordEach kws X.env)).all (·.1.isSome) = true := by rfl) (hks : (backToKw pos (keywordEach kws X.env)).filterMap (·.1) = ks := by rfl)
    (hdb : (x == ("__debug__" : Str)) = false := by decide) (hpl : ((backTo pos (starEach [] X.env)).any (·.1) || (backToKw pos (keywordEach kws X.env)).any (·.1.isNone)) = false := by rfl) :
    PE X (.Call (.Name x p) [] kws pos) (tCallKS ks.length sp gV (fun _ => E) tk) :=
  pe_callKS (E := fun _ => E) F hr hg hm hk hb (fun σ pins H s e s' I h => hx pins σ H s e s' I h) hkw hall hks hdb hpl
end Wk
namespace LB
open PySem L2 Wk
open Bg (Bg Wo)
/-- the letters of a name -/
def lettersN (ones tens : List Str) (hun : Str) (scales : List Str) (n : Int) : Int := ((nmL ones tens hun scales n).map fun w => ((w.length : Nat) : Int)).sum
def spLetters : Sp := fun vs H Q _ => ∃ (t o te sc : Addr) (ones tens : List Str) (hun : Str) (scales : List Str) (n : Int), vs = [.ref t, .int n] ∧ Tab H t ones tens hun scales o te sc ∧ 0 ≤ n ∧ n < Bg.W (scales.length + 1) ∧
  ∀ H', Same H H' → Q (.int (lettersN ones tens hun scales n)) H'
section
variable {P : Program} {w : World} {K : PySem.W.Frag} {mg : Str → Option Value} {base : Heap}
theorem sc_letof : FnScope ["table", "number", "word"] ["table", "number"] (defScope sLettersOf) := ⟨rfl, rfl, rfl, by decide +kernel, rfl, by decide +kernel, by decide +kernel⟩
theorem ok_letof {f fS : Addr} {fd dS : FuncData} (F : Fun K "_letters_of" "_letters_of" sLettersOf f fd) (S : Def1 P w K mg base "spelled" 2 fS dS ["table", "number"] spSpelled) (mL : mg "len" = none) (mU : mg "sum" = none) : FnOk P w K mg base CX0 3 f fd ["table", "number"] spLetters := by
  refine F.ok sc_letof (fun vs H Q E h => ?_) (fun cdv A outer s H vs Q E hr h => ?_)
  · obtain ⟨t, o, te, sc, ones, tens, hun, scales, n, rfl, _⟩ := h
    rfl
  · obtain ⟨t, o, te, sc, ones, tens, hun, scales, n, rfl, TB, n0, n1, k⟩ := h
    refine ⟨_, pss_one (ps_ret (pe_callB (cr_sum rfl) (by rfl) mU (by decide +kernel) (pa_cons (pe_lc (own := [("word", 2)]) (g := gName 2) rfl sc_letof.nd (pi_list (pe_call S.ok hr (by rfl) S.g S.k S.b .nil pass0 (pa_cons (pv 0) (pa_cons (pv 1) pa_nil)))) (blkOk_by (own := [("word", 2)]) (N := ["table", "number", "word"]) (sc := defScope sLettersOf) (by decide +kernel)) (fun _ _ _ _ _ => pg_name (i := 2) sc_letof.nd rfl (Or.inl rfl)) (fun _ _ _ _ _ => pts_nil) (fun _ _ _ _ _ => pe_callB call_len_str (by rfl) mL PySem.boot_len (pa_cons (pv 2) pa_nil))) pa_nil))), ?_⟩
    have big : 1000 < sizeLine := by decide
    refine ⟨_, rfl, _, rfl, t, o, te, sc, ones, tens, hun, scales, n, rfl, TB.tb.at_, TB.tb.l1, TB.tb.l2, TB.tb.l3, n0, n1, fun p H1 np s1 hp => ?_⟩
    obtain ⟨ws, hws⟩ : ∃ ws, ws = nmL ones tens hun scales n := ⟨_, rfl⟩
    have hp' : H1 p = some (.lst (ws.map V.str)) := by rw [hws]; exact hp
    have good : ∀ x ∈ ws, GoodWord x := by rw [hws]; exact nm_good TB.good n
    have l90 := TB.tb.l3
    have lw : ws.length < 1000 := by rw [hws]; exact Nat.lt_of_le_of_lt (nm_len n) (by omega)
    refine ⟨p, rfl, ⟨_, SqL.of hp'⟩, fun D nD => ?_⟩
    have pD : p ≠ D := ne_of_none hp' nD
    have sD := same_new (x := .lst []) nD
    refine lc_list (K := K) (a := p) (xs := ws.map V.str) (fun i G => Same H1 G ∧ G D = some (.lst ((ws.take i).map fun w => V.int ((w.length : Nat) : Int)))) ⟨sD, upd_same⟩ (fun i G _ h => SqL.of (h.1 _ _ hp')) ?_ ?_
    · rintro i x G hi ⟨s2, hD⟩
      obtain ⟨z, hz, rfl⟩ := str_at hi
      have g := good z (List.mem_of_getElem? hz)
      refine ⟨rfl, _, rfl, z, rfl, by have := g.2.1; omega, ?_⟩
      refine ⟨_, hD, by rw [List.length_map, List.length_take]; omega, fun b ob e => ?_, ?_⟩
      · rw [upd_ne (ne_of_none e nD)]
        exact s2 _ _ e
      · rw [upd_same, List.take_add_one, hz, List.map_append]
        rfl
    · rintro G ⟨s2, hD⟩
      rw [List.length_map, List.take_length] at hD
      refine ⟨D, ws.map fun w => ((w.length : Nat) : Int), rfl, SqL.of (by rw [hD, List.map_map]; rfl), ?_⟩
      rw [hws]
      exact k _ (s1.trans s2)
theorem sc_llet : FnScope ["chart", "value", "word"] ["chart", "value"] (defScope sLetters) := ⟨rfl, rfl, rfl, by decide +kernel, rfl, by decide +kernel, by decide +kernel⟩
theorem ok_llet {f fS : Addr} {fd dS : FuncData} (F : Fun K "_law_letters" "_law_letters" sLetters f fd) (S : Def1 P w K mg base "_law_words" 1 fS dS ["chart", "value"] spWords) (mL : mg "len" = none) (mU : mg "sum" = none) : FnOk P w K mg base CX0 2 f fd ["chart", "value"] spLetters := by
  refine F.ok sc_llet (fun vs H Q E h => ?_) (fun cdv A outer s H vs Q E hr h => ?_)
  · obtain ⟨t, o, te, sc, ones, tens, hun, scales, n, rfl, _⟩ := h
    rfl
  · obtain ⟨t, o, te, sc, ones, tens, hun, scales, n, rfl, TB, n0, n1, k⟩ := h
    refine ⟨_, pss_one (ps_ret (pe_callB (cr_sum rfl) (by rfl) mU (by decide +kernel) (pa_cons (pe_lc (own := [("word", 2)]) (g := gName 2) rfl sc_llet.nd (pi_list (pe_call S.ok hr (by rfl) S.g S.k S.b .nil pass0 (pa_cons (pv 0) (pa_cons (pv 1) pa_nil)))) (blkOk_by (own := [("word", 2)]) (N := ["chart", "value", "word"]) (sc := defScope sLetters) (by decide +kernel)) (fun _ _ _ _ _ => pg_name (i := 2) sc_llet.nd rfl (Or.inl rfl)) (fun _ _ _ _ _ => pts_nil) (fun _ _ _ _ _ => pe_callB call_len_str (by rfl) mL PySem.boot_len (pa_cons (pv 2) pa_nil))) pa_nil))), ?_⟩
    have big : 1000 < sizeLine := by decide
    refine ⟨_, rfl, _, rfl, t, o, te, sc, ones, tens, hun, scales, n, rfl, TB, n0, n1, fun p H1 np s1 hp => ?_⟩
    obtain ⟨ws, hws⟩ : ∃ ws, ws = nmL ones tens hun scales n := ⟨_, rfl⟩
    have hp' : H1 p = some (.lst (ws.map V.str)) := by rw [hws]; exact hp
    have good : ∀ x ∈ ws, GoodWord x := by rw [hws]; exact nm_good TB.good n
    have l90 := TB.tb.l3
    have lw : ws.length < 1000 := by rw [hws]; exact Nat.lt_of_le_of_lt (nm_len n) (by omega)
    refine ⟨p, rfl, ⟨_, SqL.of hp'⟩, fun D nD => ?_⟩
    have pD : p ≠ D := ne_of_none hp' nD
    have sD := same_new (x := .lst []) nD
    refine lc_list (K := K) (a := p) (xs := ws.map V.str) (fun i G => Same H1 G ∧ G D = some (.lst ((ws.take i).map fun w => V.int ((w.length : Nat) : Int)))) ⟨sD, upd_same⟩ (fun i G _ h => SqL.of (h.1 _ _ hp')) ?_ ?_
    · rintro i x G hi ⟨s2, hD⟩
      obtain ⟨z, hz, rfl⟩ := str_at hi
      have g := good z (List.mem_of_getElem? hz)
      refine ⟨rfl, _, rfl, z, rfl, by have := g.2.1; omega, ?_⟩
      refine ⟨_, hD, by rw [List.length_map, List.length_take]; omega, fun b ob e => ?_, ?_⟩
      · rw [upd_ne (ne_of_none e nD)]
        exact s2 _ _ e
      · rw [upd_same, List.take_add_one, hz, List.map_append]
        rfl
    · rintro G ⟨s2, hD⟩
      rw [List.length_map, List.take_length] at hD
      refine ⟨D, ws.map fun w => ((w.length : Nat) : Int), rfl, SqL.of (by rw [hD, List.map_map]; rfl), ?_⟩
      rw [hws]
      exact k _ (s1.trans s2)
end
end LB
set_option Elab.async false
set_option linter.all false
set_option maxRecDepth 100000
set_option maxHeartbeats 4000000
/-! Rings, the program's own. -/
namespace LB
open PySem L2 Wk
open Bg (Bg Wo)
/-- the letters of a name, as a step -/
def fL (ones tens : List Str) (hun : Str) (scales : List Str) (n : Nat) : Nat := (lettersN ones tens hun scales (n : Int)).toNat
theorem fL_eq (ones tens : List Str) (hun : Str) (scales : List Str) (n : Nat) : lettersN ones tens hun scales (n : Int) = (fL ones tens hun scales n : Int) := by
  unfold fL
  rw [Int.toNat_of_nonneg]
  unfold lettersN
  have key : ∀ l : List Int, (∀ x ∈ l, 0 ≤ x) → 0 ≤ l.sum := by
    intro l
    induction l with
    | nil => intro _; exact Int.le_refl _
    | cons x l ih =>
      intro h
      have a := h x List.mem_cons_self
      have b := ih fun y hy => h y (List.mem_cons_of_mem _ hy)
      rw [List.sum_cons]
      omega
  refine key _ fun x hx => ?_
  obtain ⟨w, _, rfl⟩ := List.mem_map.mp hx
  exact Int.natCast_nonneg _
theorem fL_lt {ones tens : List Str} {hun : Str} {scales : List Str} (g : GoodRow (ones ++ (tens ++ hun :: scales))) (n : Nat) : fL ones tens hun scales n ≤ 100 * (scales.length + 1) + 20 := by
  have key : ∀ (l : List Str), (∀ x ∈ l, x.length ≤ 20) → (l.map fun w => ((w.length : Nat) : Int)).sum ≤ 20 * (l.length : Int) := by
    intro l
    induction l with
    | nil => intro _; exact Int.le_refl _
    | cons x l ih =>
      intro h
      have a := h x List.mem_cons_self
      have b := ih fun y hy => h y (List.mem_cons_of_mem _ hy)
      rw [List.map_cons, List.sum_cons, List.length_cons]
      omega
  have a := key (nmL ones tens hun scales n) fun x hx => (nm_good g n x hx).2.1
  have b := nm_len (ones := ones) (tens := tens) (hun := hun) (scales := scales) (n : Int)
  have c : lettersN ones tens hun scales (n : Int) ≤ 20 * ((nmL ones tens hun scales n).length : Int) := a
  unfold fL
  omega
theorem W_far (k : Nat) : (100 * (k + 1) + 20 : Int) < Bg.W (k + 1) := by
  induction k with
  | zero => decide
  | succ k ih =>
    rw [Bg.W_succ]
    omega
theorem fL_W {ones tens : List Str} {hun : Str} {scales : List Str} (g : GoodRow (ones ++ (tens ++ hun :: scales))) (n : Nat) : (fL ones tens hun scales n : Int) < Bg.W (scales.length + 1) := by
  have a := fL_lt g n
  have b := W_far scales.length
  omega
theorem itf_W {ones tens : List Str} {hun : Str} {scales : List Str} (g : GoodRow (ones ++ (tens ++ hun :: scales))) {n : Nat} (h : (n : Int) < Bg.W (scales.length + 1)) : ∀ i, (itf (fL ones tens hun scales) i n : Int) < Bg.W (scales.length + 1)
  | 0 => h
  | i + 1 => fL_W g _
def intsN (l : List Nat) : List V := l.map fun n : Nat => V.int (n : Int)
def spRingF : Sp := fun vs H Q _ => ∃ (t o te sc : Addr) (ones tens : List Str) (hun : Str) (scales : List Str) (n p : Nat), vs = [.ref t, .int (n : Int)] ∧ Tab H t ones tens hun scales o te sc ∧ (n : Int) < Bg.W (scales.length + 1) ∧ Per (fL ones tens hun scales) n p ∧ p ≤ 100000 ∧
  ∀ q H', H q = none → Same H H' → H' q = some (.lst (intsN (ringN (fL ones tens hun scales) p n))) → Q (.ref q) H'
section
variable {P : Program} {w : World} {K : PySem.W.Frag} {mg : Str → Option Value} {base : Heap}
end
end LB
set_option Elab.async false
set_option linter.all false
set_option maxRecDepth 100000
set_option maxHeartbeats 4000000
/-! Rings, the program's own: where counting leads. -/
namespace LB
open PySem L2 Wk
open Bg (Bg Wo)
/-- l is the ring into which counting from n leads, from its least number on -/
def RingOf (g : Nat → Nat) (n : Nat) (l : List Nat) : Prop := ∃ m j k, j < m ∧ itf g m n = itf g j n ∧ (∀ a b, a < b → b < m → itf g a n ≠ itf g b n) ∧ k < m - j ∧ (∀ i, i < m - j → itf g k (itf g j n) ≤ itf g i (itf g j n)) ∧ l = ringN g (m - j) (itf g k (itf g j n))
theorem RingOf.one {g : Nat → Nat} {n : Nat} {l l' : List Nat} (h : RingOf g n l) (h' : RingOf g n l') : l = l' := by
  obtain ⟨m, j, k, jm, e, d, kp, le, rfl⟩ := h
  obtain ⟨m', j', k', jm', e', d', kp', le', rfl⟩ := h'
  obtain ⟨rfl, rfl⟩ := rep_one jm e d jm' e' d'
  have a := le k' kp'
  have b := le' k kp
  rw [show itf g k (itf g j n) = itf g k' (itf g j n) by omega]
theorem putK_new {kvs : List (Key × V)} {k : Key} {v : V} (h : valV kvs k = none) : (putK kvs k v).length = kvs.length + 1 := by
  unfold putK
  have n : ¬ (kvs.any fun kv => decide (kv.1 = k)) = true := by
    rw [valV_any, h]
    exact Bool.false_ne_true
  rw [if_neg n, List.length_append]
  rfl
def spRing : Sp := fun vs H Q _ => ∃ (t o te sc : Addr) (ones tens : List Str) (hun : Str) (scales : List Str) (n : Nat), vs = [.ref t, .int (n : Int)] ∧ Tab H t ones tens hun scales o te sc ∧ (n : Int) < Bg.W (scales.length + 1) ∧
  ∀ q H' l, H q = none → Same H H' → RingOf (fL ones tens hun scales) n l → H' q = some (.lst (intsN l)) → Q (.ref q) H'
section
variable {P : Program} {w : World} {K : PySem.W.Frag} {mg : Str → Option Value} {base : Heap}
end
end LB
set_option Elab.async false
set_option linter.all false
set_option maxRecDepth 100000
set_option maxHeartbeats 4000000
/-! Rings, the law's own: where counting leads. -/
namespace LB
open PySem L2 Wk
open Bg (Bg Wo)
theorem inV_intsR (n : Int) : ∀ ns : List Int, inV (.int n) (ns.map V.int) = decide (n ∈ ns)
  | [] => rfl
  | m :: ns => by
    have ih := inV_intsR n ns
    unfold inV at ih ⊢
    rw [List.map_cons, List.any_cons, ih]
    show ((m == n) || decide (n ∈ ns)) = _
    by_cases h : n = m
    · subst h
      simp
    · have h2 : (m == n) = false := beq_false_of_ne (fun z => h z.symm)
      rw [h2, Bool.false_or]
      simp [h]
theorem flat_intsR : ∀ ns : List Int, (ns.map V.int).all flatV = true
  | [] => rfl
  | m :: ns => by
    rw [List.map_cons, List.all_cons, flat_intsR ns]
    rfl
theorem flat_intsN (l : List Nat) : (intsN l).all flatV = true := by
  have e : intsN l = (l.map fun n : Nat => (n : Int)).map V.int := by
    rw [List.map_map]
    rfl
  rw [e, flat_intsR]
theorem inV_intsN (n : Nat) (l : List Nat) : inV (.int (n : Int)) (intsN l) = decide (n ∈ l) := by
  have e : intsN l = (l.map fun n : Nat => (n : Int)).map V.int := by
    rw [List.map_map]
    rfl
  rw [e, inV_intsR]
  congr 1
  refine propext ⟨fun h => ?_, fun h => List.mem_map.mpr ⟨n, h, rfl⟩⟩
  obtain ⟨m, hm, e⟩ := List.mem_map.mp h
  rw [show n = m by omega]
  exact hm
theorem intsN_at {l : List Nat} {i x : Nat} (h : l[i]? = some x) : (intsN l)[i]? = some (.int (x : Int)) := by
  unfold intsN
  rw [List.getElem?_map, h]
  rfl
theorem eqV_int (a b : Nat) : eqV (.int (a : Int)) (.int (b : Int)) = decide (a = b) := by
  show ((a : Int) == (b : Int)) = _
  by_cases h : a = b
  · subst h
    simp
  · rw [decide_eq_false h]
    exact beq_false_of_ne fun z => h (Int.ofNat.inj z)
theorem ringN_drop {g : Nat → Nat} {M n j : Nat} (h : j ≤ M) : (ringN g M n).drop j = ringN g (M - j) (itf g j n) := by
  refine List.ext_getElem? fun i => ?_
  rw [List.getElem?_drop]
  rcases Nat.lt_or_ge i (M - j) with c | c
  · rw [ringN_at (by omega), ringN_at c, itf_add]
  · rw [List.getElem?_eq_none (by rw [ringN_len]; omega), List.getElem?_eq_none (by rw [ringN_len]; exact c)]
theorem cut_from (l : List Nat) (k : Nat) : cutV (intsN l) (some (k : Int)) none = intsN (l.drop k) := by
  unfold cutV
  rw [HT.sIx_nat, HT.sIx_none]
  unfold intsN
  rw [List.map_drop, List.take_of_length_le (by rw [List.length_drop]; exact Nat.le_refl _)]
  rcases Nat.le_total k (l.map fun n : Nat => V.int (n : Int)).length with h | h
  · rw [Nat.min_eq_left h]
  · rw [Nat.min_eq_right h, List.drop_of_length_le h, List.drop_of_length_le (Nat.le_refl _)]
theorem cut_to (l : List Nat) (k : Nat) : cutV (intsN l) none (some (k : Int)) = intsN (l.take k) := by
  unfold cutV
  rw [HT.sIx_none, HT.sIx_nat, List.drop_zero, Nat.sub_zero]
  unfold intsN
  rw [List.map_take, List.take_eq_take_iff]
  omega
theorem upd_keepR {G : Hp} {q a : Addr} {o x : HO} (e : G q = some o) (n : G a = none) : upd G a x q = some o := by
  rw [upd_ne (ne_of_none e n)]
  exact e
def spLRing : Sp := fun vs H Q _ => ∃ (t o te sc : Addr) (ones tens : List Str) (hun : Str) (scales : List Str) (n : Nat), vs = [.ref t, .int (n : Int)] ∧ Tab H t ones tens hun scales o te sc ∧ (n : Int) < Bg.W (scales.length + 1) ∧
  ∀ q H' l, H q = none → Same H H' → RingOf (fL ones tens hun scales) n l → H' q = some (.lst (intsN l)) → Q (.ref q) H'
section
variable {P : Program} {w : World} {K : PySem.W.Frag} {mg : Str → Option Value} {base : Heap}
end
end LB
set_option Elab.async false
set_option linter.all false
set_option maxRecDepth 100000
set_option maxHeartbeats 4000000
/-! Rings: which numbers are left when those to which no member leads drop out. -/
namespace LB
open PySem L2 Wk
open Bg (Bg Wo)
/-- the lowest group has no scale -/
theorem partW_len0 (n : Int) : (Bg.partW n 0).length ≤ 4 := by
  unfold Bg.partW
  split
  · rw [List.length_append]
    have := @Bg.groupW_len (Bg.gr n 0)
    have b : (if (0 : Nat) > 0 then [Wo.sc (0 - 1)] else []).length = 0 := rfl
    omega
  · exact Nat.zero_le _
theorem accW_len4 (n : Int) (k : Nat) : (Bg.accW n (k + 1) (k + 1)).length ≤ 5 * k + 4 := by
  show (Bg.accW n (k + 1) k ++ Bg.partW n (k + 1 - 1 - k)).length ≤ _
  rw [List.length_append, show k + 1 - 1 - k = 0 by omega]
  have := Bg.accW_len n (k + 1) k
  have := partW_len0 n
  omega
theorem nm_len5 {ones tens : List Str} {hun : Str} {scales : List Str} (n : Int) : (nmL ones tens hun scales n).length ≤ 5 * (scales.length + 1) := by
  unfold nmL Bg.nameW
  rw [List.length_map]
  split
  · show 1 ≤ _
    omega
  · have := accW_len4 n scales.length
    rw [Bg.accW_all] at this
    omega
theorem fL_le {ones tens : List Str} {hun : Str} {scales : List Str} (g : GoodRow (ones ++ (tens ++ hun :: scales))) (n : Nat) : fL ones tens hun scales n ≤ 100 * (scales.length + 1) := by
  have key : ∀ (l : List Str), (∀ x ∈ l, x.length ≤ 20) → (l.map fun w => ((w.length : Nat) : Int)).sum ≤ 20 * (l.length : Int) := by
    intro l
    induction l with
    | nil => intro _; exact Int.le_refl _
    | cons x l ih =>
      intro h
      have a := h x List.mem_cons_self
      have b := ih fun y hy => h y (List.mem_cons_of_mem _ hy)
      rw [List.map_cons, List.sum_cons, List.length_cons]
      omega
  have a := key (nmL ones tens hun scales n) fun x hx => (nm_good g n x hx).2.1
  have b := nm_len5 (ones := ones) (tens := tens) (hun := hun) (scales := scales) (n : Int)
  have c : lettersN ones tens hun scales (n : Int) ≤ 20 * ((nmL ones tens hun scales n).length : Int) := a
  unfold fL
  omega
/-- as many as there are, and all among them: all -/
theorem sub_all {l m : List Nat} (nd : l.Nodup) (s : ∀ x ∈ l, x ∈ m) (h : m.length ≤ l.length) : ∀ y ∈ m, y ∈ l := by
  intro y hy
  refine Classical.byContradiction fun n => ?_
  have := few_nat (y :: l) m (List.nodup_cons.mpr ⟨n, nd⟩) fun x hx => by
    rcases List.mem_cons.mp hx with rfl | hx
    · exact hy
    · exact s x hx
  rw [List.length_cons] at this
  omega
/-- a step onto all of a list takes no two of it to one -/
theorem onto_inj {f : Nat → Nat} {S : List Nat} (nd : S.Nodup) (on : ∀ y ∈ S, ∃ x ∈ S, f x = y) {a b : Nat} (ha : a ∈ S) (hb : b ∈ S) (e : f a = f b) : a = b := by
  refine Classical.byContradiction fun ne => ?_
  have := few_nat S ((S.erase a).map f) nd fun y hy => by
    obtain ⟨x, hx, rfl⟩ := on y hy
    refine List.mem_map.mpr ?_
    by_cases c : x = a
    · subst c
      exact ⟨b, (List.mem_erase_of_ne fun z => ne z.symm).mpr hb, e.symm⟩
    · exact ⟨x, (List.mem_erase_of_ne c).mpr hx, rfl⟩
  rw [List.length_map, List.length_erase_of_mem ha] at this
  have := List.length_pos_of_mem ha
  omega
theorem itf_in {f : Nat → Nat} {S : List Nat} (inn : ∀ x ∈ S, f x ∈ S) {x : Nat} (hx : x ∈ S) : ∀ i, itf f i x ∈ S
  | 0 => hx
  | i + 1 => inn _ (itf_in inn hx i)
theorem itf_inj {f : Nat → Nat} {S : List Nat} (nd : S.Nodup) (inn : ∀ x ∈ S, f x ∈ S) (on : ∀ y ∈ S, ∃ x ∈ S, f x = y) {x y : Nat} (hx : x ∈ S) (hy : y ∈ S) : ∀ i, itf f i x = itf f i y → x = y
  | 0, e => e
  | i + 1, e => itf_inj nd inn on hx hy i (onto_inj nd on (itf_in inn hx i) (itf_in inn hy i) e)
theorem per_least {f : Nat → Nat} {x : Nat} : ∀ n p, 0 < p → p ≤ n → itf f p x = x → ∃ q, q ≤ n ∧ Per f x q
  | 0, p, p0, pn, _ => by omega
  | n + 1, p, p0, pn, e => by
    by_cases c : ∃ q, 0 < q ∧ q < p ∧ itf f q x = x
    · obtain ⟨q, q0, qp, e⟩ := c
      obtain ⟨r, rn, P⟩ := per_least n q q0 (by omega) e
      exact ⟨r, by omega, P⟩
    · exact ⟨p, pn, p0, e, fun q q0 qp z => c ⟨q, q0, qp, z⟩⟩
/-- where the step maps a list onto itself, each of it is in a ring -/
theorem onto_ring {f : Nat → Nat} {S : List Nat} (nd : S.Nodup) (inn : ∀ x ∈ S, f x ∈ S) (on : ∀ y ∈ S, ∃ x ∈ S, f x = y) {x : Nat} (hx : x ∈ S) : ∃ p, p ≤ S.length ∧ Per f x p := by
  have : ∃ p, 0 < p ∧ p ≤ S.length ∧ itf f p x = x := by
    refine Classical.byContradiction fun n => ?_
    have nd2 : (ringN f (S.length + 1) x).Nodup := by
      refine List.pairwise_iff_getElem.mpr fun i j hi hj ij => ?_
      rw [ringN_len] at hi hj
      obtain ⟨_, a⟩ := List.getElem?_eq_some_iff.mp (ringN_at (f := f) (x := x) hi)
      obtain ⟨_, b⟩ := List.getElem?_eq_some_iff.mp (ringN_at (f := f) (x := x) hj)
      rw [a, b]
      intro e
      refine n ⟨j - i, by omega, by omega, ?_⟩
      refine (itf_inj nd inn on hx (itf_in inn hx (j - i)) i ?_).symm
      rw [← itf_add, show j - i + i = j by omega]
      exact e
    have := few_nat _ S nd2 fun y hy => by
      unfold ringN at hy
      obtain ⟨i, _, rfl⟩ := List.mem_map.mp hy
      exact itf_in inn hx i
    rw [ringN_len] at this
    omega
  obtain ⟨p, p0, pn, e⟩ := this
  exact per_least _ p p0 pn e
/-- what is in a ring is led to from within it -/
theorem Per.from {f : Nat → Nat} {x p : Nat} (P : Per f x p) : ∃ y, Per f y p ∧ f y = x := by
  have := P.pos
  refine ⟨itf f (p - 1) x, P.turn (by omega), ?_⟩
  have e := P.back
  rw [show p = p - 1 + 1 by omega] at e
  exact e
/-- one round of dropping out: closed under the step, and no ring's number lost -/
structure Mem (f : Nat → Nat) (S : List Nat) : Prop where
  nd : S.Nodup
  inn : ∀ x ∈ S, f x ∈ S
  all : ∀ x p, Per f x p → x ∈ S
theorem Mem.range {f : Nat → Nat} {M : Nat} (h : ∀ x, f x ≤ M) : Mem f (List.range (M + 1)) := by
  refine ⟨List.nodup_range, fun x _ => List.mem_range.mpr (Nat.lt_succ_of_le (h x)), fun x p P => ?_⟩
  obtain ⟨y, _, rfl⟩ := P.from
  exact List.mem_range.mpr (Nat.lt_succ_of_le (h y))
theorem Mem.step {f : Nat → Nat} {S I : List Nat} (m : Mem f S) (nd : I.Nodup) (e : ∀ y, y ∈ I ↔ ∃ x ∈ S, f x = y) : Mem f I ∧ ∀ y ∈ I, y ∈ S := by
  have sub : ∀ y ∈ I, y ∈ S := fun y hy => by
    obtain ⟨x, hx, rfl⟩ := (e y).mp hy
    exact m.inn x hx
  refine ⟨⟨nd, fun y hy => (e _).mpr ⟨y, sub y hy, rfl⟩, fun x p P => ?_⟩, sub⟩
  obtain ⟨y, Q, rfl⟩ := P.from
  exact (e _).mpr ⟨y, m.all y p Q, rfl⟩
/-- no fewer images than members: the members are the numbers in rings -/
theorem Mem.done {f : Nat → Nat} {S I : List Nat} (m : Mem f S) (nd : I.Nodup) (e : ∀ y, y ∈ I ↔ ∃ x ∈ S, f x = y) (h : S.length ≤ I.length) (x : Nat) : x ∈ S ↔ ∃ p, Per f x p := by
  have sub := (m.step nd e).2
  have on : ∀ y ∈ S, ∃ x ∈ S, f x = y := fun y hy => (e y).mp (sub_all nd sub h y hy)
  refine ⟨fun hx => ?_, fun ⟨p, P⟩ => m.all x p P⟩
  obtain ⟨p, _, P⟩ := onto_ring m.nd m.inn on hx
  exact ⟨p, P⟩
/-- and each ring is no longer than they are many -/
theorem Mem.short {f : Nat → Nat} {S : List Nat} (m : Mem f S) {x p : Nat} (P : Per f x p) : p ≤ S.length := by
  have hx := m.all x p P
  have := few_nat _ S P.nodup fun y hy => by
    unfold ringN at hy
    obtain ⟨i, _, rfl⟩ := List.mem_map.mp hy
    exact itf_in m.inn hx i
  rw [ringN_len] at this
  exact this
end LB
set_option Elab.async false
set_option linter.all false
set_option maxRecDepth 100000
set_option maxHeartbeats 8000000
/-! The law's own comparison, of lists of whatever it compares: to any depth. -/
namespace LB
open PySem L2 Wk
open Bg (Bg Wo)
/-- two values that the comparison finds the same -/
def spRel (R : Hp → V → V → Prop) : Sp := fun vs H Q _ => ∃ x y, vs = [x, y] ∧ R H x y ∧ ∀ H', Same H H' → Q (.bl true) H'
/-- two lists, item by item -/
def LstOf (R : Hp → V → V → Prop) : Hp → V → V → Prop := fun H x y => ∃ (a b : Addr) (xs ys : List V), x = .ref a ∧ y = .ref b ∧ H a = some (.lst xs) ∧ H b = some (.lst ys) ∧ xs.length = ys.length ∧ ys.length ≤ 100000 ∧ ∀ (i : Nat) (x y : V), xs[i]? = some x → ys[i]? = some y → R H x y
def IntR : Hp → V → V → Prop := fun _ x y => ∃ n : Int, x = .int n ∧ y = .int n
theorem IntR.mono {H H' : Hp} {x y : V} (_ : Same H H') (h : IntR H x y) : IntR H' x y := h
theorem LstOf.mono {R : Hp → V → V → Prop} (mono : ∀ {H H' x y}, Same H H' → R H x y → R H' x y) {H H' : Hp} {x y : V} (s : Same H H') (h : LstOf R H x y) : LstOf R H' x y := by
  obtain ⟨a, b, xs, ys, e, e', ha, hb, el, l, all⟩ := h
  exact ⟨a, b, xs, ys, e, e', s _ _ ha, s _ _ hb, el, l, fun i x y hx hy => mono s (all i x y hx hy)⟩
section
variable {P : Program} {w : World} {K : PySem.W.Frag} {mg : Str → Option Value} {base : Heap}
theorem ok_sameI {f : Addr} {fd : FuncData} (F : Fun K "_law_same" "_law_same" sSame f fd) (T : TyNo mg) : FnOk P w K mg base CX0 1 f fd ["found", "due"] (spRel IntR) := by
  refine F.ok scSame (fun vs H Q E h => ?_) (fun cdv A outer s H vs Q E hr h => ?_)
  · obtain ⟨_, _, rfl, ⟨n, rfl, rfl⟩, _⟩ := h
    rfl
  · obtain ⟨_, _, rfl, ⟨n, rfl, rfl⟩, k⟩ := h
    refine ⟨_, pss_cons (ps_if (pt_cmp (pc_isN (pv 1))) pss_never pss_nil) (pss_cons (ps_if (pt_val (pe_callB call_isi (by rfl) T.isi (by decide +kernel) (pa_cons (pv 1) (pa_cons (pe_bltn (v := .ty "bool") (u := .type "bool") (by rfl) T.bool (by decide +kernel) rfl) pa_nil)))) (pss_never) pss_nil) (pss_cons (ps_if (pt_val (pe_callB call_isi (by rfl) T.isi (by decide +kernel) (pa_cons (pv 1) (pa_cons (pe_bltn (v := .ty "int") (u := .type "int") (by rfl) T.int (by decide +kernel) rfl) pa_nil)))) (pss_one (ps_ret (pe_and (pe_callB call_isi (by rfl) T.isi (by decide +kernel) (pa_cons (pv 0) (pa_cons (pe_bltn (v := .ty "int") (u := .type "int") (by rfl) T.int (by decide +kernel) rfl) pa_nil))) (pe_and (pe_not (pe_callB call_isi (by rfl) T.isi (by decide +kernel) (pa_cons (pv 0) (pa_cons (pe_bltn (v := .ty "bool") (u := .type "bool") (by rfl) T.bool (by decide +kernel) rfl) pa_nil)))) (pe_one (pe_cmpR op_eq (pv 0) (pv 1) (nomark _))))))) pss_nil) pss_never)), ?_⟩
    have tb : ∀ {H : Hp}, TyX K H (.int n) (.type "int") := .base (.int n)
    refine ⟨_, rfl, _, rfl, ?_⟩
    rw [decide_eq_false (show ¬ V.int n = V.non from fun z => nomatch z)]
    refine iteF ?_
    refine ⟨_, rfl, _, _, _, _, false, rfl, .ty _, tb, kit_ty (by decide +kernel), false, rfl, iteF ?_⟩
    refine ⟨_, rfl, _, _, _, _, true, rfl, .ty _, tb, kit_ty (by decide +kernel), true, rfl, iteT ?_⟩
    refine ⟨_, rfl, _, _, _, _, true, rfl, .ty _, tb, kit_ty (by decide +kernel), true, rfl, iteT ?_⟩
    refine ⟨_, rfl, _, _, _, _, false, rfl, .ty _, tb, kit_ty (by decide +kernel), false, rfl, true, rfl, iteT ⟨_, rfl, _, rfl, rfl, ?_⟩⟩
    rw [decide_eq_true rfl]
    exact k _ (Same.refl _)
theorem ok_sameL {n : Nat} {R : Hp → V → V → Prop} (mono : ∀ {H H' x y}, Same H H' → R H x y → R H' x y) {f : Addr} {fd : FuncData} (F : Fun K "_law_same" "_law_same" sSame f fd) (S : Def1 P w K mg base "_law_same" n f fd ["found", "due"] (spRel R)) (T : TyNo mg) : FnOk P w K mg base CX0 (n + 1) f fd ["found", "due"] (spRel (LstOf R)) := by
  refine F.ok scSame (fun vs H Q E h => ?_) (fun cdv A outer s H vs Q E hr h => ?_)
  · obtain ⟨_, _, rfl, ⟨a, b, xs, ys, rfl, rfl, _⟩, _⟩ := h
    rfl
  · obtain ⟨_, _, rfl, ⟨a, b, xs, ys, rfl, rfl, ha, hb, el, n1000, all⟩, k⟩ := h
    have hr1 : Room n _ := hr
    refine ⟨_, pss_cons (ps_if (pt_cmp (pc_isN (pv 1))) pss_never pss_nil)
        (pss_cons (ps_if (pt_val (pe_callB call_isi (by rfl) T.isi (by decide +kernel) (pa_cons (pv 1) (pa_cons (pe_bltn (v := .ty "bool") (u := .type "bool") (by rfl) T.bool (by decide +kernel) rfl) pa_nil)))) (pss_never) pss_nil)
        (pss_cons (ps_if (pt_val (pe_callB call_isi (by rfl) T.isi (by decide +kernel) (pa_cons (pv 1) (pa_cons (pe_bltn (v := .ty "int") (u := .type "int") (by rfl) T.int (by decide +kernel) rfl) pa_nil)))) (pss_never) pss_nil)
        (pss_cons (ps_if (pt_val (pe_callB call_isi (by rfl) T.isi (by decide +kernel) (pa_cons (pv 1) (pa_cons (pe_bltn (v := .ty "str") (u := .type "str") (by rfl) T.str (by decide +kernel) rfl) pa_nil)))) (pss_never) pss_nil)
        (pss_cons (ps_if (pt_cmpR op_ne (pe_callB call_isi (by rfl) T.isi (by decide +kernel) (pa_cons (pv 0) (pa_cons (pe_bltn (v := .ty "list") (u := .type "list") (by rfl) T.list (by decide +kernel) rfl) pa_nil))) (pe_callB call_isi (by rfl) T.isi (by decide +kernel) (pa_cons (pv 1) (pa_cons (pe_bltn (v := .ty "list") (u := .type "list") (by rfl) T.list (by decide +kernel) rfl) pa_nil))) (nomark _)) (pss_never) pss_nil)
        (pss_cons (ps_if (PW.pt (pw_or (pt_cmpR op_ne (pe_callB call_isi (by rfl) T.isi (by decide +kernel) (pa_cons (pv 0) (pa_cons (pe_bltn (v := .ty "tuple") (u := .type "tuple") (by rfl) T.tuple (by decide +kernel) rfl) pa_nil))) (pe_callB call_isi (by rfl) T.isi (by decide +kernel) (pa_cons (pv 1) (pa_cons (pe_bltn (v := .ty "tuple") (u := .type "tuple") (by rfl) T.tuple (by decide +kernel) rfl) pa_nil))) (nomark _)) (pw_or1 (pt_cmpR op_ne (pe_callB call_len_seq (by rfl) T.len PySem.boot_len (pa_cons (pv 0) pa_nil)) (pe_callB call_len_seq (by rfl) T.len PySem.boot_len (pa_cons (pv 1) pa_nil)) (nomark _))))) (pss_never) pss_nil)
        (pss_one (ps_ret (pe_cmpR (op_eqD hr.units) (pe_lc (own := [("k", 2)]) (g := gName 2) rfl scSame.nd (pi_range1 rfl T.range (pa_cons (pe_callB call_len_seq (by rfl) T.len PySem.boot_len (pa_cons (pv 1) pa_nil)) pa_nil)) (blkOk_by (own := [("k", 2)]) (N := ["found", "due", "k"]) (sc := defScope sSame) (by decide +kernel)) (fun _ _ _ _ _ => pg_name (i := 2) scSame.nd rfl (Or.inl rfl)) (fun _ _ _ _ _ => pts_one (pt_not (pt_val (pe_call S.ok hr1 (by rfl) S.g S.k S.b .nil pass0 (pa_cons (pe_ix (ix_listK K rfl) (pv 0) (pv 2) (fun _ _ => rfl)) (pa_cons (pe_ix (ix_listK K rfl) (pv 1) (pv 2) (fun _ _ => rfl)) pa_nil)))))) (fun _ _ _ _ _ => pv 2)) (pe_lst pa_nil) (nomark _))))))))), ?_⟩
    have ta : ∀ {x : Addr} {zs : List V}, H x = some (.lst zs) → TyX K H (.ref x) (.type "list") := fun h => .base (.lst h)
    refine ⟨_, rfl, _, rfl, ?_⟩
    rw [decide_eq_false (show ¬ V.ref b = V.non from fun z => nomatch z)]
    refine iteF ?_
    refine ⟨_, rfl, _, _, _, _, false, rfl, .ty _, ta hb, kit_ty (by decide +kernel), false, rfl, iteF ?_⟩
    refine ⟨_, rfl, _, _, _, _, false, rfl, .ty _, ta hb, kit_ty (by decide +kernel), false, rfl, iteF ?_⟩
    refine ⟨_, rfl, _, _, _, _, false, rfl, .ty _, ta hb, kit_ty (by decide +kernel), false, rfl, iteF ?_⟩
    refine ⟨_, rfl, _, _, _, _, true, rfl, .ty _, ta ha, kit_ty (by decide +kernel), _, rfl, _, _, _, _, true, rfl, .ty _, ta hb, kit_ty (by decide +kernel), ?_⟩
    refine ⟨rfl, _, rfl, iteNS rfl ?_⟩
    refine ⟨_, rfl, _, _, _, _, false, rfl, .ty _, ta ha, kit_ty (by decide +kernel), _, rfl, _, _, _, _, false, rfl, .ty _, ta hb, kit_ty (by decide +kernel), rfl, _, rfl, iteNS rfl ?_⟩
    refine ⟨_, rfl, a, _, rfl, .inl (SqL.of ha), _, rfl, b, _, rfl, .inl (SqL.of hb), rfl, _, rfl, iteNS (congrArg (fun m : Nat => V.int (m : Int)) el) ?_⟩
    refine ⟨_, rfl, b, _, rfl, .inl (SqL.of hb), (ys.length : Int), rfl, by omega, by omega, fun D nD => ?_⟩
    have sD := same_new (x := .lst []) nD
    refine lc_range (lo := 0) (n := ys.length) (fun i G => Same H G ∧ G D = some (.lst [])) ⟨sD, upd_same⟩ ?_ ?_
    · rintro i G hi ⟨s1, hD⟩
      obtain ⟨x, hx⟩ : ∃ x, xs[i]? = some x := ⟨_, List.getElem?_eq_getElem (el ▸ hi)⟩
      obtain ⟨y, hy⟩ : ∃ y, ys[i]? = some y := ⟨_, List.getElem?_eq_getElem hi⟩
      have ax : atI xs (0 + (i : Int)) = some x := by
        rw [Int.zero_add]
        exact atI_nat hx
      have ay : atI ys (0 + (i : Int)) = some y := by
        rw [Int.zero_add]
        exact atI_nat hy
      refine ⟨rfl, ?_⟩
      refine ⟨_, rfl, _, rfl, _, _, _, _, rfl, rfl, SqL.of (s1 _ _ ha), ax, _, rfl, _, rfl, _, _, _, _, rfl, rfl, SqL.of (s1 _ _ hb), ay, x, y, rfl, mono s1 (all i x y hx hy), fun G' s2 => ?_⟩
      exact ⟨true, rfl, iteF ⟨s1.trans s2, s2 _ _ hD⟩⟩
    · rintro G ⟨s1, hD⟩
      refine ⟨Nat.zero_le _, fun e ne => ?_⟩
      have eD : D ≠ e := ne_of_none hD ne
      refine ⟨.list [], .list [], .lst (SqL.of ((upd_ne eD).trans hD)) .nil, .lst (SqL.of upd_same) .nil, by decide, by decide, ?_⟩
      rw [show PyData.eqv (.list []) (.list []) = true from rfl]
      exact k _ (s1.trans (same_new ne))
end
end LB
set_option Elab.async false
set_option linter.all false
set_option maxRecDepth 100000
set_option maxHeartbeats 4000000
/-! Rings: the list of all of them, and how the numbers in rings are split. -/
namespace LB
open PySem L2 Wk
open Bg (Bg Wo)
def LeastR (f : Nat → Nat) (x : Nat) : Prop := ∀ i, x ≤ itf f i x
def IsRing (f : Nat → Nat) (l : List Nat) : Prop := ∃ x p, Per f x p ∧ LeastR f x ∧ l = ringN f p x
/-- all rings, ascending by their first numbers -/
structure RingsL (f : Nat → Nat) (out : List (List Nat)) : Prop where
  asc : out.Pairwise fun a b => a.headD 0 < b.headD 0
  iff : ∀ l, l ∈ out ↔ IsRing f l
theorem asc_one {α : Type} {k : α → Nat} : ∀ {l m : List α}, l.Pairwise (fun a b => k a < k b) → m.Pairwise (fun a b => k a < k b) → (∀ x, x ∈ l ↔ x ∈ m) → l = m
  | [], [], _, _, _ => rfl
  | [], y :: m, _, _, h => nomatch (h y).mpr List.mem_cons_self
  | x :: l, [], _, _, h => nomatch (h x).mp List.mem_cons_self
  | x :: l, y :: m, hl, hm, h => by
    obtain ⟨lx, ll⟩ := List.pairwise_cons.mp hl
    obtain ⟨my, mm⟩ := List.pairwise_cons.mp hm
    have e : x = y := by
      rcases List.mem_cons.mp ((h x).mp List.mem_cons_self) with e | hx
      · exact e
      · rcases List.mem_cons.mp ((h y).mpr List.mem_cons_self) with e | hy
        · exact e.symm
        · have := my x hx
          have := lx y hy
          omega
    subst e
    rw [asc_one ll mm fun z => ⟨fun hz => ?_, fun hz => ?_⟩]
    · rcases List.mem_cons.mp ((h z).mp (List.mem_cons_of_mem _ hz)) with rfl | hm'
      · exact absurd (lx z hz) (Nat.lt_irrefl _)
      · exact hm'
    · rcases List.mem_cons.mp ((h z).mpr (List.mem_cons_of_mem _ hz)) with rfl | hm'
      · exact absurd (my z hz) (Nat.lt_irrefl _)
      · exact hm'
theorem RingsL.one {f : Nat → Nat} {a b : List (List Nat)} (A : RingsL f a) (B : RingsL f b) : a = b :=
  asc_one (k := fun l : List Nat => l.headD 0) A.asc B.asc fun l => (A.iff l).trans (B.iff l).symm
/-- any step in a ring is one of the first p -/
theorem Per.fold {f : Nat → Nat} {x p : Nat} (P : Per f x p) (i : Nat) : ∃ j, j < p ∧ itf f i x = itf f j x := by
  induction i using Nat.strongRecOn with
  | _ i ih =>
    rcases Nat.lt_or_ge i p with h | h
    · exact ⟨i, h, rfl⟩
    · have := P.pos
      obtain ⟨j, jp, e⟩ := ih (i - p) (by omega)
      refine ⟨j, jp, ?_⟩
      rw [← e, ← P.mul (i - p), show p + (i - p) = i by omega]
theorem Per.mem {f : Nat → Nat} {x p y : Nat} (P : Per f x p) : y ∈ ringN f p x ↔ ∃ i, itf f i x = y := by
  unfold ringN
  refine ⟨fun h => ?_, fun ⟨i, e⟩ => ?_⟩
  · obtain ⟨i, _, e⟩ := List.mem_map.mp h
    exact ⟨i, e⟩
  · obtain ⟨j, jp, e'⟩ := P.fold i
    exact List.mem_map.mpr ⟨j, List.mem_range.mpr jp, e' ▸ e⟩
/-- from any place of a ring back to its beginning -/
theorem Per.home {f : Nat → Nat} {x p : Nat} (P : Per f x p) (i : Nat) : ∃ j, itf f j (itf f i x) = x := by
  obtain ⟨k, kp, e⟩ := P.fold i
  refine ⟨p - k, ?_⟩
  rw [e, ← itf_add, show k + (p - k) = p by omega, P.back]
theorem Per.any {f : Nat → Nat} {x p : Nat} (P : Per f x p) (i : Nat) : Per f (itf f i x) p := by
  obtain ⟨k, kp, e⟩ := P.fold i
  rw [e]
  exact P.turn kp
/-- each ring has its least number -/
theorem Per.least {f : Nat → Nat} {p : Nat} : ∀ x, Per f x p → ∃ i, LeastR f (itf f i x) ∧ itf f i x ≤ x := by
  intro x
  induction x using Nat.strongRecOn with
  | _ x ih =>
    intro P
    by_cases c : LeastR f x
    · exact ⟨0, c, Nat.le_refl _⟩
    · obtain ⟨i, hi⟩ := Classical.not_forall.mp c
      obtain ⟨j, L, le⟩ := ih (itf f i x) (by omega) (P.any i)
      rw [← itf_add] at L le
      exact ⟨i + j, L, by omega⟩
theorem RingOf.isRing {f : Nat → Nat} {n : Nat} {l : List Nat} (h : RingOf f n l) : IsRing f l := by
  obtain ⟨m, j, k, jm, e, d, kp, le, rfl⟩ := h
  have P := per_of jm e d
  refine ⟨_, _, P.turn kp, fun i => ?_, rfl⟩
  obtain ⟨i', ip, e'⟩ := P.fold (k + i)
  rw [itf_add] at e'
  rw [e']
  exact le i' ip
theorem IsRing.ringOf {f : Nat → Nat} {x p : Nat} (P : Per f x p) (L : LeastR f x) : RingOf f x (ringN f p x) := by
  refine ⟨p, 0, 0, P.pos, P.back, fun a b ab bp => P.inj ab bp, P.pos, fun i _ => L i, rfl⟩
theorem ringN_head {f : Nat → Nat} {x p : Nat} (h : 0 < p) : (ringN f p x).headD 0 = x := by
  obtain ⟨q, rfl⟩ : ∃ q, p = q + 1 := ⟨p - 1, by omega⟩
  unfold ringN
  rw [List.range_succ_eq_map, List.map_cons]
  rfl
/-- what has been found behind the members pre: the rings whose least numbers are there -/
structure SplitAt (f : Nat → Nat) (pre : List Nat) (out : List (List Nat)) : Prop where
  asc : out.Pairwise fun a b => a.headD 0 < b.headD 0
  iff : ∀ l, l ∈ out ↔ ∃ x p, x ∈ pre ∧ Per f x p ∧ LeastR f x ∧ l = ringN f p x
theorem SplitAt.nil (f : Nat → Nat) : SplitAt f [] [] := by
  refine ⟨List.Pairwise.nil, fun l => ⟨fun h => (nomatch h), fun h => ?_⟩⟩
  obtain ⟨x, p, h, _⟩ := h
  cases h
/-- the next member is new exactly if it is the least of its ring -/
theorem SplitAt.new {f : Nat → Nat} {pre suf : List Nat} {x p : Nat} {out : List (List Nat)} (S : SplitAt f pre out) (asc : (pre ++ x :: suf).Pairwise (· < ·)) (inn : ∀ y ∈ pre ++ x :: suf, f y ∈ pre ++ x :: suf) (P : Per f x p) :
    (∀ l ∈ out, x ∉ l) ↔ LeastR f x := by
  have pl : ∀ y ∈ pre, y < x := fun y hy => (List.pairwise_append.mp asc).2.2 y hy x List.mem_cons_self
  have pg : ∀ y ∈ suf, x < y := fun y hy => (List.pairwise_cons.mp (List.pairwise_append.mp asc).2.1).1 y hy
  have xin : x ∈ pre ++ x :: suf := List.mem_append_right _ List.mem_cons_self
  refine ⟨fun h => Classical.byContradiction fun n => ?_, fun L l hl hx => ?_⟩
  · obtain ⟨i, L, le⟩ := P.least
    have ne : itf f i x ≠ x := fun e => n (e ▸ L)
    have zin := itf_in inn xin i
    have zpre : itf f i x ∈ pre := by
      rcases List.mem_append.mp zin with z | z
      · exact z
      · rcases List.mem_cons.mp z with z | z
        · exact absurd z ne
        · have := pg _ z
          omega
    refine h _ ((S.iff _).mpr ⟨_, p, zpre, P.any i, L, rfl⟩) ?_
    exact (P.any i).mem.mpr (P.home i)
  · obtain ⟨z, q, zp, Q, _, rfl⟩ := (S.iff l).mp hl
    obtain ⟨i, rfl⟩ := Q.mem.mp hx
    obtain ⟨j, e⟩ := Q.home i
    have := L j
    rw [e] at this
    have := pl z zp
    omega
theorem SplitAt.take {f : Nat → Nat} {pre : List Nat} {x p : Nat} {out : List (List Nat)} (S : SplitAt f pre out) (lt : ∀ y ∈ pre, y < x) (P : Per f x p) (L : LeastR f x) : SplitAt f (pre ++ [x]) (out ++ [ringN f p x]) := by
  refine ⟨List.pairwise_append.mpr ⟨S.asc, List.pairwise_singleton _ _, fun a ha b hb => ?_⟩, fun l => ⟨fun h => ?_, fun h => ?_⟩⟩
  · rw [List.mem_singleton.mp hb, ringN_head P.pos]
    obtain ⟨z, q, zp, Q, _, rfl⟩ := (S.iff a).mp ha
    rw [ringN_head Q.pos]
    exact lt z zp
  · rcases List.mem_append.mp h with h | h
    · obtain ⟨z, q, zp, r⟩ := (S.iff l).mp h
      exact ⟨z, q, List.mem_append_left _ zp, r⟩
    · exact ⟨x, p, List.mem_append_right _ (List.mem_singleton.mpr rfl), P, L, List.mem_singleton.mp h⟩
  · obtain ⟨z, q, zp, Q, Lz, e⟩ := h
    rcases List.mem_append.mp zp with zp | zp
    · exact List.mem_append_left _ ((S.iff l).mpr ⟨z, q, zp, Q, Lz, e⟩)
    · rw [List.mem_singleton.mp zp] at Q e
      have pq : q = p := by
        rcases Nat.lt_trichotomy q p with h | h | h
        · exact absurd Q.back (P.first q Q.pos h)
        · exact h
        · exact absurd P.back (Q.first p P.pos h)
      rw [e, pq]
      exact List.mem_append_right _ (List.mem_singleton.mpr rfl)
theorem SplitAt.leave {f : Nat → Nat} {pre : List Nat} {x : Nat} {out : List (List Nat)} (S : SplitAt f pre out) (n : ¬ LeastR f x) : SplitAt f (pre ++ [x]) out := by
  refine ⟨S.asc, fun l => (S.iff l).trans ⟨fun ⟨z, q, zp, r⟩ => ⟨z, q, List.mem_append_left _ zp, r⟩, fun ⟨z, q, zp, Q, Lz, e⟩ => ?_⟩⟩
  rcases List.mem_append.mp zp with zp | zp
  · exact ⟨z, q, zp, Q, Lz, e⟩
  · exact absurd (List.mem_singleton.mp zp ▸ Lz) n
/-- behind all members: all rings -/
theorem SplitAt.done {f : Nat → Nat} {S : List Nat} {out : List (List Nat)} (h : SplitAt f S out) (all : ∀ x, x ∈ S ↔ ∃ p, Per f x p) : RingsL f out :=
  ⟨h.asc, fun l => (h.iff l).trans ⟨fun ⟨x, p, _, r⟩ => ⟨x, p, r⟩, fun ⟨x, p, P, r⟩ => ⟨x, p, (all x).mpr ⟨p, P⟩, P, r⟩⟩⟩
end LB
set_option Elab.async false
set_option linter.all false
set_option maxRecDepth 100000
set_option maxHeartbeats 4000000
/-! Rings: the numbers in rings split. -/
namespace LB
open PySem L2 Wk
open Bg (Bg Wo)
/-- a dictionary whose keys are these numbers -/
def DicN (H : Hp) (d : Addr) (ks : List Nat) : Prop := ∃ kvs : List (Key × V), H d = some (.dK kvs) ∧ kvs.length = ks.length ∧ ks.Nodup ∧ ∀ v : Nat, (valV kvs (Sum.inl (v : Int))).isSome = true ↔ v ∈ ks
theorem putK_old {kvs : List (Key × V)} {k : Key} {v : V} (h : (valV kvs k).isSome = true) : (putK kvs k v).length = kvs.length := by
  unfold putK
  rw [if_pos (by rw [valV_any]; exact h), List.length_map]
theorem DicN.put {G : Hp} {d : Addr} {ks : List Nat} {kvs : List (Key × V)} (h : G d = some (.dK kvs)) (len : kvs.length = ks.length) (nd : ks.Nodup) (mem : ∀ v : Nat, (valV kvs (Sum.inl (v : Int))).isSome = true ↔ v ∈ ks) (u : Nat) (x : V) :
    ∃ ks', DicN (upd G d (.dK (putK kvs (Sum.inl (u : Int)) x))) d ks' ∧ ∀ v, v ∈ ks' ↔ v ∈ ks ∨ v = u := by
  have key : ∀ v : Nat, (valV (putK kvs (Sum.inl (u : Int)) x) (Sum.inl (v : Int))).isSome = true ↔ v ∈ ks ∨ v = u := fun v => by
    rw [valV_put]
    by_cases ev : (Sum.inl (v : Int) : Key) = Sum.inl (u : Int)
    · rw [if_pos ev]
      have ev : (v : Int) = (u : Int) := Sum.inl.inj ev
      exact ⟨fun _ => .inr (by omega), fun _ => rfl⟩
    · rw [if_neg ev, mem]
      exact ⟨.inl, fun h => h.resolve_right fun z => ev (by rw [z])⟩
  by_cases c : u ∈ ks
  · refine ⟨ks, ⟨_, upd_same, by rw [putK_old ((mem u).mpr c), len], nd, fun v => (key v).trans ⟨fun h => ?_, .inl⟩⟩, fun v => ⟨.inl, fun h => ?_⟩⟩
    · rcases h with h | rfl
      · exact h
      · exact c
    · rcases h with h | rfl
      · exact h
      · exact c
  · have e : valV kvs (Sum.inl (u : Int)) = none := by
      cases q : valV kvs (Sum.inl (u : Int)) with
      | none => rfl
      | some v => exact absurd ((mem _).mp (by rw [q]; rfl)) c
    refine ⟨u :: ks, ⟨_, upd_same, by rw [putK_new e, len]; rfl, List.nodup_cons.mpr ⟨c, nd⟩, fun v => (key v).trans ?_⟩, fun v => ?_⟩
    · rw [List.mem_cons]
      exact Or.comm
    · rw [List.mem_cons]
      exact Or.comm
/-- a new list of new lists of numbers -/
def NewL (H J : Hp) (q : Addr) (out : List (List Nat)) (qs : List Addr) : Prop := J q = some (.lst (qs.map V.ref)) ∧ qs.length = out.length ∧ ∀ (i : Nat) (l : List Nat) (r : Addr), out[i]? = some l → qs[i]? = some r → H r = none ∧ r ≠ q ∧ J r = some (.lst (intsN l))
theorem NewL.same {H J J' : Hp} {q : Addr} {out : List (List Nat)} {qs : List Addr} (h : NewL H J q out qs) (s : Same J J') : NewL H J' q out qs :=
  ⟨s _ _ h.1, h.2.1, fun i l r a b => ⟨(h.2.2 i l r a b).1, (h.2.2 i l r a b).2.1, s _ _ (h.2.2 i l r a b).2.2⟩⟩
theorem NewL.dict {H J : Hp} {q d : Addr} {out : List (List Nat)} {qs : List Addr} {kvs kvs' : List (Key × V)} (h : NewL H J q out qs) (hd : J d = some (.dK kvs)) : NewL H (upd J d (.dK kvs')) q out qs := by
  have ne : ∀ {r : Addr} {xs : List V}, J r = some (.lst xs) → (upd J d (.dK kvs')) r = some (.lst xs) := fun {r xs} hr => by
    rw [upd_ne (fun e => ?_), hr]
    rw [e, hd] at hr
    cases hr
  exact ⟨ne h.1, h.2.1, fun i l r a b => ⟨(h.2.2 i l r a b).1, (h.2.2 i l r a b).2.1, ne (h.2.2 i l r a b).2.2⟩⟩
theorem NewL.push {H J : Hp} {q r : Addr} {out : List (List Nat)} {qs : List Addr} {l : List Nat} (h : NewL H J q out qs) (hr : J r = some (.lst (intsN l))) (nr : H r = none) (ne : r ≠ q) : NewL H (upd J q (.lst (qs.map V.ref ++ [V.ref r]))) q (out ++ [l]) (qs ++ [r]) := by
  refine ⟨by rw [upd_same, List.map_append]; rfl, by rw [List.length_append, List.length_append, h.2.1]; rfl, fun i m r' a b => ?_⟩
  rcases Nat.lt_or_ge i out.length with c | c
  · rw [List.getElem?_append_left c] at a
    rw [List.getElem?_append_left (by rw [h.2.1]; exact c)] at b
    obtain ⟨x, y, z⟩ := h.2.2 i m r' a b
    exact ⟨x, y, by rw [upd_ne y]; exact z⟩
  · rw [List.getElem?_append_right c] at a
    rw [List.getElem?_append_right (by rw [h.2.1]; exact c), h.2.1] at b
    have i0 : i - out.length = 0 := by
      cases z : i - out.length with
      | zero => rfl
      | succ j => rw [z] at a; cases a
    rw [i0] at a b
    cases a
    cases b
    exact ⟨nr, ne, by rw [upd_ne ne]; exact hr⟩
def spSplit : Sp := fun vs H Q _ => ∃ (t a o te sc : Addr) (ones tens : List Str) (hun : Str) (scales : List Str) (S : List Nat), vs = [.ref t, .ref a] ∧ Tab H t ones tens hun scales o te sc ∧ H a = some (.lst (intsN S)) ∧ S.Pairwise (· < ·) ∧ (∀ x ∈ S, fL ones tens hun scales x ∈ S) ∧ (∀ x, x ∈ S ↔ ∃ p, Per (fL ones tens hun scales) x p) ∧ S.length ≤ 10000 ∧ (∀ x ∈ S, (x : Int) < Bg.W (scales.length + 1)) ∧
  ∀ q H' out qs, H q = none → Same H H' → RingsL (fL ones tens hun scales) out → NewL H H' q out qs → Q (.ref q) H'
section
variable {P : Program} {w : World} {K : PySem.W.Frag} {mg : Str → Option Value} {base : Heap}
end
end LB
set_option Elab.async false
set_option linter.all false
set_option maxRecDepth 100000
set_option maxHeartbeats 4000000
/-! Rings: how the law's list of all rings comes about. -/
namespace LB
open PySem L2 Wk
open Bg (Bg Wo)
theorem Per.uniq {f : Nat → Nat} {x p q : Nat} (P : Per f x p) (Q : Per f x q) : p = q := by
  rcases Nat.lt_trichotomy q p with h | h | h
  · exact absurd Q.back (P.first q Q.pos h)
  · exact h.symm
  · exact absurd P.back (Q.first p P.pos h)
theorem IsRing.head {f : Nat → Nat} {a b : List Nat} (A : IsRing f a) (B : IsRing f b) (e : a.headD 0 = b.headD 0) : a = b := by
  obtain ⟨x, p, P, _, rfl⟩ := A
  obtain ⟨y, q, Q, _, rfl⟩ := B
  rw [ringN_head P.pos, ringN_head Q.pos] at e
  subst e
  rw [P.uniq Q]
/-- all rings, each once, ascending by their first numbers in any way -/
theorem ringsL_of {f : Nat → Nat} {found out : List (List Nat)} (nd : found.Nodup) (iff : ∀ l, l ∈ found ↔ IsRing f l) (p : out.Perm found) (asc : out.Pairwise fun a b => a.headD 0 ≤ b.headD 0) : RingsL f out := by
  have nd' : out.Nodup := p.nodup_iff.mpr nd
  refine ⟨(List.Pairwise.and_mem.mp (asc.and nd')).imp ?_, fun l => p.mem_iff.trans (iff l)⟩
  rintro a b ⟨ha, hb, le, ne⟩
  have A := (iff a).mp (p.mem_iff.mp ha)
  have B := (iff b).mp (p.mem_iff.mp hb)
  rcases Nat.lt_or_ge (a.headD 0) (b.headD 0) with h | h
  · exact h
  · exact absurd (A.head B (by omega)) ne
/-- the law's search behind n values: the rings into which they lead, each once -/
structure FoundAt (f : Nat → Nat) (n : Nat) (found : List (List Nat)) : Prop where
  nd : found.Nodup
  iff : ∀ l, l ∈ found ↔ ∃ v, v < n ∧ RingOf f v l
theorem FoundAt.zero (f : Nat → Nat) : FoundAt f 0 [] := ⟨List.nodup_nil, fun l => ⟨(fun h => nomatch h), fun ⟨v, h, _⟩ => absurd h (Nat.not_lt_zero _)⟩⟩
theorem FoundAt.more {f : Nat → Nat} {n : Nat} {found : List (List Nat)} {l : List Nat} (F : FoundAt f n found) (r : RingOf f n l) (h : l ∉ found) : FoundAt f (n + 1) (found ++ [l]) := by
  refine ⟨List.nodup_append.mpr ⟨F.nd, List.nodup_cons.mpr ⟨List.not_mem_nil, List.nodup_nil⟩, fun a ha b hb e => ?_⟩, fun m => ⟨fun hm => ?_, fun ⟨v, hv, R⟩ => ?_⟩⟩
  · rw [List.mem_singleton.mp hb] at e
    exact h (e ▸ ha)
  · rcases List.mem_append.mp hm with hm | hm
    · obtain ⟨v, hv, R⟩ := (F.iff m).mp hm
      exact ⟨v, by omega, R⟩
    · exact ⟨n, by omega, List.mem_singleton.mp hm ▸ r⟩
  · rcases Nat.lt_or_ge v n with c | c
    · exact List.mem_append_left _ ((F.iff m).mpr ⟨v, c, R⟩)
    · obtain rfl : v = n := by omega
      exact List.mem_append_right _ (List.mem_singleton.mpr (R.one r))
theorem FoundAt.same {f : Nat → Nat} {n : Nat} {found : List (List Nat)} {l : List Nat} (F : FoundAt f n found) (r : RingOf f n l) (h : l ∈ found) : FoundAt f (n + 1) found := by
  refine ⟨F.nd, fun m => ⟨fun hm => ?_, fun ⟨v, hv, R⟩ => ?_⟩⟩
  · obtain ⟨v, hv, R⟩ := (F.iff m).mp hm
    exact ⟨v, by omega, R⟩
  · rcases Nat.lt_or_ge v n with c | c
    · exact (F.iff m).mpr ⟨v, c, R⟩
    · obtain rfl : v = n := by omega
      exact R.one r ▸ h
/-- searched up to all numbers in rings: all rings -/
theorem FoundAt.all {f : Nat → Nat} {n : Nat} {found : List (List Nat)} (F : FoundAt f n found) (h : ∀ x p, Per f x p → x < n) (l : List Nat) : l ∈ found ↔ IsRing f l := by
  refine ⟨fun hl => ?_, fun ⟨x, p, P, L, e⟩ => ?_⟩
  · obtain ⟨v, _, R⟩ := (F.iff l).mp hl
    exact R.isRing
  · exact (F.iff l).mpr ⟨x, h x p P, e ▸ IsRing.ringOf P L⟩
end LB
set_option Elab.async false
set_option linter.all false
set_option maxRecDepth 100000
set_option maxHeartbeats 4000000
/-! Rings: the law's bound of the letters of a name. -/
namespace LB
open PySem L2 Wk
open Bg (Bg Wo)
def lenW (ones tens : List Str) (hun : Str) (scales : List Str) (l : List Wo) : Nat := (l.map fun x => (wd ones tens hun scales x).length).sum
section
variable {ones tens : List Str} {hun : Str} {scales : List Str}
theorem lenW_app (a b : List Wo) : lenW ones tens hun scales (a ++ b) = lenW ones tens hun scales a + lenW ones tens hun scales b := by
  unfold lenW
  rw [List.map_append, List.sum_append]
theorem lenW_cons (x : Wo) (b : List Wo) : lenW ones tens hun scales (x :: b) = (wd ones tens hun scales x).length + lenW ones tens hun scales b := rfl
theorem wd_lo_le {A : Nat} (l1 : ones.length = 20) (hA : ∀ x ∈ ones, x.length ≤ A) {n : Int} (h0 : 0 ≤ n) (h1 : n < 20) : (wd ones tens hun scales (.low n)).length ≤ A := by
  unfold wd
  simp only
  rw [if_pos h1, List.getElem?_eq_getElem (by omega)]
  exact hA _ (List.getElem_mem _)
theorem wd_te_le {B : Nat} (l2 : tens.length = 8) (hB : ∀ x ∈ tens, x.length ≤ B) {n : Int} (h0 : 20 ≤ n) (h1 : n < 100) : (wd ones tens hun scales (.low n)).length ≤ B := by
  unfold wd
  simp only
  rw [if_neg (by omega), List.getElem?_eq_getElem (by omega)]
  exact hB _ (List.getElem_mem _)
theorem lenW_group {A B : Nat} (l1 : ones.length = 20) (l2 : tens.length = 8) (hA : ∀ x ∈ ones, x.length ≤ A) (hB : ∀ x ∈ tens, x.length ≤ B) {g : Int} (g0 : 0 ≤ g) (g1 : g ≤ 999) : lenW ones tens hun scales (Bg.groupW g) ≤ 2 * A + B + hun.length := by
  unfold Bg.groupW
  rw [lenW_app]
  have a : lenW ones tens hun scales (if g / 100 > 0 then [Wo.low (g / 100), Wo.hun] else []) ≤ A + hun.length := by
    split
    · have := wd_lo_le (tens := tens) (hun := hun) (scales := scales) l1 hA (n := g / 100) (by omega) (by omega)
      rw [lenW_cons, lenW_cons]
      show _ + (hun.length + 0) ≤ _
      omega
    · exact Nat.zero_le _
  have b : lenW ones tens hun scales (if g % 100 ≥ 20 then Wo.low (10 * (g % 100 / 10)) :: (if g % 100 % 10 > 0 then [Wo.low (g % 100 % 10)] else []) else if g % 100 > 0 then [Wo.low (g % 100)] else []) ≤ A + B := by
    split
    · have t := wd_te_le (ones := ones) (hun := hun) (scales := scales) l2 hB (n := 10 * (g % 100 / 10)) (by omega) (by omega)
      have o : lenW ones tens hun scales (if g % 100 % 10 > 0 then [Wo.low (g % 100 % 10)] else []) ≤ A := by
        split
        · have := wd_lo_le (tens := tens) (hun := hun) (scales := scales) l1 hA (n := g % 100 % 10) (by omega) (by omega)
          rw [lenW_cons]
          show _ + 0 ≤ _
          omega
        · exact Nat.zero_le _
      rw [lenW_cons]
      omega
    · split
      · have := wd_lo_le (tens := tens) (hun := hun) (scales := scales) l1 hA (n := g % 100) (by omega) (by omega)
        rw [lenW_cons]
        show _ + 0 ≤ _
        omega
      · exact Nat.zero_le _
  omega
/-- the letters of the k lowest scales' words -/
def scSum (scales : List Str) (k : Nat) : Nat := ((scales.take k).map (·.length)).sum
theorem lenW_sp {A B : Nat} (l1 : ones.length = 20) (l2 : tens.length = 8) (hA : ∀ x ∈ ones, x.length ≤ A) (hB : ∀ x ∈ tens, x.length ≤ B) (n : Int) : ∀ k, k ≤ scales.length → lenW ones tens hun scales (Bg.spW n (k + 1)) ≤ (2 * A + B + hun.length) * (k + 1) + scSum scales k
  | 0, _ => by
    show lenW ones tens hun scales (Bg.partW n 0 ++ []) ≤ _
    rw [List.append_nil]
    unfold Bg.partW
    split
    · have b := Bg.gr_bnd n 0
      have := lenW_group (hun := hun) (scales := scales) l1 l2 hA hB b.1 b.2
      rw [lenW_app]
      show _ + 0 ≤ _
      omega
    · exact Nat.zero_le _
  | k + 1, hk => by
    show lenW ones tens hun scales (Bg.partW n (k + 1) ++ Bg.spW n (k + 1)) ≤ _
    have ih := lenW_sp l1 l2 hA hB n k (by omega)
    have hs : scSum scales (k + 1) = scSum scales k + (scales[k]'(by omega)).length := by
      unfold scSum
      rw [List.take_add_one, List.getElem?_eq_getElem (by omega), List.map_append, List.sum_append]
      rfl
    have p : lenW ones tens hun scales (Bg.partW n (k + 1)) ≤ 2 * A + B + hun.length + (scales[k]'(by omega)).length := by
      unfold Bg.partW
      split
      · have b := Bg.gr_bnd n (k + 1)
        have := lenW_group (hun := hun) (scales := scales) l1 l2 hA hB b.1 b.2
        rw [lenW_app, if_pos (Nat.succ_pos k), lenW_cons]
        have e : (wd ones tens hun scales (.sc (k + 1 - 1))) = scales[k]'(by omega) := by
          unfold wd
          simp only
          rw [Nat.add_sub_cancel, List.getElem?_eq_getElem (by omega)]
          rfl
        rw [e]
        show _ + (_ + 0) ≤ _
        omega
      · exact Nat.zero_le _
    rw [lenW_app, hs, Nat.mul_succ (2 * A + B + hun.length) (k + 1)]
    omega
theorem lenW_int (l : List Wo) : ((l.map (wd ones tens hun scales)).map fun w : Str => ((w.length : Nat) : Int)).sum = (lenW ones tens hun scales l : Int) := by
  induction l with
  | nil => rfl
  | cons x l ih =>
    rw [List.map_cons, List.map_cons, List.sum_cons, ih, lenW_cons]
    omega
/-- no name has more letters than the law's bound -/
theorem fL_bound {A B : Nat} (l1 : ones.length = 20) (l2 : tens.length = 8) (hA : ∀ x ∈ ones, x.length ≤ A) (hB : ∀ x ∈ tens, x.length ≤ B) (n : Nat) : fL ones tens hun scales n ≤ (scales.map (·.length)).sum + (2 * A + B + hun.length) * (scales.length + 1) := by
  have s : scSum scales scales.length = (scales.map (·.length)).sum := by
    unfold scSum
    rw [List.take_length]
  have e : fL ones tens hun scales n = lenW ones tens hun scales (Bg.nameW (n : Int) (scales.length + 1)) := by
    unfold fL lettersN nmL
    rw [lenW_int, Int.toNat_natCast]
  rw [e]
  unfold Bg.nameW
  split
  · have := wd_lo_le (tens := tens) (hun := hun) (scales := scales) l1 hA (n := 0) (by omega) (by omega)
    have m : A ≤ (2 * A + B + hun.length) * (scales.length + 1) := Nat.le_trans (by omega) (Nat.le_mul_of_pos_right (2 * A + B + hun.length) (Nat.succ_pos _))
    rw [lenW_cons]
    show _ + 0 ≤ _
    omega
  · have := lenW_sp (hun := hun) l1 l2 hA hB (n : Int) scales.length (Nat.le_refl _)
    omega
end
end LB
set_option Elab.async false
set_option linter.all false
set_option maxRecDepth 100000
set_option maxHeartbeats 4000000
/-! set(list of texts) and sorted(set of texts), of any number below the scan's bound. -/
namespace Wk
open PySem PySem.Spec PyProof.Rows L2 PySem.Froz

/-- the payload holds the texts l, each once; its table rises and can be walked -/
structure TxR (P : Program) (w : World) (D : SD) (l : List Str) : Prop where
  ok : TxOk P w D l
  nd : l.Nodup
  ris : Ris D.2.2.place.toList
  led : w.params.followText "set-order" = true ∨ D.2.2.led = true

theorem tailRis {ep : Nat} {es1 : Array (Int × Value)} {t2 : SetTable} {b : Bool} (r : Ris t2.place.toList) : Ris (tailTx ep es1 t2 b).2.2.place.toList := by
  unfold tailTx
  split
  · exact relayAll_ris t2 es1 _
  · exact r
theorem tailLed {ep : Nat} {es1 : Array (Int × Value)} {t2 : SetTable} {b : Bool} : (tailTx ep es1 t2 b).2.2.led = t2.led := by
  unfold tailTx
  split
  · exact relayAll_led t2 es1 _
  · rfl
theorem addRis {w : World} {D : SD} {h : Int} {v : Value} (r : Ris D.2.2.place.toList) : Ris (addTx h v D).2.2.place.toList := by
  unfold addTx
  refine tailRis ?_
  have q := layNew_ris D.2.2 D.1 h v r
  split
  · exact q
  · exact q
theorem addLed {D : SD} {h : Int} {v : Value} : (addTx h v D).2.2.led = D.2.2.led := by
  unfold addTx
  refine tailLed.trans ?_
  have q := layNew_led D.2.2 D.1 h v
  split
  · exact q
  · exact q
theorem TxR.more {P : Program} {w : World} {D : SD} {l : List Str} (R : TxR P w D l) {k : Str} (u : Tok) (hk : k ∉ l) : TxR P w (addTx (hashStr w k) (.str k u) D) (k :: l) :=
  ⟨add_ok u R.ok, List.nodup_cons.mpr ⟨hk, R.nd⟩, addRis (w := w) R.ris, R.led.imp id fun e => addLed.trans e⟩
/-- an empty set's payload -/
def tx0 (w : World) : SD := (#[], 0, .fresh 0 0 (!w.params.followText "set-order"))
theorem TxR.zero (P : Program) (w : World) : TxR P w (tx0 w) [] :=
  ⟨TxOk.nil (by rfl), List.nodup_nil, List.Pairwise.nil, by
    show _ ∨ (!w.params.followText "set-order") = true
    cases w.params.followText "set-order"
    · exact .inr rfl
    · exact .inl rfl⟩

section
variable {P : Program} {w : World} {A : Around} {E : Value → Shared → Prop} {s : Shared}
/-- a text goes in, whether it is there or not -/
theorem addTxt {a : Addr} {D : SD} {l : List Str} {k : Str} {u : Tok} {Q : Bool → Shared → Prop} (ho : s.heap.get? a = some (sObj "set" D)) (R : TxR P w D l) (room : l.length + 1 < scanBound)
    (h : ∀ (r : Bool) (h' : Heap) (D' : SD) (l' : List Str), Heap.SameBut a s.heap h' → h'.get? a = some (sObj "set" D') → TxR P w D' l' → (∀ x, x ∈ l' ↔ x ∈ l ∨ x = k) → l'.length ≤ l.length + 1 → Q r { s with heap := h' }) :
    wpAny (model P w) A (setAddHashed a (.str k u) (hashStr w k)) Q E s := by
  by_cases hk : k ∈ l
  · have keep := h false s.heap D l (Heap.SameBut.refl a s.heap) ho R (fun x => ⟨.inl, fun z => z.elim id fun e => e ▸ hk⟩) (by omega)
    obtain ⟨es, ep, t⟩ := D
    have F := R.ok
    have dat : (sObj "set" (es, ep, t)).data = .set es ep t := rfl
    have fit : t.fits es.size = true := F.fit
    have els : ElemsOf (PySem.strKind P w) es.toList := F.el
    have cnt : es.size = l.length := F.sz
    obtain ⟨e, he, pe⟩ := (F.mem k).mp hk
    unfold setAddHashed setAddHashedIn
    refine wpAny_holding (wpAny_bind (wpAny_setState_of ho dat fit ?_))
    dsimp only
    rw [byScan_of rfl (by omega) els]
    simp only [↓reduceIte]
    unfold setAddByScan
    refine wpAny_bind (wpAny_bind (wpAny_rule ?_))
    refine wpAny_bind (wpAny_setScan_of (knd := PySem.strKind P w) (k := k) (is_str k u) ho dat fit els ?_)
    cases hf : List.findIdx? (fun e => (PySem.strKind P w).is k e.2) es.toList with
    | none =>
      have q := List.findIdx?_eq_none_iff.mp hf e he
      rw [pe] at q
      cases q
    | some j => exact wpAny_pure (wpAny_pure keep)
  · refine add_x ho R.ok hk room ?_
    have at' : (s.heap.update a (fun _ => sObj "set" (addTx (hashStr w k) (.str k u) D))).get? a = some (sObj "set" (addTx (hashStr w k) (.str k u) D)) := get_upd _ ho rfl
    exact h true _ _ (k :: l) (Heap.SameBut.update s.heap a _) at' (R.more u hk) (fun x => by rw [List.mem_cons]; exact Or.comm) (Nat.le_refl _)

/-- the loop of an update by texts -/
theorem loopTxt {I : Addr} {fp wr : List Addr} {G : Array GenState → Array GenState → Prop} {n : Nat} {Pv : Nat → Value → Prop} {St : Nat → Shared → Prop} {R : Result → Shared → Prop}
    (W : WalksS P w A.in1 I fp wr G n Pv St) (b : Addr) (hb : b ∉ fp) (xs : List Str) (hn : n = xs.length) (room : xs.length + 1 < scanBound) (hv : ∀ i v, Pv i v → ∃ x t, xs[i]? = some x ∧ v = .str x t) :
    ∀ (k i : Nat) (s : Shared), n - i = k → i ≤ n → St i s → (∃ D l, s.heap.get? b = some (sObj "set" D) ∧ TxR P w D l ∧ (∀ x, x ∈ l ↔ x ∈ xs.take i) ∧ l.length ≤ i) →
      (∀ s' D l, Moved (b :: wr) G s s' → s'.heap.get? b = some (sObj "set" D) → TxR P w D l → (∀ x, x ∈ l ↔ x ∈ xs) → l.length ≤ n → R (.ok (.ret .none)) s') →
      codeAny (model P w) A (.builtin "set.update.loop" ⟨[.ref b, .ref I], []⟩) R s := by
  have hbw : b ∉ wr := fun z => hb (W.sub _ z)
  have wider : ∀ c ∈ wr, c ∈ b :: wr := fun c hc => List.mem_cons_of_mem _ hc
  intro k
  induction k with
  | zero =>
    intro i s hk hi hst ⟨D, l, ho, T, hl, hc⟩ hR
    obtain rfl : i = n := by omega
    refine codeAny_builtin F.entry_set_update_loop ?_
    rw [Around.under_plainId F.plain_set_update_loop _]
    show wpAny _ A.in1 (pyNext (.ref I) >>= _) _ _ s
    refine wpAny_bind (W.done s _ _ hst fun s1 hm => ?_)
    show wpAny _ A.in1 (ret Value.none) _ _ s1
    rw [List.take_of_length_le (by omega)] at hl
    exact wpAny_pure (hR s1 D l (hm.mono wider) (hm.heap b _ hbw ho) T hl hc)
  | succ k ih =>
    intro i s hk hi hst ⟨D, l, ho, T, hl, hc⟩ hR
    have hlt : i < n := by omega
    refine codeAny_builtin F.entry_set_update_loop ?_
    rw [Around.under_plainId F.plain_set_update_loop _]
    show wpAny _ A.in1 (pyNext (.ref I) >>= _) _ _ s
    refine wpAny_bind (W.item i s _ _ hlt hst fun v s1 hP hst1 hm => ?_)
    obtain ⟨x, t, hx, rfl⟩ := hv i v hP
    show wpAny _ A.in1 (holding [Value.str x t] (setAdd b (.str x t)) >>= _) _ _ s1
    refine wpAny_bind (wpAny_holding ?_)
    unfold setAdd
    refine wpAny_holding (wpAny_bind ((PySem.strKind P w).pyHash (k := x) (is_str x t) ?_))
    refine addTxt (s := { s1 with toks := s1.toks + 1 }) (hm.heap b _ hbw ho) T (by omega) fun r h2 D2 l2 sb ho2 T2 hm2 hc2 => ?_
    have hl2 : ∀ y, y ∈ l2 ↔ y ∈ xs.take (i + 1) := fun y => by
      rw [hm2 y, hl y, List.take_add_one, hx]
      simp [List.mem_append]
    refine wpAny_pure ⟨plainId_quiet F.plain_set_update_loop _, ih (i + 1) _ (by omega) hlt (W.frame _ s1 _ _ hst1 (Nat.le_succ _) fun c hcf o e => ?_) ⟨D2, l2, ho2, T2, hl2, by omega⟩ fun s3 D3 l3 hm3 ho3 T3 hl3 hc3 => ?_⟩
    · rw [sb.2 c (fun z : c = b => hb (z ▸ hcf))]; exact e
    · refine hR s3 D3 l3 (Moved.trans W.gtrans ((hm.mono wider).then_heap (Nat.le_succ _) fun c o hcn e => ?_) hm3) ho3 T3 hl3 hc3
      rw [sb.2 c (fun z : c = b => hcn (z ▸ List.mem_cons_self))]; exact e
end
end Wk
set_option Elab.async false
set_option linter.all false
set_option maxRecDepth 100000
set_option maxHeartbeats 4000000
/-! the calls set(xs) and sorted(set) for texts -/
namespace Wk
open PySem PySem.Spec PyProof.Rows L2 PySem.Froz
section
variable {P : Program} {w : World} {A : Around} {E : Value → Shared → Prop} {s : Shared}
/-- what `set` makes first -/
def bare0 (w : World) : Obj := { cls := .type "set", dict := none, data := .set #[] 0 (.fresh 0 0 (!w.params.followText "set-order")) }
theorem setOfTxt {l : Addr} {its : Array Value} (xs : List Str) {Q : Value → Shared → Prop} (cold : A.handled = none) (hl : s.heap.IsList l its) (are : StrsAre its.toList xs) (room : xs.length + 1 < scanBound)
    (h : ∀ (h' : Heap) (tk : Nat) (D : SD) (l' : List Str), h'.get? s.heap.objs.size = some (sObj "set" D) → TxR P w D l' → (∀ x, x ∈ l' ↔ x ∈ xs) → l'.length ≤ xs.length →
      (∀ b o, s.heap.get? b = some o → h'.get? b = some o) → Q (.ref s.heap.objs.size) { s with heap := h', toks := tk }) :
    wpAny (model P w) A (call (.type "set") [.ref l]) Q E s := by
  have many : its.size = xs.length := by
    have q := StrsAre.len_eq are
    rw [Array.length_toList] at q
    exact q
  obtain ⟨c, tl, hmro⟩ := F.called_set.mro
  have made := F.called_set.made
  have sub := F.called_set.sub
  refine wpAny_call (codeAny_of_tree ?_)
  show wpAny _ _ (callAny (.type "set") _) _ _ _
  refine wpAny_pure ⟨Code.quiet_builtin _ (by decide +kernel), codeAny_builtin F.entry_type_call ?_⟩
  rw [Around.under_plain (weight_type_call_type "set" [.ref l] []) rfl]
  have t1 := F.called_set.notType
  have t2 := F.called_set.canCreate
  have t3 := F.typeCall_set_1 (.ref l)
  repeat (any_goals (first | assumption | wp_step))
  refine codeAny_mono (code_set_led1 (.ref l) (E := E) (Q₁ := fun z s₁ => z = .ref s.heap.objs.size ∧ s₁ = { s with heap := s.heap.push (bare0 w) }) ⟨rfl, rfl⟩) fun r s₁ hr => ?_
  cases r with
  | error e => exact hr
  | ok fl =>
    cases fl with
    | ret z =>
      obtain ⟨rfl, rfl⟩ := hr
      have at0 : (s.heap.push (bare0 w)).get? s.heap.objs.size = some (bare0 w) := Heap.get?_push_size _ rfl
      have ty : Shared.TypeIs { s with heap := s.heap.push (bare0 w) } (.ref s.heap.objs.size) "set" := ⟨_, at0, rfl⟩
      have i1 := F.called_set.init.lookup
      have i2 := F.called_set.init.bind (.ref s.heap.objs.size)
      repeat (any_goals (first | assumption | wp_step))
      refine codeAny_mono (codeAny_call_builtin (R := wants (fun r s₂ => r = .none ∧ ∃ h' tk D l', s₂ = { s with heap := h', toks := tk } ∧ h'.get? s.heap.objs.size = some (sObj "set" D) ∧ TxR P w D l' ∧ (∀ x, x ∈ l' ↔ x ∈ xs) ∧ l'.length ≤ xs.length ∧
          (∀ b o, s.heap.get? b = some o → h'.get? b = some o)) E) F.called_set.init.plain F.entry_set_init (check_set_init_1 ty ?_)) fun r₂ s₂ hr₂ => ?_
      · obtain ⟨ol, hol, hcl, nl, hdl⟩ := hl
        obtain ⟨oc, od, oD, os⟩ := ol
        simp only at hcl hdl
        subst hcl; subst hdl
        have hol' : (s.heap.push (bare0 w)).get? l = some { cls := .type "list", dict := od, data := .seq its nl, slots := os } := Heap.get?_push_of_some _ hol
        have u1 := F.sub_list_set
        have u2 := F.sub_list_frozenset
        have u3 : (Value.type "list" == Value.type "dict") = false := by decide
        have isl : (s.heap.push (bare0 w)).IsList l its := ⟨_, hol', rfl, nl, rfl⟩
        unfold Builtin.«set.__init__» noKeywords Builtin.Frozenset.updateFrom
        generalize hPI : pyIter = PI
        wp_walk
        subst hPI
        refine wpAny_pyIter_list isl ?_
        refine wpAny_bind (wpAny_runValue ?_)
        have lless : l < s.heap.objs.size := Heap.lt_size hol
        have cold3 : A.in1.in1.in1.handled = none := by simp [cold]
        have sz : (s.heap.push (bare0 w)).objs.size = s.heap.objs.size + 1 := Heap.size_push ..
        have neI : l ≠ (s.heap.push (bare0 w)).objs.size := by rw [sz]; exact Nat.ne_of_lt (Nat.lt_succ_of_lt lless)
        have apart : s.heap.objs.size ∉ [(s.heap.push (bare0 w)).objs.size, l] := by
          rw [sz]
          simp only [List.mem_cons, List.not_mem_nil, or_false, not_or]
          exact And.intro (Nat.ne_of_lt (Nat.lt_succ_self _)) (Nat.ne_of_gt lless)
        have each : ∀ (i : Nat) (v : Value), its[i]? = some v → ∃ x t, xs[i]? = some x ∧ v = .str x t := fun i v hv => by
          have hi : i < xs.length := by rw [← many]; exact (Array.getElem?_eq_some_iff.mp hv).1
          obtain ⟨t, e⟩ := SS.strs_at are i v (by rw [Array.getElem?_toList]; exact hv)
          refine ⟨xs[i], t, List.getElem?_eq_getElem hi, ?_⟩
          rw [e, List.getD_eq_getElem?_getD, List.getElem?_eq_getElem hi] <;> rfl
        refine loopTxt ((Walks.list cold3 _ l neI its).toS) s.heap.objs.size apart xs many room each (its.size - 0) 0 _ (by omega) (Nat.zero_le _) ⟨⟨_, Heap.get?_push_size _ rfl, rfl, rfl⟩, (isl.push _)⟩ ?first ?last
        case first =>
          exact ⟨tx0 w, [], Heap.get?_push_of_some _ at0, TxR.zero P w, fun x => by simp, Nat.le_refl _⟩
        case last =>
          intro s' D l' hm ho T hl' hc'
          obtain ⟨h', g', d', tk', os'⟩ := s'
          have eg : g' = s.gens := hm.gens
          have ed : d' = s.drawn := hm.drawn
          have eo : os' = s.os := hm.os
          subst eg; subst ed; subst eo
          show wpAny _ _ _ _ _ _
          refine wpAny_pure ?_
          show wpAny _ _ (ret Value.none) _ _ _
          rw [many] at hc'
          refine wpAny_pure ⟨rfl, h', tk', D, l', rfl, ho, T, hl', hc', fun b o e => ?_⟩
          have b0 : b < s.heap.objs.size := Heap.lt_size e
          refine hm.heap b o ?_ (Heap.get?_push_of_some _ (Heap.get?_push_of_some _ e))
          simp only [List.mem_cons, List.not_mem_nil, or_false, not_or]
          exact ⟨Nat.ne_of_lt b0, by rw [sz]; exact Nat.ne_of_lt (Nat.lt_succ_of_lt b0)⟩
      · cases r₂ with
        | error e => exact hr₂
        | ok fl₂ =>
          cases fl₂ with
          | ret r =>
            obtain ⟨rfl, h', tk, D, l', rfl, ho, T, hl', hc', old⟩ := hr₂
            repeat (any_goals (first | assumption | wp_step))
            exact h _ _ _ _ ho T hl' hc' old
          | _ => exact hr₂.elim
    | _ => exact hr.elim
end
end Wk
set_option Elab.async false
set_option linter.all false
set_option maxRecDepth 100000
set_option maxHeartbeats 4000000
/-! sorted(set of texts), and both as rules -/
namespace Wk
open PySem PySem.Spec PyProof.Rows L2 PySem.Froz
theorem perm_of_fill {α : Type} [DecidableEq α] : ∀ (l m : List α), l.Nodup → (∀ x ∈ l, x ∈ m) → m.length ≤ l.length → m.Perm l
  | [], m, _, _, h => by
    have e : m = [] := List.length_eq_zero_iff.mp (Nat.le_zero.mp h)
    rw [e]
  | x :: l, m, d, s, h => by
    obtain ⟨d1, d2⟩ := List.nodup_cons.mp d
    have hx : x ∈ m := s x List.mem_cons_self
    have p := List.perm_cons_erase hx
    refine p.trans (List.Perm.cons x (perm_of_fill l (m.erase x) d2 (fun y hy => ?_) ?_))
    · have ne : y ≠ x := fun e => d1 (e ▸ hy)
      exact (List.mem_erase_of_ne ne).mpr (s y (List.mem_cons_of_mem _ hy))
    · have := p.length_eq
      simp only [List.length_cons] at this h
      omega
theorem isStr_eq {x y : Str} {t : Tok} (z : Value.isStrOf x (.str y t) = true) : y = x := by
  simp only [Value.isStrOf] at z
  first | exact eq_of_beq z | exact (eq_of_beq z).symm | exact of_decide_eq_true z | exact (of_decide_eq_true z).symm
section
variable {P : Program} {w : World} {A : Around} {E : Value → Shared → Prop} {s : Shared}
theorem txt_of {D : SD} {l : List Str} (T : TxR P w D l) : ∀ v ∈ D.1.toList.map (·.2), ∃ x t, v = Value.str x t ∧ x ∈ l := fun v hv => by
  obtain ⟨e, he, rfl⟩ := List.mem_map.mp hv
  obtain ⟨⟨k, hk, _⟩, _⟩ := T.ok.el e he
  have hm : k ∈ l := (T.ok.mem k).mpr ⟨e, he, hk⟩
  revert hk
  cases hq : e.2 with
  | str x t =>
    intro hk
    have ek : k = x := by
      have z : Value.isStrOf k (.str x t) = true := hk
      exact (isStr_eq z).symm
    exact ⟨x, t, rfl, ek ▸ hm⟩
  | _ => intro hk; cases hk
theorem sortedOfTxt {a : Addr} {D : SD} {l : List Str} {Q : Value → Shared → Prop} (cold : A.handled = none) (ho : s.heap.get? a = some (sObj "set" D)) (T : TxR P w D l) (room : l.length < scanBound)
    (h : ∀ s' p (out : Array Value) (c : Nat) (ys : List Str), (∀ b o, s.heap.get? b = some o → s'.heap.get? b = some o) → s'.gens = s.gens → s'.os = s.os → s.heap.objs.size ≤ p →
      s'.heap.get? p = some (seqObj "list" out c) → StrsAre out.toList ys → ys.Perm l → sortedS ys = true → Q (.ref p) s') :
    wpAny (model P w) A (call (.builtin "sorted") [.ref a]) Q E s := by
  have cnt : D.1.size = l.length := T.ok.sz
  refine Calls.call_function_entry kind_sorted plain_sorted entry_sorted (args_sorted1 _) ?_
  unfold Builtin.«sorted»
  refine wpAny_bind (m := checkCount "sorted" 1 1 _) (wpAny_pure ?_)
  refine wpAny_bind (collect_set (A := A.in1) cold ⟨_, ho, rfl, rfl⟩ T.ok.fit (by rw [cnt]; exact room) T.ris T.led fun s1 vs k1 z1 g1 o1 pm => ?_)
  have lvs : vs.length = l.length := by rw [pm.length_eq, List.length_map, Array.length_toList, cnt]
  have tx : ∀ v ∈ vs, ∃ x t, v = Value.str x t ∧ x ∈ l := fun v hv => txt_of T v (pm.mem_iff.mp hv)
  have are : StrsAre vs (vs.map strOf) := strsAre_map vs fun v hv => let ⟨x, t, e, _⟩ := tx v hv; ⟨x, t, e⟩
  have sub : ∀ x ∈ l, x ∈ vs.map strOf := fun x hx => by
    obtain ⟨e, he, q⟩ := (T.ok.mem x).mp hx
    have hv : e.2 ∈ vs := pm.mem_iff.mpr (List.mem_map.mpr ⟨e, he, rfl⟩)
    obtain ⟨y, t, ey, _⟩ := tx _ hv
    refine List.mem_map.mpr ⟨e.2, hv, ?_⟩
    rw [ey] at q ⊢
    have z : Value.isStrOf x (.str y t) = true := q
    show y = x
    exact isStr_eq z
  have pl : (vs.map strOf).Perm l := perm_of_fill l _ T.nd sub (by rw [List.length_map, lvs] <;> exact Nat.le_refl _)
  have line : vs.length ≤ sizeLine := by
    rw [lvs]
    exact fits_of_scanBound room
  refine wpAny_bind (wpAny_newList ?_ line)
  have at1 : (s1.heap.push (seqObj "list" vs.toArray 0)).get? s1.heap.objs.size = some (seqObj "list" vs.toArray 0) := Heap.get?_push_size _ rfl
  refine wpAny_bind (wpAny_holding (wpAny_call_entry slot_list_sort ⟨_, at1, rfl⟩ entry_list_sort (list_sort_treeKAny strKind_oneLt at1 are.keysOf (fun v₁ v₂ rest e => keyKind_strs (by rw [← e]; exact are)) line fun st' hp hs => ⟨_, rfl, ?_⟩) (args_list_sort _)))
  obtain ⟨ys, y1, y2, y3⟩ := sorted_out_str are hp hs
  obtain ⟨c, hc⟩ := sortedHeap_at (vs := vs) (out := (arrOf st').map (·.2)) at1
  refine wpAny_pure ⟨_, rfl, h _ s1.heap.objs.size _ c ys (fun b u e => ?_) g1 o1 z1 hc y1 (y2.trans pl) y3⟩
  have q := k1 b u e
  have less := Heap.lt_size q
  show (sortedHeap (s1.heap.push (seqObj "list" vs.toArray 0)) s1.heap.objs.size vs ((arrOf st').map (·.2))).get? b = some u
  rw [sortedHeap_old (Nat.ne_of_lt less) (by rw [size_push']; exact Nat.lt_succ_of_lt less)]
  exact Heap.get?_push_of_some _ q
end

/-- the set of texts at a -/
def SetTx (P : Program) (w : World) (a : Addr) (l : List Str) : HO := .ext fun h => ∃ D, h.get? a = some (sObj "set" D) ∧ TxR P w D l
section
variable {X : Cx}
/-- set(xs) of a list of texts -/
def rSetTx (K : PySem.W.Frag) (P : Program) (w : World) : List V → Hp → VK → Prop := fun vs H Q => ∃ (a : Addr) (xs : List Str), vs = [V.ref a] ∧ SqL K H a (xs.map V.str) ∧ xs.length + 1 < scanBound ∧
  ∀ (p : Addr) (l : List Str), H p = none → l.Nodup → (∀ x, x ∈ l ↔ x ∈ xs) → l.length ≤ xs.length → Q (.ref p) (upd H p (SetTx P w p l))
theorem cr_setTx (hc : X.calm = true) : CallR X (.type "set") (rSetTx X.K X.prog X.w) := by
  intro pins s σ H vs us Q I r h
  obtain ⟨a, xs, rfl, hl, room, q⟩ := h
  rw [Vals.ref1 r]
  obtain ⟨its, rv, pl, _⟩ := I.list hl
  refine setOfTxt xs (I.ok.hd hc) pl.isList (by simpa using strsAre_of rv) room fun h' tk D l ho T hm hn old => ?_
  have free : H s.heap.objs.size = none := I.hok.fresh (Nat.le_refl _)
  exact ⟨.ref _, upd H s.heap.objs.size (SetTx X.prog X.w s.heap.objs.size l), I.laid (t' := tk) old (Nat.le_refl _) ⟨⟨D, ho, T⟩, ⟨_, ho⟩, fun h1 h2 p k => let ⟨D, a, b⟩ := p; ⟨D, k _ a, b⟩⟩, rfl, q _ l free T.nd hm hn⟩
/-- sorted of a set of texts -/
def rSortTx (P : Program) (w : World) : List V → Hp → VK → Prop := fun vs H Q => ∃ (a : Addr) (l : List Str), vs = [V.ref a] ∧ H a = some (SetTx P w a l) ∧ l.length < scanBound ∧
  ∀ (ys : List Str) (p : Addr), ys.Perm l → ys.Nodup → sortedS ys = true → H p = none → Q (.ref p) (upd H p (.lst (ys.map V.str)))
theorem cr_sortTx (hc : X.calm = true) : CallR X (.builtin "sorted") (rSortTx X.prog X.w) := by
  intro pins s σ H vs us Q I r h
  obtain ⟨a, l, rfl, ha, room, q⟩ := h
  obtain ⟨D, ho, T⟩ := (I.hok a _ ha).1
  rw [Vals.ref1 r]
  refine sortedOfTxt (I.ok.hd hc) ho T room fun s' p out c ys k g o hp hg are pm so => ?_
  have len : (ys.map V.str).length ≤ sizeLine := by
    rw [List.length_map, pm.length_eq]
    exact fits_of_scanBound room
  have free : H p = none := I.hok.fresh hp
  have J : Inv X pins σ (upd H p (.lst (ys.map V.str))) { s with heap := s'.heap, gens := s'.gens, drawn := s'.drawn, toks := s'.toks } :=
    I.call (ch := []) (Un.laid k hp free) (I.hok.laid k hp ⟨len, out.toList, c, vals_of_strs are, hg⟩) (by rw [g]; exact I.bare) (fun _ z => nomatch z)
  have e : s' = { s with heap := s'.heap, gens := s'.gens, drawn := s'.drawn, toks := s'.toks } := by
    cases s'
    cases s
    cases o
    rfl
  rw [e]
  exact ⟨.ref p, _, J, rfl, q ys p pm (pm.nodup_iff.mpr T.nd) so free⟩
end
end Wk
set_option Elab.async false
set_option linter.all false
set_option maxRecDepth 100000
set_option maxHeartbeats 4000000
/-! set(list of numbers) of few different ones, and sorted of it. -/
namespace Wk
open PySem PySem.Spec PyProof.Rows L2 PySem.Froz
theorem int_cover : ∀ (M : Nat) (l : List Int), l.Nodup → (∀ k ∈ l, 0 ≤ k ∧ k < (M : Int)) → l.length ≤ M := by
  intro M l nd h
  have e : l.map Int.toNat ⊆ List.range M := fun x hx => by
    obtain ⟨k, hk, rfl⟩ := List.mem_map.mp hx
    have := h k hk
    exact List.mem_range.mpr (by omega)
  have n2 : (l.map Int.toNat).Nodup := by
    refine List.pairwise_map.mpr ((List.Pairwise.and_mem.mp nd).imp ?_)
    rintro a b ⟨ha, hb, ne⟩ q
    have := h a ha
    have := h b hb
    exact ne (by omega)
  have key : ∀ (l m : List Nat), l.Nodup → l ⊆ m → l.length ≤ m.length := by
    intro l
    induction l with
    | nil => exact fun m _ _ => Nat.zero_le _
    | cons x l ih =>
      intro m nd hs
      obtain ⟨n1, n2⟩ := List.nodup_cons.mp nd
      have hx : x ∈ m := hs List.mem_cons_self
      have := ih (m.erase x) n2 fun y hy => (List.mem_erase_of_ne (fun z : y = x => n1 (z ▸ hy))).mpr (hs (List.mem_cons_of_mem _ hy))
      rw [List.length_erase_of_mem hx] at this
      have := List.length_pos_of_mem hx
      rw [List.length_cons]
      omega
  have := key _ _ n2 e
  rw [List.length_map, List.length_range] at this
  exact this
theorem setR_small {w : World} {h : Heap} {a : Addr} {S : Int → Bool} {n M : Nat} (R : SetR w h a S n) (hM : ∀ k, S k = true → 0 ≤ k ∧ k < (M : Int)) : n ≤ M := by
  obtain ⟨o, es, ep, t, _, _, _, _, nd, hm, _, _, hn, _, _⟩ := R
  have := int_cover M (es.toList.map keyOf) nd fun k hk => hM k ((hm k).mpr hk)
  rw [List.length_map, Array.length_toList, hn] at this
  exact this
section
variable {P : Program} {w : World} {A : Around} {E : Value → Shared → Prop} {s : Shared}
/-- the loop of an update by numbers -/
theorem loopInt {I : Addr} {fp wr : List Addr} {G : Array GenState → Array GenState → Prop} {n : Nat} {Pv : Nat → Value → Prop} {St : Nat → Shared → Prop} {R : Result → Shared → Prop}
    (W : WalksS P w A.in1 I fp wr G n Pv St) (b : Addr) (hb : b ∉ fp) (xs : List Int) (M : Nat) (hn : n = xs.length) (room : M + 1 < scanBound) (hM : ∀ k ∈ xs, 0 ≤ k ∧ k < (M : Int)) (hv : ∀ i v, Pv i v → ∃ x t, xs[i]? = some x ∧ v = .int x t) :
    ∀ (k i : Nat) (s : Shared), n - i = k → i ≤ n → St i s → (∃ c, SetR w s.heap b (fun j => decide (j ∈ xs.take i)) c) →
      (∀ s' c, Moved (b :: wr) G s s' → SetR w s'.heap b (fun j => decide (j ∈ xs)) c → R (.ok (.ret .none)) s') →
      codeAny (model P w) A (.builtin "set.update.loop" ⟨[.ref b, .ref I], []⟩) R s := by
  have hbw : b ∉ wr := fun z => hb (W.sub _ z)
  have wider : ∀ c ∈ wr, c ∈ b :: wr := fun c hc => List.mem_cons_of_mem _ hc
  intro k
  induction k with
  | zero =>
    intro i s hk hi hst ⟨c, hS⟩ hR
    obtain rfl : i = n := by omega
    refine codeAny_builtin F.entry_set_update_loop ?_
    rw [Around.under_plainId F.plain_set_update_loop _]
    show wpAny _ A.in1 (pyNext (.ref I) >>= _) _ _ s
    refine wpAny_bind (W.done s _ _ hst fun s1 hm => ?_)
    show wpAny _ A.in1 (ret Value.none) _ _ s1
    rw [List.take_of_length_le (by omega)] at hS
    exact wpAny_pure (hR s1 c (hm.mono wider) (hS.at fun o e => hm.heap b o hbw e))
  | succ k ih =>
    intro i s hk hi hst ⟨c, hS⟩ hR
    have hlt : i < n := by omega
    refine codeAny_builtin F.entry_set_update_loop ?_
    rw [Around.under_plainId F.plain_set_update_loop _]
    show wpAny _ A.in1 (pyNext (.ref I) >>= _) _ _ s
    refine wpAny_bind (W.item i s _ _ hlt hst fun v s1 hP hst1 hm => ?_)
    obtain ⟨x, t, hx, rfl⟩ := hv i v hP
    have hS1 : SetR w s1.heap b (fun j => decide (j ∈ xs.take i)) c := hS.at fun o e => hm.heap b o hbw e
    have cM : c ≤ M := setR_small hS1 fun k hk => hM k (List.mem_of_mem_take (of_decide_eq_true hk))
    show wpAny _ A.in1 (holding [Value.int x t] (setAdd b (.int x t)) >>= _) _ _ s1
    refine wpAny_bind (wpAny_holding ?_)
    unfold setAdd
    refine wpAny_holding (wpAny_bind ((PySem.intKind P w).pyHash (k := x) (intKind_is _ _ _ _) ?_))
    refine setR_add_hashed (s := { s1 with toks := s1.toks + 1 }) hS1 (by omega) fun h2 sb hS2 => ?_
    have hS3 : SetR w h2 b (fun j => decide (j ∈ xs.take (i + 1))) _ := hS2.congr fun j => by
      rw [List.take_add_one, hx]
      simp [List.mem_append]
    refine wpAny_pure ⟨plainId_quiet F.plain_set_update_loop _, ih (i + 1) _ (by omega) hlt (W.frame _ s1 _ _ hst1 (Nat.le_succ _) fun c hcf o e => ?_) ⟨_, hS3⟩ fun s3 c3 hm3 hS4 => ?_⟩
    · rw [sb.2 c (fun z : c = b => hb (z ▸ hcf))]; exact e
    · refine hR s3 c3 (Moved.trans W.gtrans ((hm.mono wider).then_heap (Nat.le_succ _) fun c o hcn e => ?_) hm3) hS4
      rw [sb.2 c (fun z : c = b => hcn (z ▸ List.mem_cons_self))]; exact e
theorem setOfInt {l : Addr} {its : Array Value} (xs : List Int) (M : Nat) {Q : Value → Shared → Prop} (cold : A.handled = none) (hl : s.heap.IsList l its) (are : IntsAre its.toList xs) (room : M + 1 < scanBound) (hM : ∀ k ∈ xs, 0 ≤ k ∧ k < (M : Int))
    (h : ∀ (h' : Heap) (tk c : Nat), SetR w h' s.heap.objs.size (fun j => decide (j ∈ xs)) c →
      (∀ b o, s.heap.get? b = some o → h'.get? b = some o) → Q (.ref s.heap.objs.size) { s with heap := h', toks := tk }) :
    wpAny (model P w) A (call (.type "set") [.ref l]) Q E s := by
  have many : its.size = xs.length := by
    have q := IntsAre.length are
    rw [Array.length_toList] at q
    exact q
  obtain ⟨c, tl, hmro⟩ := F.called_set.mro
  have made := F.called_set.made
  have sub := F.called_set.sub
  refine wpAny_call (codeAny_of_tree ?_)
  show wpAny _ _ (callAny (.type "set") _) _ _ _
  refine wpAny_pure ⟨Code.quiet_builtin _ (by decide +kernel), codeAny_builtin F.entry_type_call ?_⟩
  rw [Around.under_plain (weight_type_call_type "set" [.ref l] []) rfl]
  have t1 := F.called_set.notType
  have t2 := F.called_set.canCreate
  have t3 := F.typeCall_set_1 (.ref l)
  repeat (any_goals (first | assumption | wp_step))
  refine codeAny_mono (code_set_led1 (.ref l) (E := E) (Q₁ := fun z s₁ => z = .ref s.heap.objs.size ∧ s₁ = { s with heap := s.heap.push (bare0 w) }) ⟨rfl, rfl⟩) fun r s₁ hr => ?_
  cases r with
  | error e => exact hr
  | ok fl =>
    cases fl with
    | ret z =>
      obtain ⟨rfl, rfl⟩ := hr
      have at0 : (s.heap.push (bare0 w)).get? s.heap.objs.size = some (bare0 w) := Heap.get?_push_size _ rfl
      have ty : Shared.TypeIs { s with heap := s.heap.push (bare0 w) } (.ref s.heap.objs.size) "set" := ⟨_, at0, rfl⟩
      have i1 := F.called_set.init.lookup
      have i2 := F.called_set.init.bind (.ref s.heap.objs.size)
      repeat (any_goals (first | assumption | wp_step))
      refine codeAny_mono (codeAny_call_builtin (R := wants (fun r s₂ => r = .none ∧ ∃ h' tk c, s₂ = { s with heap := h', toks := tk } ∧ SetR w h' s.heap.objs.size (fun j => decide (j ∈ xs)) c ∧
          (∀ b o, s.heap.get? b = some o → h'.get? b = some o)) E) F.called_set.init.plain F.entry_set_init (check_set_init_1 ty ?_)) fun r₂ s₂ hr₂ => ?_
      · obtain ⟨ol, hol, hcl, nl, hdl⟩ := hl
        obtain ⟨oc, od, oD, os⟩ := ol
        simp only at hcl hdl
        subst hcl; subst hdl
        have hol' : (s.heap.push (bare0 w)).get? l = some { cls := .type "list", dict := od, data := .seq its nl, slots := os } := Heap.get?_push_of_some _ hol
        have u1 := F.sub_list_set
        have u2 := F.sub_list_frozenset
        have u3 : (Value.type "list" == Value.type "dict") = false := by decide
        have isl : (s.heap.push (bare0 w)).IsList l its := ⟨_, hol', rfl, nl, rfl⟩
        unfold Builtin.«set.__init__» noKeywords Builtin.Frozenset.updateFrom
        generalize hPI : pyIter = PI
        wp_walk
        subst hPI
        refine wpAny_pyIter_list isl ?_
        refine wpAny_bind (wpAny_runValue ?_)
        have lless : l < s.heap.objs.size := Heap.lt_size hol
        have cold3 : A.in1.in1.in1.handled = none := by simp [cold]
        have sz : (s.heap.push (bare0 w)).objs.size = s.heap.objs.size + 1 := Heap.size_push ..
        have neI : l ≠ (s.heap.push (bare0 w)).objs.size := by rw [sz]; exact Nat.ne_of_lt (Nat.lt_succ_of_lt lless)
        have apart : s.heap.objs.size ∉ [(s.heap.push (bare0 w)).objs.size, l] := by
          rw [sz]
          simp only [List.mem_cons, List.not_mem_nil, or_false, not_or]
          exact And.intro (Nat.ne_of_lt (Nat.lt_succ_self _)) (Nat.ne_of_gt lless)
        have each : ∀ (i : Nat) (v : Value), its[i]? = some v → ∃ x t, xs[i]? = some x ∧ v = .int x t := fun i v hv => by
          have hi : i < xs.length := by rw [← many]; exact (Array.getElem?_eq_some_iff.mp hv).1
          obtain ⟨t, e⟩ := PyProof.Rows.IntsAre.int_at are i v (by rw [Array.getElem?_toList]; exact hv)
          refine ⟨xs[i], t, List.getElem?_eq_getElem hi, ?_⟩
          rw [e, List.getD_eq_getElem?_getD, List.getElem?_eq_getElem hi] <;> rfl
        refine loopInt ((Walks.list cold3 _ l neI its).toS) s.heap.objs.size apart xs M many room hM each (its.size - 0) 0 _ (by omega) (Nat.zero_le _) ⟨⟨_, Heap.get?_push_size _ rfl, rfl, rfl⟩, (isl.push _)⟩ ?first ?last
        case first =>
          exact ⟨0, setR_new_at (Heap.get?_push_of_some _ at0)⟩
        case last =>
          intro s' c' hm hS'
          obtain ⟨h', g', d', tk', os'⟩ := s'
          have eg : g' = s.gens := hm.gens
          have ed : d' = s.drawn := hm.drawn
          have eo : os' = s.os := hm.os
          subst eg; subst ed; subst eo
          show wpAny _ _ _ _ _ _
          refine wpAny_pure ?_
          show wpAny _ _ (ret Value.none) _ _ _
          refine wpAny_pure ⟨rfl, h', tk', c', rfl, hS', fun b o e => ?_⟩
          have b0 : b < s.heap.objs.size := Heap.lt_size e
          refine hm.heap b o ?_ (Heap.get?_push_of_some _ (Heap.get?_push_of_some _ e))
          simp only [List.mem_cons, List.not_mem_nil, or_false, not_or]
          exact ⟨Nat.ne_of_lt b0, by rw [sz]; exact Nat.ne_of_lt (Nat.lt_succ_of_lt b0)⟩
      · cases r₂ with
        | error e => exact hr₂
        | ok fl₂ =>
          cases fl₂ with
          | ret r =>
            obtain ⟨rfl, h', tk, c', rfl, hS', old⟩ := hr₂
            repeat (any_goals (first | assumption | wp_step))
            exact h _ _ _ hS' old
          | _ => exact hr₂.elim
    | _ => exact hr.elim
/-- sorted of a set of numbers, of any number below the scan's bound -/
theorem sortedOfInt {a : Addr} {S : Int → Bool} {n : Nat} {Q : Value → Shared → Prop} (R : SetR w s.heap a S n) (cold : A.handled = none)
    (h : ∀ s' p (out : Array Value) (c : Nat) (ns : List Int), (∀ b o, s.heap.get? b = some o → s'.heap.get? b = some o) → s'.gens = s.gens → s'.os = s.os → s.heap.objs.size ≤ p →
      s'.heap.get? p = some (seqObj "list" out c) → IntsAre out.toList ns → (∀ k, k ∈ ns ↔ S k = true) → ns.length = n → ns.Nodup → Q (.ref p) s') :
    wpAny (model P w) A (call (.builtin "sorted") [.ref a]) Q E s := by
  obtain ⟨o, es, ep, t, ho, hex, hd, g, nd, hm, hb, hf, hn, hr, hl⟩ := R
  refine Calls.call_function_entry kind_sorted plain_sorted entry_sorted (args_sorted1 _) ?_
  unfold Builtin.«sorted»
  refine wpAny_bind (m := checkCount "sorted" 1 1 _) (wpAny_pure ?_)
  refine wpAny_bind (collect_set (A := A.in1) cold ⟨o, ho, hex.1, hd⟩ hf hb hr hl fun s1 vs k1 z1 g1 o1 pm => ?_)
  have lvs : vs.length = n := by rw [pm.length_eq, List.length_map, Array.length_toList]; exact hn
  have are : IntsAre vs (vs.map Builtin.Re.reRawOf) := ints_of vs fun v hv => by
    obtain ⟨e, he, q⟩ := List.mem_map.mp (pm.mem_iff.mp hv)
    obtain ⟨k, tk, e1, _⟩ := g e he
    exact ⟨k, tk, q ▸ e1⟩
  have pk : (vs.map Builtin.Re.reRawOf).Perm (es.toList.map keyOf) := by
    have q := pm.map Builtin.Re.reRawOf
    rw [List.map_map] at q
    exact q
  have line : vs.length ≤ sizeLine := by
    rw [lvs, ← hn]
    exact fits_of_scanBound hb
  refine wpAny_bind (wpAny_newList ?_ line)
  have at1 : (s1.heap.push (seqObj "list" vs.toArray 0)).get? s1.heap.objs.size = some (seqObj "list" vs.toArray 0) := Heap.get?_push_size _ rfl
  refine wpAny_bind (wpAny_holding (wpAny_call_entry slot_list_sort ⟨_, at1, rfl⟩ entry_list_sort (list_sort_treeAny at1 are line fun out ns' a1 a2 a3 => ⟨_, rfl, ?_⟩) (args_list_sort _)))
  obtain ⟨c, hc⟩ := sortedHeap_at (vs := vs) (out := out) at1
  have pn : ns'.Perm (es.toList.map keyOf) := a2.trans pk
  refine wpAny_pure ⟨_, rfl, h _ s1.heap.objs.size out c ns' (fun b u e => ?_) g1 o1 z1 hc a1 (fun k => by rw [pn.mem_iff, ← hm k]) ?_ (pn.nodup_iff.mpr nd)⟩
  · have q := k1 b u e
    have less := Heap.lt_size q
    show (sortedHeap (s1.heap.push (seqObj "list" vs.toArray 0)) s1.heap.objs.size vs out).get? b = some u
    rw [sortedHeap_old (Nat.ne_of_lt less) (by rw [size_push']; exact Nat.lt_succ_of_lt less)]
    exact Heap.get?_push_of_some _ q
  · rw [pn.length_eq, List.length_map, Array.length_toList]
    exact hn
end
section
variable {X : Cx}
/-- set(xs) of a list of numbers from 0 to below M -/
def rSetI (K : PySem.W.Frag) (w : World) : List V → Hp → VK → Prop := fun vs H Q => ∃ (a : Addr) (xs : List Int) (M : Nat), vs = [V.ref a] ∧ SqL K H a (xs.map V.int) ∧ M + 1 < scanBound ∧ (∀ k ∈ xs, 0 ≤ k ∧ k < (M : Int)) ∧
  ∀ (p : Addr) (c : Nat), H p = none → Q (.ref p) (upd H p (SetO w p (fun j => decide (j ∈ xs)) c))
theorem cr_setI (hc : X.calm = true) : CallR X (.type "set") (rSetI X.K X.w) := by
  intro pins s σ H vs us Q I r h
  obtain ⟨a, xs, M, rfl, hl, room, hM, q⟩ := h
  rw [Vals.ref1 r]
  obtain ⟨its, rv, pl, _⟩ := I.list hl
  refine setOfInt xs M (I.ok.hd hc) pl.isList (by simpa using ints_of_vals rv) room hM fun h' tk c R old => ?_
  have free : H s.heap.objs.size = none := I.hok.fresh (Nat.le_refl _)
  exact ⟨.ref _, upd H s.heap.objs.size (SetO X.w s.heap.objs.size (fun j => decide (j ∈ xs)) c), I.laid (t' := tk) old (Nat.le_refl _) (setO_new R), rfl, q _ c free⟩
def rSortSetI (w : World) : List V → Hp → VK → Prop := fun vs H Q => ∃ (a : Addr) (S : Int → Bool) (n : Nat), vs = [V.ref a] ∧ H a = some (SetO w a S n) ∧
  ∀ (ns : List Int) (p : Addr), (∀ k : Int, k ∈ ns ↔ S k = true) → ns.Nodup → H p = none → Q (.ref p) (upd H p (.lst (ns.map V.int)))
theorem cr_sortSetI (hc : X.calm = true) : CallR X (.builtin "sorted") (rSortSetI X.w) := by
  intro pins s σ H vs us Q I r h
  obtain ⟨a, S, n, rfl, ha, q⟩ := h
  have R := setO_get I ha
  have hb : n < scanBound := by
    obtain ⟨o, es, ep, t, _, _, _, _, _, _, b, _, e, _, _⟩ := R
    rw [← e]
    exact b
  rw [Vals.ref1 r]
  refine sortedOfInt R (I.ok.hd hc) fun s' p out c ns k g o hp hg are hm hl nd => ?_
  have len : (ns.map V.int).length ≤ sizeLine := by
    rw [List.length_map, hl]
    exact fits_of_scanBound hb
  have free : H p = none := I.hok.fresh hp
  have J : Inv X pins σ (upd H p (.lst (ns.map V.int))) { s with heap := s'.heap, gens := s'.gens, drawn := s'.drawn, toks := s'.toks } :=
    I.call (ch := []) (Un.laid k hp free) (I.hok.laid k hp ⟨len, out.toList, c, vals_of_ints are, hg⟩) (by rw [g]; exact I.bare) (fun _ z => nomatch z)
  have e : s' = { s with heap := s'.heap, gens := s'.gens, drawn := s'.drawn, toks := s'.toks } := by
    cases s'
    cases s
    cases o
    rfl
  rw [e]
  exact ⟨.ref p, _, J, rfl, q ns p hm nd free⟩
end
end Wk
set_option Elab.async false
set_option linter.all false
set_option maxRecDepth 100000
set_option maxHeartbeats 4000000
/-! sorted of a set of numbers: ascending, as many as the set has. -/
namespace Wk
open PySem PySem.Spec PyProof.Rows L2 PySem.Froz
section
variable {P : Program} {w : World} {A : Around} {E : Value → Shared → Prop} {s : Shared}
/-- sorted of a set of numbers: ascending -/
theorem sortedOfIntL {a : Addr} {S : Int → Bool} {n : Nat} {Q : Value → Shared → Prop} (R : SetR w s.heap a S n) (cold : A.handled = none)
    (h : ∀ s' p (out : Array Value) (c : Nat) (ns : List Int), (∀ b o, s.heap.get? b = some o → s'.heap.get? b = some o) → s'.gens = s.gens → s'.os = s.os → s.heap.objs.size ≤ p →
      s'.heap.get? p = some (seqObj "list" out c) → IntsAre out.toList ns → (∀ k, k ∈ ns ↔ S k = true) → ns.length = n → ns.Pairwise (· < ·) → Q (.ref p) s') :
    wpAny (model P w) A (call (.builtin "sorted") [.ref a]) Q E s := by
  obtain ⟨o, es, ep, t, ho, hex, hd, g, nd, hm, hb, hf, hn, hr, hl⟩ := R
  refine Calls.call_function_entry kind_sorted plain_sorted entry_sorted (args_sorted1 _) ?_
  unfold Builtin.«sorted»
  refine wpAny_bind (m := checkCount "sorted" 1 1 _) (wpAny_pure ?_)
  refine wpAny_bind (collect_set (A := A.in1) cold ⟨o, ho, hex.1, hd⟩ hf hb hr hl fun s1 vs k1 z1 g1 o1 pm => ?_)
  have lvs : vs.length = n := by rw [pm.length_eq, List.length_map, Array.length_toList]; exact hn
  have are : IntsAre vs (vs.map Builtin.Re.reRawOf) := ints_of vs fun v hv => by
    obtain ⟨e, he, q⟩ := List.mem_map.mp (pm.mem_iff.mp hv)
    obtain ⟨k, tk, e1, _⟩ := g e he
    exact ⟨k, tk, q ▸ e1⟩
  have pk : (vs.map Builtin.Re.reRawOf).Perm (es.toList.map keyOf) := by
    have q := pm.map Builtin.Re.reRawOf
    rw [List.map_map] at q
    exact q
  have line : vs.length ≤ sizeLine := by
    rw [lvs, ← hn]
    exact fits_of_scanBound hb
  refine wpAny_bind (wpAny_newList ?_ line)
  have at1 : (s1.heap.push (seqObj "list" vs.toArray 0)).get? s1.heap.objs.size = some (seqObj "list" vs.toArray 0) := Heap.get?_push_size _ rfl
  refine wpAny_bind (wpAny_holding (wpAny_call_entry slot_list_sort ⟨_, at1, rfl⟩ entry_list_sort (list_sort_treeAny at1 are line fun out ns' a1 a2 a3 => ⟨_, rfl, ?_⟩) (args_list_sort _)))
  obtain ⟨c, hc⟩ := sortedHeap_at (vs := vs) (out := out) at1
  have pn : ns'.Perm (es.toList.map keyOf) := a2.trans pk
  refine wpAny_pure ⟨_, rfl, h _ s1.heap.objs.size out c ns' (fun b u e => ?_) g1 o1 z1 hc a1 (fun k => by rw [pn.mem_iff, ← hm k]) ?_ ?_⟩
  · have q := k1 b u e
    have less := Heap.lt_size q
    show (sortedHeap (s1.heap.push (seqObj "list" vs.toArray 0)) s1.heap.objs.size vs out).get? b = some u
    rw [sortedHeap_old (Nat.ne_of_lt less) (by rw [size_push']; exact Nat.lt_succ_of_lt less)]
    exact Heap.get?_push_of_some _ q
  · rw [pn.length_eq, List.length_map, Array.length_toList]
    exact hn
  · exact (a3.and (pn.nodup_iff.mpr nd)).imp fun h => (by have a := h.1; have b := h.2; omega)
end
section
variable {X : Cx}
def rSortSetJ (w : World) : List V → Hp → VK → Prop := fun vs H Q => ∃ (a : Addr) (S : Int → Bool) (n : Nat), vs = [V.ref a] ∧ H a = some (SetO w a S n) ∧
  ∀ (ns : List Int) (p : Addr), (∀ k : Int, k ∈ ns ↔ S k = true) → ns.length = n → ns.Pairwise (· < ·) → H p = none → Q (.ref p) (upd H p (.lst (ns.map V.int)))
theorem cr_sortSetJ (hc : X.calm = true) : CallR X (.builtin "sorted") (rSortSetJ X.w) := by
  intro pins s σ H vs us Q I r h
  obtain ⟨a, S, n, rfl, ha, q⟩ := h
  have R := setO_get I ha
  have hb : n < scanBound := by
    obtain ⟨o, es, ep, t, _, _, _, _, _, _, b, _, e, _, _⟩ := R
    rw [← e]
    exact b
  rw [Vals.ref1 r]
  refine sortedOfIntL R (I.ok.hd hc) fun s' p out c ns k g o hp hg are hm hl nd => ?_
  have len : (ns.map V.int).length ≤ sizeLine := by
    rw [List.length_map, hl]
    exact fits_of_scanBound hb
  have free : H p = none := I.hok.fresh hp
  have J : Inv X pins σ (upd H p (.lst (ns.map V.int))) { s with heap := s'.heap, gens := s'.gens, drawn := s'.drawn, toks := s'.toks } :=
    I.call (ch := []) (Un.laid k hp free) (I.hok.laid k hp ⟨len, out.toList, c, vals_of_ints are, hg⟩) (by rw [g]; exact I.bare) (fun _ z => nomatch z)
  have e : s' = { s with heap := s'.heap, gens := s'.gens, drawn := s'.drawn, toks := s'.toks } := by
    cases s'
    cases s
    cases o
    rfl
  rw [e]
  exact ⟨.ref p, _, J, rfl, q ns p hm hl nd free⟩
end
end Wk
set_option Elab.async false
set_option linter.all false
set_option maxRecDepth 100000
set_option maxHeartbeats 4000000
/-! {e for x in ..} whose members are whole numbers. -/
namespace Wk
open PySem PySem.Spec PyProof.Rows L2 PySem.Froz
/-- y is a number and can be put into the set at D -/
def PutI (w : World) (D : Addr) (y : V) (H : Hp) (Nx : Hp → Prop) : Prop :=
  ∃ (c : Int) (S : Int → Bool) (n : Nat), y = .int c ∧ H D = some (SetO w D S n) ∧ n + 1 < scanBound ∧
    Nx (upd H D (SetO w D (fun j => S j || decide (j = c)) (if S c = true then n else n + 1)))
/-- the reading, by a walk: Pv is what holds behind i turns -/
def tSi (w : World) (wi : TI) (g : TG) (tt : TT) (te : TE) (vs : List Nat) : TE := fun σ H Q => wi σ H fun J H1 => ∀ D, H1 D = none →
  ∃ (n : Nat) (G : Hp → Prop) (Y : Nat → Hp → V → Hp → Prop) (Pv : Nat → Hp → Prop), Walk J n G Y ∧ Pv 0 (upd H1 D (SetO w D (fun _ => false) 0)) ∧ (∀ i H2, i ≤ n → Pv i H2 → G H2) ∧
    (∀ i x H2 H3, i < n → Pv i H2 → Y i H2 x H3 → g x (wipe σ vs) H3 fun σ2 H4 => wipe σ2 vs = wipe σ vs ∧ tt σ2 H4 fun b H5 =>
      if b = true then te σ2 H5 fun y H6 => PutI w D y H6 (Pv (i + 1)) else Pv (i + 1) H5) ∧
    ∀ H2, Pv n H2 → Q (.ref D) H2
section
variable {X : Cx}
theorem put_add {pins : List (Addr × Obj)} {σ : L2.St} {H : Hp} {s : Shared} {E : Value → Shared → Prop} {D : Addr} {y : V} {u : Value} {Nx : Hp → Prop} {Q : Value → Shared → Prop}
    (I : Inv X pins σ H s) (r : RelV y u) (p : PutI X.w D y H Nx) (k : ∀ s' H', Inv X pins σ H' s' → Nx H' → Q .none s') :
    wpAny (model X.prog X.w) X.A (call (.builtin "set.add") [.ref D, u]) Q E s := by
  obtain ⟨c, S, n, rfl, hD, room, nx⟩ := p
  obtain ⟨tk, rfl⟩ := r
  refine setR_add (setO_get I hD) room fun h' same R => k _ _ (I.write (e := D) (t' := s.toks + 1) (by rw [hD]; trivial) (.inl rfl) (fun b u hb hu => (same.2 b hb).trans hu) ?_ (setO_new R)) nx
  obtain ⟨o, _, _, _, ho, _⟩ := R
  exact ⟨o, ho⟩
/-- the comprehension as a value -/
theorem pe_si {elt tg iter : Expr} {ifs : List Expr} {scope : Scope} {own : List (PySem.Str × Nat)} {pos : Pos} {wi : TI} {g : TG} {tt : TT} {te : TE} (cold : X.calm = true) (nd : X.N.Nodup) (hi : PI X tg iter wi) (ok : BlkOk X.N X.env.scope scope own)
    (hg : ∀ (s : Shared) (H : Hp) (C : Addr) (cl : List (PySem.Str × Addr)) (fp : List Addr), PG (X.blk s H scope (compEnvC scope cl C X.env) fp) tg g)
    (ht : ∀ (s : Shared) (H : Hp) (C : Addr) (cl : List (PySem.Str × Addr)) (fp : List Addr), PTs (X.blk s H scope (compEnvC scope cl C X.env) fp) ifs tt)
    (he : ∀ (s : Shared) (H : Hp) (C : Addr) (cl : List (PySem.Str × Addr)) (fp : List Addr), PE (X.blk s H scope (compEnvC scope cl C X.env) fp) elt te) (fold : ∀ x, foldedSetIterable iter X.env x = pure x := by intro _; rfl) :
    PE X (.SetComp elt [⟨tg, iter, ifs, 0⟩] scope pos) (tSi X.w wi g tt te (own.map (·.2))) := by
  refine ⟨fun pins s σ H Q I h => ?_⟩
  rw [PpSet.eval_SetComp]
  have fr : ∀ y ∈ scope.names, y.2 = .free → ∃ c, X.env.cells.lookup y.1 = some c := fun y hy e => by
    rcases ok.free y hy e with z | z
    · exact I.ok.has _ (.inl z)
    · exact I.ok.has _ (.inr z)
  refine wpAny_comprehension_free rfl fold (closure_ok fr) ok.kind (fun y hy e => by rw [ok.uniq y hy, e]) (thn (hi.run pins s σ H _ I h) fun v0 t0 h0 => thn h0 fun v1 t1 h1 => ?_)
  obtain ⟨it, fp, tn, J, H1, rfl, I1, T, at1, f1, q⟩ := h1
  refine PpSet.newSet_ok (newEnv_comp ?_)
  generalize hD : t1.heap.objs.size = D
  obtain ⟨n, G, Y, Pv, wk, p0, pG, turn, fin⟩ := q D (I1.hok.fresh (Nat.le_of_eq hD))
  suffices key : ∀ t2 : Shared, t2 = { t1 with heap := t1.heap.push (bare0 X.w) } →
      codeAny (model X.prog X.w) X.A (.compStart (.SetComp elt [⟨tg, iter, ifs, 0⟩] scope pos) 0 (.ref it) (.ref D) (compEnvC scope (cellsFrom (t2.heap.objs.size + 1) scope.names (cloFrom X.env.cells scope.names [])) t2.heap.objs.size X.env))
        (compPost (model X.prog X.w) X.A X.xe none (EP X pins σ Q) (.ref D) t2.heap.objs.size) { t2 with heap := pushCells (t2.heap.push { cls := .type "dict", data := .dict #[] }) scope.names } by
    exact key _ rfl
  intro t2 ht2
  have e2 : t2.heap = t1.heap.push (bare0 X.w) := by rw [ht2]
  -- the new set, and the walk's own objects beside it
  have I2 : Inv X pins σ (upd H1 D (SetO X.w D (fun _ => false) 0)) t2 := by
    rw [ht2]
    refine I1.laid (t' := t1.toks) (fun b o e => Heap.get?_push_of_some _ e) (Nat.le_of_eq hD) (setO_new ?_)
    rw [← hD]
    exact setR_fresh X.w
  generalize hH2 : upd H1 D (SetO X.w D (fun _ => false) 0) = H2 at p0 I2
  have f2 : ∀ b ∈ fp, FpOk X pins H2 b ∧ b < t2.heap.objs.size := fun b hb => by
    obtain ⟨o, e, _⟩ := T.obj _ _ at1 b hb
    have l := Heap.lt_size e
    refine ⟨⟨?_, (f1 b hb).2⟩, by rw [e2, Heap.size_push]; exact Nat.lt_succ_of_lt l⟩
    rw [← hH2, upd_ne (fun e => absurd (hD ▸ e ▸ l) (Nat.lt_irrefl _))]
    exact (f1 b hb).1
  have at2 : tn 0 t2.heap := T.keep _ _ _ at1 fun b _ o e => by
    rw [e2]
    exact Heap.get?_push_of_some _ e
  -- the comprehension's own frame
  have I3 := block_start I2 ok nd f2
  have pg := hg t2 H2 t2.heap.objs.size (cellsFrom (t2.heap.objs.size + 1) scope.names (cloFrom X.env.cells scope.names [])) fp
  have pt := ht t2 H2 t2.heap.objs.size (cellsFrom (t2.heap.objs.size + 1) scope.names (cloFrom X.env.cells scope.names [])) fp
  have pe := he t2 H2 t2.heap.objs.size (cellsFrom (t2.heap.objs.size + 1) scope.names (cloFrom X.env.cells scope.names [])) fp
  generalize hce : compEnvC scope (cellsFrom (t2.heap.objs.size + 1) scope.names (cloFrom X.env.cells scope.names [])) t2.heap.objs.size X.env = ce at I3 pg pt pe ⊢
  have own0 : ce.locals = t2.heap.objs.size := by rw [← hce]; rfl
  generalize ht3 : ({ t2 with heap := pushCells (t2.heap.push { cls := .type "dict", data := .dict #[] }) scope.names } : Shared) = t3 at I3 ⊢
  have at3 : tn 0 t3.heap := T.keep _ _ _ at2 fun b _ o e => by
    rw [← ht3]
    exact pushCells_keeps _ _ _ _ (Heap.get?_push_of_some _ e)
  -- one turn, and the walk's end
  let B := X.blk t2 H2 scope ce fp
  let In : Nat → Shared → Prop := fun m s' => ∃ i H', m = n - i ∧ i ≤ n ∧ Inv B [] (wipe σ (own.map (·.2))) H' s' ∧ tn i s'.heap ∧ (∀ b ∈ fp, H' b = none) ∧ Pv i H'
  have still : ∀ {pl : List (Addr × Obj)} {σ' : L2.St} {H' : Hp} {s' : Shared}, Inv B pl σ' H' s' → pl = [] → (∀ b ∈ fp, H' b = none) → ∀ b ∈ fp, FpOk B [] H' b := fun {pl σ' H' s'} I' _ no b hb =>
    ⟨no b hb, (I'.ok.exf b hb).1, I'.ok.exfs b hb, .inl hb, fun x c e => (I'.ok.exf b hb).2 x c e, fun p hp => absurd (show p ∈ ([] : List (Addr × Obj)) ++ [] from hp) (by simp)⟩
  have loop : codeAny (model X.prog X.w) X.A (.compLoop (.SetComp elt [⟨tg, iter, ifs, 0⟩] scope pos) 0 (.ref it) (.ref D) ce) (compPost (model X.prog X.w) X.A X.xe none (EP X pins σ Q) (.ref D) t2.heap.objs.size) t3 := by
    refine PpSet.compLoopS_any In ?_ n ⟨0, H2, rfl, Nat.zero_le _, I3, at3, fun b hb => (f2 b hb).1.1, p0⟩
    rintro _ s4 ⟨i, H4, rfl, le, I4, at4, no4, pv⟩
    have g4 := pG i H4 le pv
    rcases Nat.lt_or_ge i n with lt | ge
    · refine thnF (T.item B rfl rfl rfl cold i [] s4 _ H4 (fun _ _ => False) I4 (still I4 rfl no4) at4 (wk.goes i H4 lt g4)) fun r s5 ⟨u, hr, h5⟩ => ?_
      subst hr
      refine thnF h5 fun _ s6 ⟨x, H6, I6, r6, y6, at6, no6⟩ => ?_
      have step := turn i x H4 H6 lt pv (wk.yields i H4 x H6 lt g4 y6)
      have again : ∀ {σ' : L2.St} {s' : Shared} {H' : Hp}, Inv B ([] ++ pinsAt fp s6.heap) σ' H' s' → wipe σ' (own.map (·.2)) = wipe σ (own.map (·.2)) → Pv (i + 1) H' → ∃ m, m < n - i ∧ In m s' := fun {σ' s' H'} I' hw2 p' => by
        have pin : ∀ b ∈ fp, ∀ o, s6.heap.get? b = some o → s'.heap.get? b = some o ∧ H' b = none := fun b hb o e =>
          let z := I'.pin (b, o) (List.mem_append_right _ (List.mem_append_right _ (mem_pinsAt hb e)))
          ⟨z.1, z.2.1⟩
        have len : (wipe σ (own.map (·.2))).length = σ'.length := by rw [← hw2, wipe_length]
        refine ⟨n - (i + 1), by omega, i + 1, H', rfl, lt, I'.unpinned.weak len (fun j v e => ?_), T.keep _ _ _ at6 fun b hb o e => (pin b hb o e).1, fun b hb => ?_, p'⟩
        · rw [← hw2] at e
          exact (wipe_some e).1
        · obtain ⟨o, e, _⟩ := T.obj _ _ at6 b hb
          exact (pin b hb o e).2
      refine thnF (pg.run _ s6 _ H6 x u _ (I6.pinned (still I6 rfl no6) (T.obj _ _ at6)) r6 step) fun _ s7 ⟨σ7, H7, I7, hw, q7⟩ => ?_
      refine thnF (pt.run _ s7 σ7 H7 _ I7 q7) fun b s8 ⟨H8, I8, q8⟩ => ?_
      cases b with
      | false =>
        rw [if_neg Bool.false_ne_true] at q8 ⊢
        exact again I8 hw q8
      | true =>
        rw [if_pos rfl] at q8 ⊢
        refine thnF (pe.run _ s8 σ7 H8 _ I8 q8) fun z s9 ⟨y, H9, I9, r9, put⟩ => ?_
        exact put_add (X := B) I9 r9 put fun s' H' I' p' => again I' hw p'
    · obtain rfl : i = n := by omega
      refine thnF (T.done B rfl rfl rfl cold i [] s4 _ H4 (fun _ _ => False) I4 (still I4 rfl no4) at4 (wk.stops H4 g4)) fun r s5 ⟨hr, I5⟩ => ?_
      subst hr
      have I6 : Inv X pins σ H4 s5 := I2.call' (ch := fp) I5.os I5.base I5.hok I5.bare fun b hb => ⟨(f2 b hb).1.2.2.2.1, (f2 b hb).1.2.1, (f2 b hb).1.2.2.2.2.1, (f2 b hb).1.2.2.2.2.2⟩
      obtain ⟨m, hn, _⟩ := I5.loc
      have no5 : H4 t2.heap.objs.size = none := own0 ▸ (show H4 ce.locals = none from I5.free)
      have hn : s5.heap.Ns t2.heap.objs.size m := own0 ▸ (show s5.heap.Ns ce.locals m from hn)
      obtain ⟨c0, c1, c2, c3, c4, c5⟩ := I2.fpOk (Nat.le_refl _) no5
      exact ⟨m, hn, fun h' sb => ⟨.ref D, H4, I6.turned (t' := s5.toks) (fun b o hb e => (sb.2 b hb).trans e) c0 c1 c3 c4 c5, rfl, fin H4 pv⟩⟩
  exact PpSet.codeAny_compStart_set loop (T.self X.A 0 _ _ _ at3 loop)
end
end Wk
set_option Elab.async false
set_option linter.all false
set_option maxRecDepth 100000
set_option maxHeartbeats 4000000
/-! Rings, the program's own: all of them. -/
namespace LB
open PySem L2 Wk
open Bg (Bg Wo)
/-- the set comprehension over a list -/
theorem si_list {w : World} {K : PySem.W.Frag} {a : Addr} {xs : List V} {g : TG} {tt : TT} {te : TE} {vs : List Nat} {σ : L2.St} {H1 : Hp} {D : Addr} {Qd : Hp → Prop} (Pv : Nat → Hp → Prop) (h0 : Pv 0 (upd H1 D (SetO w D (fun _ => false) 0))) (hl : ∀ i H, i ≤ xs.length → Pv i H → SqL K H a xs)
    (hs : ∀ i x H, xs[i]? = some x → Pv i H → g x (wipe σ vs) H fun σ2 H2 => wipe σ2 vs = wipe σ vs ∧ tt σ2 H2 fun b H3 => if b = true then te σ2 H3 fun y H4 => PutI w D y H4 (Pv (i + 1)) else Pv (i + 1) H3) (hd : ∀ H, Pv xs.length H → Qd H) :
    ∃ (n : Nat) (G : Hp → Prop) (Y : Nat → Hp → V → Hp → Prop) (Pv : Nat → Hp → Prop), Walk (Itl K a) n G Y ∧ Pv 0 (upd H1 D (SetO w D (fun _ => false) 0)) ∧ (∀ i H2, i ≤ n → Pv i H2 → G H2) ∧
      (∀ i x H2 H3, i < n → Pv i H2 → Y i H2 x H3 → g x (wipe σ vs) H3 fun σ2 H4 => wipe σ2 vs = wipe σ vs ∧ tt σ2 H4 fun b H5 => if b = true then te σ2 H5 fun y H6 => PutI w D y H6 (Pv (i + 1)) else Pv (i + 1) H5) ∧ ∀ H2, Pv n H2 → Qd H2 :=
  ⟨xs.length, fun H => SqL K H a xs, YAt xs, Pv, walk_list, h0, hl, fun i x H2 H3 _ p y => by
    obtain ⟨rfl, hx⟩ := y
    exact hs i x _ hx p, hd⟩
theorem intsN_len (l : List Nat) : (intsN l).length = l.length := by
  unfold intsN
  rw [List.length_map]
theorem intsN_get {l : List Nat} {i : Nat} {y : V} (h : (intsN l)[i]? = some y) : ∃ n : Nat, l[i]? = some n ∧ y = .int (n : Int) := by
  unfold intsN at h
  rw [List.getElem?_map] at h
  cases c : l[i]? with
  | none => rw [c] at h; cases h
  | some n => rw [c] at h; exact ⟨n, rfl, (Option.some.inj h).symm⟩
theorem counted_at {g : Nat → Nat} {M x : Nat} (h : x < M + 1) : ((List.range (M + 1)).map g)[x]? = some (g x) := by
  rw [List.getElem?_map, List.getElem?_range h]
  rfl
theorem ne_of_lst {G : Hp} {a D : Addr} {w : World} {F : Int → Bool} {n : Nat} {l : List V} (h : G a = some (.lst l)) (hD : G D = some (SetO w D F n)) : a ≠ D := fun e => by
  rw [e, hD] at h
  cases h
theorem take_more {g : Nat → Nat} {S : List Nat} {i x : Nat} (hx : S[i]? = some x) {k : Int} : (∃ y ∈ S.take (i + 1), (g y : Int) = k) ↔ (∃ y ∈ S.take i, (g y : Int) = k) ∨ k = (g x : Int) := by
  rw [List.take_add_one, hx]
  constructor
  · rintro ⟨y, hy, e⟩
    rcases List.mem_append.mp hy with hy | hy
    · exact .inl ⟨y, hy, e⟩
    · obtain rfl : y = x := List.mem_singleton.mp hy
      exact .inr e.symm
  · rintro (⟨y, hy, e⟩ | e)
    · exact ⟨y, List.mem_append_left _ hy, e⟩
    · exact ⟨x, List.mem_append_right _ (List.mem_singleton.mpr rfl), e.symm⟩
/-- numbers ascending that are images: as natural numbers -/
theorem img_nat {g : Nat → Nat} {S : List Nat} {ns : List Int} (h : ∀ k, k ∈ ns ↔ ∃ x ∈ S, (g x : Int) = k) (asc : ns.Pairwise (· < ·)) : ∃ I : List Nat, ns.map V.int = intsN I ∧ I.length = ns.length ∧ I.Pairwise (· < ·) ∧ ∀ y, y ∈ I ↔ ∃ x ∈ S, g x = y := by
  have pos : ∀ k ∈ ns, 0 ≤ k := fun k hk => by
    obtain ⟨x, _, rfl⟩ := (h k).mp hk
    exact Int.natCast_nonneg _
  refine ⟨ns.map Int.toNat, ?_, List.length_map _, ?_, fun y => ?_⟩
  · unfold intsN
    rw [List.map_map]
    refine List.map_congr_left fun k hk => ?_
    show V.int k = V.int ((k.toNat : Nat) : Int)
    rw [Int.toNat_of_nonneg (pos k hk)]
  · refine List.pairwise_map.mpr ((List.Pairwise.and_mem.mp asc).imp ?_)
    rintro a b ⟨ha, hb, lt⟩
    have := pos a ha
    have := pos b hb
    omega
  · rw [List.mem_map]
    constructor
    · rintro ⟨k, hk, rfl⟩
      obtain ⟨x, hx, e⟩ := (h k).mp hk
      exact ⟨x, hx, by rw [← e]; rfl⟩
    · rintro ⟨x, hx, rfl⟩
      exact ⟨(g x : Int), (h _).mpr ⟨x, hx, rfl⟩, rfl⟩
theorem same_more {H G : Hp} {q : Addr} {x : HO} (s : Same H G) (n : G q = none) : Same H (upd G q x) := Same.trans s (same_new n)
theorem NewL.less {H G J : Hp} {q : Addr} {out : List (List Nat)} {qs : List Addr} (N : NewL G J q out qs) (s : Same H G) : NewL H J q out qs :=
  ⟨N.1, N.2.1, fun i l r a b => ⟨Same.free s (N.2.2 i l r a b).1, (N.2.2 i l r a b).2⟩⟩
theorem asc_nodup {S : List Nat} (h : S.Pairwise (· < ·)) : S.Nodup := h.imp fun l => Nat.ne_of_lt l
theorem rgV_nat (n : Nat) : rgV 0 ((n : Nat) : Int) = intsN (List.range n) := by
  unfold rgV intsN
  rw [show ((n : Int) - 0).toNat = n by omega]
  refine List.map_congr_left fun k _ => ?_
  show V.int (0 + (k : Int)) = _
  rw [Int.zero_add]
def spRings : Sp := fun vs H Q _ => ∃ (t o te sc : Addr) (ones tens : List Str) (hun : Str) (scales : List Str), vs = [.ref t] ∧ Tab H t ones tens hun scales o te sc ∧ scales.length ≤ 20 ∧
  ∀ q H' out qs, H q = none → Same H H' → RingsL (fL ones tens hun scales) out → NewL H H' q out qs → Q (.ref q) H'
section
variable {P : Program} {w : World} {K : PySem.W.Frag} {mg : Str → Option Value} {base : Heap}
end
end LB
set_option Elab.async false
set_option linter.all false
set_option maxRecDepth 100000
set_option maxHeartbeats 4000000
/-! The letters of a name, group by group. -/
namespace LB
open PySem L2 Wk LC
open Bg (Bg Wo)
section
variable (ones tens : List Str) (hun : Str) (scales : List Str)
def lenO (i : Nat) : Nat := ((ones[i]?).getD hun).length
def lenT (i : Nat) : Nat := ((tens[i]?).getD hun).length
def lenS (i : Nat) : Nat := ((scales[i]?).getD hun).length
/-- the letters of a number below hundred, 0 without any -/
def b2 (e : Nat) : Nat := if e = 0 then 0 else if e < 20 then lenO ones hun e else lenT tens hun (e / 10 - 2) + (if e % 10 = 0 then 0 else lenO ones hun (e % 10))
def gl (g : Nat) : Nat := (if g / 100 = 0 then 0 else lenO ones hun (g / 100) + hun.length) + b2 ones tens hun (g % 100)
/-- the letters of a group at a place -/
def szL (j g : Nat) : Nat := if g = 0 then 0 else gl ones tens hun g + (if j = 0 then 0 else lenS hun scales (j - 1))
def wl (l : List Wo) : Int := ((l.map (wd ones tens hun scales)).map fun w => ((w.length : Nat) : Int)).sum
end
section
variable {ones tens : List Str} {hun : Str} {scales : List Str}
theorem szL_zero (j : Nat) : szL ones tens hun scales j 0 = 0 := rfl
theorem wl_app (a b : List Wo) : wl ones tens hun scales (a ++ b) = wl ones tens hun scales a + wl ones tens hun scales b := by
  unfold wl
  rw [List.map_append, List.map_append, List.sum_append]
theorem wl_one (x : Wo) : wl ones tens hun scales [x] = (((wd ones tens hun scales x).length : Nat) : Int) := by
  unfold wl
  simp
theorem wl_two (x y : Wo) : wl ones tens hun scales [x, y] = (((wd ones tens hun scales x).length : Nat) : Int) + (((wd ones tens hun scales y).length : Nat) : Int) := by
  unfold wl
  simp
theorem wl_nil : wl ones tens hun scales [] = 0 := rfl
theorem wd_low1 {a : Nat} (h : a < 20) : (wd ones tens hun scales (.low (a : Int))).length = lenO ones hun a := by
  unfold wd lenO
  dsimp only
  rw [if_pos (by omega), Int.toNat_natCast]
theorem wd_low2 {i : Nat} (h : 2 ≤ i) : (wd ones tens hun scales (.low (10 * (i : Int)))).length = lenT tens hun (i - 2) := by
  unfold wd lenT
  dsimp only
  rw [if_neg (by omega), show (10 * (i : Int) / 10 - 2).toNat = i - 2 by omega]
theorem wl_group {g : Nat} (h : g < 1000) : wl ones tens hun scales (Bg.groupW (g : Int)) = (gl ones tens hun g : Int) := by
  unfold Bg.groupW gl
  obtain ⟨a, ha⟩ : ∃ a, a = g / 100 := ⟨_, rfl⟩
  obtain ⟨b, hb⟩ : ∃ b, b = g % 100 := ⟨_, rfl⟩
  have e1 : (g : Int) / 100 = (a : Int) := by omega
  have e2 : (g : Int) % 100 = (b : Int) := by omega
  have e3 : (b : Int) / 10 = ((b / 10 : Nat) : Int) := by omega
  have e4 : (b : Int) % 10 = ((b % 10 : Nat) : Int) := by omega
  rw [e1, e2, e3, e4, ← ha, ← hb, wl_app]
  have p1 : wl ones tens hun scales (if (a : Int) > 0 then [Wo.low (a : Int), Wo.hun] else []) = ((if a = 0 then 0 else lenO ones hun a + hun.length : Nat) : Int) := by
    by_cases c : a = 0
    · rw [if_neg (by omega), if_pos c]
      rfl
    · rw [if_pos (by omega), if_neg c, wl_two, wd_low1 (by omega)]
      show _ + ((hun.length : Nat) : Int) = _
      omega
  have p2 : wl ones tens hun scales (if (b : Int) ≥ 20 then Wo.low (10 * ((b / 10 : Nat) : Int)) :: (if ((b % 10 : Nat) : Int) > 0 then [Wo.low ((b % 10 : Nat) : Int)] else []) else if (b : Int) > 0 then [Wo.low (b : Int)] else []) = (b2 ones tens hun b : Int) := by
    unfold b2
    by_cases c : b < 20
    · rw [if_neg (by omega)]
      by_cases c0 : b = 0
      · rw [if_neg (by omega), if_pos c0]
        rfl
      · rw [if_pos (by omega), if_neg c0, if_pos c, wl_one, wd_low1 c]
    · rw [if_pos (show (b : Int) ≥ 20 by omega), if_neg (show ¬ b = 0 by omega), if_neg c]
      by_cases c1 : b % 10 = 0
      · rw [if_neg (show ¬ ((b % 10 : Nat) : Int) > 0 by omega), if_pos c1, wl_one, wd_low2 (by omega), Nat.add_zero]
      · rw [if_pos (show ((b % 10 : Nat) : Int) > 0 by omega), if_neg c1, wl_two, wd_low2 (by omega), wd_low1 (by omega)]
        omega
  rw [p1, p2]
  omega
theorem gr_dg (n j : Nat) : Bg.gr (n : Int) j = (dg j n : Int) := by
  unfold Bg.gr dg Bg.W
  rw [show ((1000 : Int) ^ j) = ((1000 ^ j : Nat) : Int) from (Int.natCast_pow 1000 j).symm, ← Int.natCast_ediv]
  rfl
theorem wl_part (n j : Nat) : wl ones tens hun scales (Bg.partW (n : Int) j) = (szL ones tens hun scales j (dg j n) : Int) := by
  unfold Bg.partW szL
  rw [gr_dg]
  have lt : dg j n < 1000 := Nat.mod_lt _ (by decide)
  by_cases c : dg j n = 0
  · rw [if_neg (by omega), if_pos c]
    rfl
  · rw [if_pos (by omega), if_neg c, wl_app, wl_group lt]
    cases j with
    | zero => rw [if_neg (by omega), if_pos rfl, wl_nil]; omega
    | succ j =>
      rw [if_pos (by omega), if_neg (by omega), wl_one]
      show _ + ((lenS hun scales j : Nat) : Int) = _
      rw [Nat.add_sub_cancel]
      omega
theorem wl_sp (n : Nat) : ∀ k, wl ones tens hun scales (Bg.spW (n : Int) k) = (fz (szL ones tens hun scales) k n : Int)
  | 0 => rfl
  | k + 1 => by
    show wl ones tens hun scales (Bg.partW (n : Int) k ++ Bg.spW (n : Int) k) = ((fz (szL ones tens hun scales) k n + szL ones tens hun scales k (dg k n) : Nat) : Int)
    rw [wl_app, wl_sp n k, wl_part]
    omega
theorem fL_fz {n : Nat} (h : 0 < n) : fL ones tens hun scales n = fz (szL ones tens hun scales) (scales.length + 1) n := by
  have e := fL_eq ones tens hun scales n
  have e2 : lettersN ones tens hun scales (n : Int) = wl ones tens hun scales (Bg.spW (n : Int) (scales.length + 1)) := by
    unfold lettersN nmL Bg.nameW wl
    rw [if_neg (by omega)]
  rw [e2, wl_sp] at e
  exact (Int.ofNat.inj e).symm
theorem fL_zero : fL ones tens hun scales 0 = lenO ones hun 0 := by
  have e := fL_eq ones tens hun scales 0
  have e2 : lettersN ones tens hun scales ((0 : Nat) : Int) = wl ones tens hun scales [.low ((0 : Nat) : Int)] := rfl
  rw [e2, wl_one, wd_low1 (by decide)] at e
  exact (Int.ofNat.inj e).symm
theorem range_plus {α : Type} (f : Nat → α) (a : Nat) : ∀ b, (List.range (a + b)).map f = (List.range a).map f ++ (List.range b).map fun j => f (a + j)
  | 0 => by simp
  | b + 1 => by
    rw [show a + (b + 1) = a + b + 1 from rfl, List.range_succ, List.map_append, range_plus f a b, List.range_succ, List.map_append, List.append_assoc]
    rfl
theorem lenO_at {l : List Str} {hun : Str} {i : Nat} {z : Str} (h : l[i]? = some z) : lenO l hun i = z.length := by
  unfold lenO
  rw [h]
  rfl
theorem low0 (l1 : ones.length = 20) : 0 :: (ones.drop 1).map (·.length) = (List.range 20).map (b2 ones tens hun) := by
  match ones, l1 with
  | [a0, a1, a2, a3, a4, a5, a6, a7, a8, a9, a10, a11, a12, a13, a14, a15, a16, a17, a18, a19], _ => rfl
/-- one word of the tens more -/
theorem low_tens {i : Nat} {z : Str} (hz : tens[i]? = some z) (hi : i < 8) : (List.range (20 + 10 * i)).map (b2 ones tens hun) ++ ((List.range 10).map (b2 ones tens hun)).map (fun x => z.length + x) = (List.range (20 + 10 * (i + 1))).map (b2 ones tens hun) := by
  rw [show 20 + 10 * (i + 1) = 20 + 10 * i + 10 by omega, range_plus (b2 ones tens hun) (20 + 10 * i) 10, List.map_map]
  congr 1
  refine List.map_congr_left fun j hj => ?_
  have j10 := List.mem_range.mp hj
  have e : (20 + 10 * i + j) / 10 - 2 = i := by omega
  have e' : (20 + 10 * i + j) % 10 = j := by omega
  show z.length + b2 ones tens hun j = b2 ones tens hun (20 + 10 * i + j)
  unfold b2
  rw [if_neg (show ¬ 20 + 10 * i + j = 0 by omega), if_neg (show ¬ 20 + 10 * i + j < 20 by omega), e, e', if_pos (show j < 20 by omega)]
  congr 1
  unfold lenT
  rw [hz]
  rfl
theorem low_small {g : Nat} (h : g < 100) : gl ones tens hun g = b2 ones tens hun g := by
  unfold gl
  rw [if_pos (by omega), Nat.mod_eq_of_lt h, Nat.zero_add]
theorem low_first : (List.range 100).map (b2 ones tens hun) = (List.range 100).map (gl ones tens hun) := List.map_congr_left fun g hg => (low_small (List.mem_range.mp hg)).symm
theorem low_huns {i : Nat} (hi : i < 9) : (List.range (100 + 100 * i)).map (gl ones tens hun) ++ ((List.range 100).map (b2 ones tens hun)).map (fun x => b2 ones tens hun (1 + i) + hun.length + x) = (List.range (100 + 100 * (i + 1))).map (gl ones tens hun) := by
  rw [show 100 + 100 * (i + 1) = 100 + 100 * i + 100 by omega, range_plus (gl ones tens hun) (100 + 100 * i) 100, List.map_map]
  congr 1
  refine List.map_congr_left fun j hj => ?_
  have j10 := List.mem_range.mp hj
  show b2 ones tens hun (1 + i) + hun.length + b2 ones tens hun j = gl ones tens hun (100 + 100 * i + j)
  unfold gl
  rw [show (100 + 100 * i + j) / 100 = 1 + i by omega, show (100 + 100 * i + j) % 100 = j by omega, if_neg (by omega)]
  have : b2 ones tens hun (1 + i) = lenO ones hun (1 + i) := by
    unfold b2
    rw [if_neg (by omega), if_pos (by omega)]
  rw [this]
theorem sizes_step {i : Nat} {z : Str} (hz : scales[i]? = some z) : [0] ++ (((List.range 1000).map (gl ones tens hun)).drop 1).map (fun x => x + z.length) = (List.range 1000).map (szL ones tens hun scales (i + 1)) := by
  have e : (List.range 1000).map (gl ones tens hun) = [gl ones tens hun 0] ++ (List.range 999).map fun j => gl ones tens hun (1 + j) := range_plus (gl ones tens hun) 1 999
  have e2 : (List.range 1000).map (szL ones tens hun scales (i + 1)) = [szL ones tens hun scales (i + 1) 0] ++ (List.range 999).map fun j => szL ones tens hun scales (i + 1) (1 + j) := range_plus (szL ones tens hun scales (i + 1)) 1 999
  rw [e, e2, szL_zero]
  congr 1
  show ((List.range 999).map fun j => gl ones tens hun (1 + j)).map (fun x => x + z.length) = _
  rw [List.map_map]
  refine List.map_congr_left fun j hj => ?_
  show gl ones tens hun (1 + j) + z.length = szL ones tens hun scales (i + 1) (1 + j)
  unfold szL lenS
  rw [if_neg (by omega), if_neg (by omega), Nat.add_sub_cancel, hz]
  rfl
theorem sizes_zero : (List.range 1000).map (gl ones tens hun) = (List.range 1000).map (szL ones tens hun scales 0) := List.map_congr_left fun g hg => by
  unfold szL
  by_cases c : g = 0
  · rw [if_pos c, c]
    rfl
  · rw [if_neg c, if_pos rfl]
    rfl
end
end LB
set_option Elab.async false
set_option linter.all false
set_option maxRecDepth 100000
set_option maxHeartbeats 4000000
/-! The program's own: the letters of groups, counted. -/
namespace LB
open PySem L2 Wk
open Bg (Bg Wo)
theorem cut_mapF {α : Type} (f : α → V) (l : List α) (k : Nat) : cutV (l.map f) (some (k : Int)) none = (l.drop k).map f := by
  unfold cutV
  rw [HT.sIx_nat, HT.sIx_none, List.map_drop, List.take_of_length_le (by rw [List.length_drop]; exact Nat.le_refl _)]
  rcases Nat.le_total k (l.map f).length with h | h
  · rw [Nat.min_eq_left h]
  · rw [Nat.min_eq_right h, List.drop_of_length_le h, List.drop_of_length_le (Nat.le_refl _)]
theorem small_app {B : Nat} {a b : List Nat} (ha : ∀ x ∈ a, x ≤ B) (hb : ∀ x ∈ b, x ≤ B) : ∀ x ∈ a ++ b, x ≤ B := fun x h => (List.mem_append.mp h).elim (ha x) (hb x)
theorem small_map {α : Type} {B : Nat} {f : α → Nat} {l : List α} (h : ∀ x ∈ l, f x ≤ B) : ∀ y ∈ l.map f, y ≤ B := fun y hy => by
  obtain ⟨x, hx, rfl⟩ := List.mem_map.mp hy
  exact h x hx
theorem intsN_app (a b : List Nat) : intsN (a ++ b) = intsN a ++ intsN b := by
  unfold intsN
  rw [List.map_append]
/-- [f x for x in l] -/
theorem lc_mapN {α : Type} {K : PySem.W.Frag} {a D : Addr} {l : List α} (emb : α → V) (f : α → Nat) {tt : TT} {te : TE} {g : TG} {vs : List Nat} {σ : L2.St} {H1 : Hp} {Qd : Hp → Prop} (ha : H1 a = some (.lst (l.map emb))) (nD : H1 D = none) (few : l.length ≤ 10000)
    (hs : ∀ (i : Nat) (x : α) (J : Hp) (k : VK) (e : Hp → Prop), l[i]? = some x → Same H1 J → k (.int ((f x : Nat) : Int)) J → g (emb x) (wipe σ vs) J fun σ2 H2 => wipe σ2 vs = wipe σ vs ∧ tt σ2 H2 fun b H3 => if b = true then te σ2 H3 k else e H3)
    (hd : ∀ J, J D = some (.lst (intsN (l.map f))) → Same H1 J → Qd J) :
    ∃ W : Nat → Nat → Hp → Prop, (∃ m, W 0 m (upd H1 D (.lst []))) ∧ ∀ i m H, W i m H →
      ((Itl K a).stop i H ∧ Qd H) ∨ ((Itl K a).go i H ∧ ∃ Nx : Hp → Prop, (∀ H', Nx H' → ∃ m', m' < m ∧ W (i + 1) m' H') ∧ ∀ x H', (Itl K a).yld i H x H' → g x (wipe σ vs) H' fun σ2 H2 => wipe σ2 vs = wipe σ vs ∧ tt σ2 H2 fun b H3 =>
        if b = true then te σ2 H3 fun y H4 => ∃ acc, H4 D = some (.lst acc) ∧ acc.length < sizeLine ∧ Nx (upd H4 D (.lst (acc ++ [y]))) else Nx H3) := by
  have big : 200000 ≤ sizeLine := by decide
  refine lc_list (K := K) (a := a) (xs := l.map emb) (fun i J => J D = some (.lst (intsN ((l.take i).map f))) ∧ Same H1 J) ⟨upd_same, same_new nD⟩ (fun i J _ ⟨_, s⟩ => SqL.of (s _ _ ha)) ?_ ?_
  · rintro i y J hi ⟨hD, sJ⟩
    rw [List.getElem?_map] at hi
    cases c : l[i]? with
    | none => rw [c] at hi; cases hi
    | some x =>
      rw [c] at hi
      obtain rfl : emb x = y := Option.some.inj hi
      refine hs i x J _ _ c sJ ⟨_, hD, by rw [intsN_len, List.length_map, List.length_take]; omega, ?_, fun r o e => ?_⟩
      · rw [upd_same, List.take_add_one, c, List.map_append, intsN_app]
        rfl
      · rw [upd_ne (ne_of_none e nD)]
        exact sJ _ _ e
  · rintro J ⟨hD, sJ⟩
    rw [List.length_map, List.take_length] at hD
    exact hd J hD sJ
def embN : Nat → V := fun n => .int (n : Int)
def spLowest : Sp := fun vs H Q _ => ∃ (t o te sc : Addr) (ones tens : List Str) (hun : Str) (scales : List Str), vs = [.ref t] ∧ Tab H t ones tens hun scales o te sc ∧
  ∀ q H' (l : List Nat), H q = none → Same H H' → l.length = 1000 → (∀ x ∈ l, x ≤ 80) → H' q = some (.lst (intsN l)) → Q (.ref q) H'
def spSizes : Sp := fun vs H Q _ => ∃ (t o te sc : Addr) (ones tens : List Str) (hun : Str) (scales : List Str), vs = [.ref t] ∧ Tab H t ones tens hun scales o te sc ∧
  ∀ q H' (ls : List (List Nat)) (qs : List Addr), H q = none → Same H H' → ls.length = scales.length + 1 → (∀ l ∈ ls, l.length = 1000 ∧ ∀ x ∈ l, x ≤ 100) → NewL H H' q ls qs → Q (.ref q) H'
def ent (e : Nat × Nat) : Key × V := (Sum.inl (e.1 : Int), V.int (e.2 : Int))
theorem ent_of {es : List (Nat × Nat)} {z : Nat} {v : V} (h : valV (es.map ent) (Sum.inl (z : Int) : Key) = some v) : ∃ e ∈ es, v = .int (e.2 : Int) := by
  unfold valV at h
  cases q : (es.map ent).find? fun kv => decide (kv.1 = (Sum.inl (z : Int) : Key)) with
  | none => rw [q] at h; cases h
  | some kv =>
    rw [q] at h
    obtain ⟨e, he, rfl⟩ := List.mem_map.mp (List.mem_of_find?_eq_some q)
    exact ⟨e, he, (Option.some.inj h).symm⟩
theorem ent_put (es : List (Nat × Nat)) (z c : Nat) : ∃ es' : List (Nat × Nat), putK (es.map ent) (Sum.inl (z : Int) : Key) (.int (c : Int)) = es'.map ent ∧ es'.length ≤ es.length + 1 ∧ ∀ e ∈ es', e ∈ es ∨ e = (z, c) := by
  unfold putK
  split
  · refine ⟨es.map fun e => if e.1 = z then (e.1, c) else e, ?_, by rw [List.length_map]; omega, fun e he => ?_⟩
    · rw [List.map_map, List.map_map]
      refine List.map_congr_left fun e _ => ?_
      show (if (Sum.inl (e.1 : Int) : Key) = Sum.inl (z : Int) then ((Sum.inl (e.1 : Int) : Key), V.int (c : Int)) else ent e) = ent (if e.1 = z then (e.1, c) else e)
      by_cases h : e.1 = z
      · rw [if_pos h, if_pos (by rw [h])]
        rfl
      · rw [if_neg h, if_neg (show ¬ ((Sum.inl (e.1 : Int) : Key) = Sum.inl (z : Int)) from fun q => h (Int.ofNat.inj (Sum.inl.inj q)))]
    · obtain ⟨e0, h0, rfl⟩ := List.mem_map.mp he
      by_cases h : e0.1 = z
      · rw [if_pos h, h]
        exact .inr rfl
      · rw [if_neg h]
        exact .inl h0
  · refine ⟨es ++ [(z, c)], by rw [List.map_append]; rfl, by rw [List.length_append]; exact Nat.le_refl _, fun e he => ?_⟩
    rcases List.mem_append.mp he with h | h
    · exact .inl h
    · exact .inr (List.mem_singleton.mp h)
def spCounts : Sp := fun vs H Q _ => ∃ (a : Addr) (l : List Nat), vs = [.ref a] ∧ H a = some (.lst (intsN l)) ∧ l.length ≤ 1000 ∧
  ∀ d H' (es : List (Nat × Nat)), H d = none → Same H H' → es.length ≤ l.length → (∀ e ∈ es, e.1 ∈ l ∧ e.2 ≤ l.length) → H' d = some (.dK (es.map ent)) → Q (.ref d) H'
section
variable {P : Program} {w : World} {K : PySem.W.Frag} {mg : Str → Option Value} {base : Heap}
theorem scLowest : FnScope ["table", "ones", "tens", "hundred", "_", "below_hundred", "digits", "word", "sizes", "digit", "size"] ["table"] (defScope sLowest) := ⟨rfl, rfl, rfl, by decide +kernel, rfl, by decide +kernel, by decide +kernel⟩
theorem scSizes : FnScope ["table", "lowest", "sizes", "scale", "size"] ["table"] (defScope sSizes) := ⟨rfl, rfl, rfl, by decide +kernel, rfl, by decide +kernel, by decide +kernel⟩
theorem scCounts : FnScope ["numbers", "counts", "number"] ["numbers"] (defScope sCounts) := ⟨rfl, rfl, rfl, by decide +kernel, rfl, by decide +kernel, by decide +kernel⟩
theorem ok_lowest {f : Addr} {fd : FuncData} (F : Fun K "_lowest_sizes" "_lowest_sizes" sLowest f fd) (mL : mg "len" = none) (mLi : mg "list" = none) : FnOk P w K mg base CX0 1 f fd ["table"] spLowest := by
  refine F.ok scLowest (fun vs H Q E h => ?_) (fun cdv A outer s H vs Q E hr h => ?_)
  · obtain ⟨t, o, te, sc, ones, tens, hun, scales, rfl, _⟩ := h
    rfl
  · obtain ⟨t, o, te, sc, ones, tens, hun, scales, rfl, T, k⟩ := h
    refine ⟨_, pss_cons (ps_asg (pv 0) (pg_tup (by rfl) (pgs_cons (pg_name (i := 1) scLowest.nd rfl (.inl rfl)) (pgs_cons (pg_name (i := 2) scLowest.nd rfl (.inl rfl)) (pgs_cons (pg_name (i := 3) scLowest.nd rfl (.inr rfl)) (pgs_cons (pg_name (i := 4) scLowest.nd rfl (.inl rfl)) pgs_nil))))))
        (pss_mid (ps_set (i := 5) scLowest.nd rfl (.inl rfl) (pe_op op_cat (pe_lst (pa_cons pe_int pa_nil)) (pe_lc (own := [("word", 7)]) (g := gName 7) (tt := tYes) rfl scLowest.nd (pi_list (pe_slice sl_list (pv 1) (po_some pe_int) po_none)) (blkOk_by (own := [("word", 7)]) (N := ["table", "ones", "tens", "hundred", "_", "below_hundred", "digits", "word", "sizes", "digit", "size"]) (sc := defScope sLowest) (by decide +kernel)) (fun _ _ _ _ _ => pg_name (i := 7) scLowest.nd rfl (Or.inl rfl)) (fun _ _ _ _ _ => pts_nil) (fun _ _ _ _ _ => pe_callB call_len_str (by rfl) mL PySem.boot_len (pa_cons (pv 7) pa_nil)))))
        (pss_mid (ps_set (i := 6) scLowest.nd rfl (.inl rfl) (pe_slice sl_list (pv 5) po_none (po_some pe_int)))
        (pss_mid (ps_for PassesOwn.never rfl (pi_list (pv 2)) (pg_name (i := 7) scLowest.nd rfl (.inr rfl))
          (pss_one (ps_expr (pe_bm PySem.F.plainAttrs_list PySem.F.slot_list_extend PySem.F.type_list_extend mt_extend (pv 5) (pa_cons (pe_lc (own := [("digit", 9)]) (g := gName 9) (tt := tYes) rfl scLowest.nd (pi_list (pv 6)) (blkOk_by (own := [("digit", 9)]) (N := ["table", "ones", "tens", "hundred", "_", "below_hundred", "digits", "word", "sizes", "digit", "size"]) (sc := defScope sLowest) (by decide +kernel)) (fun _ _ _ _ _ => pg_name (i := 9) scLowest.nd rfl (Or.inl rfl)) (fun _ _ _ _ _ => pts_nil) (fun _ _ _ _ _ => pe_op op_add (pe_callB call_len_str (by rfl) mL PySem.boot_len (pa_cons (pv 7) pa_nil)) (pv 9))) pa_nil)))))
        (pss_cons (ps_set (i := 8) scLowest.nd rfl (.inl rfl) (pe_callTy call_list_of (by rfl) mLi (by decide +kernel) (pa_cons (pv 5) pa_nil)))
        (pss_mid (ps_for PassesOwn.never rfl (pi_list (pe_slice sl_list (pv 6) (po_some pe_int) po_none)) (pg_name (i := 9) scLowest.nd rfl (.inr rfl))
          (pss_one (ps_expr (pe_bm PySem.F.plainAttrs_list PySem.F.slot_list_extend PySem.F.type_list_extend mt_extend (pv 8) (pa_cons (pe_lc (own := [("size", 10)]) (g := gName 10) (tt := tYes) rfl scLowest.nd (pi_list (pv 5)) (blkOk_by (own := [("size", 10)]) (N := ["table", "ones", "tens", "hundred", "_", "below_hundred", "digits", "word", "sizes", "digit", "size"]) (sc := defScope sLowest) (by decide +kernel)) (fun _ _ _ _ _ => pg_name (i := 10) scLowest.nd rfl (Or.inl rfl)) (fun _ _ _ _ _ => pts_nil) (fun _ _ _ _ _ => pe_op op_add (pe_op op_add (pv 9) (pe_callB call_len_str (by rfl) mL PySem.boot_len (pa_cons (pv 3) pa_nil))) (pv 10))) pa_nil)))))
        (pss_one (ps_ret (pv 8)))))))), ?_⟩
    have big : 200000 ≤ sizeLine := by decide
    have TA := T.tb.at_
    have lenO : ∀ x ∈ ones, x.length ≤ 20 := fun x hx => (T.good.ok x (List.mem_append_left _ hx)).2.1
    have lenT : ∀ x ∈ tens, x.length ≤ 20 := fun x hx => (T.good.ok x (List.mem_append_right _ (List.mem_append_left _ hx))).2.1
    have lenH : hun.length ≤ 20 := (T.good.ok hun (List.mem_append_right _ (List.mem_append_right _ List.mem_cons_self))).2.1
    refine ⟨_, rfl, t, _, rfl, SqT.of TA.tup, rfl, _, _, rfl, _, _, rfl, _, _, rfl, _, _, rfl, rfl, ?_⟩
    obtain ⟨b0, hb0⟩ : ∃ b0 : List Nat, b0 = 0 :: (ones.drop 1).map (·.length) := ⟨_, rfl⟩
    have b0l : b0.length = 20 := by rw [hb0, List.length_cons, List.length_map, List.length_drop, T.tb.l1]
    have b0s : ∀ x ∈ b0, x ≤ 20 := fun x hx => by
      rw [hb0] at hx
      rcases List.mem_cons.mp hx with rfl | hx
      · exact Nat.zero_le _
      · exact small_map (f := fun w : Str => w.length) (fun w hw => lenO w (List.mem_of_mem_drop hw)) x hx
    refine ⟨fun τ G => ∃ b, τ = [some (.ref t), some (.ref o), some (.ref te), some (.str hun), some (.ref sc), some (.ref b), none, none, none, none, none] ∧ H b = none ∧ G b = some (.lst (intsN b0)) ∧ Same H G, ?_, ?_⟩
    · refine ⟨by show 1 ≤ sizeLine; omega, fun L nL => ?_⟩
      have sL := same_new (x := .lst [.int 0]) nL
      refine ⟨_, rfl, _, rfl, o, _, rfl, SqL.of (sL _ _ TA.lo), fun u nu => ?_⟩
      rw [show (1 : Int) = ((1 : Nat) : Int) from rfl, cut_mapF]
      have su := same_more (x := .lst ((ones.drop 1).map V.str)) sL nu
      have hL : upd (upd H L (.lst [.int 0])) u (.lst ((ones.drop 1).map V.str)) L = some (.lst (intsN [0])) := upd_keepR upd_same nu
      have hu' : upd (upd H L (.lst [.int 0])) u (.lst ((ones.drop 1).map V.str)) u = some (.lst ((ones.drop 1).map V.str)) := upd_same
      revert su hL hu'
      generalize upd (upd H L (.lst [.int 0])) u (.lst ((ones.drop 1).map V.str)) = G1
      intro su hL hu'
      refine ⟨u, rfl, ⟨_, SqL.of hu'⟩, fun D nD => lc_mapN (K := K) V.str (fun w => w.length) hu' nD (by rw [List.length_drop, T.tb.l1]; decide) (fun i x J k e hx sJ hk => ?_) (fun J hD sJ => ?_)⟩
      · have := lenO x (List.mem_of_mem_drop (List.mem_of_getElem? hx))
        exact ⟨rfl, _, rfl, x, rfl, by omega, hk⟩
      · refine ⟨L, D, _, _, rfl, rfl, sJ _ _ hL, hD, by rw [intsN_len, intsN_len, List.length_map, List.length_drop, T.tb.l1]; show 1 + 19 ≤ sizeLine; omega, fun b nb => ?_⟩
        refine ⟨b, rfl, Same.free (Same.trans su sJ) nb, ?_, same_more (Same.trans su sJ) nb⟩
        rw [upd_same, ← intsN_app, hb0]
        rfl
    rintro τ G ⟨b, rfl, nb0, hb, s1⟩
    -- digits
    refine ⟨fun τ G => ∃ b d, τ = [some (.ref t), some (.ref o), some (.ref te), some (.str hun), some (.ref sc), some (.ref b), some (.ref d), none, none, none, none] ∧ b ≠ d ∧ H b = none ∧ G b = some (.lst (intsN b0)) ∧ G d = some (.lst (intsN (b0.take 10))) ∧ Same H G, ?_, ?_⟩
    · refine ⟨_, rfl, _, rfl, b, _, rfl, SqL.of hb, fun d nd => ?_⟩
      rw [show (10 : Int) = ((10 : Nat) : Int) from rfl, cut_to]
      exact ⟨b, d, rfl, ne_of_none hb nd, nb0, upd_keepR hb nd, upd_same, same_more s1 nd⟩
    rintro τ G ⟨b, d, rfl, bd, nb, hb, hd, s1⟩
    obtain ⟨dg, hdg⟩ : ∃ dg, dg = b0.take 10 := ⟨_, rfl⟩
    rw [← hdg] at hd
    have dgl : dg.length = 10 := by rw [hdg, List.length_take, b0l]; rfl
    have dgs : ∀ x ∈ dg, x ≤ 20 := fun x hx => b0s x (List.mem_of_mem_take (hdg ▸ hx))
    refine ⟨fun τ G => ∃ (x7 : Option V) (l : List Nat), τ = [some (.ref t), some (.ref o), some (.ref te), some (.str hun), some (.ref sc), some (.ref b), some (.ref d), x7, none, none, none] ∧ G b = some (.lst (intsN l)) ∧ l.length = 100 ∧ (∀ x ∈ l, x ≤ 40) ∧ G d = some (.lst (intsN dg)) ∧ Same H G, ?_, ?_⟩
    · refine ⟨_, rfl, te, rfl, ⟨_, SqL.of (s1 _ _ TA.lt)⟩, for_list (K := K) (a := te) (xs := tens.map V.str) (fun i σ G => ∃ (x7 : Option V) (l : List Nat), σ = [some (.ref t), some (.ref o), some (.ref te), some (.str hun), some (.ref sc), some (.ref b), some (.ref d), x7, none, none, none] ∧ G b = some (.lst (intsN l)) ∧ l.length = 20 + 10 * i ∧ (∀ x ∈ l, x ≤ 40) ∧ G d = some (.lst (intsN dg)) ∧ Same H G)
        ⟨none, b0, rfl, hb, b0l, fun x hx => by have := b0s x hx; omega, hd, s1⟩ (fun i σ G _ ⟨_, _, _, _, _, _, _, s⟩ => SqL.of (s _ _ TA.lt)) ?_ ?_⟩
      · rintro i y σ G1 hi ⟨x7, l, rfl, hb1, ll, ls, hd1, sG⟩
        obtain ⟨z, hz, rfl⟩ := str_at hi
        have z20 := lenT z (List.mem_of_getElem? hz)
        have i8 : i < 8 := by
          have := (List.getElem?_eq_some_iff.mp hz).1
          rw [T.tb.l2] at this
          exact this
        refine ⟨_, rfl, .inl ⟨rfl, _, SqL.of hb1⟩, _, rfl, d, rfl, ⟨_, SqL.of hd1⟩, fun D nD => lc_mapN (K := K) embN (fun x => z.length + x) hd1 nD (by omega) (fun j x J k e hx sJ hk => ?_) (fun J hD sJ => ?_)⟩
        · exact ⟨rfl, _, rfl, z, rfl, by omega, _, rfl, _, _, rfl, rfl, hk⟩
        · have hbJ := sJ _ _ hb1
          refine ⟨b, D, _, _, rfl, rfl, hbJ, hD, by rw [intsN_len, intsN_len, List.length_map]; omega, ?_⟩
          rw [← intsN_app]
          have bD : d ≠ b := fun e => bd e.symm
          refine ⟨_, l ++ dg.map fun x => z.length + x, rfl, upd_same, by rw [List.length_append, List.length_map]; omega, small_app ls (small_map fun x hx => by have := dgs x hx; omega), (upd_ne bD).trans (sJ _ _ hd1), fun r ob e => ?_⟩
          rw [upd_ne (ne_of_none e nb)]
          exact sJ _ _ (sG _ _ e)
      · rintro σ G1 ⟨x7, l, rfl, hb1, ll, ls, hd1, sG⟩
        rw [List.length_map, T.tb.l2] at ll
        exact ⟨x7, l, rfl, hb1, ll, ls, hd1, sG⟩
    rintro τ G1 ⟨x7, l, rfl, hb1, ll, ls, hd1, s2⟩
    refine ⟨_, rfl, b, _, rfl, .inl (SqL.of hb1), fun q nq => ?_⟩
    have nq0 := Same.free s2 nq
    have hb2 := upd_keepR (x := .lst (intsN l)) hb1 nq
    have hd2 := upd_keepR (x := .lst (intsN l)) hd1 nq
    have s3 := same_more (x := .lst (intsN l)) s2 nq
    have hq2 : (upd G1 q (.lst (intsN l))) q = some (.lst (intsN l)) := upd_same
    have bq : b ≠ q := ne_of_none hb1 nq
    revert hb2 hd2 s3 hq2
    generalize upd G1 q (.lst (intsN l)) = G2
    intro hb2 hd2 s3 hq2
    refine ⟨fun τ G => ∃ (x9 : Option V) (m : List Nat), τ = [some (.ref t), some (.ref o), some (.ref te), some (.str hun), some (.ref sc), some (.ref b), some (.ref d), x7, some (.ref q), x9, none] ∧ G q = some (.lst (intsN m)) ∧ m.length = 1000 ∧ (∀ x ∈ m, x ≤ 80) ∧ Same H G, ?_, ?_⟩
    · refine ⟨_, rfl, _, rfl, d, _, rfl, SqL.of hd2, fun u nu => ?_⟩
      rw [show (1 : Int) = ((1 : Nat) : Int) from rfl, cut_from]
      have hu3 : (upd G2 u (.lst (intsN (dg.drop 1)))) u = some (.lst (intsN (dg.drop 1))) := upd_same
      have hb3 := upd_keepR (x := .lst (intsN (dg.drop 1))) hb2 nu
      have hq3 := upd_keepR (x := .lst (intsN (dg.drop 1))) hq2 nu
      have s4 := same_more (x := .lst (intsN (dg.drop 1))) s3 nu
      have uq : u ≠ q := fun e => by rw [e, hq2] at nu; cases nu
      revert hu3 hb3 hq3 s4
      generalize upd G2 u (.lst (intsN (dg.drop 1))) = G3
      intro hu3 hb3 hq3 s4
      refine ⟨u, rfl, ⟨_, SqL.of hu3⟩, for_list (K := K) (a := u) (xs := intsN (dg.drop 1)) (fun i σ G => ∃ (x9 : Option V) (m : List Nat), σ = [some (.ref t), some (.ref o), some (.ref te), some (.str hun), some (.ref sc), some (.ref b), some (.ref d), x7, some (.ref q), x9, none] ∧ G q = some (.lst (intsN m)) ∧ m.length = 100 + 100 * i ∧ (∀ x ∈ m, x ≤ 80) ∧ G b = some (.lst (intsN l)) ∧ G u = some (.lst (intsN (dg.drop 1))) ∧ Same H G)
        ⟨none, l, rfl, hq3, by omega, fun x hx => by have := ls x hx; omega, hb3, hu3, s4⟩ (fun i σ G _ ⟨_, _, _, _, _, _, _, h, _⟩ => SqL.of h) ?_ ?_⟩
      · rintro i y σ G4 hi ⟨x9, m, rfl, hq4, ml, ms, hb4, hu4, sG⟩
        obtain ⟨z, hz, rfl⟩ := intsN_get hi
        have z20 := dgs z (List.mem_of_mem_drop (List.mem_of_getElem? hz))
        have i9 : i < 9 := by
          have := (List.getElem?_eq_some_iff.mp hz).1
          rw [List.length_drop, dgl] at this
          exact this
        refine ⟨_, rfl, .inl ⟨rfl, _, SqL.of hq4⟩, _, rfl, b, rfl, ⟨_, SqL.of hb4⟩, fun D nD => lc_mapN (K := K) embN (fun x => z + hun.length + x) hb4 nD (by omega) (fun j x J k e hx sJ hk => ?_) (fun J hD sJ => ?_)⟩
        · exact ⟨rfl, _, rfl, _, rfl, hun, rfl, by omega, _, _, rfl, rfl, _, rfl, _, _, rfl, rfl, hk⟩
        · refine ⟨q, D, _, _, rfl, rfl, sJ _ _ hq4, hD, by rw [intsN_len, intsN_len, List.length_map]; omega, ?_⟩
          rw [← intsN_app]
          refine ⟨_, m ++ l.map fun x => z + hun.length + x, rfl, upd_same, by rw [List.length_append, List.length_map]; omega, small_app ms (small_map fun x hx => by have := ls x hx; omega), (upd_ne bq).trans (sJ _ _ hb4), (upd_ne uq).trans (sJ _ _ hu4), fun r ob e => ?_⟩
          rw [upd_ne (ne_of_none e nq0)]
          exact sJ _ _ (sG _ _ e)
      · rintro σ G4 ⟨x9, m, rfl, hq4, ml, ms, hb4, hu4, sG⟩
        rw [intsN_len, List.length_drop, dgl] at ml
        exact ⟨x9, m, rfl, hq4, ml, ms, sG⟩
    rintro τ G4 ⟨x9, m, rfl, hq4, ml, ms, s5⟩
    exact ⟨_, rfl, k q G4 m nq0 s5 ml ms hq4⟩
theorem ok_sizes {f fL : Addr} {fd dL : FuncData} (F : Fun K "_sizes" "_sizes" sSizes f fd) (LO : Def1 P w K mg base "_lowest_sizes" 1 fL dL ["table"] spLowest) (mL : mg "len" = none) : FnOk P w K mg base CX0 2 f fd ["table"] spSizes := by
  refine F.ok scSizes (fun vs H Q E h => ?_) (fun cdv A outer s H vs Q E hr h => ?_)
  · obtain ⟨t, o, te, sc, ones, tens, hun, scales, rfl, _⟩ := h
    rfl
  · obtain ⟨t, o, te, sc, ones, tens, hun, scales, rfl, T, k⟩ := h
    have hr1 : Room 1 _ := hr
    refine ⟨_, pss_cons (ps_set (i := 1) scSizes.nd rfl (.inl rfl) (pe_call LO.ok hr1 (by rfl) LO.g LO.k LO.b .nil pass0 (pa_cons (pv 0) pa_nil)))
        (pss_cons (ps_set (i := 2) scSizes.nd rfl (.inl rfl) (pe_lst (pa_cons (pv 1) pa_nil)))
        (pss_mid (ps_for PassesOwn.never rfl (pi_list (pe_ix ix_tup (pv 0) pe_int (fun _ _ => rfl))) (pg_name (i := 3) scSizes.nd rfl (.inr rfl))
          (pss_one (ps_expr (pe_bm PySem.F.plainAttrs_list PySem.F.slot_list_append PySem.F.type_list_append mt_append (pv 2) (pa_cons (pe_op op_cat (pe_lst (pa_cons pe_int pa_nil)) (pe_lc (own := [("size", 4)]) (g := gName 4) (tt := tYes) rfl scSizes.nd (pi_list (pe_slice sl_list (pv 1) (po_some pe_int) po_none)) (blkOk_by (own := [("size", 4)]) (N := ["table", "lowest", "sizes", "scale", "size"]) (sc := defScope sSizes) (by decide +kernel)) (fun _ _ _ _ _ => pg_name (i := 4) scSizes.nd rfl (Or.inl rfl)) (fun _ _ _ _ _ => pts_nil) (fun _ _ _ _ _ => pe_op op_add (pv 4) (pe_callB call_len_str (by rfl) mL PySem.boot_len (pa_cons (pv 3) pa_nil))))) pa_nil)))))
        (pss_one (ps_ret (pv 2))))), ?_⟩
    have big : 200000 ≤ sizeLine := by decide
    have TA := T.tb.at_
    have l90 := T.tb.l3
    have lenS : ∀ x ∈ scales, x.length ≤ 20 := fun x hx => (T.good.ok x (List.mem_append_right _ (List.mem_append_right _ (List.mem_cons_of_mem _ hx)))).2.1
    refine ⟨_, rfl, t, o, te, sc, ones, tens, hun, scales, rfl, T, fun a G1 l na s1 ll ls ha => ?_⟩
    refine ⟨_, rfl, by show 1 ≤ sizeLine; omega, fun q nq => ?_⟩
    have nq0 := Same.free s1 nq
    have aq : a ≠ q := ne_of_none ha nq
    have s2 := same_more (x := .lst [.ref a]) s1 nq
    have ha2 := upd_keepR (x := .lst [.ref a]) ha nq
    have N0 : NewL H (upd G1 q (.lst [.ref a])) q [l] [a] := by
      refine ⟨upd_same, rfl, fun i m r h1 h2 => ?_⟩
      match i, h1, h2 with
      | 0, h1, h2 => cases h1; cases h2; exact ⟨na, aq, ha2⟩
      | i + 1, h1, _ => cases h1
    revert s2 ha2 N0
    generalize upd G1 q (.lst [.ref a]) = G2
    intro s2 ha2 N0
    refine ⟨fun τ G => ∃ (x3 : Option V) (ms : List (List Nat)) (qs : List Addr), τ = [some (.ref t), some (.ref a), some (.ref q), x3, none] ∧ ms.length = scales.length + 1 ∧ (∀ m ∈ ms, m.length = 1000 ∧ ∀ x ∈ m, x ≤ 100) ∧ NewL H G q ms qs ∧ Same H G, ?_, ?_⟩
    · refine ⟨_, rfl, t, _, _, _, rfl, rfl, SqT.of (s2 _ _ TA.tup), (rfl : atI [V.ref o, V.ref te, V.str hun, V.ref sc] 3 = some (.ref sc)), sc, rfl, ⟨_, SqL.of (s2 _ _ TA.ls)⟩, for_list (K := K) (a := sc) (xs := scales.map V.str) (fun i σ G => ∃ (x3 : Option V) (ms : List (List Nat)) (qs : List Addr), σ = [some (.ref t), some (.ref a), some (.ref q), x3, none] ∧ ms.length = i + 1 ∧ (∀ m ∈ ms, m.length = 1000 ∧ ∀ x ∈ m, x ≤ 100) ∧ NewL H G q ms qs ∧ G a = some (.lst (intsN l)) ∧ Same H G)
        ⟨none, [l], [a], rfl, rfl, fun m hm => by obtain rfl := List.mem_singleton.mp hm; exact ⟨ll, fun x hx => by have := ls x hx; omega⟩, N0, ha2, s2⟩ (fun i σ G _ ⟨_, _, _, _, _, _, _, _, s⟩ => SqL.of (s _ _ TA.ls)) ?_ ?_⟩
      · rintro i y σ G hi ⟨x3, ms, qs, rfl, ml, mo, N, ha3, sG⟩
        obtain ⟨z, hz, rfl⟩ := str_at hi
        have z20 := lenS z (List.mem_of_getElem? hz)
        have i90 := (List.getElem?_eq_some_iff.mp hz).1
        refine ⟨_, rfl, .inl ⟨rfl, _, SqL.of N.1⟩, ?_⟩
        refine ⟨by show 1 ≤ sizeLine; omega, fun L nL => ?_⟩
        have sL := same_new (x := .lst [.int 0]) nL
        refine ⟨_, rfl, _, rfl, a, _, rfl, SqL.of (sL _ _ ha3), fun u nu => ?_⟩
        rw [show (1 : Int) = ((1 : Nat) : Int) from rfl, cut_from]
        have su := same_more (x := .lst (intsN (l.drop 1))) sL nu
        have hL : upd (upd G L (.lst [.int 0])) u (.lst (intsN (l.drop 1))) L = some (.lst (intsN [0])) := upd_keepR upd_same nu
        have hu' : upd (upd G L (.lst [.int 0])) u (.lst (intsN (l.drop 1))) u = some (.lst (intsN (l.drop 1))) := upd_same
        revert su hL hu'
        generalize upd (upd G L (.lst [.int 0])) u (.lst (intsN (l.drop 1))) = G3
        intro su hL hu'
        refine ⟨u, rfl, ⟨_, SqL.of hu'⟩, fun D nD => lc_mapN (K := K) embN (fun x => x + z.length) hu' nD (by rw [List.length_drop, ll]; decide) (fun j x J k e hx sJ hk => ?_) (fun J hD sJ => ?_)⟩
        · exact ⟨rfl, _, rfl, _, rfl, z, rfl, by omega, _, _, rfl, rfl, hk⟩
        · refine ⟨L, D, _, _, rfl, rfl, sJ _ _ hL, hD, by rw [intsN_len, intsN_len, List.length_map, List.length_drop, ll]; show 1 + 999 ≤ sizeLine; omega, fun p np => ?_⟩
          rw [← intsN_app]
          obtain ⟨m, hm⟩ : ∃ m, m = [0] ++ (l.drop 1).map fun x => x + z.length := ⟨_, rfl⟩
          rw [← hm]
          have s3 := same_more (x := .lst (intsN m)) (Same.trans su sJ) np
          have N3 := N.same s3
          have np0 := Same.free (Same.trans sG (Same.trans su sJ)) np
          have pq : p ≠ q := fun e => by
            rw [e, (N.same (Same.trans su sJ)).1] at np
            cases np
          refine ⟨q, _, _, rfl, rfl, N3.1, by rw [List.length_map, N.2.1]; omega, ?_⟩
          have aq' : a ≠ q := aq
          refine ⟨_, ms ++ [m], qs ++ [p], rfl, by rw [List.length_append, ml]; rfl, fun m' hm' => ?_, N3.push upd_same np0 pq, (upd_ne aq').trans (s3 _ _ ha3), fun r ob e => ?_⟩
          · rcases List.mem_append.mp hm' with h | h
            · exact mo m' h
            · obtain rfl := List.mem_singleton.mp h
              rw [hm]
              refine ⟨by rw [List.length_append, List.length_map, List.length_drop, ll]; rfl, small_app (fun x hx => by rw [List.mem_singleton.mp hx]; exact Nat.zero_le _) (small_map fun x hx => ?_)⟩
              have := ls x (List.mem_of_mem_drop hx)
              omega
          · rw [upd_ne (ne_of_none e nq0)]
            exact s3 _ _ (sG _ _ e)
      · rintro σ G ⟨x3, ms, qs, rfl, ml, mo, N, ha3, sG⟩
        rw [List.length_map] at ml
        exact ⟨x3, ms, qs, rfl, ml, mo, N, sG⟩
    rintro τ G ⟨x3, ms, qs, rfl, ml, mo, N, sG⟩
    exact ⟨_, rfl, k q G ms qs nq0 sG ml mo N⟩
theorem ok_counts {f : Addr} {fd : FuncData} (F : Fun K "_counts" "_counts" sCounts f fd) : FnOk P w K mg base CX0 1 f fd ["numbers"] spCounts := by
  refine F.ok scCounts (fun vs H Q E h => ?_) (fun cdv A outer s H vs Q E hr h => ?_)
  · obtain ⟨a, l, rfl, _⟩ := h
    rfl
  · obtain ⟨a, l, rfl, ha, l1000, k⟩ := h
    have hu := hu_of hr
    refine ⟨_, pss_cons (ps_set (i := 1) scCounts.nd rfl (.inl rfl) pe_dnewK)
        (pss_mid (ps_for PassesOwn.never rfl (pi_list (pv 0)) (pg_name (i := 2) scCounts.nd rfl (.inl rfl))
          (pss_one (ps_dput hu (pv 1) (pv 2) (pe_op op_add (pe_dget2 hu (pv 1) (pv 2) pe_int ⟨rfl, rfl, rfl, rfl⟩) pe_int) rfl)))
        (pss_one (ps_ret (pv 1)))), ?_⟩
    have big : 200000 ≤ sizeLine := by decide
    refine fun d nd => ?_
    have s1 := same_new (x := .dK []) nd
    refine ⟨fun τ G => ∃ (x2 : Option V) (es : List (Nat × Nat)), τ = [some (.ref a), some (.ref d), x2] ∧ es.length ≤ l.length ∧ (∀ e ∈ es, e.1 ∈ l ∧ e.2 ≤ l.length) ∧ G d = some (.dK (es.map ent)) ∧ Same H G, ?_, ?_⟩
    · refine ⟨_, rfl, a, rfl, ⟨_, SqL.of (s1 _ _ ha)⟩, for_list (K := K) (a := a) (xs := intsN l) (fun i σ G => ∃ (x2 : Option V) (es : List (Nat × Nat)), σ = [some (.ref a), some (.ref d), x2] ∧ es.length ≤ i ∧ (∀ e ∈ es, e.1 ∈ l ∧ e.2 ≤ i) ∧ G d = some (.dK (es.map ent)) ∧ Same H G)
        ⟨none, [], rfl, Nat.le_refl _, fun e h => (nomatch h), upd_same, s1⟩ (fun i σ G _ ⟨_, _, _, _, _, _, s⟩ => SqL.of (s _ _ ha)) ?_ ?_⟩
      · rintro i y σ G hi ⟨x2, es, rfl, el, eo, hd, sG⟩
        obtain ⟨z, hz, rfl⟩ := intsN_get hi
        have zl := List.mem_of_getElem? hz
        have il := (List.getElem?_eq_some_iff.mp hz).1
        obtain ⟨c, ci, hc⟩ : ∃ c : Nat, c ≤ i ∧ (valV (es.map ent) (Sum.inl (z : Int) : Key)).getD (.int 0) = .int (c : Int) := by
          cases q : valV (es.map ent) (Sum.inl (z : Int) : Key) with
          | none => exact ⟨0, Nat.zero_le _, rfl⟩
          | some v =>
            obtain ⟨kv, hm, rfl⟩ := ent_of q
            exact ⟨kv.2, (eo kv hm).2, rfl⟩
        refine ⟨_, rfl, d, rfl, .inl ⟨_, .inl hd⟩, _, rfl, _, DGet.k (k := Sum.inl (z : Int)) hd, ?_⟩
        rw [hc]
        refine ⟨_, _, rfl, rfl, _, rfl, _, rfl, d, _, rfl, DPut.k (k := Sum.inl (z : Int)) hd (by rw [List.length_map]; omega), ?_⟩
        obtain ⟨es', he, el', eo'⟩ := ent_put es z (c + 1)
        refine ⟨_, es', rfl, by omega, fun e hm => ?_, by rw [upd_same, ← he]; rfl, fun r ob e => ?_⟩
        · rcases eo' e hm with h | h
          · exact ⟨(eo e h).1, by have := (eo e h).2; omega⟩
          · rw [h]
            exact ⟨zl, by show c + 1 ≤ i + 1; omega⟩
        · rw [upd_ne (ne_of_none e nd)]
          exact sG _ _ e
      · rintro σ G ⟨x2, es, rfl, el, eo, hd, sG⟩
        rw [intsN_len] at el eo
        exact ⟨x2, es, rfl, el, eo, hd, sG⟩
    rintro τ G ⟨x2, es, rfl, el, eo, hd, sG⟩
    exact ⟨_, rfl, k d G es nd sG el eo hd⟩
end
end LB
set_option Elab.async false
set_option linter.all false
set_option maxRecDepth 100000
set_option maxHeartbeats 4000000
/-! The program's own: the letters of groups, exactly. -/
namespace LB
open PySem L2 Wk LC
open Bg (Bg Wo)
theorem len20 {ones tens : List Str} {hun : Str} {scales : List Str} (g : GoodRow (ones ++ (tens ++ hun :: scales))) : (∀ i, lenO ones hun i ≤ 20) ∧ (∀ i, lenT tens hun i ≤ 20) ∧ hun.length ≤ 20 ∧ ∀ i, lenS hun scales i ≤ 20 := by
  have h20 : hun.length ≤ 20 := (g.ok hun (List.mem_append_right _ (List.mem_append_right _ List.mem_cons_self))).2.1
  have key : ∀ (l : List Str), (∀ x ∈ l, x.length ≤ 20) → ∀ i : Nat, ((l[i]?).getD hun).length ≤ 20 := by
    intro l h i
    cases c : l[i]? with
    | none => exact h20
    | some x => exact h x (List.mem_of_getElem? c)
  refine ⟨key ones fun x hx => (g.ok x (List.mem_append_left _ hx)).2.1, key tens fun x hx => (g.ok x (List.mem_append_right _ (List.mem_append_left _ hx))).2.1, h20, key scales fun x hx => (g.ok x (List.mem_append_right _ (List.mem_append_right _ (List.mem_cons_of_mem _ hx)))).2.1⟩
theorem gl_le {ones tens : List Str} {hun : Str} {scales : List Str} (g : GoodRow (ones ++ (tens ++ hun :: scales))) (n : Nat) : gl ones tens hun n ≤ 80 := by
  obtain ⟨a, b, c, d⟩ := len20 g
  have a1 := a (n / 100)
  have a2 := a (n % 100)
  have a3 := a (n % 100 % 10)
  have b1 := b (n % 100 / 10 - 2)
  unfold gl b2
  repeat' split
  all_goals omega
theorem szL_le {ones tens : List Str} {hun : Str} {scales : List Str} (g : GoodRow (ones ++ (tens ++ hun :: scales))) (j n : Nat) : szL ones tens hun scales j n ≤ 100 := by
  have a := gl_le g n
  obtain ⟨_, _, _, d⟩ := len20 g
  have d1 := d (j - 1)
  unfold szL
  repeat' split
  all_goals omega
def szLs (ones tens : List Str) (hun : Str) (scales : List Str) (k : Nat) : List (List Nat) := (List.range k).map fun j => (List.range 1000).map (szL ones tens hun scales j)
theorem szLs_succ {ones tens : List Str} {hun : Str} {scales : List Str} (k : Nat) : szLs ones tens hun scales (k + 1) = szLs ones tens hun scales k ++ [(List.range 1000).map (szL ones tens hun scales k)] := by
  unfold szLs
  rw [List.range_succ (n := k), List.map_append]
  rfl
def spLowestE : Sp := fun vs H Q _ => ∃ (t o te sc : Addr) (ones tens : List Str) (hun : Str) (scales : List Str), vs = [.ref t] ∧ Tab H t ones tens hun scales o te sc ∧
  ∀ q H', H q = none → Same H H' → H' q = some (.lst (intsN ((List.range 1000).map (gl ones tens hun)))) → Q (.ref q) H'
def spSizesE : Sp := fun vs H Q _ => ∃ (t o te sc : Addr) (ones tens : List Str) (hun : Str) (scales : List Str), vs = [.ref t] ∧ Tab H t ones tens hun scales o te sc ∧
  ∀ q H' (ls : List (List Nat)) (qs : List Addr), H q = none → Same H H' → ls = szLs ones tens hun scales (scales.length + 1) → (∀ l ∈ ls, l.length = 1000 ∧ ∀ x ∈ l, x ≤ 100) → NewL H H' q ls qs → Q (.ref q) H'
/-! ### counts -/
def sumE (F : Nat → Nat) (es : List (Nat × Nat)) : Nat := (es.map fun e => e.2 * F e.1).sum
theorem sumE_cons (F : Nat → Nat) (e : Nat × Nat) (es : List (Nat × Nat)) : sumE F (e :: es) = e.2 * F e.1 + sumE F es := by
  unfold sumE
  rw [List.map_cons, List.sum_cons]
theorem sumE_app (F : Nat → Nat) (a b : List (Nat × Nat)) : sumE F (a ++ b) = sumE F a + sumE F b := by
  unfold sumE
  rw [List.map_append, List.sum_append]
structure CntOf (es : List (Nat × Nat)) (l : List Nat) : Prop where
  nd : (es.map (·.1)).Nodup
  sum : ∀ F, sumE F es = (l.map F).sum
theorem CntOf.nil : CntOf [] [] := ⟨List.nodup_nil, fun _ => rfl⟩
theorem ent_neA {e : Nat × Nat} {z : Nat} (h : e.1 ≠ z) : ¬ (ent e).1 = (Sum.inl (z : Int) : Key) := fun q => h (Int.ofNat.inj (Sum.inl.inj q))
theorem val_noneA {es : List (Nat × Nat)} {z : Nat} (h : ∀ e ∈ es, e.1 ≠ z) : valV (es.map ent) (Sum.inl (z : Int) : Key) = none := by
  induction es with
  | nil => rfl
  | cons e es ih => rw [List.map_cons, valV_neg (ent_neA (h e List.mem_cons_self)), ih fun x hx => h x (List.mem_cons_of_mem _ hx)]
theorem val_splitA {a b : List (Nat × Nat)} {z c : Nat} (ha : ∀ e ∈ a, e.1 ≠ z) : valV ((a ++ (z, c) :: b).map ent) (Sum.inl (z : Int) : Key) = some (.int (c : Int)) := by
  induction a with
  | nil => exact valV_pos (p := ent (z, c)) rfl
  | cons e a ih => rw [List.cons_append, List.map_cons, valV_neg (ent_neA (ha e List.mem_cons_self)), ih fun x hx => ha x (List.mem_cons_of_mem _ hx)]
theorem put_splitA {a b : List (Nat × Nat)} {z c c' : Nat} (ha : ∀ e ∈ a, e.1 ≠ z) (hb : ∀ e ∈ b, e.1 ≠ z) : putK ((a ++ (z, c) :: b).map ent) (Sum.inl (z : Int) : Key) (.int (c' : Int)) = (a ++ (z, c') :: b).map ent := by
  have id_ : ∀ l : List (Nat × Nat), (∀ e ∈ l, e.1 ≠ z) → (l.map ent).map (fun kv => if kv.1 = (Sum.inl (z : Int) : Key) then (kv.1, V.int (c' : Int)) else kv) = l.map ent := by
    intro l h
    rw [List.map_map]
    refine List.map_congr_left fun e he => ?_
    show (if (ent e).1 = (Sum.inl (z : Int) : Key) then _ else ent e) = ent e
    rw [if_neg (ent_neA (h e he))]
  unfold putK
  rw [if_pos (by rw [valV_any, val_splitA ha]; rfl), List.map_append, List.map_cons, List.map_append, List.map_cons, id_ a ha, id_ b hb, List.map_append, List.map_cons]
  rw [if_pos (show (ent (z, c)).1 = (Sum.inl (z : Int) : Key) from rfl)]
  rfl
theorem put_newA {es : List (Nat × Nat)} {z c : Nat} (h : ∀ e ∈ es, e.1 ≠ z) : putK (es.map ent) (Sum.inl (z : Int) : Key) (.int (c : Int)) = (es ++ [(z, c)]).map ent := by
  unfold putK
  rw [if_neg (by rw [valV_any, val_noneA h]; exact Bool.false_ne_true), List.map_append]
  rfl
theorem CntOf.put {es : List (Nat × Nat)} {l : List Nat} (C : CntOf es l) (z : Nat) : ∃ (c : Nat) (es' : List (Nat × Nat)), (valV (es.map ent) (Sum.inl (z : Int) : Key)).getD (.int 0) = .int (c : Int) ∧ putK (es.map ent) (Sum.inl (z : Int) : Key) (.int ((c : Int) + 1)) = es'.map ent ∧ CntOf es' (l ++ [z]) ∧ es'.length ≤ es.length + 1 ∧ ∀ e ∈ es', e.1 = z ∨ ∃ e0 ∈ es, e0.1 = e.1 := by
  by_cases h : ∃ c, (z, c) ∈ es
  · obtain ⟨c, h⟩ := h
    obtain ⟨a, b, rfl⟩ := List.append_of_mem h
    have nd := C.nd
    rw [List.map_append, List.map_cons] at nd
    obtain ⟨_, nb, ab⟩ := List.nodup_append.mp nd
    have ha : ∀ e ∈ a, e.1 ≠ z := fun e he q => ab e.1 (List.mem_map.mpr ⟨e, he, rfl⟩) z List.mem_cons_self q
    have hb : ∀ e ∈ b, e.1 ≠ z := fun e he q => (List.nodup_cons.mp nb).1 (List.mem_map.mpr ⟨e, he, q⟩)
    refine ⟨c, a ++ (z, c + 1) :: b, by rw [val_splitA ha]; rfl, put_splitA (c' := c + 1) ha hb, ⟨?_, fun F => ?_⟩, ?_, fun e he => ?_⟩
    · have := C.nd
      rw [List.map_append, List.map_cons] at this ⊢
      exact this
    · have := C.sum F
      rw [sumE_app, sumE_cons] at this
      rw [sumE_app, sumE_cons, List.map_append, List.sum_append, ← this]
      show sumE F a + ((c + 1) * F z + sumE F b) = sumE F a + (c * F z + sumE F b) + (F z + 0)
      rw [Nat.add_mul, Nat.one_mul]
      omega
    · rw [List.length_append, List.length_append, List.length_cons, List.length_cons]
      omega
    · rcases List.mem_append.mp he with h | h
      · exact .inr ⟨e, List.mem_append_left _ h, rfl⟩
      · rcases List.mem_cons.mp h with rfl | h
        · exact .inl rfl
        · exact .inr ⟨e, List.mem_append_right _ (List.mem_cons_of_mem _ h), rfl⟩
  · have hn : ∀ e ∈ es, e.1 ≠ z := fun e he q => h ⟨e.2, by rw [← q]; exact he⟩
    refine ⟨0, es ++ [(z, 1)], by rw [val_noneA hn]; rfl, put_newA (c := 1) hn, ⟨?_, fun F => ?_⟩, by rw [List.length_append]; exact Nat.le_refl _, fun e he => ?_⟩
    · rw [List.map_append]
      refine List.nodup_append.mpr ⟨C.nd, by simp, fun x hx y hy => ?_⟩
      obtain ⟨e, he, rfl⟩ := List.mem_map.mp hx
      rw [List.mem_singleton.mp hy]
      exact hn e he
    · rw [sumE_app, C.sum F, List.map_append, List.sum_append]
      show _ + (1 * F z + 0) = _ + (F z + 0)
      rw [Nat.one_mul]
    · rcases List.mem_append.mp he with h | h
      · exact .inr ⟨e, h, rfl⟩
      · rw [List.mem_singleton.mp h]
        exact .inl rfl
theorem CntOf.le {es : List (Nat × Nat)} {l : List Nat} (C : CntOf es l) : ∀ e ∈ es, e.2 ≤ l.length := by
  have key : ∀ es : List (Nat × Nat), ∀ e ∈ es, e.2 ≤ sumE (fun _ => 1) es := by
    intro es
    induction es with
    | nil => intro e h; cases h
    | cons x es ih =>
      intro e h
      rw [sumE_cons]
      rcases List.mem_cons.mp h with rfl | h
      · omega
      · have := ih e h
        omega
  intro e he
  have a := key es e he
  rw [C.sum] at a
  have b : ∀ l : List Nat, (l.map fun _ => 1).sum = l.length := by
    intro l
    induction l with
    | nil => rfl
    | cons x l ih => rw [List.map_cons, List.sum_cons, ih, List.length_cons]; omega
  rw [b] at a
  exact a
def spCountsE : Sp := fun vs H Q _ => ∃ (a : Addr) (l : List Nat), vs = [.ref a] ∧ H a = some (.lst (intsN l)) ∧ l.length ≤ 1000 ∧
  ∀ d H' (es : List (Nat × Nat)), H d = none → Same H H' → es.length ≤ l.length → (∀ e ∈ es, e.1 ∈ l) → CntOf es l → H' d = some (.dK (es.map ent)) → Q (.ref d) H'
section
variable {P : Program} {w : World} {K : PySem.W.Frag} {mg : Str → Option Value} {base : Heap}
theorem ok_lowestE {f : Addr} {fd : FuncData} (F : Fun K "_lowest_sizes" "_lowest_sizes" sLowest f fd) (mL : mg "len" = none) (mLi : mg "list" = none) : FnOk P w K mg base CX0 1 f fd ["table"] spLowestE := by
  refine F.ok scLowest (fun vs H Q E h => ?_) (fun cdv A outer s H vs Q E hr h => ?_)
  · obtain ⟨t, o, te, sc, ones, tens, hun, scales, rfl, _⟩ := h
    rfl
  · obtain ⟨t, o, te, sc, ones, tens, hun, scales, rfl, T, k⟩ := h
    refine ⟨_, pss_cons (ps_asg (pv 0) (pg_tup (by rfl) (pgs_cons (pg_name (i := 1) scLowest.nd rfl (.inl rfl)) (pgs_cons (pg_name (i := 2) scLowest.nd rfl (.inl rfl)) (pgs_cons (pg_name (i := 3) scLowest.nd rfl (.inr rfl)) (pgs_cons (pg_name (i := 4) scLowest.nd rfl (.inl rfl)) pgs_nil))))))
        (pss_mid (ps_set (i := 5) scLowest.nd rfl (.inl rfl) (pe_op op_cat (pe_lst (pa_cons pe_int pa_nil)) (pe_lc (own := [("word", 7)]) (g := gName 7) (tt := tYes) rfl scLowest.nd (pi_list (pe_slice sl_list (pv 1) (po_some pe_int) po_none)) (blkOk_by (own := [("word", 7)]) (N := ["table", "ones", "tens", "hundred", "_", "below_hundred", "digits", "word", "sizes", "digit", "size"]) (sc := defScope sLowest) (by decide +kernel)) (fun _ _ _ _ _ => pg_name (i := 7) scLowest.nd rfl (Or.inl rfl)) (fun _ _ _ _ _ => pts_nil) (fun _ _ _ _ _ => pe_callB call_len_str (by rfl) mL PySem.boot_len (pa_cons (pv 7) pa_nil)))))
        (pss_mid (ps_set (i := 6) scLowest.nd rfl (.inl rfl) (pe_slice sl_list (pv 5) po_none (po_some pe_int)))
        (pss_mid (ps_for PassesOwn.never rfl (pi_list (pv 2)) (pg_name (i := 7) scLowest.nd rfl (.inr rfl))
          (pss_one (ps_expr (pe_bm PySem.F.plainAttrs_list PySem.F.slot_list_extend PySem.F.type_list_extend mt_extend (pv 5) (pa_cons (pe_lc (own := [("digit", 9)]) (g := gName 9) (tt := tYes) rfl scLowest.nd (pi_list (pv 6)) (blkOk_by (own := [("digit", 9)]) (N := ["table", "ones", "tens", "hundred", "_", "below_hundred", "digits", "word", "sizes", "digit", "size"]) (sc := defScope sLowest) (by decide +kernel)) (fun _ _ _ _ _ => pg_name (i := 9) scLowest.nd rfl (Or.inl rfl)) (fun _ _ _ _ _ => pts_nil) (fun _ _ _ _ _ => pe_op op_add (pe_callB call_len_str (by rfl) mL PySem.boot_len (pa_cons (pv 7) pa_nil)) (pv 9))) pa_nil)))))
        (pss_cons (ps_set (i := 8) scLowest.nd rfl (.inl rfl) (pe_callTy call_list_of (by rfl) mLi (by decide +kernel) (pa_cons (pv 5) pa_nil)))
        (pss_mid (ps_for PassesOwn.never rfl (pi_list (pe_slice sl_list (pv 6) (po_some pe_int) po_none)) (pg_name (i := 9) scLowest.nd rfl (.inr rfl))
          (pss_one (ps_expr (pe_bm PySem.F.plainAttrs_list PySem.F.slot_list_extend PySem.F.type_list_extend mt_extend (pv 8) (pa_cons (pe_lc (own := [("size", 10)]) (g := gName 10) (tt := tYes) rfl scLowest.nd (pi_list (pv 5)) (blkOk_by (own := [("size", 10)]) (N := ["table", "ones", "tens", "hundred", "_", "below_hundred", "digits", "word", "sizes", "digit", "size"]) (sc := defScope sLowest) (by decide +kernel)) (fun _ _ _ _ _ => pg_name (i := 10) scLowest.nd rfl (Or.inl rfl)) (fun _ _ _ _ _ => pts_nil) (fun _ _ _ _ _ => pe_op op_add (pe_op op_add (pv 9) (pe_callB call_len_str (by rfl) mL PySem.boot_len (pa_cons (pv 3) pa_nil))) (pv 10))) pa_nil)))))
        (pss_one (ps_ret (pv 8)))))))), ?_⟩
    have big : 200000 ≤ sizeLine := by decide
    have TA := T.tb.at_
    have lenO : ∀ x ∈ ones, x.length ≤ 20 := fun x hx => (T.good.ok x (List.mem_append_left _ hx)).2.1
    have lenT : ∀ x ∈ tens, x.length ≤ 20 := fun x hx => (T.good.ok x (List.mem_append_right _ (List.mem_append_left _ hx))).2.1
    have lenH : hun.length ≤ 20 := (T.good.ok hun (List.mem_append_right _ (List.mem_append_right _ List.mem_cons_self))).2.1
    refine ⟨_, rfl, t, _, rfl, SqT.of TA.tup, rfl, _, _, rfl, _, _, rfl, _, _, rfl, _, _, rfl, rfl, ?_⟩
    obtain ⟨b0, hb0⟩ : ∃ b0 : List Nat, b0 = 0 :: (ones.drop 1).map (·.length) := ⟨_, rfl⟩
    have b0l : b0.length = 20 := by rw [hb0, List.length_cons, List.length_map, List.length_drop, T.tb.l1]
    have b0s : ∀ x ∈ b0, x ≤ 20 := fun x hx => by
      rw [hb0] at hx
      rcases List.mem_cons.mp hx with rfl | hx
      · exact Nat.zero_le _
      · exact small_map (f := fun w : Str => w.length) (fun w hw => lenO w (List.mem_of_mem_drop hw)) x hx
    refine ⟨fun τ G => ∃ b, τ = [some (.ref t), some (.ref o), some (.ref te), some (.str hun), some (.ref sc), some (.ref b), none, none, none, none, none] ∧ H b = none ∧ G b = some (.lst (intsN b0)) ∧ Same H G, ?_, ?_⟩
    · refine ⟨by show 1 ≤ sizeLine; omega, fun L nL => ?_⟩
      have sL := same_new (x := .lst [.int 0]) nL
      refine ⟨_, rfl, _, rfl, o, _, rfl, SqL.of (sL _ _ TA.lo), fun u nu => ?_⟩
      rw [show (1 : Int) = ((1 : Nat) : Int) from rfl, cut_mapF]
      have su := same_more (x := .lst ((ones.drop 1).map V.str)) sL nu
      have hL : upd (upd H L (.lst [.int 0])) u (.lst ((ones.drop 1).map V.str)) L = some (.lst (intsN [0])) := upd_keepR upd_same nu
      have hu' : upd (upd H L (.lst [.int 0])) u (.lst ((ones.drop 1).map V.str)) u = some (.lst ((ones.drop 1).map V.str)) := upd_same
      revert su hL hu'
      generalize upd (upd H L (.lst [.int 0])) u (.lst ((ones.drop 1).map V.str)) = G1
      intro su hL hu'
      refine ⟨u, rfl, ⟨_, SqL.of hu'⟩, fun D nD => lc_mapN (K := K) V.str (fun w => w.length) hu' nD (by rw [List.length_drop, T.tb.l1]; decide) (fun i x J k e hx sJ hk => ?_) (fun J hD sJ => ?_)⟩
      · have := lenO x (List.mem_of_mem_drop (List.mem_of_getElem? hx))
        exact ⟨rfl, _, rfl, x, rfl, by omega, hk⟩
      · refine ⟨L, D, _, _, rfl, rfl, sJ _ _ hL, hD, by rw [intsN_len, intsN_len, List.length_map, List.length_drop, T.tb.l1]; show 1 + 19 ≤ sizeLine; omega, fun b nb => ?_⟩
        refine ⟨b, rfl, Same.free (Same.trans su sJ) nb, ?_, same_more (Same.trans su sJ) nb⟩
        rw [upd_same, ← intsN_app, hb0]
        rfl
    rintro τ G ⟨b, rfl, nb0, hb, s1⟩
    -- digits
    refine ⟨fun τ G => ∃ b d, τ = [some (.ref t), some (.ref o), some (.ref te), some (.str hun), some (.ref sc), some (.ref b), some (.ref d), none, none, none, none] ∧ b ≠ d ∧ H b = none ∧ G b = some (.lst (intsN b0)) ∧ G d = some (.lst (intsN (b0.take 10))) ∧ Same H G, ?_, ?_⟩
    · refine ⟨_, rfl, _, rfl, b, _, rfl, SqL.of hb, fun d nd => ?_⟩
      rw [show (10 : Int) = ((10 : Nat) : Int) from rfl, cut_to]
      exact ⟨b, d, rfl, ne_of_none hb nd, nb0, upd_keepR hb nd, upd_same, same_more s1 nd⟩
    rintro τ G ⟨b, d, rfl, bd, nb, hb, hd, s1⟩
    obtain ⟨dg, hdg⟩ : ∃ dg, dg = b0.take 10 := ⟨_, rfl⟩
    rw [← hdg] at hd
    have b0e : b0 = (List.range 20).map (b2 ones tens hun) := hb0.trans (low0 T.tb.l1)
    have dgE : dg = (List.range 10).map (b2 ones tens hun) := by rw [hdg, b0e]; rfl
    have dgl : dg.length = 10 := by rw [hdg, List.length_take, b0l]; rfl
    have dgs : ∀ x ∈ dg, x ≤ 20 := fun x hx => b0s x (List.mem_of_mem_take (hdg ▸ hx))
    refine ⟨fun τ G => ∃ (x7 : Option V) (l : List Nat), τ = [some (.ref t), some (.ref o), some (.ref te), some (.str hun), some (.ref sc), some (.ref b), some (.ref d), x7, none, none, none] ∧ G b = some (.lst (intsN l)) ∧ l.length = 100 ∧ (∀ x ∈ l, x ≤ 40) ∧ l = (List.range 100).map (b2 ones tens hun) ∧ G d = some (.lst (intsN dg)) ∧ Same H G, ?_, ?_⟩
    · refine ⟨_, rfl, te, rfl, ⟨_, SqL.of (s1 _ _ TA.lt)⟩, for_list (K := K) (a := te) (xs := tens.map V.str) (fun i σ G => ∃ (x7 : Option V) (l : List Nat), σ = [some (.ref t), some (.ref o), some (.ref te), some (.str hun), some (.ref sc), some (.ref b), some (.ref d), x7, none, none, none] ∧ G b = some (.lst (intsN l)) ∧ l.length = 20 + 10 * i ∧ (∀ x ∈ l, x ≤ 40) ∧ l = (List.range (20 + 10 * i)).map (b2 ones tens hun) ∧ G d = some (.lst (intsN dg)) ∧ Same H G)
        ⟨none, b0, rfl, hb, b0l, fun x hx => by have := b0s x hx; omega, b0e, hd, s1⟩ (fun i σ G _ ⟨_, _, _, _, _, _, _, _, s⟩ => SqL.of (s _ _ TA.lt)) ?_ ?_⟩
      · rintro i y σ G1 hi ⟨x7, l, rfl, hb1, ll, ls, le, hd1, sG⟩
        obtain ⟨z, hz, rfl⟩ := str_at hi
        have z20 := lenT z (List.mem_of_getElem? hz)
        have i8 : i < 8 := by
          have := (List.getElem?_eq_some_iff.mp hz).1
          rw [T.tb.l2] at this
          exact this
        refine ⟨_, rfl, .inl ⟨rfl, _, SqL.of hb1⟩, _, rfl, d, rfl, ⟨_, SqL.of hd1⟩, fun D nD => lc_mapN (K := K) embN (fun x => z.length + x) hd1 nD (by omega) (fun j x J k e hx sJ hk => ?_) (fun J hD sJ => ?_)⟩
        · exact ⟨rfl, _, rfl, z, rfl, by omega, _, rfl, _, _, rfl, rfl, hk⟩
        · have hbJ := sJ _ _ hb1
          refine ⟨b, D, _, _, rfl, rfl, hbJ, hD, by rw [intsN_len, intsN_len, List.length_map]; omega, ?_⟩
          rw [← intsN_app]
          have bD : d ≠ b := fun e => bd e.symm
          refine ⟨_, l ++ dg.map fun x => z.length + x, rfl, upd_same, by rw [List.length_append, List.length_map]; omega, small_app ls (small_map fun x hx => by have := dgs x hx; omega), by rw [le, dgE]; exact low_tens hz i8, (upd_ne bD).trans (sJ _ _ hd1), fun r ob e => ?_⟩
          rw [upd_ne (ne_of_none e nb)]
          exact sJ _ _ (sG _ _ e)
      · rintro σ G1 ⟨x7, l, rfl, hb1, ll, ls, le, hd1, sG⟩
        rw [List.length_map, T.tb.l2] at ll le
        exact ⟨x7, l, rfl, hb1, ll, ls, le, hd1, sG⟩
    rintro τ G1 ⟨x7, l, rfl, hb1, ll, ls, le, hd1, s2⟩
    refine ⟨_, rfl, b, _, rfl, .inl (SqL.of hb1), fun q nq => ?_⟩
    have nq0 := Same.free s2 nq
    have hb2 := upd_keepR (x := .lst (intsN l)) hb1 nq
    have hd2 := upd_keepR (x := .lst (intsN l)) hd1 nq
    have s3 := same_more (x := .lst (intsN l)) s2 nq
    have hq2 : (upd G1 q (.lst (intsN l))) q = some (.lst (intsN l)) := upd_same
    have bq : b ≠ q := ne_of_none hb1 nq
    revert hb2 hd2 s3 hq2
    generalize upd G1 q (.lst (intsN l)) = G2
    intro hb2 hd2 s3 hq2
    refine ⟨fun τ G => ∃ (x9 : Option V) (m : List Nat), τ = [some (.ref t), some (.ref o), some (.ref te), some (.str hun), some (.ref sc), some (.ref b), some (.ref d), x7, some (.ref q), x9, none] ∧ G q = some (.lst (intsN m)) ∧ m.length = 1000 ∧ (∀ x ∈ m, x ≤ 80) ∧ m = (List.range 1000).map (gl ones tens hun) ∧ Same H G, ?_, ?_⟩
    · refine ⟨_, rfl, _, rfl, d, _, rfl, SqL.of hd2, fun u nu => ?_⟩
      rw [show (1 : Int) = ((1 : Nat) : Int) from rfl, cut_from]
      have hu3 : (upd G2 u (.lst (intsN (dg.drop 1)))) u = some (.lst (intsN (dg.drop 1))) := upd_same
      have hb3 := upd_keepR (x := .lst (intsN (dg.drop 1))) hb2 nu
      have hq3 := upd_keepR (x := .lst (intsN (dg.drop 1))) hq2 nu
      have s4 := same_more (x := .lst (intsN (dg.drop 1))) s3 nu
      have uq : u ≠ q := fun e => by rw [e, hq2] at nu; cases nu
      revert hu3 hb3 hq3 s4
      generalize upd G2 u (.lst (intsN (dg.drop 1))) = G3
      intro hu3 hb3 hq3 s4
      refine ⟨u, rfl, ⟨_, SqL.of hu3⟩, for_list (K := K) (a := u) (xs := intsN (dg.drop 1)) (fun i σ G => ∃ (x9 : Option V) (m : List Nat), σ = [some (.ref t), some (.ref o), some (.ref te), some (.str hun), some (.ref sc), some (.ref b), some (.ref d), x7, some (.ref q), x9, none] ∧ G q = some (.lst (intsN m)) ∧ m.length = 100 + 100 * i ∧ (∀ x ∈ m, x ≤ 80) ∧ m = (List.range (100 + 100 * i)).map (gl ones tens hun) ∧ G b = some (.lst (intsN l)) ∧ G u = some (.lst (intsN (dg.drop 1))) ∧ Same H G)
        ⟨none, l, rfl, hq3, by omega, fun x hx => by have := ls x hx; omega, le.trans low_first, hb3, hu3, s4⟩ (fun i σ G _ ⟨_, _, _, _, _, _, _, _, h, _⟩ => SqL.of h) ?_ ?_⟩
      · rintro i y σ G4 hi ⟨x9, m, rfl, hq4, ml, ms, me, hb4, hu4, sG⟩
        obtain ⟨z, hz, rfl⟩ := intsN_get hi
        have z20 := dgs z (List.mem_of_mem_drop (List.mem_of_getElem? hz))
        have zE : z = b2 ones tens hun (1 + i) := by
          rw [dgE, List.getElem?_drop, List.getElem?_map] at hz
          cases c : (List.range 10)[1 + i]? with
          | none => rw [c] at hz; cases hz
          | some u =>
            rw [c] at hz
            obtain ⟨lt, e⟩ := List.getElem?_eq_some_iff.mp c
            rw [List.getElem_range] at e
            rw [e]
            exact (Option.some.inj hz).symm
        have i9 : i < 9 := by
          have := (List.getElem?_eq_some_iff.mp hz).1
          rw [List.length_drop, dgl] at this
          exact this
        refine ⟨_, rfl, .inl ⟨rfl, _, SqL.of hq4⟩, _, rfl, b, rfl, ⟨_, SqL.of hb4⟩, fun D nD => lc_mapN (K := K) embN (fun x => z + hun.length + x) hb4 nD (by omega) (fun j x J k e hx sJ hk => ?_) (fun J hD sJ => ?_)⟩
        · exact ⟨rfl, _, rfl, _, rfl, hun, rfl, by omega, _, _, rfl, rfl, _, rfl, _, _, rfl, rfl, hk⟩
        · refine ⟨q, D, _, _, rfl, rfl, sJ _ _ hq4, hD, by rw [intsN_len, intsN_len, List.length_map]; omega, ?_⟩
          rw [← intsN_app]
          refine ⟨_, m ++ l.map fun x => z + hun.length + x, rfl, upd_same, by rw [List.length_append, List.length_map]; omega, small_app ms (small_map fun x hx => by have := ls x hx; omega), by rw [me, zE, le]; exact low_huns i9, (upd_ne bq).trans (sJ _ _ hb4), (upd_ne uq).trans (sJ _ _ hu4), fun r ob e => ?_⟩
          rw [upd_ne (ne_of_none e nq0)]
          exact sJ _ _ (sG _ _ e)
      · rintro σ G4 ⟨x9, m, rfl, hq4, ml, ms, me, hb4, hu4, sG⟩
        rw [intsN_len, List.length_drop, dgl] at ml me
        exact ⟨x9, m, rfl, hq4, ml, ms, me, sG⟩
    rintro τ G4 ⟨x9, m, rfl, hq4, ml, ms, me, s5⟩
    exact ⟨_, rfl, k q G4 nq0 s5 (me ▸ hq4)⟩
theorem ok_sizesE {f fL : Addr} {fd dL : FuncData} (F : Fun K "_sizes" "_sizes" sSizes f fd) (LO : Def1 P w K mg base "_lowest_sizes" 1 fL dL ["table"] spLowestE) (mL : mg "len" = none) : FnOk P w K mg base CX0 2 f fd ["table"] spSizesE := by
  refine F.ok scSizes (fun vs H Q E h => ?_) (fun cdv A outer s H vs Q E hr h => ?_)
  · obtain ⟨t, o, te, sc, ones, tens, hun, scales, rfl, _⟩ := h
    rfl
  · obtain ⟨t, o, te, sc, ones, tens, hun, scales, rfl, T, k⟩ := h
    have hr1 : Room 1 _ := hr
    refine ⟨_, pss_cons (ps_set (i := 1) scSizes.nd rfl (.inl rfl) (pe_call LO.ok hr1 (by rfl) LO.g LO.k LO.b .nil pass0 (pa_cons (pv 0) pa_nil)))
        (pss_cons (ps_set (i := 2) scSizes.nd rfl (.inl rfl) (pe_lst (pa_cons (pv 1) pa_nil)))
        (pss_mid (ps_for PassesOwn.never rfl (pi_list (pe_ix ix_tup (pv 0) pe_int (fun _ _ => rfl))) (pg_name (i := 3) scSizes.nd rfl (.inr rfl))
          (pss_one (ps_expr (pe_bm PySem.F.plainAttrs_list PySem.F.slot_list_append PySem.F.type_list_append mt_append (pv 2) (pa_cons (pe_op op_cat (pe_lst (pa_cons pe_int pa_nil)) (pe_lc (own := [("size", 4)]) (g := gName 4) (tt := tYes) rfl scSizes.nd (pi_list (pe_slice sl_list (pv 1) (po_some pe_int) po_none)) (blkOk_by (own := [("size", 4)]) (N := ["table", "lowest", "sizes", "scale", "size"]) (sc := defScope sSizes) (by decide +kernel)) (fun _ _ _ _ _ => pg_name (i := 4) scSizes.nd rfl (Or.inl rfl)) (fun _ _ _ _ _ => pts_nil) (fun _ _ _ _ _ => pe_op op_add (pv 4) (pe_callB call_len_str (by rfl) mL PySem.boot_len (pa_cons (pv 3) pa_nil))))) pa_nil)))))
        (pss_one (ps_ret (pv 2))))), ?_⟩
    have big : 200000 ≤ sizeLine := by decide
    have TA := T.tb.at_
    have l90 := T.tb.l3
    have lenS : ∀ x ∈ scales, x.length ≤ 20 := fun x hx => (T.good.ok x (List.mem_append_right _ (List.mem_append_right _ (List.mem_cons_of_mem _ hx)))).2.1
    refine ⟨_, rfl, t, o, te, sc, ones, tens, hun, scales, rfl, T, fun a G1 na s1 ha => ?_⟩
    obtain ⟨l, hlE⟩ : ∃ l, l = (List.range 1000).map (gl ones tens hun) := ⟨_, rfl⟩
    rw [← hlE] at ha
    have ll : l.length = 1000 := by rw [hlE, List.length_map, List.length_range]
    have ls : ∀ x ∈ l, x ≤ 80 := by rw [hlE]; exact small_map fun x hx => gl_le T.good x
    refine ⟨_, rfl, by show 1 ≤ sizeLine; omega, fun q nq => ?_⟩
    have nq0 := Same.free s1 nq
    have aq : a ≠ q := ne_of_none ha nq
    have s2 := same_more (x := .lst [.ref a]) s1 nq
    have ha2 := upd_keepR (x := .lst [.ref a]) ha nq
    have N0 : NewL H (upd G1 q (.lst [.ref a])) q [l] [a] := by
      refine ⟨upd_same, rfl, fun i m r h1 h2 => ?_⟩
      match i, h1, h2 with
      | 0, h1, h2 => cases h1; cases h2; exact ⟨na, aq, ha2⟩
      | i + 1, h1, _ => cases h1
    revert s2 ha2 N0
    generalize upd G1 q (.lst [.ref a]) = G2
    intro s2 ha2 N0
    refine ⟨fun τ G => ∃ (x3 : Option V) (ms : List (List Nat)) (qs : List Addr), τ = [some (.ref t), some (.ref a), some (.ref q), x3, none] ∧ ms.length = scales.length + 1 ∧ (∀ m ∈ ms, m.length = 1000 ∧ ∀ x ∈ m, x ≤ 100) ∧ ms = szLs ones tens hun scales (scales.length + 1) ∧ NewL H G q ms qs ∧ Same H G, ?_, ?_⟩
    · refine ⟨_, rfl, t, _, _, _, rfl, rfl, SqT.of (s2 _ _ TA.tup), (rfl : atI [V.ref o, V.ref te, V.str hun, V.ref sc] 3 = some (.ref sc)), sc, rfl, ⟨_, SqL.of (s2 _ _ TA.ls)⟩, for_list (K := K) (a := sc) (xs := scales.map V.str) (fun i σ G => ∃ (x3 : Option V) (ms : List (List Nat)) (qs : List Addr), σ = [some (.ref t), some (.ref a), some (.ref q), x3, none] ∧ ms.length = i + 1 ∧ (∀ m ∈ ms, m.length = 1000 ∧ ∀ x ∈ m, x ≤ 100) ∧ ms = szLs ones tens hun scales (i + 1) ∧ NewL H G q ms qs ∧ G a = some (.lst (intsN l)) ∧ Same H G)
        ⟨none, [l], [a], rfl, rfl, fun m hm => by obtain rfl := List.mem_singleton.mp hm; exact ⟨ll, fun x hx => by have := ls x hx; omega⟩, by rw [hlE]; exact congrArg (fun z => [z]) sizes_zero, N0, ha2, s2⟩ (fun i σ G _ ⟨_, _, _, _, _, _, _, _, _, s⟩ => SqL.of (s _ _ TA.ls)) ?_ ?_⟩
      · rintro i y σ G hi ⟨x3, ms, qs, rfl, ml, mo, me, N, ha3, sG⟩
        obtain ⟨z, hz, rfl⟩ := str_at hi
        have z20 := lenS z (List.mem_of_getElem? hz)
        have i90 := (List.getElem?_eq_some_iff.mp hz).1
        refine ⟨_, rfl, .inl ⟨rfl, _, SqL.of N.1⟩, ?_⟩
        refine ⟨by show 1 ≤ sizeLine; omega, fun L nL => ?_⟩
        have sL := same_new (x := .lst [.int 0]) nL
        refine ⟨_, rfl, _, rfl, a, _, rfl, SqL.of (sL _ _ ha3), fun u nu => ?_⟩
        rw [show (1 : Int) = ((1 : Nat) : Int) from rfl, cut_from]
        have su := same_more (x := .lst (intsN (l.drop 1))) sL nu
        have hL : upd (upd G L (.lst [.int 0])) u (.lst (intsN (l.drop 1))) L = some (.lst (intsN [0])) := upd_keepR upd_same nu
        have hu' : upd (upd G L (.lst [.int 0])) u (.lst (intsN (l.drop 1))) u = some (.lst (intsN (l.drop 1))) := upd_same
        revert su hL hu'
        generalize upd (upd G L (.lst [.int 0])) u (.lst (intsN (l.drop 1))) = G3
        intro su hL hu'
        refine ⟨u, rfl, ⟨_, SqL.of hu'⟩, fun D nD => lc_mapN (K := K) embN (fun x => x + z.length) hu' nD (by rw [List.length_drop, ll]; decide) (fun j x J k e hx sJ hk => ?_) (fun J hD sJ => ?_)⟩
        · exact ⟨rfl, _, rfl, _, rfl, z, rfl, by omega, _, _, rfl, rfl, hk⟩
        · refine ⟨L, D, _, _, rfl, rfl, sJ _ _ hL, hD, by rw [intsN_len, intsN_len, List.length_map, List.length_drop, ll]; show 1 + 999 ≤ sizeLine; omega, fun p np => ?_⟩
          rw [← intsN_app]
          obtain ⟨m, hm⟩ : ∃ m, m = [0] ++ (l.drop 1).map fun x => x + z.length := ⟨_, rfl⟩
          rw [← hm]
          have s3 := same_more (x := .lst (intsN m)) (Same.trans su sJ) np
          have N3 := N.same s3
          have np0 := Same.free (Same.trans sG (Same.trans su sJ)) np
          have pq : p ≠ q := fun e => by
            rw [e, (N.same (Same.trans su sJ)).1] at np
            cases np
          refine ⟨q, _, _, rfl, rfl, N3.1, by rw [List.length_map, N.2.1]; omega, ?_⟩
          have aq' : a ≠ q := aq
          refine ⟨_, ms ++ [m], qs ++ [p], rfl, by rw [List.length_append, ml]; rfl, fun m' hm' => ?_, by rw [me, hm, hlE, sizes_step hz]; exact (szLs_succ _).symm, N3.push upd_same np0 pq, (upd_ne aq').trans (s3 _ _ ha3), fun r ob e => ?_⟩
          · rcases List.mem_append.mp hm' with h | h
            · exact mo m' h
            · obtain rfl := List.mem_singleton.mp h
              rw [hm]
              refine ⟨by rw [List.length_append, List.length_map, List.length_drop, ll]; rfl, small_app (fun x hx => by rw [List.mem_singleton.mp hx]; exact Nat.zero_le _) (small_map fun x hx => ?_)⟩
              have := ls x (List.mem_of_mem_drop hx)
              omega
          · rw [upd_ne (ne_of_none e nq0)]
            exact s3 _ _ (sG _ _ e)
      · rintro σ G ⟨x3, ms, qs, rfl, ml, mo, me, N, ha3, sG⟩
        rw [List.length_map] at ml me
        exact ⟨x3, ms, qs, rfl, ml, mo, me, N, sG⟩
    rintro τ G ⟨x3, ms, qs, rfl, ml, mo, me, N, sG⟩
    exact ⟨_, rfl, k q G ms qs nq0 sG me mo N⟩
theorem ok_countsE {f : Addr} {fd : FuncData} (F : Fun K "_counts" "_counts" sCounts f fd) : FnOk P w K mg base CX0 1 f fd ["numbers"] spCountsE := by
  refine F.ok scCounts (fun vs H Q E h => ?_) (fun cdv A outer s H vs Q E hr h => ?_)
  · obtain ⟨a, l, rfl, _⟩ := h
    rfl
  · obtain ⟨a, l, rfl, ha, l1000, k⟩ := h
    have hu := hu_of hr
    refine ⟨_, pss_cons (ps_set (i := 1) scCounts.nd rfl (.inl rfl) pe_dnewK)
        (pss_mid (ps_for PassesOwn.never rfl (pi_list (pv 0)) (pg_name (i := 2) scCounts.nd rfl (.inl rfl))
          (pss_one (ps_dput hu (pv 1) (pv 2) (pe_op op_add (pe_dget2 hu (pv 1) (pv 2) pe_int ⟨rfl, rfl, rfl, rfl⟩) pe_int) rfl)))
        (pss_one (ps_ret (pv 1)))), ?_⟩
    have big : 200000 ≤ sizeLine := by decide
    refine fun d nd => ?_
    have s1 := same_new (x := .dK []) nd
    refine ⟨fun τ G => ∃ (x2 : Option V) (es : List (Nat × Nat)), τ = [some (.ref a), some (.ref d), x2] ∧ es.length ≤ l.length ∧ (∀ e ∈ es, e.1 ∈ l) ∧ CntOf es l ∧ G d = some (.dK (es.map ent)) ∧ Same H G, ?_, ?_⟩
    · refine ⟨_, rfl, a, rfl, ⟨_, SqL.of (s1 _ _ ha)⟩, for_list (K := K) (a := a) (xs := intsN l) (fun i σ G => ∃ (x2 : Option V) (es : List (Nat × Nat)), σ = [some (.ref a), some (.ref d), x2] ∧ es.length ≤ i ∧ (∀ e ∈ es, e.1 ∈ l) ∧ CntOf es (l.take i) ∧ G d = some (.dK (es.map ent)) ∧ Same H G)
        ⟨none, [], rfl, Nat.le_refl _, fun e h => (nomatch h), CntOf.nil, upd_same, s1⟩ (fun i σ G _ ⟨_, _, _, _, _, _, _, s⟩ => SqL.of (s _ _ ha)) ?_ ?_⟩
      · rintro i y σ G hi ⟨x2, es, rfl, el, eo, C, hd, sG⟩
        obtain ⟨z, hz, rfl⟩ := intsN_get hi
        have zl := List.mem_of_getElem? hz
        have il := (List.getElem?_eq_some_iff.mp hz).1
        obtain ⟨c, es', hc, he, C', el', eo'⟩ := C.put z
        refine ⟨_, rfl, d, rfl, .inl ⟨_, .inl hd⟩, _, rfl, _, DGet.k (k := Sum.inl (z : Int)) hd, ?_⟩
        rw [hc]
        refine ⟨_, _, rfl, rfl, _, rfl, _, rfl, d, _, rfl, DPut.k (k := Sum.inl (z : Int)) hd (by rw [List.length_map]; omega), ?_⟩
        refine ⟨_, es', rfl, by omega, fun e hm => ?_, by rw [List.take_add_one, hz]; exact C', by rw [upd_same, ← he], fun r ob e => ?_⟩
        · rcases eo' e hm with h | ⟨e0, h0, h1⟩
          · rw [h]; exact zl
          · rw [← h1]; exact eo e0 h0
        · rw [upd_ne (ne_of_none e nd)]
          exact sG _ _ e
      · rintro σ G ⟨x2, es, rfl, el, eo, C, hd, sG⟩
        rw [intsN_len] at el C
        rw [List.take_length] at C
        exact ⟨x2, es, rfl, el, eo, C, hd, sG⟩
    rintro τ G ⟨x2, es, rfl, el, eo, C, hd, sG⟩
    exact ⟨_, rfl, k d G es nd sG el eo C hd⟩
end
end LB
set_option Elab.async false
set_option linter.all false
set_option maxRecDepth 100000
set_option maxHeartbeats 4000000
/-! list(reversed(range(..))), and a dict that stands still behind an expression. -/
namespace Wk
open PySem PySem.Spec PyProof.Rows L2
section
variable {P : Program} {w : World} {B : Around} {W : Value → Shared → Prop} {z : Shared}
/-- how many are left in a walk over a range -/
theorem rit_hint {j : Addr} {x m st : Int} {q : Value → Shared → Prop} (hj : IsRangeIter z.heap j x m st) (k : ∀ t tk, z.toks ≤ tk → q (.int m t) { z with toks := tk }) :
    wpAny (model P w) B (call (.builtin "range_iterator.__length_hint__") [.ref j]) q W z := by
  have ty : z.TypeIs (.ref j) "range_iterator" := ⟨_, hj, rfl⟩
  refine wpAny_call_entry F.slot_range_iterator_length_hint ty F.entry_range_iterator_length_hint ?_ (F.args_range_iterator_length_hint_1 _)
  show wpAny _ _ (field (.ref j) 1 >>= _) _ _ z
  refine wpAny_bind (wpAny_field hj rfl (x := rawInt m) rfl ?_)
  exact wpAny_ret_mkInt (k _ _ (Nat.le_succ _))
theorem rit_room {j : Addr} {x m st : Int} {q : Bool → Shared → Prop} (hj : IsRangeIter z.heap j x m st) (m1 : m ≤ 2 ^ 24) (k : ∀ tk, q false { z with toks := tk }) :
    wpAny (model P w) B (Builtin.List.listLengthHint (.ref j)) q W z := by
  have ty : z.TypeIs (.ref j) "range_iterator" := ⟨_, hj, rfl⟩
  unfold Builtin.List.listLengthHint
  refine wpAny_bind (wpAny_specialOf ty F.nolen_ra ?_)
  show wpAny _ B (specialOf (Value.ref j) (Str.ofString "__length_hint__") >>= _) _ _ _
  refine wpAny_bind (wpAny_specialOf ty F.hint_ra ?_)
  (generalize hid : ("range_iterator.__length_hint__" : String) = id1; (fail_if_success (clear hid id1)); wp_delta; rw [show splitId id1 = some ("range_iterator", "__length_hint__") from by subst hid; decide +kernel]; subst hid)
  refine wpAny_bind (wpAny_isInstance (b := true) ty (by rw [isSubtype_type]; kernel_rfl) ?_)
  show wpAny _ B (call (.builtin "range_iterator.__length_hint__") [.ref j] >>= _) _ _ _
  refine wpAny_bind (rit_hint hj fun t tk _ => ?_)
  refine wpAny_bind (m := asInt? (.int m t)) (wpAny_pure ?_)
  dsimp only
  have short : Builtin.List.listTooLong m.toNat = false := by
    show decide (m.toNat > sizeLine) = false
    rw [sizeLine_eq]
    exact decide_eq_false (by omega)
  rw [if_neg (by rw [short]; exact Bool.false_ne_true)]
  exact wpAny_pure (k _)
/-- a new list takes all that is left of a walk over a range -/
theorem rit_into {S j : Addr} {x c : Int} {n c0 : Nat} {res : Value} {R : Result → Shared → Prop} (cold : B.handled = none) (hj : IsRangeIter z.heap j (x + ((0 : Nat) : Int) * c) ((n : Int) - ((0 : Nat) : Int)) c) (hS : z.heap.get? S = some { cls := .type "list", data := .seq #[] c0 }) (ne : S ≠ j) (n1 : n ≤ 2 ^ 24)
    (k : ∀ h tk acc cc, (∀ b o, b ≠ S → b ≠ j → z.heap.get? b = some o → h.get? b = some o) → h.get? S = some { cls := .type "list", dict := none, data := .seq acc cc, slots := #[] } → ItemsOf (fun i v => ∃ t, v = .int (x + i * c) t) acc n → R (.ok (.ret res)) { z with heap := h, toks := tk }) :
    wpAny (model P w) B.in1 (Builtin.List.listExtendWith (.ref S) (.ref j) res)
      (fun fin s' => match fin with | .done f => R (.ok f) s' | .again c' => c'.quiet = true ∧ codeAny (model P w) B c' R s') (fun e s' => R (.error e) s') z := by
  have ty : z.TypeIs (.ref j) "range_iterator" := ⟨_, hj, rfl⟩
  have W := (Walks.range (prog := P) (w := w) (A := B.in1) cold j x c n).toS
  unfold Builtin.List.listExtendWith
  refine wpAny_bind (wpAny_typeOf ty ?_)
  have q1 : Builtin.List.listSameRef (.ref S) (.ref j) = false := by simp [Builtin.List.listSameRef, ne]
  have q2 : (Value.type "range_iterator" == Value.type "list") = false := by decide
  have q3 : (Value.type "range_iterator" == Value.type "tuple") = false := by decide
  rw [if_neg (by rw [q1, q2, q3]; exact Bool.false_ne_true)]
  refine wpAny_bind (wpAny_pyIter_rangeiter hj ?_)
  refine wpAny_bind (wpAny_holding (rit_room hj (by omega) fun tk => ?_))
  rw [if_neg (by decide)]
  refine wpAny_pure ⟨plainId_quiet F.plain_extend_loop _, ?_⟩
  refine codeAny_extend_loopS W (by rw [sizeLine_eq]; omega) S (fun y => ne (List.mem_singleton.mp y)) res n 0 _ #[] c0 rfl (Nat.zero_le _) hj hS (ItemsOf.nil _) fun s' acc cc hm hS' items => ?_
  rw [Moved.eq_with hm]
  refine k s'.heap s'.toks acc cc (fun b o b1 b2 e => hm.heap b o (fun y => ?_) e) hS' items
  rcases List.mem_cons.mp y with y | y
  · exact b1 y
  · exact b2 (List.mem_singleton.mp y)
/-- list of it -/
theorem rit_list {j : Addr} {x c : Int} {n : Nat} {q : Value → Shared → Prop} (cold : B.handled = none) (hj : IsRangeIter z.heap j (x + ((0 : Nat) : Int) * c) ((n : Int) - ((0 : Nat) : Int)) c) (n1 : n ≤ 2 ^ 24)
    (k : ∀ h tk acc cc, (∀ b o, b ≠ j → z.heap.get? b = some o → h.get? b = some o) → h.get? z.heap.objs.size = some { cls := .type "list", dict := none, data := .seq acc cc, slots := #[] } → ItemsOf (fun i v => ∃ t, v = .int (x + i * c) t) acc n → q (.ref z.heap.objs.size) { z with heap := h, toks := tk }) :
    wpAny (model P w) B (call (.type "list") [.ref j]) q W z := by
  have jl : j < z.heap.objs.size := Heap.lt_size hj
  refine callType_codes (Q₁ := fun u s1 => u = .ref z.heap.objs.size ∧ s1 = { z with heap := z.heap.push { cls := .type "list", data := .seq #[] } }) F.called_list (F.typeCall_list_1 _) F.entry_list_init (code_list_new _ ⟨rfl, rfl⟩) fun u s1 hu => ?_
  obtain ⟨rfl, rfl⟩ := hu
  have g1 : (z.heap.push { cls := .type "list", data := .seq #[] }).get? z.heap.objs.size = some { cls := .type "list", data := .seq #[] } := Heap.get?_push_size _ rfl
  refine ⟨⟨_, g1, rfl⟩, F.args_list_init_2 _ _, ?_⟩
  show wpAny _ _ (do let old ← Builtin.List.listItems (.ref z.heap.objs.size); Builtin.List.listUpdate (.ref z.heap.objs.size) (fun _ => #[]); letGo old.toList.reverse; Builtin.List.listExtendWith (.ref z.heap.objs.size) (.ref j) .none) _ _ _
  refine wpAny_bind ?_
  unfold Builtin.List.listItems
  refine wpAny_bind (wpAny_seqItems g1 rfl (wpAny_pure ?_))
  show wpAny _ _ (updateSeq z.heap.objs.size (fun _ => #[]) >>= fun _ => letGo (#[] : Array Value).toList.reverse >>= fun _ => Builtin.List.listExtendWith (.ref z.heap.objs.size) (.ref j) .none) _ _ _
  refine wpAny_bind (wpAny_updateSeq g1 rfl ?_)
  have g2 := Heap.get?_update_self (Obj.mapSeq (fun _ => (#[] : Array Value))) g1 rfl
  have oth : ∀ b o, b ≠ z.heap.objs.size → z.heap.get? b = some o → ((z.heap.push { cls := .type "list", data := .seq #[] }).update z.heap.objs.size (Obj.mapSeq (fun _ => (#[] : Array Value)))).get? b = some o :=
    fun b o hb e => (Heap.get?_update_other _ _ (Ne.symm hb)).trans (Heap.get?_push_of_some _ e)
  refine wpAny_bind (wpAny_letGo ?_)
  refine rit_into (B := B.in1) cold (oth j _ (Nat.ne_of_lt jl) hj) g2 (Nat.ne_of_gt jl) n1 fun h tk acc cc kk hS items => ?_
  exact ⟨rfl, k h tk acc cc (fun b o hb e => kk b o (Nat.ne_of_lt (Heap.lt_size e)) hb (oth b o (Nat.ne_of_lt (Heap.lt_size e)) e)) hS items⟩
end
section
variable {X : Cx}
/-- the numbers from below n down to 0 -/
def downTo (n : Nat) : List Int := (List.range n).map fun i : Nat => (n : Int) - 1 - (i : Int)
def tLstRev (tr : L2.St → Hp → (Int → Int → Hp → Prop) → Prop) : TE := fun σ H Q => tr σ H fun a b H1 => ∃ n : Nat, a = 0 ∧ b = (n : Int) ∧ n ≤ 2 ^ 24 ∧ ∀ p, H1 p = none → Q (.ref p) (upd H1 p (.lst ((downTo n).map V.int)))
/-- list(reversed(range(n))) -/
theorem pe_listRev {e : Expr} {tr : L2.St → Hp → (Int → Int → Hp → Prop) → Prop} {p1 p2 q1 q2 : Pos} (cold : X.calm = true) (g1 : Gl X "list") (m1 : X.mg "list" = none) (g2 : Gl X "reversed") (m2 : X.mg "reversed" = none) (he : PRg X e tr)
    (hs : starEach [e] X.env = (false, eval e X.env) :: starEach [] X.env := by rfl) (hs2 : starEach [.Call (.Name "reversed" p2) [e] [] q2] X.env = (false, eval (.Call (.Name "reversed" p2) [e] [] q2) X.env) :: starEach [] X.env := by rfl) :
    PE X (.Call (.Name "list" p1) [.Call (.Name "reversed" p2) [e] [] q2] [] q1) (tLstRev tr) := by
  refine ⟨fun pins s σ H Q I h => ?_⟩
  refine Call_ (ld_blt I g1 m1 boot_list (PyProof.Rows.callWith_type1 (args_cons ?_ hs2) hs2))
  refine Call_ (ld_blt I g2 m2 PyProof.Rows.boot_reversed (PyProof.Rows.callWith_type1 (args_cons (thn (he pins s σ H _ I h) fun u s1 hx => args_nil ?_) hs) hs rfl))
  obtain ⟨r, a, b, t, w1, v, H1, eu, hr, I1, n, rfl, rfl, n1, q⟩ := hx
  subst eu
  have hn : Builtin.Range.rangeSize 0 (n : Int) 1 = (n : Int) := by
    have := rangeSize_nat 0 (n : Int)
    rw [this]
    omega
  refine call_reversed_range hr (smallRev_one (by decide) (by decide) (by omega) (by omega)) ?_
  refine args_nil ?_
  have at1 : IsRangeIter (s1.heap.push (rngRevObj 0 (n : Int) 1)) s1.heap.objs.size ((n : Int) - 1 + ((0 : Nat) : Int) * (-1)) ((n : Int) - ((0 : Nat) : Int)) (-1) := by
    have e1 : (n : Int) - 1 + ((0 : Nat) : Int) * (-1) = 0 + (Builtin.Range.rangeSize 0 (n : Int) 1 - 1) * 1 := by rw [hn]; omega
    have e2 : (n : Int) - ((0 : Nat) : Int) = Builtin.Range.rangeSize 0 (n : Int) 1 := by rw [hn]; omega
    show IsRangeIter _ _ _ _ _
    rw [e1, e2]
    exact Heap.get?_push_size _ rfl
  have sz : (s1.heap.push (rngRevObj 0 (n : Int) 1)).objs.size = s1.heap.objs.size + 1 := Heap.size_push ..
  refine rit_list (z := { s1 with heap := s1.heap.push (rngRevObj 0 (n : Int) 1) }) (I1.ok.hd cold) at1 n1 fun h tk acc cc old hS items => ?_
  have old1 : ∀ b o, s1.heap.get? b = some o → h.get? b = some o := fun b o y => old b o (Nat.ne_of_lt (Heap.lt_size y)) (Heap.get?_push_of_some _ y)
  have up : s1.heap.objs.size ≤ (s1.heap.push (rngRevObj 0 (n : Int) 1)).objs.size := by
    rw [sz]
    exact Nat.le_succ _
  have many : acc.toList.length = n := by
    rw [Array.length_toList]
    exact items.1
  have vals : Vals ((downTo n).map V.int) acc.toList := by
    unfold downTo
    rw [List.map_map, ← many]
    refine vals_of_get acc.toList (V.int ∘ fun i : Nat => ((acc.toList.length : Nat) : Int) - 1 - (i : Int)) fun i u hu => ?_
    obtain ⟨t, rfl⟩ := items.2 i u (by rw [← hu, Array.getElem?_toList])
    refine ⟨t, ?_⟩
    rw [many]
    show Value.int ((n : Int) - 1 + (i : Int) * (-1)) t = Value.int ((n : Int) - 1 - (i : Int)) t
    congr 1
    omega
  have len : ((downTo n).map V.int).length ≤ sizeLine := by
    unfold downTo
    rw [List.length_map, List.length_map, List.length_range, sizeLine_eq]
    omega
  exact ⟨.ref _, upd H1 (s1.heap.push (rngRevObj 0 (n : Int) 1)).objs.size (.lst ((downTo n).map V.int)), I1.laid (t' := tk) old1 up ⟨len, acc.toList, cc, vals, by rw [Array.toArray_toList]; exact hS⟩, rfl, q _ (I1.hok.fresh up)⟩
/-- the value of an expression, a dict, stands still from there on -/
def tStill (te : TE) : TE := fun σ H Q => te σ H fun x H1 => ∃ (d : Addr) (u : HO), x = .ref d ∧ H1 d = some u ∧ Mut (some u) ∧ ∀ od, Q x (upd H1 d (.frz od u))
theorem pe_still {e : Expr} {te : TE} (he : PE X e te) : PE X e (tStill te) := by
  refine ⟨fun pins s σ H Q I h => thn (he.run pins s σ H _ I h) fun v s1 hv => ?_⟩
  obtain ⟨x, H1, I1, r, d, u, rfl, hd, mu, q⟩ := hv
  obtain ⟨od, I2⟩ := I1.lock hd mu
  exact ⟨_, _, I2, r, q od⟩
end
end Wk
set_option Elab.async false
set_option linter.all false
set_option maxRecDepth 100000
set_option maxHeartbeats 4000000
/-! The program's own: counts of letters, packed into numbers. -/
namespace LB
open PySem L2 Wk
open Bg (Bg Wo)
theorem sIx_m1 (n d : Nat) : HT.sIx n d (some (-1)) = n - 1 := by
  show (if (-1 : Int) < 0 then ((-1 : Int) + (n : Int)).toNat else min (-1 : Int).toNat n) = n - 1
  rw [if_pos (by decide)]
  omega
theorem cut_m1 (xs : List V) : cutV xs none (some (-1)) = xs.take (xs.length - 1) := by
  unfold cutV
  rw [sIx_m1, HT.sIx_none, List.drop_zero, Nat.sub_zero]
/-- no count of a group is greater -/
def bM : Nat := 1000 * 2 ^ 20000
theorem shl_le {e k : Nat} (h : e ≤ 1000) (hk : k ≤ 20000) : 0 ≤ (e : Int) * 2 ^ k ∧ (e : Int) * 2 ^ k ≤ (bM : Int) := by
  have z : (e : Int) * 2 ^ k = ((e * 2 ^ k : Nat) : Int) := by rw [Int.natCast_mul, Int.natCast_pow]; rfl
  rw [z]
  refine ⟨Int.natCast_nonneg _, Int.ofNat_le.mpr ?_⟩
  unfold bM
  exact Nat.mul_le_mul h (Nat.pow_le_pow_right (by decide) hk)
theorem bM_lt : 1000 * bM < 2 ^ 20020 := by
  unfold bM
  have p : 0 < 2 ^ 20000 := Nat.pow_pos (by decide)
  have q : 2 ^ 20020 = 2 ^ 20 * 2 ^ 20000 := by rw [← Nat.pow_add]
  rw [q]
  generalize 2 ^ 20000 = E at p ⊢
  have : (2 : Nat) ^ 20 = 1048576 := by decide
  rw [this]
  omega
theorem sum_le {M : Nat} : ∀ {ns : List Int}, (∀ x ∈ ns, 0 ≤ x ∧ x ≤ (M : Int)) → 0 ≤ ns.sum ∧ ns.sum ≤ (ns.length : Int) * (M : Int)
  | [], _ => ⟨Int.le_refl _, by simp⟩
  | x :: ns, h => by
    have a := h x List.mem_cons_self
    have b := sum_le (ns := ns) fun y hy => h y (List.mem_cons_of_mem _ hy)
    rw [List.sum_cons, List.length_cons, Int.natCast_add, Int.add_mul]
    refine ⟨by omega, ?_⟩
    have : ((1 : Nat) : Int) * (M : Int) = (M : Int) := Int.one_mul _
    rw [this]
    omega
/-- a list of lists of numbers -/
structure LL (H : Hp) (a : Addr) (ls : List (List Nat)) (qs : List Addr) : Prop where
  at_ : H a = some (.lst (qs.map V.ref))
  len : qs.length = ls.length
  each : ∀ (i : Nat) (l : List Nat) (r : Addr), ls[i]? = some l → qs[i]? = some r → H r = some (.lst (intsN l))
theorem LL.same {H G : Hp} {a : Addr} {ls : List (List Nat)} {qs : List Addr} (L : LL H a ls qs) (s : Same H G) : LL G a ls qs := ⟨s _ _ L.at_, L.len, fun i l r a b => s _ _ (L.each i l r a b)⟩
theorem NewL.ll {H J : Hp} {q : Addr} {out : List (List Nat)} {qs : List Addr} (N : NewL H J q out qs) : LL J q out qs := ⟨N.1, N.2.1, fun i l r a b => (N.2.2 i l r a b).2.2⟩
def spPacked : Sp := fun vs H Q _ => ∃ (a : Addr) (ls : List (List Nat)) (qs : List Addr) (wd : Nat), vs = [.ref a, .int (wd : Int)] ∧ LL H a ls qs ∧ ls.length ≤ 11 ∧ (∀ l ∈ ls, l.length ≤ 1000 ∧ ∀ x ∈ l, x ≤ 100) ∧ wd ≤ 200 ∧
  ∀ q H' (ps : List Int), H q = none → Same H H' → ls.length ≤ ps.length + 1 ∧ (ls.length ≤ ps.length ∨ ls = []) ∧ 0 < ps.length → (∀ p ∈ ps, 0 ≤ p) → H' q = some (.lst (ps.map V.int)) → Q (.ref q) H'
def spUnpacked : Sp := fun vs H Q _ => ∃ p wd m : Int, vs = [.int p, .int wd, .int m] ∧ 0 ≤ wd ∧ wd ≤ 200 ∧ -100000 ≤ m ∧ m ≤ 100000 ∧ ∀ r : Int, Q (.int r) H
section
variable {P : Program} {w : World} {K : PySem.W.Frag} {mg : Str → Option Value} {base : Heap}
theorem scPacked : FnScope ["sizes", "width", "packed", "group_sizes", "group", "size", "times"] ["sizes", "width"] (defScope sPacked) := ⟨rfl, rfl, rfl, by decide +kernel, rfl, by decide +kernel, by decide +kernel⟩
theorem scUnpacked : FnScope ["packed", "width", "many"] ["packed", "width", "many"] (defScope sUnpacked) := ⟨rfl, rfl, rfl, by decide +kernel, rfl, by decide +kernel, by decide +kernel⟩
theorem ok_packed {f fC : Addr} {fd dC : FuncData} (F : Fun K "_packed_counts" "_packed_counts" sPacked f fd) (CO : Def1 P w K mg base "_counts" 1 fC dC ["numbers"] spCounts) (mU : mg "sum" = none) : FnOk P w K mg base CX0 2 f fd ["sizes", "width"] spPacked := by
  refine F.ok scPacked (fun vs H Q E h => ?_) (fun cdv A outer s H vs Q E hr h => ?_)
  · obtain ⟨a, ls, qs, wd, rfl, _⟩ := h
    rfl
  · obtain ⟨a, ls, qs, wd, rfl, LS, l11, lo, w200, k⟩ := h
    have hr1 : Room 1 _ := hr
    refine ⟨_, pss_cons (ps_set (i := 2) scPacked.nd rfl (.inl rfl) (pe_lst (pa_cons pe_int pa_nil)))
        (pss_mid (ps_for PassesOwn.never rfl (pi_list (pe_slice sl_list (pv 0) po_none (po_some (pe_un un_neg pe_int)))) (pg_name (i := 3) scPacked.nd rfl (.inl rfl))
          (pss_mid (ps_set (i := 4) scPacked.nd rfl (.inl rfl) (pe_callB (cr_sum rfl) (by rfl) mU (by decide +kernel) (pa_cons (pe_lc (own := [("size", 5), ("times", 6)]) (g := gTup K 2 (gCons (gName 5) (gCons (gName 6) gNil))) (tt := tYes) rfl scPacked.nd (pi_items (pe_still (pe_call CO.ok hr1 (by rfl) CO.g CO.k CO.b .nil pass0 (pa_cons (pv 3) pa_nil)))) (blkOk_by (own := [("size", 5), ("times", 6)]) (N := ["sizes", "width", "packed", "group_sizes", "group", "size", "times"]) (sc := defScope sPacked) (by decide +kernel)) (fun _ _ _ _ _ => pg_tup (by rfl) (pgs_cons (pg_name (i := 5) scPacked.nd rfl (Or.inl rfl)) (pgs_cons (pg_name (i := 6) scPacked.nd rfl (Or.inl rfl)) pgs_nil))) (fun _ _ _ _ _ => pts_nil) (fun _ _ _ _ _ => pe_op op_shl (pv 6) (pe_op op_mul (pv 5) (pv 1)))) pa_nil)))
        (pss_one (ps_expr (pe_bm PySem.F.plainAttrs_list PySem.F.slot_list_append PySem.F.type_list_append mt_append (pv 2) (pa_cons (pe_op op_mulW (pe_ix ix_list (pv 2) (pe_un un_neg pe_int) (fun _ _ => rfl)) (pv 4)) pa_nil))))))
        (pss_one (ps_ret (pv 2)))), ?_⟩
    have big : 200000 ≤ sizeLine := by decide
    refine ⟨by show 1 ≤ sizeLine; omega, fun q nq => ?_⟩
    have s1 := same_new (x := .lst [.int 1]) nq
    have hq1 : (upd H q (.lst [.int 1])) q = some (.lst (([1] : List Int).map V.int)) := upd_same
    revert s1 hq1
    generalize upd H q (.lst [.int 1]) = G1
    intro s1 hq1
    refine ⟨fun τ G => ∃ (x3 x4 x5 x6 : Option V) (ps : List Int), τ = [some (.ref a), some (.int (wd : Int)), some (.ref q), x3, x4, x5, x6] ∧ G q = some (.lst (ps.map V.int)) ∧ ps.length = ls.length - 1 + 1 ∧ (∀ p ∈ ps, 0 ≤ p) ∧ Same H G, ?_, ?_⟩
    · refine ⟨_, rfl, _, rfl, _, rfl, a, _, rfl, SqL.of (s1 _ _ LS.at_), fun u nu => ?_⟩
      rw [cut_m1, List.length_map]
      have hu1 : (upd G1 u (.lst ((qs.map V.ref).take (qs.length - 1)))) u = some (.lst ((qs.map V.ref).take (qs.length - 1))) := upd_same
      have hq2 := upd_keepR (x := .lst ((qs.map V.ref).take (qs.length - 1))) hq1 nu
      have s2 := same_more (x := .lst ((qs.map V.ref).take (qs.length - 1))) s1 nu
      have uq : u ≠ q := fun e => by rw [e, hq1] at nu; cases nu
      revert hu1 hq2 s2
      generalize upd G1 u (.lst ((qs.map V.ref).take (qs.length - 1))) = G2
      intro hu1 hq2 s2
      refine ⟨u, rfl, ⟨_, SqL.of hu1⟩, for_list (K := K) (a := u) (xs := (qs.map V.ref).take (qs.length - 1)) (fun i σ G => ∃ (x3 x4 x5 x6 : Option V) (ps : List Int), σ = [some (.ref a), some (.int (wd : Int)), some (.ref q), x3, x4, x5, x6] ∧ G q = some (.lst (ps.map V.int)) ∧ ps.length = i + 1 ∧ (∀ (j : Nat) (p : Int), ps[j]? = some p → 0 ≤ p ∧ p.natAbs < 2 ^ (20020 * j + 1)) ∧ G u = some (.lst ((qs.map V.ref).take (qs.length - 1))) ∧ Same H G)
        ⟨none, none, none, none, [1], rfl, hq2, rfl, fun j p h => ?_, hu1, s2⟩ (fun i σ G _ ⟨_, _, _, _, _, _, _, _, _, h, _⟩ => SqL.of h) ?_ ?_⟩
      · match j, h with
        | 0, h =>
          cases h
          exact ⟨by decide, by decide⟩
        | j + 1, h => cases h
      · rintro i y σ G hi ⟨x3, x4, x5, x6, ps, rfl, hq3, pl, po, hu3, sG⟩
        have hi2 : i < qs.length - 1 := by
          have := (List.getElem?_eq_some_iff.mp hi).1
          rw [List.length_take] at this
          omega
        have ill : i < ls.length := by have := LS.len; omega
        rw [List.getElem?_take_of_lt hi2, List.getElem?_map, List.getElem?_eq_getElem (by omega)] at hi
        obtain rfl : V.ref qs[i] = y := Option.some.inj hi
        have hl := LS.each i ls[i] qs[i] (List.getElem?_eq_getElem ill) (List.getElem?_eq_getElem (by omega))
        have lo1 := lo ls[i] (List.getElem_mem ill)
        obtain ⟨l, hll⟩ : ∃ l, l = ls[i] := ⟨_, rfl⟩
        obtain ⟨r, hr0⟩ : ∃ r, r = qs[i] := ⟨_, rfl⟩
        rw [← hll] at hl lo1
        rw [← hr0] at hl ⊢
        -- the group's counts
        refine ⟨fun τ J => ∃ (g : Int), τ = [some (.ref a), some (.int (wd : Int)), some (.ref q), some (.ref r), some (.int g), x5, x6] ∧ 0 ≤ g ∧ g.natAbs < 2 ^ 20020 ∧ Same G J, ?_, ?_⟩
        · refine ⟨_, rfl, r, l, rfl, sG _ _ hl, lo1.1, fun d G3 es nd s3 el eo hd => ?_⟩
          refine ⟨d, _, rfl, hd, trivial, fun od => ?_⟩
          have s4 : Same G (upd G3 d (.frz od (.dK (es.map ent)))) := fun b ob e => by
            rw [upd_ne (ne_of_none e nd)]
            exact s3 _ _ e
          refine ⟨d, od, _, rfl, upd_same, fun D nD => ?_⟩
          have dD : d ≠ D := ne_of_none upd_same nD
          refine lc_it walk_items (fun i J => ∃ ns : List Int, J D = some (.lst (ns.map V.int)) ∧ ns.length = i ∧ (∀ x ∈ ns, 0 ≤ x ∧ x ≤ (bM : Int)) ∧ J d = some (.frz od (.dK (es.map ent))) ∧ Same G J) ⟨[], upd_same, rfl, fun x h => (nomatch h), (upd_ne dD).trans upd_same, same_more s4 nD⟩ (fun i J _ ⟨_, _, _, _, h, _⟩ => h) ?_ ?_
          · rintro j x J J' hj ⟨ns, hD, nl, no, hdJ, sJ⟩ ⟨Tp, sx, tx, rfl, nT, rfl, hsx, htx⟩
            rw [List.length_map] at hj
            change Option.map (fun kv : Key × V => kV kv.1) (es.map ent)[j]? = some sx at hsx
            change Option.map Prod.snd (es.map ent)[j]? = some tx at htx
            rw [List.getElem?_map, List.getElem?_eq_getElem hj] at hsx htx
            obtain rfl : V.int (es[j].1 : Int) = sx := Option.some.inj hsx
            obtain rfl : V.int (es[j].2 : Int) = tx := Option.some.inj htx
            have e1 := eo es[j] (List.getElem_mem hj)
            have e3 := lo1.2 _ e1.1
            have e4 : es[j].2 ≤ 1000 := Nat.le_trans e1.2 lo1.1
            have pw : es[j].1 * wd ≤ 20000 := Nat.le_trans (Nat.mul_le_mul e3 w200) (by decide)
            have pwz : ((es[j].1 : Nat) : Int) * (wd : Int) = ((es[j].1 * wd : Nat) : Int) := (Int.natCast_mul _ _).symm
            refine ⟨Tp, _, rfl, SqT.of upd_same, rfl, _, _, rfl, _, _, rfl, rfl, rfl, ?_⟩
            have hD' := upd_keepR (x := .tup [V.int (es[j].1 : Int), V.int (es[j].2 : Int)]) hD nT
            have hd' := upd_keepR (x := .tup [V.int (es[j].1 : Int), V.int (es[j].2 : Int)]) hdJ nT
            have sJ' := same_more (x := .tup [V.int (es[j].1 : Int), V.int (es[j].2 : Int)]) sJ nT
            refine ⟨_, rfl, _, rfl, _, rfl, _, _, rfl, rfl, .inl ⟨by omega, by omega⟩, _, _, rfl, rfl, ⟨by rw [pwz]; exact Int.natCast_nonneg _, by rw [pwz]; omega, by omega⟩, ?_⟩
            rw [pwz]
            have vl := shl_le e4 pw
            refine ⟨_, hD', by rw [List.length_map, nl]; omega, ns ++ [(es[j].2 : Int) * 2 ^ (es[j].1 * wd)], ?_, by rw [List.length_append, nl]; rfl, fun x hx => ?_, (upd_ne dD).trans hd', fun b ob e => ?_⟩
            · rw [upd_same, List.map_append]
              rfl
            · rcases List.mem_append.mp hx with h | h
              · exact no x h
              · rw [List.mem_singleton.mp h]
                exact vl
            · rw [upd_ne (ne_of_none (s4 _ _ e) nD)]
              exact sJ' _ _ e
          · rintro J ⟨ns, hD, nl, no, hdJ, sJ⟩
            rw [List.length_map] at nl
            have sm := sum_le no
            refine ⟨D, ns, rfl, SqL.of hD, _, rfl, sm.1, ?_, sJ⟩
            have n1000 : ns.length ≤ 1000 := by omega
            have up1 : (ns.length : Int) * (bM : Int) ≤ ((1000 * bM : Nat) : Int) := by
              rw [← Int.natCast_mul]
              exact Int.ofNat_le.mpr (Nat.mul_le_mul_right _ n1000)
            have lt := bM_lt
            generalize 1000 * bM = Z at up1 lt
            omega
        rintro τ J ⟨g, rfl, g0, g1, sJ⟩
        obtain ⟨pre, last, hpre⟩ : ∃ pre last, ps = pre ++ [last] := by
          refine ⟨ps.dropLast, ps.getLast (fun e => by rw [e] at pl; cases pl), (List.dropLast_concat_getLast _).symm⟩
        have prel : pre.length = i := by rw [hpre, List.length_append] at pl; exact Nat.succ.inj pl
        have hlast := po i last (by rw [hpre, ← prel]; simp)
        have hqJ := sJ _ _ hq3
        have ilim : i ≤ 10 := by omega
        refine ⟨_, rfl, .inl ⟨rfl, _, SqL.of hqJ⟩, _, rfl, _, rfl, q, _, _, .int last, rfl, rfl, SqL.of hqJ, by rw [hpre, List.map_append]; exact atI_last _ _, _, rfl, _, _, rfl, rfl, wide_mul hlast.2 g1 (Nat.succ_pos _) (by decide) (by omega), q, _, _, rfl, rfl, hqJ, by rw [List.length_map]; omega, ?_⟩
        refine ⟨_, _, _, _, ps ++ [last * g], rfl, by rw [upd_same, List.map_append]; rfl, by rw [List.length_append, pl]; rfl, fun j p hj => ?_, (upd_ne uq).trans (sJ _ _ hu3), fun b ob e => ?_⟩
        · rcases Nat.lt_or_ge j ps.length with c | c
          · rw [List.getElem?_append_left c] at hj
            exact po j p hj
          · rw [List.getElem?_append_right c] at hj
            have j0 : j - ps.length = 0 := by
              cases z : j - ps.length with
              | zero => rfl
              | succ n => rw [z] at hj; cases hj
            rw [j0] at hj
            obtain rfl : last * g = p := Option.some.inj hj
            refine ⟨Int.mul_nonneg hlast.1 g0, ?_⟩
            have := wide_lt hlast.2 g1
            rw [show 20020 * j + 1 = 20020 * i + 1 + 20020 by omega]
            exact this
        · rw [upd_ne (ne_of_none e nq)]
          exact sJ _ _ (sG _ _ e)
      · rintro σ G ⟨x3, x4, x5, x6, ps, rfl, hq3, pl, po, hu3, sG⟩
        refine ⟨x3, x4, x5, x6, ps, rfl, hq3, ?_, fun p hp => ?_, sG⟩
        · rw [pl, List.length_take, List.length_map, LS.len]
          omega
        · obtain ⟨j, hj⟩ := List.getElem?_of_mem hp
          exact (po j p hj).1
    rintro τ G ⟨x3, x4, x5, x6, ps, rfl, hq3, pl, po, sG⟩
    refine ⟨_, rfl, k q G ps nq sG ⟨by omega, ?_, by omega⟩ po hq3⟩
    cases ls with
    | nil => exact .inr rfl
    | cons l ls => exact .inl (by rw [pl]; show ls.length + 1 ≤ ls.length + 1 - 1 + 1; omega)
theorem ok_unpacked {f : Addr} {fd : FuncData} (F : Fun K "_unpacked" "_unpacked" sUnpacked f fd) : FnOk P w K mg base CX0 1 f fd ["packed", "width", "many"] spUnpacked := by
  refine F.ok scUnpacked (fun vs H Q E h => ?_) (fun cdv A outer s H vs Q E hr h => ?_)
  · obtain ⟨p, wd, m, rfl, _⟩ := h
    rfl
  · obtain ⟨p, wd, m, rfl, w0, w1, m0, m1, k⟩ := h
    refine ⟨_, pss_cons (ps_if (PW.pt (pw_or (pt_cmpR op_lt (pv 2) pe_int (nomark _)) (pw_or1 (pt_cmpR op_ge (pe_op op_mul (pv 2) (pv 1)) (pe_bits (pv 0)) (nomark _))))) (pss_one (ps_ret pe_int)) pss_nil)
        (pss_one (ps_ret (pe_op op_and (pe_op op_shr (pv 0) (pe_op op_mul (pv 2) (pv 1))) (pe_op op_sub (pe_op op_shl pe_int (pv 1)) pe_int)))), ?_⟩
    have mw : 0 ≤ m → 0 ≤ m * wd := fun h => Int.mul_nonneg h w0
    refine ⟨_, rfl, _, _, rfl, rfl, _, rfl, ite2 (fun c1 => ?_) (fun c1 => ?_)⟩
    · exact iteT (k 0)
    · have mp : 0 ≤ m := by
        have y : ¬ m < 0 := fun y => c1 (decide_eq_true y)
        omega
      refine ⟨_, rfl, _, rfl, _, _, rfl, rfl, .inl ⟨by omega, by omega⟩, _, rfl, _, rfl, _, _, rfl, rfl, _, rfl, ite2 (fun c2 => k 0) (fun c2 => ?_)⟩
      refine ⟨_, rfl, _, rfl, _, rfl, _, _, rfl, rfl, .inl ⟨by omega, by omega⟩, _, _, rfl, rfl, mw mp, _, rfl, _, _, rfl, rfl, ⟨w0, by omega, by decide⟩, _, _, rfl, rfl, _, _, rfl, rfl, ?_⟩
      exact k _
end
end LB
set_option Elab.async false
set_option linter.all false
set_option maxRecDepth 100000
set_option maxHeartbeats 8000000
/-! The program's own: counts of letters, packed into numbers, exactly. -/
namespace LB
open PySem L2 Wk LC
open Bg (Bg Wo)
def pks (sz : Nat → Nat → Nat) (w k : Nat) : List V := (List.range k).map fun j => V.int (((pk sz w j : Nat)) : Int)
theorem pks_succ {sz : Nat → Nat → Nat} {w : Nat} (k : Nat) : pks sz w (k + 1) = pks sz w k ++ [V.int (((pk sz w k : Nat)) : Int)] := by
  unfold pks
  rw [List.range_succ, List.map_append]
  rfl
theorem pks_len {sz : Nat → Nat → Nat} {w : Nat} (k : Nat) : (pks sz w k).length = k := by
  unfold pks
  rw [List.length_map, List.length_range]
theorem fz_le {sz : Nat → Nat → Nat} (b : ∀ j g, sz j g ≤ 100) (v : Nat) : ∀ k, fz sz k v ≤ 100 * k
  | 0 => Nat.le_refl _
  | k + 1 => by
    have a := fz_le b v k
    have c := b k (dg k v)
    show fz sz k v + sz k (dg k v) ≤ _
    omega
theorem grp_lt {f : Nat → Nat} {w : Nat} (b : ∀ g, f g ≤ 100) (hw : w ≤ 210) : sm (fun x => 2 ^ (f x * w)) 1000 < 2 ^ 21010 := by
  have a := sm_le (f := fun x => 2 ^ (f x * w)) (c := 2 ^ 21000) 1000 fun x _ => Nat.pow_le_pow_right (by decide) (Nat.le_trans (Nat.mul_le_mul (b x) hw) (by decide))
  have p : 0 < 2 ^ 21000 := Nat.pow_pos (by decide)
  have q : 2 ^ 21010 = 2 ^ 10 * 2 ^ 21000 := by rw [← Nat.pow_add]
  rw [q]
  generalize 2 ^ 21000 = E at a p ⊢
  have : (2 : Nat) ^ 10 = 1024 := by decide
  rw [this]
  omega
theorem pk_lt {sz : Nat → Nat → Nat} {w : Nat} (b : ∀ j g, sz j g ≤ 100) (hw : w ≤ 210) (k : Nat) : pk sz w k < 2 ^ (21010 * k + 1) := by
  have a := sm_le (f := fun v => 2 ^ (fz sz k v * w)) (c := 2 ^ (21000 * k)) (1000 ^ k) fun v _ => Nat.pow_le_pow_right (by decide) (by
    have := Nat.mul_le_mul (fz_le b v k) hw
    rw [show 21000 * k = 100 * k * 210 by omega]
    exact this)
  have c : 1000 ^ k ≤ 2 ^ (10 * k) := by
    rw [Nat.pow_mul]
    exact Nat.pow_le_pow_left (by decide) k
  have d : 1000 ^ k * 2 ^ (21000 * k) ≤ 2 ^ (10 * k) * 2 ^ (21000 * k) := Nat.mul_le_mul_right _ c
  rw [← Nat.pow_add, show 10 * k + 21000 * k = 21010 * k by omega] at d
  have e : 2 ^ (21010 * k) < 2 ^ (21010 * k + 1) := Nat.pow_lt_pow_right (by decide) (by omega)
  unfold pk
  exact Nat.lt_of_le_of_lt (Nat.le_trans a d) e
theorem map_sm (f : Nat → Nat) : ∀ n, ((List.range n).map f).sum = sm f n
  | 0 => rfl
  | n + 1 => by
    rw [List.range_succ, List.map_append, List.sum_append, map_sm f n]
    show sm f n + (f n + 0) = sm f n + f n
    rw [Nat.add_zero]
theorem intsN_sum (l : List Nat) : ∃ ns : List Int, intsN l = ns.map V.int ∧ ns.sum = ((l.sum : Nat) : Int) := by
  refine ⟨l.map fun n : Nat => (n : Int), by unfold intsN; rw [List.map_map]; rfl, ?_⟩
  induction l with
  | nil => rfl
  | cons x l ih =>
    rw [List.map_cons, List.sum_cons, List.sum_cons, ih]
    omega
theorem bits_lt (p : Nat) : p < 2 ^ Builtin.Int.intBits (p : Int) := PyProof.Rows.natAbs_lt_pow_bits (p : Int)
theorem bitAnd_low (a w : Nat) : Builtin.bitAnd ((a : Nat) : Int) ((2 ^ w - 1 : Nat) : Int) = ((a % 2 ^ w : Nat) : Int) := by
  unfold Builtin.bitAnd
  rw [decide_eq_true (Int.natCast_nonneg a), decide_eq_true (Int.natCast_nonneg (2 ^ w - 1))]
  simp only
  rw [Int.toNat_natCast, Int.toNat_natCast, Nat.and_two_pow_sub_one_eq_mod]
def spPackedE : Sp := fun vs H Q _ => ∃ (a : Addr) (ls : List (List Nat)) (qs : List Addr) (wd : Nat) (sz : Nat → Nat → Nat) (kk : Nat), vs = [.ref a, .int (wd : Int)] ∧ LL H a ls qs ∧ ls = (List.range kk).map (fun j => (List.range 1000).map (sz j)) ∧ kk ≤ 21 ∧ (∀ j g, sz j g ≤ 100) ∧ wd ≤ 210 ∧
  ∀ q H', H q = none → Same H H' → H' q = some (.lst (pks sz wd (kk - 1 + 1))) → Q (.ref q) H'
def spUnpackedE : Sp := fun vs H Q _ => ∃ (sz : Nat → Nat → Nat) (wd k : Nat) (m : Int), vs = [.int ((pk sz wd k : Nat) : Int), .int (wd : Int), .int m] ∧ wd ≤ 210 ∧ m.natAbs < 2 ^ 200 ∧ 1000 ^ k < 2 ^ wd ∧ Q (.int ((cnI sz k (1000 ^ k) m : Nat) : Int)) H
section
variable {P : Program} {w : World} {K : PySem.W.Frag} {mg : Str → Option Value} {base : Heap}
theorem ok_packedE {f fC : Addr} {fd dC : FuncData} (F : Fun K "_packed_counts" "_packed_counts" sPacked f fd) (CO : Def1 P w K mg base "_counts" 1 fC dC ["numbers"] spCountsE) (mU : mg "sum" = none) : FnOk P w K mg base CX0 2 f fd ["sizes", "width"] spPackedE := by
  refine F.ok scPacked (fun vs H Q E h => ?_) (fun cdv A outer s H vs Q E hr h => ?_)
  · obtain ⟨a, ls, qs, wd, sz, kk, rfl, _⟩ := h
    rfl
  · obtain ⟨a, ls, qs, wd, sz, kk, rfl, LS, lsE, l21, szb, w200, k⟩ := h
    have lsl : ls.length = kk := by rw [lsE, List.length_map, List.length_range]
    have hr1 : Room 1 _ := hr
    refine ⟨_, pss_cons (ps_set (i := 2) scPacked.nd rfl (.inl rfl) (pe_lst (pa_cons pe_int pa_nil)))
        (pss_mid (ps_for PassesOwn.never rfl (pi_list (pe_slice sl_list (pv 0) po_none (po_some (pe_un un_neg pe_int)))) (pg_name (i := 3) scPacked.nd rfl (.inl rfl))
          (pss_mid (ps_set (i := 4) scPacked.nd rfl (.inl rfl) (pe_callB (cr_sum rfl) (by rfl) mU (by decide +kernel) (pa_cons (pe_lc (own := [("size", 5), ("times", 6)]) (g := gTup K 2 (gCons (gName 5) (gCons (gName 6) gNil))) (tt := tYes) rfl scPacked.nd (pi_items (pe_still (pe_call CO.ok hr1 (by rfl) CO.g CO.k CO.b .nil pass0 (pa_cons (pv 3) pa_nil)))) (blkOk_by (own := [("size", 5), ("times", 6)]) (N := ["sizes", "width", "packed", "group_sizes", "group", "size", "times"]) (sc := defScope sPacked) (by decide +kernel)) (fun _ _ _ _ _ => pg_tup (by rfl) (pgs_cons (pg_name (i := 5) scPacked.nd rfl (Or.inl rfl)) (pgs_cons (pg_name (i := 6) scPacked.nd rfl (Or.inl rfl)) pgs_nil))) (fun _ _ _ _ _ => pts_nil) (fun _ _ _ _ _ => pe_op op_shl (pv 6) (pe_op op_mul (pv 5) (pv 1)))) pa_nil)))
        (pss_one (ps_expr (pe_bm PySem.F.plainAttrs_list PySem.F.slot_list_append PySem.F.type_list_append mt_append (pv 2) (pa_cons (pe_op op_mulW (pe_ix ix_list (pv 2) (pe_un un_neg pe_int) (fun _ _ => rfl)) (pv 4)) pa_nil))))))
        (pss_one (ps_ret (pv 2)))), ?_⟩
    have big : 200000 ≤ sizeLine := by decide
    refine ⟨by show 1 ≤ sizeLine; omega, fun q nq => ?_⟩
    have s1 := same_new (x := .lst [.int 1]) nq
    have hq1 : (upd H q (.lst [.int 1])) q = some (.lst (([1] : List Int).map V.int)) := upd_same
    revert s1 hq1
    generalize upd H q (.lst [.int 1]) = G1
    intro s1 hq1
    refine ⟨fun τ G => ∃ (x3 x4 x5 x6 : Option V), τ = [some (.ref a), some (.int (wd : Int)), some (.ref q), x3, x4, x5, x6] ∧ G q = some (.lst (pks sz wd (kk - 1 + 1))) ∧ Same H G, ?_, ?_⟩
    · refine ⟨_, rfl, _, rfl, _, rfl, a, _, rfl, SqL.of (s1 _ _ LS.at_), fun u nu => ?_⟩
      rw [cut_m1, List.length_map]
      have hu1 : (upd G1 u (.lst ((qs.map V.ref).take (qs.length - 1)))) u = some (.lst ((qs.map V.ref).take (qs.length - 1))) := upd_same
      have hq2 := upd_keepR (x := .lst ((qs.map V.ref).take (qs.length - 1))) hq1 nu
      have s2 := same_more (x := .lst ((qs.map V.ref).take (qs.length - 1))) s1 nu
      have uq : u ≠ q := fun e => by rw [e, hq1] at nu; cases nu
      have e1 : pks sz wd 1 = ([1] : List Int).map V.int := by
        show [V.int (((pk sz wd 0 : Nat)) : Int)] = [V.int 1]
        rw [pk_zero]
        rfl
      rw [← e1] at hq2
      revert hu1 hq2 s2
      generalize upd G1 u (.lst ((qs.map V.ref).take (qs.length - 1))) = G2
      intro hu1 hq2 s2
      refine ⟨u, rfl, ⟨_, SqL.of hu1⟩, for_list (K := K) (a := u) (xs := (qs.map V.ref).take (qs.length - 1)) (fun i σ G => ∃ (x3 x4 x5 x6 : Option V), σ = [some (.ref a), some (.int (wd : Int)), some (.ref q), x3, x4, x5, x6] ∧ G q = some (.lst (pks sz wd (i + 1))) ∧ G u = some (.lst ((qs.map V.ref).take (qs.length - 1))) ∧ Same H G)
        ⟨none, none, none, none, rfl, hq2, hu1, s2⟩ (fun i σ G _ ⟨_, _, _, _, _, _, h, _⟩ => SqL.of h) ?_ ?_⟩
      · rintro i y σ G hi ⟨x3, x4, x5, x6, rfl, hq3, hu3, sG⟩
        have hi2 : i < qs.length - 1 := by
          have := (List.getElem?_eq_some_iff.mp hi).1
          rw [List.length_take] at this
          omega
        have ill : i < ls.length := by have := LS.len; omega
        rw [List.getElem?_take_of_lt hi2, List.getElem?_map, List.getElem?_eq_getElem (by omega)] at hi
        obtain rfl : V.ref qs[i] = y := Option.some.inj hi
        have lis : ls[i]? = some ((List.range 1000).map (sz i)) := by rw [lsE, List.getElem?_map, List.getElem?_range (by omega)]; rfl
        have hl := LS.each i ((List.range 1000).map (sz i)) qs[i] lis (List.getElem?_eq_getElem (by omega))
        obtain ⟨l, hll⟩ : ∃ l, l = (List.range 1000).map (sz i) := ⟨_, rfl⟩
        obtain ⟨r, hr0⟩ : ∃ r, r = qs[i] := ⟨_, rfl⟩
        have l1000 : l.length = 1000 := by rw [hll, List.length_map, List.length_range]
        have l100 : ∀ x ∈ l, x ≤ 100 := by rw [hll]; exact small_map fun x _ => szb i x
        rw [← hll] at hl
        rw [← hr0] at hl ⊢
        obtain ⟨g, hg⟩ : ∃ g, g = sm (fun x => 2 ^ (sz i x * wd)) 1000 := ⟨_, rfl⟩
        have gb : g < 2 ^ 21010 := by
          rw [hg]
          exact grp_lt (szb i) w200
        -- the group's counts
        refine ⟨fun τ J => ∃ (x5 x6 : Option V), τ = [some (.ref a), some (.int (wd : Int)), some (.ref q), some (.ref r), some (.int (g : Int)), x5, x6] ∧ Same G J, ?_, ?_⟩
        · refine ⟨_, rfl, r, l, rfl, sG _ _ hl, by omega, fun d G3 es nd s3 el eo C hd => ?_⟩
          refine ⟨d, _, rfl, hd, trivial, fun od => ?_⟩
          have s4 : Same G (upd G3 d (.frz od (.dK (es.map ent)))) := fun b ob e => by
            rw [upd_ne (ne_of_none e nd)]
            exact s3 _ _ e
          refine ⟨d, od, _, rfl, upd_same, fun D nD => ?_⟩
          have dD : d ≠ D := ne_of_none upd_same nD
          refine lc_it walk_items (fun i J => J D = some (.lst (intsN ((es.take i).map fun e => e.2 * 2 ^ (e.1 * wd)))) ∧ J d = some (.frz od (.dK (es.map ent))) ∧ Same G J) ⟨upd_same, (upd_ne dD).trans upd_same, same_more s4 nD⟩ (fun i J _ ⟨_, h, _⟩ => h) ?_ ?_
          · rintro j x J J' hj ⟨hD, hdJ, sJ⟩ ⟨Tp, sx, tx, rfl, nT, rfl, hsx, htx⟩
            rw [List.length_map] at hj
            change Option.map (fun kv : Key × V => kV kv.1) (es.map ent)[j]? = some sx at hsx
            change Option.map Prod.snd (es.map ent)[j]? = some tx at htx
            rw [List.getElem?_map, List.getElem?_eq_getElem hj] at hsx htx
            obtain rfl : V.int (es[j].1 : Int) = sx := Option.some.inj hsx
            obtain rfl : V.int (es[j].2 : Int) = tx := Option.some.inj htx
            have e1 := eo es[j] (List.getElem_mem hj)
            have e3 := l100 _ e1
            have e4 : es[j].2 ≤ 1000 := by rw [← l1000]; exact C.le es[j] (List.getElem_mem hj)
            have pw : es[j].1 * wd ≤ 21000 := Nat.le_trans (Nat.mul_le_mul e3 w200) (by decide)
            have pwz : ((es[j].1 : Nat) : Int) * (wd : Int) = ((es[j].1 * wd : Nat) : Int) := (Int.natCast_mul _ _).symm
            refine ⟨Tp, _, rfl, SqT.of upd_same, rfl, _, _, rfl, _, _, rfl, rfl, rfl, ?_⟩
            have hD' := upd_keepR (x := .tup [V.int (es[j].1 : Int), V.int (es[j].2 : Int)]) hD nT
            have hd' := upd_keepR (x := .tup [V.int (es[j].1 : Int), V.int (es[j].2 : Int)]) hdJ nT
            have sJ' := same_more (x := .tup [V.int (es[j].1 : Int), V.int (es[j].2 : Int)]) sJ nT
            refine ⟨_, rfl, _, rfl, _, rfl, _, _, rfl, rfl, .inl ⟨by omega, by omega⟩, _, _, rfl, rfl, ⟨by rw [pwz]; exact Int.natCast_nonneg _, by rw [pwz]; omega, by omega⟩, ?_⟩
            rw [pwz]
            refine ⟨_, hD', by rw [intsN_len, List.length_map, List.length_take]; omega, ?_, (upd_ne dD).trans hd', fun b ob e => ?_⟩
            · rw [upd_same, List.take_add_one, List.getElem?_eq_getElem hj, List.map_append, intsN_app]
              have ez : (((es[j].2 : Nat) : Int) * 2 ^ (((es[j].1 * wd : Nat) : Int)).toNat : Int) = ((es[j].2 * 2 ^ (es[j].1 * wd) : Nat) : Int) := by
                rw [Int.toNat_natCast, Int.natCast_mul, Int.natCast_pow]
                rfl
              show some (HO.lst (_ ++ [V.int (((es[j].2 : Nat) : Int) * 2 ^ (((es[j].1 * wd : Nat) : Int)).toNat)])) = _
              rw [ez]
              rfl
            · rw [upd_ne (ne_of_none (s4 _ _ e) nD)]
              exact sJ' _ _ e
          · rintro J ⟨hD, hdJ, sJ⟩
            rw [List.length_map, List.take_length] at hD
            obtain ⟨ns, hns, hsum⟩ := intsN_sum (es.map fun e => e.2 * 2 ^ (e.1 * wd))
            have hg2 : ns.sum = (g : Int) := by
              have := C.sum fun s => 2 ^ (s * wd)
              rw [hll, List.map_map, map_sm] at this
              rw [hsum, hg]
              exact congrArg (fun z : Nat => (z : Int)) this
            refine ⟨D, ns, rfl, SqL.of (hD.trans (by rw [hns])), x5, x6, ?_, sJ⟩
            rw [hg2]
            rfl
        rintro τ J ⟨y5, y6, rfl, sJ⟩
        have hqJ := sJ _ _ hq3
        have ilim : i ≤ 20 := by omega
        have pb := pk_lt szb w200 i
        have pe : pk sz wd i * g = pk sz wd (i + 1) := by rw [pk_succ, hg]
        have pz : ((pk sz wd i : Nat) : Int) * (g : Int) = ((pk sz wd (i + 1) : Nat) : Int) := by rw [← pe, Int.natCast_mul]
        refine ⟨_, rfl, .inl ⟨rfl, _, SqL.of hqJ⟩, _, rfl, _, rfl, q, _, _, .int ((pk sz wd i : Nat) : Int), rfl, rfl, SqL.of hqJ, by rw [pks_succ]; exact atI_last _ _, _, rfl, _, _, rfl, rfl, wide_mul (a := 21010 * i + 1) (b := 21010) (by rw [Int.natAbs_natCast]; exact pb) (by rw [Int.natAbs_natCast]; exact gb) (Nat.succ_pos _) (by decide) (by omega), q, _, _, rfl, rfl, hqJ, by rw [pks_len]; omega, ?_⟩
        refine ⟨_, _, _, _, rfl, by rw [upd_same, pks_succ (i + 1)]; exact congrArg (fun z => some (HO.lst (pks sz wd (i + 1) ++ [V.int z]))) pz, (upd_ne uq).trans (sJ _ _ hu3), fun b ob e => ?_⟩
        · rw [upd_ne (ne_of_none e nq)]
          exact sJ _ _ (sG _ _ e)
      · rintro σ G ⟨x3, x4, x5, x6, rfl, hq3, hu3, sG⟩
        rw [List.length_take, List.length_map, LS.len, lsl, show min (kk - 1) kk = kk - 1 by omega] at hq3
        exact ⟨x3, x4, x5, x6, rfl, hq3, sG⟩
    rintro τ G ⟨x3, x4, x5, x6, rfl, hq3, sG⟩
    exact ⟨_, rfl, k q G nq sG hq3⟩
theorem ok_unpackedE {f : Addr} {fd : FuncData} (F : Fun K "_unpacked" "_unpacked" sUnpacked f fd) : FnOk P w K mg base CX0 1 f fd ["packed", "width", "many"] spUnpackedE := by
  refine F.ok scUnpacked (fun vs H Q E h => ?_) (fun cdv A outer s H vs Q E hr h => ?_)
  · obtain ⟨sz, wd, k, m, rfl, _⟩ := h
    rfl
  · obtain ⟨sz, wd, kd, m, rfl, wb, m1, few, k⟩ := h
    refine ⟨_, pss_cons (ps_if (PW.pt (pw_or (pt_cmpR op_lt (pv 2) pe_int (nomark _)) (pw_or1 (pt_cmpR op_ge (pe_op op_mulW (pv 2) (pv 1)) (pe_bits (pv 0)) (nomark _))))) (pss_one (ps_ret pe_int)) pss_nil)
        (pss_one (ps_ret (pe_op op_and (pe_op op_shr (pv 0) (pe_op op_mulW (pv 2) (pv 1))) (pe_op op_sub (pe_op op_shl pe_int (pv 1)) pe_int)))), ?_⟩
    obtain ⟨p, hp⟩ : ∃ p, p = pk sz wd kd := ⟨_, rfl⟩
    have big : m.natAbs < 2 ^ 200 := m1
    have wbig : ((wd : Nat) : Int).natAbs < 2 ^ 8 := by rw [Int.natAbs_natCast]; exact Nat.lt_of_le_of_lt wb (by decide)
    have mwW : CMulW m (wd : Int) := wide_mul big wbig (by decide) (by decide) (by decide)
    rw [← hp]
    refine ⟨_, rfl, _, _, rfl, rfl, _, rfl, ite2 (fun c1 => ?_) (fun c1 => ?_)⟩
    · refine iteT ?_
      have := of_decide_eq_true c1
      rw [cnI_neg this] at k
      exact k
    · have mp : 0 ≤ m := by
        have y : ¬ m < 0 := fun y => c1 (decide_eq_true y)
        omega
      obtain ⟨n, rfl⟩ : ∃ n : Nat, m = (n : Int) := ⟨m.toNat, (Int.toNat_of_nonneg mp).symm⟩
      have nz : ((n : Nat) : Int) * ((wd : Nat) : Int) = ((n * wd : Nat) : Int) := (Int.natCast_mul _ _).symm
      have un := unp_pk (sz := sz) few n
      rw [← hp] at un
      refine ⟨_, rfl, _, rfl, _, _, rfl, rfl, mwW, _, rfl, _, rfl, _, _, rfl, rfl, _, rfl, ite2 (fun c2 => ?_) (fun c2 => ?_)⟩
      · have c2 := of_decide_eq_true c2
        rw [nz] at c2
        have lt : p < 2 ^ (n * wd) := by
          have a := bits_lt p
          have b : Builtin.Int.intBits (p : Int) ≤ n * wd := by omega
          exact Nat.lt_of_lt_of_le a (Nat.pow_le_pow_right (by decide) b)
        rw [Nat.div_eq_of_lt lt, Nat.zero_mod] at un
        rw [← un] at k
        exact k
      refine ⟨_, rfl, _, rfl, _, rfl, _, _, rfl, rfl, mwW, _, _, rfl, rfl, by rw [nz]; exact Int.natCast_nonneg _, _, rfl, _, _, rfl, rfl, ⟨Int.natCast_nonneg _, by omega, by decide⟩, _, _, rfl, rfl, _, _, rfl, rfl, ?_⟩
      rw [nz]
      have e1 : ((p : Nat) : Int) / 2 ^ (n * wd) = ((p / 2 ^ (n * wd) : Nat) : Int) := by
        rw [show (2 : Int) ^ (n * wd) = ((2 ^ (n * wd) : Nat) : Int) from (Int.natCast_pow 2 _).symm, ← Int.natCast_ediv]
      have e2 : (1 : Int) * 2 ^ wd - 1 = ((2 ^ wd - 1 : Nat) : Int) := by
        rw [Int.one_mul, show (2 : Int) ^ wd = ((2 ^ wd : Nat) : Int) from (Int.natCast_pow 2 _).symm]
        have := Nat.pow_pos (n := wd) (show 0 < 2 by decide)
        omega
      have fin : Builtin.bitAnd (((p : Nat) : Int) / 2 ^ (n * wd)) ((1 : Int) * 2 ^ wd - 1) = ((cnI sz kd (1000 ^ kd) (n : Int) : Nat) : Int) := by rw [e1, e2, bitAnd_low, un]
      have k2 := k
      rw [← fin] at k2
      exact k2
end
end LB
set_option Elab.async false
set_option linter.all false
set_option maxRecDepth 100000
set_option maxHeartbeats 8000000
/-! The program's own: numbers counted by letters, all letters. -/
namespace LB
open PySem L2 Wk
open Bg (Bg Wo)
theorem cut_toF {α : Type} (f : α → V) (l : List α) (k : Nat) : cutV (l.map f) none (some (k : Int)) = (l.take k).map f := by
  unfold cutV
  rw [HT.sIx_none, HT.sIx_nat, List.drop_zero, Nat.sub_zero, List.map_take, List.take_eq_take_iff]
  omega
theorem W_bits (k : Nat) : (Bg.W k).natAbs < 2 ^ (10 * k + 1) := by
  induction k with
  | zero => decide
  | succ k ih =>
    rw [Bg.W_succ, Int.natAbs_mul, show 10 * (k + 1) + 1 = 10 + (10 * k + 1) by omega, Nat.pow_add]
    have a : (1000 : Int).natAbs = 1000 := rfl
    have b : (2 : Nat) ^ 10 = 1024 := by decide
    rw [a, b]
    generalize 2 ^ (10 * k + 1) = E at ih ⊢
    omega
theorem LL.take {H G : Hp} {a u : Addr} {ls : List (List Nat)} {qs : List Addr} (L : LL H a ls qs) (i : Nat) (s : Same H G) (hu : G u = some (.lst ((qs.take i).map V.ref))) : LL G u (ls.take i) (qs.take i) := by
  refine ⟨hu, by rw [List.length_take, List.length_take, L.len], fun j l r h1 h2 => ?_⟩
  have jl : j < i := by
    have := (List.getElem?_eq_some_iff.mp h1).1
    rw [List.length_take] at this
    omega
  rw [List.getElem?_take_of_lt jl] at h1 h2
  exact s _ _ (L.each j l r h1 h2)
def mkCount : V → Int → Int → List V := fun t n m => [t, .int m, .int n]
section
variable {P : Program} {w : World} {K : PySem.W.Frag} {mg : Str → Option Value} {base : Heap} {C0 C1 : Addr}
theorem scCountL : FnScope ["table", "many", "below", "bound", "found", "groups", "sizes", "width", "packed", "left", "at", "size", "times"] ["table", "many", "below"] (defScope sCountL) := ⟨rfl, rfl, rfl, by decide +kernel, rfl, by decide +kernel, by decide +kernel⟩
theorem scTotalL : FnScope ["table", "below", "bound", "total", "worth", "sizes", "above", "rest", "group", "lower"] ["table", "below"] (defScope sTotalL) := ⟨rfl, rfl, rfl, by decide +kernel, rfl, by decide +kernel, by decide +kernel⟩
theorem ok_countL {f fB fL fG fS fP fC fU : Addr} {fd dB dL dG dS dP dC dU : FuncData} (F : FunD K "count_with_letters" "count_with_letters" (defArgs sCountL) (defBody sCountL) (defScope sCountL) [.non] [] f fd) (BL : DefN P w K mg base "checked_below" 5 fB dB ["table", "below"] (spDoor C0 C1 mkN gBelow (fun n r => r = .int n)))
    (LO : Def1 P w K mg base "_letters_of" 3 fL dL ["table", "number"] spLetters) (GR : Def1 P w K mg base "groups_of" 1 fG dG ["number"] spGroups) (SZ : Def1 P w K mg base "_sizes" 2 fS dS ["table"] spSizes) (PK : Def1 P w K mg base "_packed_counts" 2 fP dP ["sizes", "width"] spPacked)
    (CO : Def1 P w K mg base "_counts" 1 fC dC ["numbers"] spCounts) (UN : Def1 P w K mg base "_unpacked" 1 fU dU ["packed", "width", "many"] spUnpacked) (mL : mg "len" = none) (mRv : mg "reversed" = none) (mR : mg "range" = none) :
    FnOk P w K mg base (L2N.CX P w) 6 f fd ["table", "many", "below"] (spDoor C0 C1 mkCount gBelow (fun _ _ => True)) := by
  refine F.ok scCountL (fun vs H Q E h => ?_) (fun cdv A outer s H vs Q E hr h => ?_)
  · obtain ⟨t, o, te, sc, ones, tens, hun, scales, n, m, rfl, _⟩ := h
    rfl
  · obtain ⟨t, o, te, sc, ones, tens, hun, scales, n, m, rfl, T, mb, k0, k1, k⟩ := h
    have hr3 : Room 3 _ := hr.mono (by decide)
    have hr2 : Room 2 _ := hr.mono (by decide)
    have hr1 : Room 1 _ := hr.mono (by decide)
    refine ⟨_, pss_cons (ps_set (i := 3) scCountL.nd rfl (.inl rfl) (pe_call BL.ok hr (by rfl) BL.g BL.k BL.b .nil (L2N.passes_call (L2N.takes_of rfl rfl rfl rfl) (fun _ _ _ _ h => h)) (pa_cons (pv 0) (pa_cons (pv 2) pa_nil)))) (PSs.nox (pss_cons (ps_if (pt_cmpR op_lt (pv 1) pe_int (nomark _)) (pss_one (ps_ret pe_int)) pss_nil)
        (pss_mid (ps_set (i := 4) scCountL.nd rfl (.inl rfl) (pe_ifExp (pt_cmpR op_eq (pv 1) (pe_call LO.ok hr3 (by rfl) LO.g LO.k LO.b .nil pass0 (pa_cons (pv 0) (pa_cons pe_int pa_nil))) (nomark _)) pe_int pe_int))
        (pss_cons (ps_set (i := 5) scCountL.nd rfl (.inl rfl) (pe_call GR.ok hr1 (by rfl) GR.g GR.k GR.b .nil pass0 (pa_cons (pe_op op_sub (pv 3) pe_int) pa_nil)))
        (pss_mid (ps_set (i := 6) scCountL.nd rfl (.inl rfl) (pe_slice sl_list (pe_call SZ.ok hr2 (by rfl) SZ.g SZ.k SZ.b .nil pass0 (pa_cons (pv 0) pa_nil)) po_none (po_some (pe_callB call_len_seq (by rfl) mL PySem.boot_len (pa_cons (pv 5) pa_nil)))))
        (pss_cons (ps_set (i := 7) scCountL.nd rfl (.inl rfl) (pe_bits (pv 3)))
        (pss_cons (ps_set (i := 8) scCountL.nd rfl (.inl rfl) (pe_call PK.ok hr2 (by rfl) PK.g PK.k PK.b .nil pass0 (pa_cons (pv 6) (pa_cons (pv 7) pa_nil))))
        (pss_cons (ps_set (i := 9) scCountL.nd rfl (.inl rfl) (pv 1))
        (pss_mid (ps_for PassesOwn.never rfl (pi_revR (by rfl) mRv (prg_1 (by rfl) mR (pe_callB call_len_seq (by rfl) mL PySem.boot_len (pa_cons (pv 5) pa_nil)))) (pg_name (i := 10) scCountL.nd rfl (.inl rfl))
          (pss_mid (ps_for PassesOwn.never rfl (pi_items (pe_still (pe_call CO.ok hr1 (by rfl) CO.g CO.k CO.b .nil pass0 (pa_cons (pe_slice sl_list (pe_ix ix_list (pv 6) (pv 10) (fun _ _ => rfl)) po_none (po_some (pe_ix ix_list (pv 5) (pv 10) (fun _ _ => rfl)))) pa_nil)))) (pg_tup (by rfl) (pgs_cons (pg_name (i := 11) scCountL.nd rfl (.inl rfl)) (pgs_cons (pg_name (i := 12) scCountL.nd rfl (.inl rfl)) pgs_nil)))
          (pss_one (ps_set (i := 4) scCountL.nd rfl (.inl rfl) (pe_op op_add (pv 4) (pe_op op_mul (pv 12) (pe_call UN.ok hr1 (by rfl) UN.g UN.k UN.b .nil pass0 (pa_cons (pe_ix ix_list (pv 8) (pv 10) (fun _ _ => rfl)) (pa_cons (pv 7) (pa_cons (pe_op op_sub (pv 9) (pv 11)) pa_nil)))))))))
        (pss_one (ps_set (i := 9) scCountL.nd rfl (.inl rfl) (pe_op op_sub (pv 9) (pe_ix ix_list (pe_ix ix_list (pv 6) (pv 10) (fun _ _ => rfl)) (pe_ix ix_list (pv 5) (pv 10) (fun _ _ => rfl)) (fun _ _ => rfl)))))))
        (pss_one (ps_ret (pe_ifExp (pt_cmpR op_eq (pv 9) pe_int (nomark _)) (pe_op op_add (pv 4) pe_int) (pv 4))))))))))))), ?_⟩
    have big : 200000 ≤ sizeLine := by decide
    refine ⟨_, rfl, _, rfl, t, o, te, sc, ones, tens, hun, scales, n, m, rfl, T, mb, k0, k1, fun hf hg r H1 er s1 => ?_⟩
    obtain rfl := er
    have k := k hf hg
    have TT := T.tab hf
    have l10 := T.l3
    obtain ⟨g1, g2⟩ := hg
    have w10 := W_bits (scales.length + 1)
    have nb : n.natAbs < 2 ^ 200 := by
      have a : n.natAbs < 2 ^ (10 * (scales.length + 1) + 1) := by omega
      exact Nat.lt_of_lt_of_le a (Nat.pow_le_pow_right (by decide) (by omega))
    refine ⟨_, rfl, _, _, rfl, rfl, _, rfl, ite2 (fun c1 => k _ _ trivial s1) (fun c1 => ?_)⟩
    have W1 := Bg.W_pos (scales.length + 1)
    refine ⟨fun τ G => ∃ fo : Int, τ = [some (.ref t), some (.int m), some (.int n), some (.int n), some (.int fo), none, none, none, none, none, none, none, none] ∧ Same H G, ?_, ?_⟩
    · refine ⟨_, rfl, _, rfl, t, o, te, sc, ones, tens, hun, scales, 0, rfl, TT.same s1, Int.le_refl _, by omega, fun H2 s2 => ?_⟩
      refine ⟨rfl, _, rfl, ite2 (fun _ => ?_) (fun _ => ?_)⟩
      · exact ⟨1, rfl, Same.trans s1 s2⟩
      · exact ⟨0, rfl, Same.trans s1 s2⟩
    rintro τ G ⟨fo, rfl, s2⟩
    refine ⟨_, rfl, _, _, rfl, rfl, n - 1, scales.length + 1, rfl, by omega, by omega, by omega, fun p i G1 np s3 il _ _ hp => ?_⟩
    have s4 := Same.trans s2 s3
    refine ⟨fun τ G => ∃ (u : Addr) (ls : List (List Nat)) (qs : List Addr), τ = [some (.ref t), some (.int m), some (.int n), some (.int n), some (.int fo), some (.ref p), some (.ref u), none, none, none, none, none, none] ∧ LL G u ls qs ∧ ls.length = i ∧ (∀ l ∈ ls, l.length = 1000 ∧ ∀ x ∈ l, x ≤ 100) ∧ G p = some (.lst ((List.range i).map fun j => V.int (Bg.gr (n - 1) j))) ∧ Same H G, ?_, ?_⟩
    · refine ⟨_, rfl, t, o, te, sc, ones, tens, hun, scales, rfl, TT.same s4, fun q G2 ls qs nq s5 ll lo N => ?_⟩
      refine ⟨_, rfl, p, _, rfl, .inl (SqL.of (s5 _ _ hp)), ?_⟩
      refine ⟨_, rfl, q, _, rfl, SqL.of N.1, fun u nu => ?_⟩
      rw [List.length_map, List.length_range, cut_toF]
      have s6 := same_new (x := .lst ((qs.take i).map V.ref)) nu
      refine ⟨u, ls.take i, qs.take i, rfl, N.ll.take i s6 upd_same, by rw [List.length_take]; omega, fun l hl => lo l (List.mem_of_mem_take hl), s6 _ _ (s5 _ _ hp), Same.trans (Same.trans s4 s5) s6⟩
    rintro τ G2 ⟨u, ls, qs, rfl, LS, ll, lo, hp2, s5⟩
    refine ⟨_, rfl, _, rfl, ?_⟩
    have wd := PyProof.Rows.intBits_le nb
    refine ⟨_, rfl, _, rfl, u, ls, qs, Builtin.Int.intBits n, rfl, LS, by omega, fun l hl => ⟨Nat.le_of_eq (lo l hl).1, (lo l hl).2⟩, wd, fun pk G3 ps npk s6 pl po hpk => ?_⟩
    refine ⟨_, rfl, ?_⟩
    have LS3 := LS.same s6
    have s7 := Same.trans s5 s6
    have hp3 := s6 _ _ hp2
    refine ⟨fun τ G => ∃ (fo le : Int) (x10 x11 x12 : Option V), τ = [some (.ref t), some (.int m), some (.int n), some (.int n), some (.int fo), some (.ref p), some (.ref u), some (.int (Builtin.Int.intBits n : Nat)), some (.ref pk), some (.int le), x10, x11, x12] ∧ Same H G, ?_, ?_⟩
    · refine ⟨_, rfl, p, _, rfl, .inl (SqL.of hp3), _, rfl, ?_⟩
      rw [List.length_map, List.length_range]
      have n_i : ((i : Int) - 0).toNat = i := by omega
      refine ⟨by omega, by omega, by omega, by omega, ?_⟩
      refine for_rangeC (lo := 0 + ((((i : Int) - 0).toNat : Nat) : Int) - 1) (c := -1) (n := ((i : Int) - 0).toNat) (fun j σ G => ∃ (fo le : Int) (x10 x11 x12 : Option V), σ = [some (.ref t), some (.int m), some (.int n), some (.int n), some (.int fo), some (.ref p), some (.ref u), some (.int (Builtin.Int.intBits n : Nat)), some (.ref pk), some (.int le), x10, x11, x12] ∧ (-100 - 100 * (j : Int) ≤ le ∧ le ≤ 100) ∧ Same G3 G) ⟨fo, m, none, none, none, rfl, by omega, Same.refl _⟩ ?_ ?_
      · rintro j σ G ji ⟨fo, le, x10, x11, x12, rfl, lb, sG⟩
        rw [n_i] at ji
        have ea : (0 + ((((i : Int) - 0).toNat : Nat) : Int) - 1 + (j : Nat) * (-1) : Int) = ((i - 1 - j : Nat) : Int) := by omega
        rw [ea]
        generalize hm : i - 1 - j = a
        have ai : a < i := by omega
        have alq : a < qs.length := by have := LS.len; omega
        have all : a < ls.length := by omega
        have hgr := Bg.gr_bnd (n - 1) a
        obtain ⟨gn, hgn⟩ : ∃ gn : Nat, Bg.gr (n - 1) a = (gn : Int) := ⟨(Bg.gr (n - 1) a).toNat, (Int.toNat_of_nonneg hgr.1).symm⟩
        have iu : atI (qs.map V.ref) ((a : Nat) : Int) = some (.ref qs[a]) := atI_nat (by rw [List.getElem?_map, List.getElem?_eq_getElem alq]; rfl)
        have ip : atI ((List.range i).map fun j => V.int (Bg.gr (n - 1) j)) ((a : Nat) : Int) = some (.int (gn : Int)) := atI_nat (by rw [List.getElem?_map, List.getElem?_range ai, ← hgn]; rfl)
        have hl := LS3.each a ls[a] qs[a] (List.getElem?_eq_getElem all) (List.getElem?_eq_getElem alq)
        have lo1 := lo ls[a] (List.getElem_mem all)
        have apl : a < ps.length := by
          rcases pl.2.1 with h | h
          · omega
          · rw [h] at all
            cases all
        have ipk : atI (ps.map V.int) ((a : Nat) : Int) = some (.int ps[a]) := atI_nat (by rw [List.getElem?_map, List.getElem?_eq_getElem apl]; rfl)
        generalize ls[a] = l at hl lo1
        generalize qs[a] = r at iu hl
        generalize ps[a] = pa at ipk
        refine ⟨fun τ J => ∃ (fo : Int) (x11 x12 : Option V), τ = [some (.ref t), some (.int m), some (.int n), some (.int n), some (.int fo), some (.ref p), some (.ref u), some (.int (Builtin.Int.intBits n : Nat)), some (.ref pk), some (.int le), some (.int (a : Int)), x11, x12] ∧ Same G3 J, ?_, ?_⟩
        · refine ⟨_, rfl, _, rfl, u, _, _, _, rfl, rfl, SqL.of (sG _ _ LS3.at_), iu, ?_⟩
          refine ⟨_, rfl, _, rfl, p, _, _, _, rfl, rfl, SqL.of (sG _ _ hp3), ip, _, rfl, r, _, rfl, SqL.of (sG _ _ hl), fun v nv => ?_⟩
          rw [cut_to]
          have s8 := same_more (x := .lst (intsN (l.take gn))) sG nv
          refine ⟨v, l.take gn, rfl, upd_same, by rw [List.length_take]; omega, fun d J es nd s9 el eo hd => ?_⟩
          refine ⟨d, _, rfl, hd, trivial, fun od => ?_⟩
          have nd0 : G3 d = none := Same.free s8 nd
          have s10 : Same G3 (upd J d (.frz od (.dK (es.map ent)))) := fun b ob e => by
            rw [upd_ne (ne_of_none e nd0)]
            exact s9 _ _ (s8 _ _ e)
          refine ⟨d, od, _, rfl, upd_same, ?_⟩
          refine for_it walk_items (fun j σ J => ∃ (fo : Int) (x11 x12 : Option V), σ = [some (.ref t), some (.int m), some (.int n), some (.int n), some (.int fo), some (.ref p), some (.ref u), some (.int (Builtin.Int.intBits n : Nat)), some (.ref pk), some (.int le), some (.int (a : Int)), x11, x12] ∧ J d = some (.frz od (.dK (es.map ent))) ∧ Same G3 J) ⟨fo, x11, x12, rfl, upd_same, s10⟩ (fun j σ J _ ⟨_, _, _, _, h, _⟩ => h) ?_ ?_
          · rintro j x σ J J' hj ⟨fo, x11, x12, rfl, hdJ, sJ⟩ ⟨Tp, sx, tx, rfl, nT, rfl, hsx, htx⟩
            rw [List.length_map] at hj
            change Option.map (fun kv : Key × V => kV kv.1) (es.map ent)[j]? = some sx at hsx
            change Option.map Prod.snd (es.map ent)[j]? = some tx at htx
            rw [List.getElem?_map, List.getElem?_eq_getElem hj] at hsx htx
            obtain rfl : V.int (es[j].1 : Int) = sx := Option.some.inj hsx
            obtain rfl : V.int (es[j].2 : Int) = tx := Option.some.inj htx
            have e1 := eo es[j] (List.getElem_mem hj)
            have e3 := lo1.2 _ (List.mem_of_mem_take e1.1)
            have e4 : es[j].2 ≤ 1000 := by have := e1.2; rw [List.length_take] at this; omega
            have sJ' := same_more (x := .tup [V.int (es[j].1 : Int), V.int (es[j].2 : Int)]) sJ nT
            have hd' := upd_keepR (x := .tup [V.int (es[j].1 : Int), V.int (es[j].2 : Int)]) hdJ nT
            refine ⟨Tp, _, rfl, SqT.of upd_same, rfl, _, _, rfl, _, _, rfl, rfl, ?_⟩
            refine ⟨_, rfl, _, rfl, _, rfl, _, rfl, pk, _, _, _, rfl, rfl, SqL.of (sJ' _ _ hpk), ipk, _, rfl, _, rfl, _, rfl, _, _, rfl, rfl, _, _, _, rfl, Int.natCast_nonneg _, by omega, by omega, by omega, fun rr => ?_⟩
            refine ⟨_, _, rfl, rfl, .inl ⟨by omega, by omega⟩, _, _, rfl, rfl, ?_⟩
            exact ⟨_, _, _, rfl, hd', sJ'⟩
          · rintro σ J ⟨fo, x11, x12, rfl, hdJ, sJ⟩
            exact ⟨fo, x11, x12, rfl, sJ⟩
        rintro τ J ⟨fo, x11, x12, rfl, sJ⟩
        have lt : gn < l.length := by
          rw [lo1.1]
          omega
        have il : atI (intsN l) (gn : Int) = some (.int ((l[gn] : Nat) : Int)) := atI_nat (intsN_at (List.getElem?_eq_getElem lt))
        have l100 := lo1.2 _ (List.getElem_mem lt)
        refine ⟨_, rfl, _, rfl, _, rfl, u, _, _, _, rfl, rfl, SqL.of (sJ _ _ LS3.at_), iu, _, rfl, _, rfl, p, _, _, _, rfl, rfl, SqL.of (sJ _ _ hp3), ip, r, _, _, _, rfl, rfl, SqL.of (sJ _ _ hl), il, _, _, rfl, rfl, ?_⟩
        exact ⟨fo, _, _, _, _, rfl, by omega, sJ⟩
      · rintro σ G ⟨fo, le, x10, x11, x12, rfl, lb, sG⟩
        exact ⟨fo, le, x10, x11, x12, rfl, Same.trans s7 sG⟩
    rintro τ G4 ⟨fo, le, x10, x11, x12, rfl, s8⟩
    refine ⟨_, rfl, rfl, _, rfl, ite2 (fun _ => ?_) (fun _ => ?_)⟩
    · exact ⟨_, rfl, _, _, rfl, rfl, k _ _ trivial s8⟩
    · exact ⟨_, rfl, k _ _ trivial s8⟩
theorem sumN {B : Nat} {l : List Nat} (h : ∀ x ∈ l, x ≤ B) : ∃ ns : List Int, intsN l = ns.map V.int ∧ 0 ≤ ns.sum ∧ ns.sum ≤ ((l.length * B : Nat) : Int) := by
  refine ⟨l.map fun n : Nat => (n : Int), by unfold intsN; rw [List.map_map]; rfl, ?_⟩
  have := sum_le (M := B) (ns := l.map fun n : Nat => (n : Int)) fun x hx => by
    obtain ⟨y, hy, rfl⟩ := List.mem_map.mp hx
    exact ⟨Int.natCast_nonneg _, Int.ofNat_le.mpr (h y hy)⟩
  rw [List.length_map] at this
  rw [Int.natCast_mul]
  exact this
theorem nat_abs_lt {x : Int} {a : Nat} (h0 : 0 ≤ x) {B : Nat} (h : x ≤ (B : Int)) (hb : B < 2 ^ a) : x.natAbs < 2 ^ a := by
  have : x.natAbs ≤ B := by omega
  exact Nat.lt_of_le_of_lt this hb
theorem ok_totalL {f fB fL fS : Addr} {fd dB dL dS : FuncData} (F : FunD K "total_letters" "total_letters" (defArgs sTotalL) (defBody sTotalL) (defScope sTotalL) [.non] [] f fd) (BL : DefN P w K mg base "checked_below" 5 fB dB ["table", "below"] (spDoor C0 C1 mkN gBelow (fun n r => r = .int n)))
    (LO : Def1 P w K mg base "_letters_of" 3 fL dL ["table", "number"] spLetters) (SZ : Def1 P w K mg base "_sizes" 2 fS dS ["table"] spSizes) (mD : mg "divmod" = none) (mU : mg "sum" = none) :
    FnOk P w K mg base (L2N.CX P w) 6 f fd ["table", "below"] (spDoor C0 C1 mkN gBelow (fun _ _ => True)) := by
  refine F.ok scTotalL (fun vs H Q E h => ?_) (fun cdv A outer s H vs Q E hr h => ?_)
  · obtain ⟨t, o, te, sc, ones, tens, hun, scales, n, m, rfl, _⟩ := h
    rfl
  · obtain ⟨t, o, te, sc, ones, tens, hun, scales, n, m, rfl, T, mb, k0, k1, k⟩ := h
    have hr3 : Room 3 _ := hr.mono (by decide)
    have hr2 : Room 2 _ := hr.mono (by decide)
    refine ⟨_, pss_cons (ps_set (i := 2) scTotalL.nd rfl (.inl rfl) (pe_call BL.ok hr (by rfl) BL.g BL.k BL.b .nil (L2N.passes_call (L2N.takes_of rfl rfl rfl rfl) (fun _ _ _ _ h => h)) (pa_cons (pv 0) (pa_cons (pv 1) pa_nil)))) (PSs.nox (pss_cons (ps_set (i := 3) scTotalL.nd rfl (.inl rfl) (pe_call LO.ok hr3 (by rfl) LO.g LO.k LO.b .nil pass0 (pa_cons (pv 0) (pa_cons pe_int pa_nil))))
        (pss_cons (ps_set (i := 4) scTotalL.nd rfl (.inl rfl) pe_int)
        (pss_mid (ps_for PassesOwn.never rfl (pi_list (pe_call SZ.ok hr2 (by rfl) SZ.g SZ.k SZ.b .nil pass0 (pa_cons (pv 0) pa_nil))) (pg_name (i := 5) scTotalL.nd rfl (.inl rfl))
          (pss_cons (ps_asg (pe_callB call_divmodW (by rfl) mD (by decide +kernel) (pa_cons (pv 2) (pa_cons (pe_op op_mulW (pv 4) pe_int) pa_nil))) (pg_tup (by rfl) (pgs_cons (pg_name (i := 6) scTotalL.nd rfl (.inl rfl)) (pgs_cons (pg_name (i := 7) scTotalL.nd rfl (.inl rfl)) pgs_nil))))
        (pss_cons (ps_asg (pe_callB call_divmodW (by rfl) mD (by decide +kernel) (pa_cons (pv 7) (pa_cons (pv 4) pa_nil))) (pg_tup (by rfl) (pgs_cons (pg_name (i := 8) scTotalL.nd rfl (.inl rfl)) (pgs_cons (pg_name (i := 9) scTotalL.nd rfl (.inl rfl)) pgs_nil))))
        (pss_cons (ps_set (i := 3) scTotalL.nd rfl (.inl rfl) (pe_op op_add (pe_op op_add (pv 3) (pe_op op_mulW (pe_op op_add (pe_op op_mulW (pv 6) (pe_callB (cr_sum rfl) (by rfl) mU (by decide +kernel) (pa_cons (pv 5) pa_nil))) (pe_callB (cr_sum rfl) (by rfl) mU (by decide +kernel) (pa_cons (pe_slice sl_list (pv 5) po_none (po_some (pv 8))) pa_nil))) (pv 4))) (pe_op op_mulW (pv 9) (pe_ix ix_list (pv 5) (pv 8) (fun _ _ => rfl)))))
        (pss_one (ps_set (i := 4) scTotalL.nd rfl (.inl rfl) (pe_op op_mulW (pv 4) pe_int)))))))
        (pss_one (ps_ret (pv 3))))))), ?_⟩
    have big : 200000 ≤ sizeLine := by decide
    refine ⟨_, rfl, _, rfl, t, o, te, sc, ones, tens, hun, scales, n, m, rfl, T, mb, k0, k1, fun hf hg r H1 er s1 => ?_⟩
    obtain rfl := er
    have k := k hf hg
    have TT := T.tab hf
    have l10 := T.l3
    obtain ⟨g1, g2⟩ := hg
    have w10 := W_bits (scales.length + 1)
    have nb : n.natAbs < 2 ^ 200 := by
      have a : n.natAbs < 2 ^ (10 * (scales.length + 1) + 1) := by omega
      exact Nat.lt_of_lt_of_le a (Nat.pow_le_pow_right (by decide) (by omega))
    have W1 := Bg.W_pos (scales.length + 1)
    refine ⟨_, rfl, t, o, te, sc, ones, tens, hun, scales, 0, rfl, TT.same s1, Int.le_refl _, by omega, fun H2 s2 => ?_⟩
    have s3 := Same.trans s1 s2
    refine ⟨fun τ G => ∃ (to : Int) (x4 x5 x6 x7 x8 x9 : Option V), τ = [some (.ref t), some (.int n), some (.int n), some (.int to), x4, x5, x6, x7, x8, x9] ∧ Same H G, ?_, ?_⟩
    · refine ⟨_, rfl, t, o, te, sc, ones, tens, hun, scales, rfl, TT.same s3, fun q G2 ls qs nq s5 ll lo N => ?_⟩
      have s6 := Same.trans s3 s5
      have LS := N.ll
      refine ⟨q, rfl, ⟨_, SqL.of N.1⟩, for_list (K := K) (a := q) (xs := qs.map V.ref) (fun j σ G => ∃ (to : Int) (x5 x6 x7 x8 x9 : Option V), σ = [some (.ref t), some (.int n), some (.int n), some (.int to), some (.int (Bg.W j)), x5, x6, x7, x8, x9] ∧ Same G2 G) ⟨_, none, none, none, none, none, rfl, Same.refl _⟩ (fun j σ G _ ⟨_, _, _, _, _, _, _, s⟩ => SqL.of (s _ _ N.1)) ?_ ?_⟩
      · rintro j y σ G hj ⟨to, x5, x6, x7, x8, x9, rfl, sG⟩
        have jq : j < qs.length := by
          have := (List.getElem?_eq_some_iff.mp hj).1
          rw [List.length_map] at this
          exact this
        have jl : j < ls.length := by have := LS.len; omega
        rw [List.getElem?_map, List.getElem?_eq_getElem jq] at hj
        obtain rfl : V.ref qs[j] = y := Option.some.inj hj
        have hl := LS.each j ls[j] qs[j] (List.getElem?_eq_getElem jl) (List.getElem?_eq_getElem jq)
        have lo1 := lo ls[j] (List.getElem_mem jl)
        generalize ls[j] = l at hl lo1
        generalize qs[j] = r at hl ⊢
        have Wj := Bg.W_pos j
        have Wb : (Bg.W j).natAbs < 2 ^ 200 := Nat.lt_of_lt_of_le (W_bits j) (Nat.pow_le_pow_right (by decide) (by omega))
        have Wb1 : (Bg.W (j + 1)).natAbs < 2 ^ 200 := Nat.lt_of_lt_of_le (W_bits (j + 1)) (Nat.pow_le_pow_right (by decide) (by omega))
        have Ws : Bg.W j * 1000 = Bg.W (j + 1) := by rw [Bg.W_succ, Int.mul_comm]
        have k1000 : (1000 : Int).natAbs < 2 ^ 10 := by decide
        have hnb : Builtin.Int.intBits n ≤ 200 := PyProof.Rows.intBits_le nb
        obtain ⟨Ab, hA⟩ : ∃ a : Int, a = n / Bg.W (j + 1) := ⟨_, rfl⟩
        obtain ⟨Rb, hR⟩ : ∃ a : Int, a = n % Bg.W (j + 1) := ⟨_, rfl⟩
        have Wj1 := Bg.W_pos (j + 1)
        have A0 : 0 ≤ Ab := hA ▸ Int.ediv_nonneg (by omega) (by omega)
        have A1 : Ab ≤ n := hA ▸ Int.ediv_le_self _ (by omega)
        have R0 : 0 ≤ Rb := hR ▸ Int.emod_nonneg _ (by omega)
        have R1 : Rb < Bg.W (j + 1) := hR ▸ Int.emod_lt_of_pos _ Wj1
        have Abb : Ab.natAbs < 2 ^ 200 := by omega
        have Rbb : Rb.natAbs < 2 ^ 200 := by omega
        obtain ⟨gg, hg'⟩ : ∃ a : Int, a = Rb / Bg.W j := ⟨_, rfl⟩
        obtain ⟨lw, hlw⟩ : ∃ a : Int, a = Rb % Bg.W j := ⟨_, rfl⟩
        have q0 : 0 ≤ gg := hg' ▸ Int.ediv_nonneg R0 (by omega)
        have q1 : gg < 1000 := by
          rw [hg']
          refine Int.ediv_lt_of_lt_mul Wj ?_
          rw [Int.mul_comm, Ws]
          exact R1
        have L0 : 0 ≤ lw := hlw ▸ Int.emod_nonneg _ (by omega)
        have Lb : lw.natAbs < 2 ^ 200 := by
          have : lw < Bg.W j := hlw ▸ Int.emod_lt_of_pos _ Wj
          omega
        obtain ⟨gn, hgn⟩ : ∃ gn : Nat, gg = (gn : Int) := ⟨gg.toNat, (Int.toNat_of_nonneg q0).symm⟩
        have gnl : gn < l.length := by
          rw [lo1.1]
          omega
        obtain ⟨ns1, e1, z1, z2⟩ := sumN lo1.2
        obtain ⟨ns2, e2, z3, z4⟩ := sumN (l := l.take gn) (B := 100) fun x hx => lo1.2 x (List.mem_of_mem_take hx)
        have y1 : ns1.sum.natAbs < 2 ^ 20 := nat_abs_lt z1 z2 (by rw [lo1.1]; decide)
        have y2 : ns2.sum.natAbs < 2 ^ 20 := nat_abs_lt z3 (Int.le_trans z4 (Int.ofNat_le.mpr (Nat.mul_le_mul_right 100 (by rw [List.length_take]; omega : (l.take gn).length ≤ 1000)))) (by decide)
        have y3 := wide_lt Abb y1
        have y4 : (Ab * ns1.sum + ns2.sum).natAbs < 2 ^ 221 := by
          have a := Int.natAbs_add_le (Ab * ns1.sum) ns2.sum
          have b : (2 : Nat) ^ 20 ≤ 2 ^ 220 := Nat.pow_le_pow_right (by decide) (by decide)
          have c : (2 : Nat) ^ 221 = 2 * 2 ^ 220 := by rw [show 221 = 220 + 1 from rfl, Nat.pow_succ, Nat.mul_comm]
          rw [c]
          have d : (Ab * ns1.sum).natAbs < 2 ^ 220 := y3
          omega
        have iz : atI (intsN l) (gn : Int) = some (.int ((l[gn] : Nat) : Int)) := atI_nat (intsN_at (List.getElem?_eq_getElem gnl))
        have l100 := lo1.2 _ (List.getElem_mem gnl)
        have y5 : ((l[gn] : Nat) : Int).natAbs < 2 ^ 20 := nat_abs_lt (Int.natCast_nonneg _) (Int.ofNat_le.mpr l100) (by decide)
        refine ⟨_, rfl, _, rfl, _, _, rfl, rfl, wide_mul Wb k1000 (by decide) (by decide) (by decide), ?_⟩
        refine ⟨_, _, rfl, divp_ok (by rw [Ws]; exact Wj1) (by omega), fun p np => ?_⟩
        rw [Ws, ← hA, ← hR]
        have sp := same_more (x := .tup [.int Ab, .int Rb]) sG np
        refine ⟨p, _, rfl, SqT.of upd_same, rfl, _, _, rfl, _, _, rfl, rfl, ?_⟩
        revert sp
        generalize upd G p (.tup [.int Ab, .int Rb]) = G3
        intro sp
        refine ⟨_, rfl, _, rfl, _, _, rfl, divp_ok Wj (by have := PyProof.Rows.intBits_le Rbb; omega), fun p2 np2 => ?_⟩
        rw [← hg', ← hlw]
        have sp2 := same_more (x := .tup [.int gg, .int lw]) sp np2
        refine ⟨p2, _, rfl, SqT.of upd_same, rfl, _, _, rfl, _, _, rfl, rfl, ?_⟩
        revert sp2
        generalize upd G3 p2 (.tup [.int gg, .int lw]) = G4
        intro sp2
        have hl4 := sp2 _ _ hl
        subst hgn
        refine ⟨_, rfl, _, rfl, _, rfl, r, ns1, rfl, SqL.of (hl4.trans (by rw [e1])), _, _, rfl, rfl, wide_mul Abb y1 (by decide) (by decide) (by decide), ?_⟩
        refine ⟨_, rfl, _, rfl, _, rfl, r, _, rfl, SqL.of hl4, fun v nv => ?_⟩
        rw [cut_to]
        have hl5 := upd_keepR (x := .lst (intsN (l.take gn))) hl4 nv
        have sp3 := same_more (x := .lst (intsN (l.take gn))) sp2 nv
        refine ⟨v, ns2, rfl, SqL.of (upd_same.trans (by rw [e2])), _, _, rfl, rfl, _, rfl, _, _, rfl, rfl, wide_mul y4 Wb (by decide) (by decide) (by decide), _, _, rfl, rfl, _, rfl, _, rfl, _, rfl, r, _, _, _, rfl, rfl, SqL.of hl5, iz, _, _, rfl, rfl, wide_mul Lb y5 (by decide) (by decide) (by decide), _, _, rfl, rfl, ?_⟩
        refine ⟨_, rfl, _, _, rfl, rfl, wide_mul Wb k1000 (by decide) (by decide) (by decide), ?_⟩
        exact ⟨_, _, _, _, _, _, congrArg (fun z => [some (V.ref t), some (V.int n), some (V.int n), some (V.int (to + (Ab * ns1.sum + ns2.sum) * Bg.W j + lw * ((l[gn] : Nat) : Int))), some (V.int z), some (V.ref r), some (V.int Ab), some (V.int Rb), some (V.int (gn : Int)), some (V.int lw)]) Ws, sp3⟩
      · rintro σ G ⟨to, x5, x6, x7, x8, x9, rfl, sG⟩
        exact ⟨to, _, x5, x6, x7, x8, x9, rfl, Same.trans s6 sG⟩
    rintro τ G ⟨to, x4, x5, x6, x7, x8, x9, rfl, sG⟩
    exact ⟨_, rfl, k _ _ trivial sG⟩
end
end LB
set_option Elab.async false
set_option linter.all false
set_option maxRecDepth 100000
set_option maxHeartbeats 8000000
/-! The program's own: numbers counted by letters, all letters, exactly. -/
namespace LB
open PySem L2 Wk LC
open Bg (Bg Wo)
def cntL (ones tens : List Str) (hun : Str) (scales : List Str) (m : Int) (B : Nat) : Nat := sm (fun v => if (fL ones tens hun scales v : Int) = m then 1 else 0) B
def totL (ones tens : List Str) (hun : Str) (scales : List Str) (B : Nat) : Nat := sm (fL ones tens hun scales) B
theorem W_nat (j : Nat) : Bg.W j = ((1000 ^ j : Nat) : Int) := (Int.natCast_pow 1000 j).symm
theorem take_rm {α : Type} (f : Nat → α) {i n : Nat} (h : i ≤ n) : ((List.range n).map f).take i = (List.range i).map f := by
  rw [← List.map_take, List.take_range, Nat.min_eq_left h]
def sumF (l : List Nat) (F : Nat → Nat) : Nat := (l.map F).sum
section
variable {ones tens : List Str} {hun : Str} {scales : List Str}
theorem fL_pos (g : GoodRow (ones ++ (tens ++ hun :: scales))) {n : Nat} (h : (n : Int) < Bg.W (scales.length + 1)) : 1 ≤ fL ones tens hun scales n := by
  have ne := nm_ne (ones := ones) (tens := tens) (hun := hun) (Int.natCast_nonneg n) h
  have e := fL_eq ones tens hun scales n
  unfold lettersN at e
  cases c : nmL ones tens hun scales (n : Int) with
  | nil => exact absurd c ne
  | cons x l =>
    have gx : 1 ≤ x.length := (nm_good g n x (by rw [c]; exact List.mem_cons_self)).1
    have key : ∀ l : List Str, 0 ≤ (l.map fun w => ((w.length : Nat) : Int)).sum := by
      intro l
      induction l with
      | nil => exact Int.le_refl _
      | cons x l ih => rw [List.map_cons, List.sum_cons]; omega
    have := key l
    rw [c, List.map_cons, List.sum_cons] at e
    omega
theorem cntL_small (g : GoodRow (ones ++ (tens ++ hun :: scales))) {m : Int} (hm : m < 1) {B : Nat} (h : (B : Int) ≤ Bg.W (scales.length + 1)) : cntL ones tens hun scales m B = 0 := by
  refine sm_zero B fun v hv => if_neg fun e => ?_
  have := fL_pos g (n := v) (by omega)
  omega
theorem fz_K {n : Nat} {i : Nat} (hi : i ≤ scales.length + 1) (h0 : 0 < n) (h : n < 1000 ^ i) : fL ones tens hun scales n = fz (szL ones tens hun scales) i n := by
  obtain ⟨d, hd⟩ := Nat.exists_eq_add_of_le hi
  rw [fL_fz h0, hd, fz_more (fun j => szL_zero j) h]
theorem cntL_fz {m : Int} {N i : Nat} (hm : 1 ≤ m) (hi : i ≤ scales.length + 1) (lt : N < 1000 ^ i) : cntL ones tens hun scales m (N + 1) = (if (fL ones tens hun scales 0 : Int) = m then 1 else 0) + cnI (szL ones tens hun scales) i (N + 1) m := by
  unfold cntL cnI
  rw [sm_head, sm_head]
  have e : (if (fz (szL ones tens hun scales) i 0 : Int) = m then 1 else 0) = 0 := if_neg (by
    rw [fz_zero (fun j => szL_zero j)]
    omega)
  rw [e, Nat.zero_add]
  congr 1
  refine sm_congr N fun v hv => ?_
  rw [fz_K hi (Nat.succ_pos v) (by omega)]
theorem totL_fz {B : Nat} (h : 0 < B) : totL ones tens hun scales B = fL ones tens hun scales 0 + sm (fun j => sm (fun v => szL ones tens hun scales j (dg j v)) B) (scales.length + 1) := by
  obtain ⟨N, rfl⟩ : ∃ N, B = N + 1 := ⟨B - 1, by omega⟩
  unfold totL
  rw [← sm_swap, sm_head, sm_head (fun v => sm (fun j => szL ones tens hun scales j (dg j v)) (scales.length + 1))]
  have e : sm (fun j => szL ones tens hun scales j (dg j 0)) (scales.length + 1) = 0 := sm_zero _ fun j _ => by
    rw [dg_zero]
    rfl
  rw [e, Nat.zero_add]
  congr 1
  refine sm_congr N fun v _ => ?_
  rw [fL_fz (Nat.succ_pos v), fz_sum]
end
def spCountLE : Sp := fun vs H Q _ => ∃ (t o te sc : Addr) (ones tens : List Str) (hun : Str) (scales : List Str) (m : Int) (most : V), vs = [.ref t, .int m, most] ∧ Tab H t ones tens hun scales o te sc ∧ scales.length ≤ 20 ∧
  (most = .non ∨ ∃ b : Int, most = .int b ∧ 1 ≤ b ∧ b ≤ Bg.W (scales.length + 1)) ∧ m.natAbs < 2 ^ 190 ∧ ∀ H', Same H H' → Q (.int ((cntL ones tens hun scales m (bnd (Bg.W (scales.length + 1)) most).toNat : Nat) : Int)) H'
def spTotalLE : Sp := fun vs H Q _ => ∃ (t o te sc : Addr) (ones tens : List Str) (hun : Str) (scales : List Str) (most : V), vs = [.ref t, most] ∧ Tab H t ones tens hun scales o te sc ∧ scales.length ≤ 20 ∧
  (most = .non ∨ ∃ b : Int, most = .int b ∧ 1 ≤ b ∧ b ≤ Bg.W (scales.length + 1)) ∧ ∀ H', Same H H' → Q (.int ((totL ones tens hun scales (bnd (Bg.W (scales.length + 1)) most).toNat : Nat) : Int)) H'
section
variable {P : Program} {w : World} {K : PySem.W.Frag} {mg : Str → Option Value} {base : Heap}
theorem ok_countLE {f fB fL' fG fS fP fC fU : Addr} {fd dB dL dG dS dP dC dU : FuncData} (F : FunD K "count_with_letters" "count_with_letters" (defArgs sCountL) (defBody sCountL) (defScope sCountL) [.non] [] f fd) (BL : Def1 P w K mg base "checked_below" 4 fB dB ["table", "below"] spBelow0)
    (LO : Def1 P w K mg base "_letters_of" 3 fL' dL ["table", "number"] spLetters) (GR : Def1 P w K mg base "groups_of" 1 fG dG ["number"] spGroups) (SZ : Def1 P w K mg base "_sizes" 2 fS dS ["table"] spSizesE) (PK : Def1 P w K mg base "_packed_counts" 2 fP dP ["sizes", "width"] spPackedE)
    (CO : Def1 P w K mg base "_counts" 1 fC dC ["numbers"] spCountsE) (UN : Def1 P w K mg base "_unpacked" 1 fU dU ["packed", "width", "many"] spUnpackedE) (mL : mg "len" = none) (mRv : mg "reversed" = none) (mR : mg "range" = none) :
    FnOk P w K mg base CX0 5 f fd ["table", "many", "below"] spCountLE := by
  refine F.ok0 scCountL (fun vs H Q E h => ?_) (fun cdv A outer s H vs Q E hr h => ?_)
  · obtain ⟨t, o, te, sc, ones, tens, hun, scales, m, most, rfl, _⟩ := h
    rfl
  · obtain ⟨t, o, te, sc, ones, tens, hun, scales, m, most, rfl, TT, l20, hmost, mb, k⟩ := h
    have hr3 : Room 3 _ := hr.mono (by decide)
    have hr2 : Room 2 _ := hr.mono (by decide)
    have hr1 : Room 1 _ := hr.mono (by decide)
    refine ⟨_, pss_cons (ps_set (i := 3) scCountL.nd rfl (.inl rfl) (pe_call BL.ok hr (by rfl) BL.g BL.k BL.b .nil pass0 (pa_cons (pv 0) (pa_cons (pv 2) pa_nil)))) ((pss_cons (ps_if (pt_cmpR op_lt (pv 1) pe_int (nomark _)) (pss_one (ps_ret pe_int)) pss_nil)
        (pss_mid (ps_set (i := 4) scCountL.nd rfl (.inl rfl) (pe_ifExp (pt_cmpR op_eq (pv 1) (pe_call LO.ok hr3 (by rfl) LO.g LO.k LO.b .nil pass0 (pa_cons (pv 0) (pa_cons pe_int pa_nil))) (nomark _)) pe_int pe_int))
        (pss_cons (ps_set (i := 5) scCountL.nd rfl (.inl rfl) (pe_call GR.ok hr1 (by rfl) GR.g GR.k GR.b .nil pass0 (pa_cons (pe_op op_sub (pv 3) pe_int) pa_nil)))
        (pss_mid (ps_set (i := 6) scCountL.nd rfl (.inl rfl) (pe_slice sl_list (pe_call SZ.ok hr2 (by rfl) SZ.g SZ.k SZ.b .nil pass0 (pa_cons (pv 0) pa_nil)) po_none (po_some (pe_callB call_len_seq (by rfl) mL PySem.boot_len (pa_cons (pv 5) pa_nil)))))
        (pss_cons (ps_set (i := 7) scCountL.nd rfl (.inl rfl) (pe_bits (pv 3)))
        (pss_cons (ps_set (i := 8) scCountL.nd rfl (.inl rfl) (pe_call PK.ok hr2 (by rfl) PK.g PK.k PK.b .nil pass0 (pa_cons (pv 6) (pa_cons (pv 7) pa_nil))))
        (pss_cons (ps_set (i := 9) scCountL.nd rfl (.inl rfl) (pv 1))
        (pss_mid (ps_for PassesOwn.never rfl (pi_revR (by rfl) mRv (prg_1 (by rfl) mR (pe_callB call_len_seq (by rfl) mL PySem.boot_len (pa_cons (pv 5) pa_nil)))) (pg_name (i := 10) scCountL.nd rfl (.inl rfl))
          (pss_mid (ps_for PassesOwn.never rfl (pi_items (pe_still (pe_call CO.ok hr1 (by rfl) CO.g CO.k CO.b .nil pass0 (pa_cons (pe_slice sl_list (pe_ix ix_list (pv 6) (pv 10) (fun _ _ => rfl)) po_none (po_some (pe_ix ix_list (pv 5) (pv 10) (fun _ _ => rfl)))) pa_nil)))) (pg_tup (by rfl) (pgs_cons (pg_name (i := 11) scCountL.nd rfl (.inl rfl)) (pgs_cons (pg_name (i := 12) scCountL.nd rfl (.inl rfl)) pgs_nil)))
          (pss_one (ps_set (i := 4) scCountL.nd rfl (.inl rfl) (pe_op op_add (pv 4) (pe_op op_mul (pv 12) (pe_call UN.ok hr1 (by rfl) UN.g UN.k UN.b .nil pass0 (pa_cons (pe_ix ix_list (pv 8) (pv 10) (fun _ _ => rfl)) (pa_cons (pv 7) (pa_cons (pe_op op_sub (pv 9) (pv 11)) pa_nil)))))))))
        (pss_one (ps_set (i := 9) scCountL.nd rfl (.inl rfl) (pe_op op_sub (pv 9) (pe_ix ix_list (pe_ix ix_list (pv 6) (pv 10) (fun _ _ => rfl)) (pe_ix ix_list (pv 5) (pv 10) (fun _ _ => rfl)) (fun _ _ => rfl)))))))
        (pss_one (ps_ret (pe_ifExp (pt_cmpR op_eq (pv 9) pe_int (nomark _)) (pe_op op_add (pv 4) pe_int) (pv 4))))))))))))), ?_⟩
    have big : 200000 ≤ sizeLine := by decide
    refine ⟨_, rfl, _, rfl, t, o, te, sc, ones, tens, hun, scales, most, rfl, TT, hmost, fun H1 s1 => ?_⟩
    have bW := bnd_0 (W := Bg.W (scales.length + 1)) (by have := Bg.W_pos (scales.length + 1); omega) hmost
    generalize bnd (Bg.W (scales.length + 1)) most = n at bW k
    obtain ⟨g1, g2⟩ := bW
    have w10 := W_bits (scales.length + 1)
    have nb : n.natAbs < 2 ^ 210 := by
      have a : n.natAbs ≤ (Bg.W (scales.length + 1)).natAbs := by omega
      have b : Bg.W (scales.length + 1) ≤ Bg.W 21 := Bg.W_le (by omega)
      have c : (Bg.W 21).natAbs < 2 ^ 210 := by decide
      omega
    obtain ⟨N, hN⟩ : ∃ N : Nat, n = (N : Int) + 1 := ⟨(n - 1).toNat, by omega⟩
    have nN : n - 1 = (N : Int) := by omega
    have nT : n.toNat = N + 1 := by omega
    rw [nT] at k
    refine ⟨_, rfl, _, _, rfl, rfl, _, rfl, ite2 (fun c1 => ?_) (fun c1 => ?_)⟩
    · have c1 := of_decide_eq_true c1
      rw [cntL_small TT.good c1] at k
      · exact k _ s1
      · omega
    have m1 : 1 ≤ m := by
      have : ¬ m < 1 := fun z => c1 (decide_eq_true z)
      omega
    have W1 := Bg.W_pos (scales.length + 1)
    obtain ⟨z0, hz0⟩ : ∃ z0 : Nat, z0 = if (fL ones tens hun scales 0 : Int) = m then 1 else 0 := ⟨_, rfl⟩
    refine ⟨fun τ G => τ = [some (.ref t), some (.int m), some most, some (.int n), some (.int (z0 : Int)), none, none, none, none, none, none, none, none] ∧ Same H G, ?_, ?_⟩
    · refine ⟨_, rfl, _, rfl, t, o, te, sc, ones, tens, hun, scales, 0, rfl, TT.same s1, Int.le_refl _, by omega, fun H2 s2 => ?_⟩
      have e0 : lettersN ones tens hun scales 0 = (fL ones tens hun scales 0 : Int) := fL_eq ones tens hun scales 0
      rw [e0]
      refine ⟨rfl, _, rfl, ite2 (fun c => ?_) (fun c => ?_)⟩
      · have c : (fL ones tens hun scales 0 : Int) = m := by have := of_decide_eq_true c; exact (V.int.inj this).symm
        rw [if_pos c] at hz0
        exact ⟨by rw [hz0]; rfl, Same.trans s1 s2⟩
      · have c : ¬ (fL ones tens hun scales 0 : Int) = m := fun e => c (decide_eq_true (congrArg V.int e.symm))
        rw [if_neg c] at hz0
        exact ⟨by rw [hz0]; rfl, Same.trans s1 s2⟩
    rintro τ G ⟨rfl, s2⟩
    refine ⟨_, rfl, _, _, rfl, rfl, n - 1, scales.length + 1, rfl, by omega, by omega, by omega, fun p i G1 np s3 il iW iw hp => ?_⟩
    have s4 := Same.trans s2 s3
    obtain ⟨sz, hsz⟩ : ∃ sz, sz = szL ones tens hun scales := ⟨_, rfl⟩
    have szb : ∀ j g, sz j g ≤ 100 := fun j g => hsz ▸ szL_le TT.good j g
    have sz0 : ∀ j, sz j 0 = 0 := fun j => by rw [hsz]; rfl
    have NW : N < 1000 ^ i := by
      rw [nN, W_nat] at iW
      omega
    refine ⟨fun τ G => ∃ (u : Addr) (qs : List Addr), τ = [some (.ref t), some (.int m), some most, some (.int n), some (.int (z0 : Int)), some (.ref p), some (.ref u), none, none, none, none, none, none] ∧ LL G u ((List.range i).map fun j => (List.range 1000).map (sz j)) qs ∧ G p = some (.lst ((List.range i).map fun j => V.int (Bg.gr (n - 1) j))) ∧ Same H G, ?_, ?_⟩
    · refine ⟨_, rfl, t, o, te, sc, ones, tens, hun, scales, rfl, TT.same s4, fun q G2 ls qs nq s5 ll lo NL => ?_⟩
      refine ⟨_, rfl, p, _, rfl, .inl (SqL.of (s5 _ _ hp)), ?_⟩
      refine ⟨_, rfl, q, _, rfl, SqL.of NL.1, fun u nu => ?_⟩
      rw [List.length_map, List.length_range, cut_toF]
      have s6 := same_new (x := .lst ((qs.take i).map V.ref)) nu
      have lt : ls.take i = (List.range i).map fun j => (List.range 1000).map (sz j) := by
        rw [ll, hsz]
        unfold szLs
        exact take_rm _ il
      have L6 := NL.ll.take i s6 upd_same
      rw [lt] at L6
      exact ⟨u, qs.take i, rfl, L6, s6 _ _ (s5 _ _ hp), Same.trans (Same.trans s4 s5) s6⟩
    rintro τ G2 ⟨u, qs, rfl, LS, hp2, s5⟩
    have qsl : qs.length = i := by rw [LS.len, List.length_map, List.length_range]
    refine ⟨_, rfl, _, rfl, ?_⟩
    have wd := PyProof.Rows.intBits_le nb
    refine ⟨_, rfl, _, rfl, u, _, qs, Builtin.Int.intBits n, sz, i, rfl, LS, rfl, by omega, szb, wd, fun pkA G3 npk s6 hpk => ?_⟩
    have nlt : N + 1 < 2 ^ Builtin.Int.intBits n := by
      have := PyProof.Rows.natAbs_lt_pow_bits n
      omega
    generalize Builtin.Int.intBits n = wdt at wd nlt hpk
    refine ⟨_, rfl, ?_⟩
    have LS3 := LS.same s6
    have s7 := Same.trans s5 s6
    have hp3 := s6 _ _ hp2
    have few : ∀ a, a < i → 1000 ^ a < 2 ^ wdt := fun a ha => by
      have a1 : Bg.W a ≤ Bg.W (i - 1) := Bg.W_le (by omega)
      have a2 := iw (by omega)
      rw [nN] at a2
      rw [W_nat, W_nat] at a1
      rw [W_nat] at a2
      omega
    let hi : Nat → Nat := fun a => N / 1000 ^ a * 1000 ^ a
    have hi_i : hi i = 0 := by
      show N / 1000 ^ i * 1000 ^ i = 0
      rw [Nat.div_eq_of_lt NW, Nat.zero_mul]
    refine ⟨fun τ G => ∃ (x10 x11 x12 : Option V), τ = [some (.ref t), some (.int m), some most, some (.int n), some (.int ((z0 + cnI sz i (hi 0) m : Nat) : Int)), some (.ref p), some (.ref u), some (.int (wdt : Int)), some (.ref pkA), some (.int (m - (fz sz i (hi 0) : Int))), x10, x11, x12] ∧ Same H G, ?_, ?_⟩
    · refine ⟨_, rfl, p, _, rfl, .inl (SqL.of hp3), _, rfl, ?_⟩
      rw [List.length_map, List.length_range]
      have n_i : ((i : Int) - 0).toNat = i := by omega
      refine ⟨by omega, by omega, by omega, by omega, ?_⟩
      refine for_rangeC (lo := 0 + ((((i : Int) - 0).toNat : Nat) : Int) - 1) (c := -1) (n := ((i : Int) - 0).toNat) (fun j σ G => ∃ (x10 x11 x12 : Option V), σ = [some (.ref t), some (.int m), some most, some (.int n), some (.int ((z0 + cnI sz i (hi (i - j)) m : Nat) : Int)), some (.ref p), some (.ref u), some (.int (wdt : Int)), some (.ref pkA), some (.int (m - (fz sz i (hi (i - j)) : Int))), x10, x11, x12] ∧ Same G3 G) ⟨none, none, none, ?_, Same.refl _⟩ ?_ ?_
      · rw [Nat.sub_zero, hi_i, fz_zero sz0]
        show _ = [_, _, _, _, some (V.int ((z0 + 0 : Nat) : Int)), _, _, _, _, some (V.int (m - 0)), _, _, _]
        rw [Int.sub_zero, Nat.add_zero]
        rfl
      · rintro j σ G ji ⟨x10, x11, x12, rfl, sG⟩
        rw [n_i] at ji
        have ea : (0 + ((((i : Int) - 0).toNat : Nat) : Int) - 1 + (j : Nat) * (-1) : Int) = ((i - 1 - j : Nat) : Int) := by omega
        rw [ea]
        obtain ⟨a, hm⟩ : ∃ a, a = i - 1 - j := ⟨_, rfl⟩
        rw [← hm, show i - j = a + 1 by omega, show i - (j + 1) = a by omega]
        have ai : a < i := by omega
        have alq : a < qs.length := by omega
        obtain ⟨gn, hgn⟩ : ∃ gn, gn = dg a N := ⟨_, rfl⟩
        have hgr : Bg.gr (n - 1) a = (gn : Int) := by rw [nN, gr_dg, hgn]
        have gn1 : gn < 1000 := by rw [hgn]; exact Nat.mod_lt _ (by decide)
        have iu : atI (qs.map V.ref) ((a : Nat) : Int) = some (.ref qs[a]) := atI_nat (by rw [List.getElem?_map, List.getElem?_eq_getElem alq]; rfl)
        have ip : atI ((List.range i).map fun j => V.int (Bg.gr (n - 1) j)) ((a : Nat) : Int) = some (.int (gn : Int)) := atI_nat (by rw [List.getElem?_map, List.getElem?_range ai, ← hgr]; rfl)
        have lis : ((List.range i).map fun j => (List.range 1000).map (sz j))[a]? = some ((List.range 1000).map (sz a)) := by rw [List.getElem?_map, List.getElem?_range ai]; rfl
        have hl := LS3.each a ((List.range 1000).map (sz a)) qs[a] lis (List.getElem?_eq_getElem alq)
        have ipk : atI (pks sz wdt (i - 1 + 1)) ((a : Nat) : Int) = some (.int ((pk sz wdt a : Nat) : Int)) := atI_nat (by unfold pks; rw [List.getElem?_map, List.getElem?_range (by omega)]; rfl)
        obtain ⟨st1, st2⟩ := hi_step sz0 N ai m
        have st1 : cnI sz i (hi a) m = cnI sz i (hi (a + 1)) m + sm (fun g => cnI sz a (1000 ^ a) (m - (fz sz i (hi (a + 1)) : Int) - (sz a g : Int))) gn := by rw [hgn]; exact st1
        have st2 : fz sz i (hi a) = fz sz i (hi (a + 1)) + sz a gn := by rw [hgn]; exact st2
        have fzb := fz_le szb (hi (a + 1)) i
        obtain ⟨c0, hc0⟩ : ∃ c0, c0 = cnI sz i (hi (a + 1)) m := ⟨_, rfl⟩
        obtain ⟨le, hle⟩ : ∃ le, le = m - (fz sz i (hi (a + 1)) : Int) := ⟨_, rfl⟩
        have leb : le.natAbs < 2 ^ 190 + 2100 := by omega
        rw [← hc0, ← hle] at st1 ⊢
        have hle2 : m - (fz sz i (hi a) : Int) = le - (sz a gn : Int) := by rw [hle, st2]; omega
        rw [hle2]
        obtain ⟨l, hl0⟩ : ∃ l, l = (List.range 1000).map (sz a) := ⟨_, rfl⟩
        rw [← hl0] at hl
        have l1000 : l.length = 1000 := by rw [hl0, List.length_map, List.length_range]
        have l100 : ∀ x ∈ l, x ≤ 100 := by rw [hl0]; exact small_map fun x _ => szb a x
        have lgn : l[gn]? = some (sz a gn) := by rw [hl0, List.getElem?_map, List.getElem?_range gn1]; rfl
        let F : Nat → Nat := fun s => cnI sz a (1000 ^ a) (le - (s : Int))
        have fin : sumF (l.take gn) F = sm (fun g => cnI sz a (1000 ^ a) (le - (sz a g : Int))) gn := by
          unfold sumF
          rw [hl0, take_rm _ (by omega), List.map_map, map_sm]
          rfl
        generalize qs[a] = r at iu hl
        refine ⟨fun τ J => ∃ (x11 x12 : Option V), τ = [some (.ref t), some (.int m), some most, some (.int n), some (.int ((z0 + (c0 + sumF (l.take gn) F) : Nat) : Int)), some (.ref p), some (.ref u), some (.int (wdt : Int)), some (.ref pkA), some (.int le), some (.int (a : Int)), x11, x12] ∧ Same G3 J, ?_, ?_⟩
        · refine ⟨_, rfl, _, rfl, u, _, _, _, rfl, rfl, SqL.of (sG _ _ LS3.at_), iu, ?_⟩
          refine ⟨_, rfl, _, rfl, p, _, _, _, rfl, rfl, SqL.of (sG _ _ hp3), ip, _, rfl, r, _, rfl, SqL.of (sG _ _ hl), fun v nv => ?_⟩
          rw [cut_to]
          have s8 := same_more (x := .lst (intsN (l.take gn))) sG nv
          refine ⟨v, l.take gn, rfl, upd_same, by rw [List.length_take]; omega, fun d J es nd s9 el eo C hd => ?_⟩
          refine ⟨d, _, rfl, hd, trivial, fun od => ?_⟩
          have nd0 : G3 d = none := Same.free s8 nd
          have s10 : Same G3 (upd J d (.frz od (.dK (es.map ent)))) := fun b ob e => by
            rw [upd_ne (ne_of_none e nd0)]
            exact s9 _ _ (s8 _ _ e)
          refine ⟨d, od, _, rfl, upd_same, ?_⟩
          refine for_it walk_items (fun j σ J => ∃ (x11 x12 : Option V), σ = [some (.ref t), some (.int m), some most, some (.int n), some (.int ((z0 + (c0 + sumE F (es.take j)) : Nat) : Int)), some (.ref p), some (.ref u), some (.int (wdt : Int)), some (.ref pkA), some (.int le), some (.int (a : Int)), x11, x12] ∧ J d = some (.frz od (.dK (es.map ent))) ∧ Same G3 J) ⟨x11, x12, rfl, upd_same, s10⟩ (fun j σ J _ ⟨_, _, _, h, _⟩ => h) ?_ ?_
          · rintro j x σ J J' hj ⟨x11, x12, rfl, hdJ, sJ⟩ ⟨Tp, sx, tx, rfl, nT, rfl, hsx, htx⟩
            rw [List.length_map] at hj
            change Option.map (fun kv : Key × V => kV kv.1) (es.map ent)[j]? = some sx at hsx
            change Option.map Prod.snd (es.map ent)[j]? = some tx at htx
            rw [List.getElem?_map, List.getElem?_eq_getElem hj] at hsx htx
            obtain rfl : V.int (es[j].1 : Int) = sx := Option.some.inj hsx
            obtain rfl : V.int (es[j].2 : Int) = tx := Option.some.inj htx
            have e1 := eo es[j] (List.getElem_mem hj)
            have e3 := l100 _ (List.mem_of_mem_take e1)
            have e4 : es[j].2 ≤ 1000 := by have := C.le es[j] (List.getElem_mem hj); rw [List.length_take] at this; omega
            have sJ' := same_more (x := .tup [V.int (es[j].1 : Int), V.int (es[j].2 : Int)]) sJ nT
            have hd' := upd_keepR (x := .tup [V.int (es[j].1 : Int), V.int (es[j].2 : Int)]) hdJ nT
            refine ⟨Tp, _, rfl, SqT.of upd_same, rfl, _, _, rfl, _, _, rfl, rfl, ?_⟩
            refine ⟨_, rfl, _, rfl, _, rfl, _, rfl, pkA, _, _, _, rfl, rfl, SqL.of (sJ' _ _ hpk), ipk, _, rfl, _, rfl, _, rfl, _, _, rfl, rfl, sz, wdt, a, _, rfl, wd, by omega, few a ai, ?_⟩
            refine ⟨_, _, rfl, rfl, .inl ⟨by omega, by omega⟩, _, _, rfl, rfl, ?_⟩
            refine ⟨some (.int (es[j].1 : Int)), some (.int (es[j].2 : Int)), ?_, hd', sJ'⟩
            have se : sumE F (es.take (j + 1)) = sumE F (es.take j) + es[j].2 * F es[j].1 := by
              rw [List.take_add_one, List.getElem?_eq_getElem hj, sumE_app]
              show _ + sumE F [es[j]] = _
              rw [sumE_cons]
              rfl
            have ez : ((z0 + (c0 + sumE F (es.take j)) : Nat) : Int) + ((es[j].2 : Nat) : Int) * ((cnI sz a (1000 ^ a) (le - ((es[j].1 : Nat) : Int)) : Nat) : Int) = ((z0 + (c0 + sumE F (es.take (j + 1))) : Nat) : Int) := by
              rw [se, ← Int.natCast_mul]
              show _ + ((es[j].2 * F es[j].1 : Nat) : Int) = _
              omega
            rw [← ez]
            rfl
          · rintro σ J ⟨x11, x12, rfl, hdJ, sJ⟩
            rw [List.length_map, List.take_length, C.sum F]
            exact ⟨x11, x12, rfl, sJ⟩
        rintro τ J ⟨x11, x12, rfl, sJ⟩
        have il : atI (intsN l) (gn : Int) = some (.int ((sz a gn : Nat) : Int)) := atI_nat (intsN_at lgn)
        refine ⟨_, rfl, _, rfl, _, rfl, u, _, _, _, rfl, rfl, SqL.of (sJ _ _ LS3.at_), iu, _, rfl, _, rfl, p, _, _, _, rfl, rfl, SqL.of (sJ _ _ hp3), ip, r, _, _, _, rfl, rfl, SqL.of (sJ _ _ hl), il, _, _, rfl, rfl, ?_⟩
        rw [st1, ← fin]
        exact ⟨_, _, _, rfl, sJ⟩
      · rintro σ G ⟨x10, x11, x12, rfl, sG⟩
        rw [n_i, Nat.sub_self]
        exact ⟨x10, x11, x12, rfl, Same.trans s7 sG⟩
    rintro τ G4 ⟨x10, x11, x12, rfl, s8⟩
    have h0 : hi 0 = N := by
      show N / 1000 ^ 0 * 1000 ^ 0 = N
      rw [Nat.pow_zero, Nat.div_one, Nat.mul_one]
    rw [h0]
    have fin := cntL_fz (ones := ones) (tens := tens) (hun := hun) (scales := scales) m1 il NW
    rw [← hsz, ← hz0] at fin
    have more : cnI sz i (N + 1) m = cnI sz i N m + (if (fz sz i N : Int) = m then 1 else 0) := rfl
    refine ⟨_, rfl, rfl, _, rfl, ite2 (fun c => ?_) (fun c => ?_)⟩
    · have c : m - (fz sz i N : Int) = 0 := by have := of_decide_eq_true c; exact V.int.inj this
      rw [if_pos (by omega)] at more
      rw [fin, more] at k
      refine ⟨_, rfl, _, _, rfl, rfl, ?_⟩
      have k2 := k _ s8
      rw [show ((z0 + (cnI sz i N m + 1) : Nat) : Int) = ((z0 + cnI sz i N m : Nat) : Int) + 1 by omega] at k2
      exact k2
    · have c : ¬ m - (fz sz i N : Int) = 0 := fun e => c (decide_eq_true (congrArg V.int e))
      rw [if_neg (by omega), Nat.add_zero] at more
      rw [fin, more] at k
      exact ⟨_, rfl, k _ s8⟩
theorem ok_totalLE {f fB fL' fS : Addr} {fd dB dL dS : FuncData} (F : FunD K "total_letters" "total_letters" (defArgs sTotalL) (defBody sTotalL) (defScope sTotalL) [.non] [] f fd) (BL : Def1 P w K mg base "checked_below" 4 fB dB ["table", "below"] spBelow0)
    (LO : Def1 P w K mg base "_letters_of" 3 fL' dL ["table", "number"] spLetters) (SZ : Def1 P w K mg base "_sizes" 2 fS dS ["table"] spSizesE) (mD : mg "divmod" = none) (mU : mg "sum" = none) :
    FnOk P w K mg base CX0 5 f fd ["table", "below"] spTotalLE := by
  refine F.ok0 scTotalL (fun vs H Q E h => ?_) (fun cdv A outer s H vs Q E hr h => ?_)
  · obtain ⟨t, o, te, sc, ones, tens, hun, scales, most, rfl, _⟩ := h
    rfl
  · obtain ⟨t, o, te, sc, ones, tens, hun, scales, most, rfl, TT, l20, hmost, k⟩ := h
    have hr3 : Room 3 _ := hr.mono (by decide)
    have hr2 : Room 2 _ := hr.mono (by decide)
    refine ⟨_, pss_cons (ps_set (i := 2) scTotalL.nd rfl (.inl rfl) (pe_call BL.ok hr (by rfl) BL.g BL.k BL.b .nil pass0 (pa_cons (pv 0) (pa_cons (pv 1) pa_nil)))) ((pss_cons (ps_set (i := 3) scTotalL.nd rfl (.inl rfl) (pe_call LO.ok hr3 (by rfl) LO.g LO.k LO.b .nil pass0 (pa_cons (pv 0) (pa_cons pe_int pa_nil))))
        (pss_cons (ps_set (i := 4) scTotalL.nd rfl (.inl rfl) pe_int)
        (pss_mid (ps_for PassesOwn.never rfl (pi_list (pe_call SZ.ok hr2 (by rfl) SZ.g SZ.k SZ.b .nil pass0 (pa_cons (pv 0) pa_nil))) (pg_name (i := 5) scTotalL.nd rfl (.inl rfl))
          (pss_cons (ps_asg (pe_callB call_divmodW (by rfl) mD (by decide +kernel) (pa_cons (pv 2) (pa_cons (pe_op op_mulW (pv 4) pe_int) pa_nil))) (pg_tup (by rfl) (pgs_cons (pg_name (i := 6) scTotalL.nd rfl (.inl rfl)) (pgs_cons (pg_name (i := 7) scTotalL.nd rfl (.inl rfl)) pgs_nil))))
        (pss_cons (ps_asg (pe_callB call_divmodW (by rfl) mD (by decide +kernel) (pa_cons (pv 7) (pa_cons (pv 4) pa_nil))) (pg_tup (by rfl) (pgs_cons (pg_name (i := 8) scTotalL.nd rfl (.inl rfl)) (pgs_cons (pg_name (i := 9) scTotalL.nd rfl (.inl rfl)) pgs_nil))))
        (pss_cons (ps_set (i := 3) scTotalL.nd rfl (.inl rfl) (pe_op op_add (pe_op op_add (pv 3) (pe_op op_mulW (pe_op op_add (pe_op op_mulW (pv 6) (pe_callB (cr_sum rfl) (by rfl) mU (by decide +kernel) (pa_cons (pv 5) pa_nil))) (pe_callB (cr_sum rfl) (by rfl) mU (by decide +kernel) (pa_cons (pe_slice sl_list (pv 5) po_none (po_some (pv 8))) pa_nil))) (pv 4))) (pe_op op_mulW (pv 9) (pe_ix ix_list (pv 5) (pv 8) (fun _ _ => rfl)))))
        (pss_one (ps_set (i := 4) scTotalL.nd rfl (.inl rfl) (pe_op op_mulW (pv 4) pe_int)))))))
        (pss_one (ps_ret (pv 3))))))), ?_⟩
    have big : 200000 ≤ sizeLine := by decide
    refine ⟨_, rfl, _, rfl, t, o, te, sc, ones, tens, hun, scales, most, rfl, TT, hmost, fun H1 s1 => ?_⟩
    have bW := bnd_0 (W := Bg.W (scales.length + 1)) (by have := Bg.W_pos (scales.length + 1); omega) hmost
    generalize bnd (Bg.W (scales.length + 1)) most = n at bW k
    obtain ⟨g1, g2⟩ := bW
    have nb : n.natAbs < 2 ^ 210 := by
      have b : Bg.W (scales.length + 1) ≤ Bg.W 21 := Bg.W_le (by omega)
      have c : (Bg.W 21).natAbs < 2 ^ 210 := by decide
      omega
    obtain ⟨B, rfl⟩ : ∃ B : Nat, n = (B : Int) := ⟨n.toNat, by omega⟩
    rw [Int.toNat_natCast] at k
    have W1 := Bg.W_pos (scales.length + 1)
    obtain ⟨sz, hsz⟩ : ∃ sz, sz = szL ones tens hun scales := ⟨_, rfl⟩
    have szb : ∀ j g, sz j g ≤ 100 := fun j g => hsz ▸ szL_le TT.good j g
    obtain ⟨T, hT⟩ : ∃ T : Nat → Nat, T = fun j => fL ones tens hun scales 0 + sm (fun j => sm (fun v => sz j (dg j v)) B) j := ⟨_, rfl⟩
    refine ⟨_, rfl, t, o, te, sc, ones, tens, hun, scales, 0, rfl, TT.same s1, Int.le_refl _, by omega, fun H2 s2 => ?_⟩
    have s3 := Same.trans s1 s2
    have e0 : lettersN ones tens hun scales 0 = ((T 0 : Nat) : Int) := by
      rw [hT]
      exact fL_eq ones tens hun scales 0
    rw [e0]
    refine ⟨fun τ G => ∃ (x4 x5 x6 x7 x8 x9 : Option V), τ = [some (.ref t), some most, some (.int (B : Int)), some (.int ((T (scales.length + 1) : Nat) : Int)), x4, x5, x6, x7, x8, x9] ∧ Same H G, ?_, ?_⟩
    · refine ⟨_, rfl, t, o, te, sc, ones, tens, hun, scales, rfl, TT.same s3, fun q G2 ls qs nq s5 ll lo NL => ?_⟩
      have s6 := Same.trans s3 s5
      have LS := NL.ll
      have lsl : ls.length = scales.length + 1 := by rw [ll]; unfold szLs; rw [List.length_map, List.length_range]
      have qsl : qs.length = scales.length + 1 := by rw [LS.len, lsl]
      refine ⟨q, rfl, ⟨_, SqL.of NL.1⟩, for_list (K := K) (a := q) (xs := qs.map V.ref) (fun j σ G => ∃ (x5 x6 x7 x8 x9 : Option V), σ = [some (.ref t), some most, some (.int (B : Int)), some (.int ((T j : Nat) : Int)), some (.int (Bg.W j)), x5, x6, x7, x8, x9] ∧ Same G2 G) ⟨none, none, none, none, none, rfl, Same.refl _⟩ (fun j σ G _ ⟨_, _, _, _, _, _, s⟩ => SqL.of (s _ _ NL.1)) ?_ ?_⟩
      · rintro j y σ G hj ⟨x5, x6, x7, x8, x9, rfl, sG⟩
        have jq : j < qs.length := by
          have := (List.getElem?_eq_some_iff.mp hj).1
          rw [List.length_map] at this
          exact this
        rw [List.getElem?_map, List.getElem?_eq_getElem jq] at hj
        obtain rfl : V.ref qs[j] = y := Option.some.inj hj
        have lis : ls[j]? = some ((List.range 1000).map (sz j)) := by
          rw [ll, hsz]
          unfold szLs
          rw [List.getElem?_map, List.getElem?_range (by omega)]
          rfl
        have hl := LS.each j _ qs[j] lis (List.getElem?_eq_getElem jq)
        obtain ⟨l, hl0⟩ : ∃ l, l = (List.range 1000).map (sz j) := ⟨_, rfl⟩
        rw [← hl0] at hl
        generalize qs[j] = r at hl ⊢
        have Wb : (Bg.W j).natAbs < 2 ^ 211 := Nat.lt_of_lt_of_le (W_bits j) (Nat.pow_le_pow_right (by decide) (by omega))
        have Wj := Bg.W_pos j
        have Wb1 : (Bg.W (j + 1)).natAbs < 2 ^ 220 := Nat.lt_of_lt_of_le (W_bits (j + 1)) (Nat.pow_le_pow_right (by decide) (by omega))
        have Ws : Bg.W j * 1000 = Bg.W (j + 1) := by rw [Bg.W_succ, Int.mul_comm]
        have k1000 : (1000 : Int).natAbs < 2 ^ 10 := by decide
        have Wj1 := Bg.W_pos (j + 1)
        obtain ⟨Ab, hA⟩ : ∃ a : Nat, a = B / 1000 ^ j / 1000 := ⟨_, rfl⟩
        obtain ⟨Rb, hR⟩ : ∃ a : Nat, a = B % (1000 ^ j * 1000) := ⟨_, rfl⟩
        obtain ⟨gn, hgn⟩ : ∃ a : Nat, a = B / 1000 ^ j % 1000 := ⟨_, rfl⟩
        obtain ⟨lw, hlw⟩ : ∃ a : Nat, a = B % 1000 ^ j := ⟨_, rfl⟩
        have eA : ((B : Nat) : Int) / Bg.W (j + 1) = (Ab : Int) := by
          rw [W_nat, ← Int.natCast_ediv, pw_succ, ← Nat.div_div_eq_div_mul, hA]
        have eR : ((B : Nat) : Int) % Bg.W (j + 1) = (Rb : Int) := by
          rw [W_nat, ← Int.natCast_emod, pw_succ, hR]
        have eg : ((Rb : Nat) : Int) / Bg.W j = (gn : Int) := by
          rw [W_nat, ← Int.natCast_ediv, hR, Nat.mod_mul_right_div_self, hgn]
        have el : ((Rb : Nat) : Int) % Bg.W j = (lw : Int) := by
          rw [W_nat, ← Int.natCast_emod, hR, Nat.mod_mod_of_dvd _ (Nat.dvd_mul_right _ _), hlw]
        have A1 : Ab ≤ B := by rw [hA, Nat.div_div_eq_div_mul]; exact Nat.div_le_self _ _
        have R1 : Rb ≤ B := by rw [hR]; exact Nat.mod_le _ _
        have L1 : lw ≤ B := by rw [hlw]; exact Nat.mod_le _ _
        have q1 : gn < 1000 := by rw [hgn]; exact Nat.mod_lt _ (by decide)
        have Abb : ((Ab : Nat) : Int).natAbs < 2 ^ 210 := by omega
        have Rbb : ((Rb : Nat) : Int).natAbs < 2 ^ 210 := by omega
        have Lb : ((lw : Nat) : Int).natAbs < 2 ^ 210 := by omega
        have hnb : Builtin.Int.intBits ((B : Nat) : Int) ≤ 210 := PyProof.Rows.intBits_le nb
        obtain ⟨ns1, e1, z1⟩ := intsN_sum l
        obtain ⟨ns2, e2, z2⟩ := intsN_sum (l.take gn)
        have f1 : l.sum = sm (sz j) 1000 := by rw [hl0, map_sm]
        have f2 : (l.take gn).sum = sm (sz j) gn := by rw [hl0, take_rm _ (by omega), map_sm]
        have b1 := sm_le (f := sz j) (c := 100) 1000 fun x _ => szb j x
        have b2 := sm_le (f := sz j) (c := 100) gn fun x _ => szb j x
        rw [f1] at z1
        rw [f2] at z2
        have y1 : ns1.sum.natAbs < 2 ^ 20 := by rw [z1]; omega
        have y2 : ns2.sum.natAbs < 2 ^ 20 := by rw [z2]; omega
        have y3 := wide_lt Abb y1
        have y4 : (((Ab : Nat) : Int) * ns1.sum + ns2.sum).natAbs < 2 ^ 231 := by
          have a := Int.natAbs_add_le (((Ab : Nat) : Int) * ns1.sum) ns2.sum
          have b : (2 : Nat) ^ 20 ≤ 2 ^ 230 := Nat.pow_le_pow_right (by decide) (by decide)
          have c : (2 : Nat) ^ 231 = 2 * 2 ^ 230 := by rw [show 231 = 230 + 1 from rfl, Nat.pow_succ, Nat.mul_comm]
          rw [c]
          have d : (((Ab : Nat) : Int) * ns1.sum).natAbs < 2 ^ 230 := y3
          omega
        have iz : atI (intsN l) (gn : Int) = some (.int ((sz j gn : Nat) : Int)) := atI_nat (intsN_at (by rw [hl0, List.getElem?_map, List.getElem?_range q1]; rfl))
        have l100 := szb j gn
        have y5 : ((sz j gn : Nat) : Int).natAbs < 2 ^ 20 := by omega
        refine ⟨_, rfl, _, rfl, _, _, rfl, rfl, wide_mul Wb k1000 (by decide) (by decide) (by decide), ?_⟩
        refine ⟨_, _, rfl, divp_ok (by rw [Ws]; exact Wj1) (by omega), fun p np => ?_⟩
        rw [Ws, eA, eR]
        have sp := same_more (x := .tup [.int (Ab : Int), .int (Rb : Int)]) sG np
        refine ⟨p, _, rfl, SqT.of upd_same, rfl, _, _, rfl, _, _, rfl, rfl, ?_⟩
        revert sp
        generalize upd G p (.tup [.int (Ab : Int), .int (Rb : Int)]) = G3
        intro sp
        refine ⟨_, rfl, _, rfl, _, _, rfl, divp_ok Wj (by have := PyProof.Rows.intBits_le Rbb; omega), fun p2 np2 => ?_⟩
        rw [eg, el]
        have sp2 := same_more (x := .tup [.int (gn : Int), .int (lw : Int)]) sp np2
        refine ⟨p2, _, rfl, SqT.of upd_same, rfl, _, _, rfl, _, _, rfl, rfl, ?_⟩
        revert sp2
        generalize upd G3 p2 (.tup [.int (gn : Int), .int (lw : Int)]) = G4
        intro sp2
        have hl4 := sp2 _ _ hl
        refine ⟨_, rfl, _, rfl, _, rfl, r, ns1, rfl, SqL.of (hl4.trans (by rw [e1])), _, _, rfl, rfl, wide_mul Abb y1 (by decide) (by decide) (by decide), ?_⟩
        refine ⟨_, rfl, _, rfl, _, rfl, r, _, rfl, SqL.of hl4, fun v nv => ?_⟩
        rw [cut_to]
        have hl5 := upd_keepR (x := .lst (intsN (l.take gn))) hl4 nv
        have sp3 := same_more (x := .lst (intsN (l.take gn))) sp2 nv
        refine ⟨v, ns2, rfl, SqL.of (upd_same.trans (by rw [e2])), _, _, rfl, rfl, _, rfl, _, _, rfl, rfl, wide_mul y4 Wb (by decide) (by decide) (by decide), _, _, rfl, rfl, _, rfl, _, rfl, _, rfl, r, _, _, _, rfl, rfl, SqL.of hl5, iz, _, _, rfl, rfl, wide_mul Lb y5 (by decide) (by decide) (by decide), _, _, rfl, rfl, ?_⟩
        refine ⟨_, rfl, _, _, rfl, rfl, wide_mul Wb k1000 (by decide) (by decide) (by decide), ?_⟩
        have ez : ((T j : Nat) : Int) + (((Ab : Nat) : Int) * ns1.sum + ns2.sum) * Bg.W j + ((lw : Nat) : Int) * ((sz j gn : Nat) : Int) = ((T (j + 1) : Nat) : Int) := by
          have st : T (j + 1) = T j + sm (fun v => sz j (dg j v)) B := by
            rw [hT]
            show fL ones tens hun scales 0 + (sm (fun j => sm (fun v => sz j (dg j v)) B) j + sm (fun v => sz j (dg j v)) B) = (fL ones tens hun scales 0 + sm (fun j => sm (fun v => sz j (dg j v)) B) j) + _
            exact (Nat.add_assoc _ _ _).symm
          rw [st, sm_dg, ← hA, ← hgn, ← hlw, z1, z2, W_nat]
          generalize sm (sz j) 1000 = S1
          generalize sm (sz j) gn = S2
          generalize 1000 ^ j = W
          generalize sz j gn = S3
          rw [← Int.natCast_mul, ← Int.natCast_add, ← Int.natCast_mul, ← Int.natCast_mul]
          omega
        exact ⟨_, _, _, _, _, congr (congrArg (fun (x y : Int) => [some (V.ref t), some most, some (V.int (B : Int)), some (V.int x), some (V.int y), some (V.ref r), some (V.int (Ab : Int)), some (V.int (Rb : Int)), some (V.int (gn : Int)), some (V.int (lw : Int))]) ez) Ws, sp3⟩
      · rintro σ G ⟨x5, x6, x7, x8, x9, rfl, sG⟩
        rw [List.length_map, qsl]
        exact ⟨_, x5, x6, x7, x8, x9, rfl, Same.trans s6 sG⟩
    rintro τ G ⟨x4, x5, x6, x7, x8, x9, rfl, sG⟩
    have fin : T (scales.length + 1) = totL ones tens hun scales B := by
      rw [hT, hsz]
      exact (totL_fz (by omega)).symm
    rw [fin]
    exact ⟨_, rfl, k _ sG⟩

end
end LB
set_option Elab.async false
set_option linter.all false
set_option maxRecDepth 100000
set_option maxHeartbeats 4000000
/-! Numbers counted by letters, in a dict: mathematics. -/
namespace LC
theorem fz_sum_at {sz sz' : Nat → Nat → Nat} {n v : Nat} (h : ∀ j, j < n → sz j (dg j v) = sz' j (dg j v)) : fz sz n v = fz sz' n v := by
  rw [fz_sum, fz_sum]
  exact sm_congr n h
theorem dg_tail (j u : Nat) {g : Nat} (hg : g < 1000) : dg (j + 1) (u * 1000 + g) = dg j u := by
  have := dg_high (j := j + 1) (k := 1) (by omega) u (u := g) (by rw [Nat.pow_one]; exact hg)
  rw [Nat.pow_one] at this
  exact this
theorem dg_unit (u : Nat) {g : Nat} (hg : g < 1000) : dg 0 (u * 1000 + g) = g := by
  unfold dg
  rw [Nat.pow_zero, Nat.div_one]
  omega
/-- the lowest group, and those above -/
theorem fz_tail (sz : Nat → Nat → Nat) (n u : Nat) {g : Nat} (hg : g < 1000) : fz sz (n + 1) (u * 1000 + g) = sz 0 g + fz (fun j => sz (j + 1)) n u := by
  rw [fz_sum, fz_sum, sm_head, dg_unit u hg]
  congr 1
  exact sm_congr n fun j _ => by rw [dg_tail j u hg]
theorem fz_head (sz : Nat → Nat → Nat) (n v : Nat) : fz sz (n + 1) v = sz 0 (dg 0 v) + sm (fun j => sz (j + 1) (dg (j + 1) v)) n := by
  rw [fz_sum, sm_head]
end LC
namespace LB
open PySem L2 Wk LC
open Bg (Bg Wo)
/-- a dict that tells how many of the numbers below B go to each number -/
structure Spr (es : List (Nat × Nat)) (x : Nat → Nat) (B : Nat) : Prop where
  nd : (es.map (·.1)).Nodup
  sum : ∀ F : Nat → Nat, sumE F es = sm (fun v => F (x v)) B
theorem Spr.nil (x : Nat → Nat) : Spr [] x 0 := ⟨List.nodup_nil, fun _ => rfl⟩
def ind (z k : Nat) : Nat := if k = z then 1 else 0
theorem sumE_zero {es : List (Nat × Nat)} {z : Nat} (h : ∀ e ∈ es, e.1 ≠ z) : sumE (ind z) es = 0 := by
  induction es with
  | nil => rfl
  | cons e es ih =>
    rw [sumE_cons, ih fun x hx => h x (List.mem_cons_of_mem _ hx)]
    unfold ind
    rw [if_neg (h e List.mem_cons_self), Nat.mul_zero]
theorem split_atA {es : List (Nat × Nat)} (nd : (es.map (·.1)).Nodup) {z c : Nat} (h : (z, c) ∈ es) : ∃ a b, es = a ++ (z, c) :: b ∧ (∀ e ∈ a, e.1 ≠ z) ∧ ∀ e ∈ b, e.1 ≠ z := by
  obtain ⟨a, b, rfl⟩ := List.append_of_mem h
  rw [List.map_append, List.map_cons] at nd
  obtain ⟨_, nb, ab⟩ := List.nodup_append.mp nd
  exact ⟨a, b, rfl, fun e he q => ab e.1 (List.mem_map.mpr ⟨e, he, rfl⟩) z List.mem_cons_self q, fun e he q => (List.nodup_cons.mp nb).1 (List.mem_map.mpr ⟨e, he, q⟩)⟩
/-- what stands at a key is how often it is there -/
theorem val_at {es : List (Nat × Nat)} (nd : (es.map (·.1)).Nodup) {z c : Nat} (h : (z, c) ∈ es) : valV (es.map ent) (Sum.inl (z : Int) : Key) = some (.int (c : Int)) ∧ sumE (ind z) es = c := by
  obtain ⟨a, b, rfl, ha, hb⟩ := split_atA nd h
  refine ⟨val_splitA ha, ?_⟩
  rw [sumE_app, sumE_cons, sumE_zero ha, sumE_zero hb]
  unfold ind
  rw [if_pos rfl, Nat.mul_one]
  omega
theorem val_ind {es : List (Nat × Nat)} (nd : (es.map (·.1)).Nodup) (z : Nat) : (valV (es.map ent) (Sum.inl (z : Int) : Key)).getD (.int 0) = .int ((sumE (ind z) es : Nat) : Int) := by
  by_cases h : ∃ c, (z, c) ∈ es
  · obtain ⟨c, h⟩ := h
    obtain ⟨a, b⟩ := val_at nd h
    rw [a, b]
    rfl
  · have hn : ∀ e ∈ es, e.1 ≠ z := fun e he q => h ⟨e.2, by rw [← q]; exact he⟩
    rw [val_noneA hn, sumE_zero hn]
    rfl
/-- a key set to another value -/
theorem put_any {es : List (Nat × Nat)} (nd : (es.map (·.1)).Nodup) (z c' : Nat) : ∃ es' : List (Nat × Nat), putK (es.map ent) (Sum.inl (z : Int) : Key) (.int (c' : Int)) = es'.map ent ∧ (es'.map (·.1)).Nodup ∧ (∀ F, sumE F es' + sumE (ind z) es * F z = sumE F es + c' * F z) ∧ es'.length ≤ es.length + 1 ∧ ∀ e ∈ es', e.1 = z ∨ ∃ e0 ∈ es, e0.1 = e.1 := by
  by_cases h : ∃ c, (z, c) ∈ es
  · obtain ⟨c, h⟩ := h
    have e2 := (val_at nd h).2
    obtain ⟨a, b, rfl, ha, hb⟩ := split_atA nd h
    refine ⟨a ++ (z, c') :: b, put_splitA ha hb, ?_, fun F => ?_, ?_, fun e he => ?_⟩
    · rw [List.map_append, List.map_cons] at nd ⊢
      exact nd
    · rw [e2, sumE_app, sumE_cons, sumE_app, sumE_cons]
      dsimp only
      omega
    · rw [List.length_append, List.length_append, List.length_cons, List.length_cons]
      omega
    · rcases List.mem_append.mp he with h | h
      · exact .inr ⟨e, List.mem_append_left _ h, rfl⟩
      · rcases List.mem_cons.mp h with rfl | h
        · exact .inl rfl
        · exact .inr ⟨e, List.mem_append_right _ (List.mem_cons_of_mem _ h), rfl⟩
  · have hn : ∀ e ∈ es, e.1 ≠ z := fun e he q => h ⟨e.2, by rw [← q]; exact he⟩
    refine ⟨es ++ [(z, c')], put_newA hn, ?_, fun F => ?_, by rw [List.length_append]; exact Nat.le_refl _, fun e he => ?_⟩
    · rw [List.map_append]
      refine List.nodup_append.mpr ⟨nd, by simp, fun x hx y hy => ?_⟩
      obtain ⟨e, he, rfl⟩ := List.mem_map.mp hx
      rw [List.mem_singleton.mp hy]
      exact hn e he
    · rw [sumE_zero hn, sumE_app, Nat.zero_mul]
      show sumE F es + (c' * F z + 0) + 0 = _
      omega
    · rcases List.mem_append.mp he with h | h
      · exact .inr ⟨e, h, rfl⟩
      · rw [List.mem_singleton.mp h]
        exact .inl rfl
/-- a key raised by a -/
theorem put_up {es : List (Nat × Nat)} (nd : (es.map (·.1)).Nodup) (z a : Nat) : ∃ es' : List (Nat × Nat), putK (es.map ent) (Sum.inl (z : Int) : Key) (.int (((sumE (ind z) es : Nat) : Int) + (a : Int))) = es'.map ent ∧ (es'.map (·.1)).Nodup ∧ (∀ F, sumE F es' = sumE F es + a * F z) ∧ es'.length ≤ es.length + 1 ∧ ∀ e ∈ es', e.1 = z ∨ ∃ e0 ∈ es, e0.1 = e.1 := by
  obtain ⟨es', h1, h2, h3, h4, h5⟩ := put_any nd z (sumE (ind z) es + a)
  refine ⟨es', by rw [← h1, Int.natCast_add], h2, fun F => ?_, h4, h5⟩
  have := h3 F
  rw [Nat.add_mul] at this
  omega
/-- few keys, few entries -/
theorem keys_few {es : List (Nat × Nat)} (nd : (es.map (·.1)).Nodup) {M : Nat} (h : ∀ e ∈ es, e.1 ≤ M) : es.length ≤ M + 1 := by
  have := few_below nd (M := M + 1) fun x hx => by
    obtain ⟨e, he, rfl⟩ := List.mem_map.mp hx
    have := h e he
    omega
  rw [List.length_map] at this
  exact this
end LB
set_option Elab.async false
set_option linter.all false
set_option maxRecDepth 100000
set_option maxHeartbeats 4000000
/-! repr of data of many parts: one bound for all. -/
namespace Wk
open PySem L2
/-- data whose text is not too long: w its weight, n its depth -/
structure Sh (w n : Nat) (d : PyData) : Prop where
  sh : d.showable = true
  nd : d.hasDict = false
  dp : d.depth ≤ n
  ls : d.leavesShort 640 = true
  wt : d.weight ≤ w
structure ShA (w n : Nat) (ds : List PyData) : Prop where
  sh : PyData.showableAll ds = true
  nd : PyData.hasDictAll ds = false
  dp : PyData.depthAll ds ≤ n
  ls : PyData.leavesShortAll 640 ds = true
  wt : PyData.weightAll ds ≤ w
theorem Sh.mono {w w' n n' : Nat} {d : PyData} (h : Sh w n d) (a : w ≤ w') (b : n ≤ n') : Sh w' n' d := ⟨h.sh, h.nd, Nat.le_trans h.dp b, h.ls, Nat.le_trans h.wt a⟩
theorem ShA.mono {w w' n n' : Nat} {ds : List PyData} (h : ShA w n ds) (a : w ≤ w') (b : n ≤ n') : ShA w' n' ds := ⟨h.sh, h.nd, Nat.le_trans h.dp b, h.ls, Nat.le_trans h.wt a⟩
theorem ShA.nil : ShA 0 0 [] := ⟨rfl, rfl, Nat.le_refl _, rfl, Nat.le_refl _⟩
theorem ShA.cons {w1 w2 n : Nat} {d : PyData} {ds : List PyData} (h : Sh w1 n d) (r : ShA w2 n ds) : ShA (w1 + 1 + w2) n (d :: ds) where
  sh := by rw [PyData.showableAll, h.sh, r.sh]; rfl
  nd := by rw [PyData.hasDictAll, h.nd, r.nd]; rfl
  dp := by rw [PyData.depthAll]; exact Nat.max_le.mpr ⟨h.dp, r.dp⟩
  ls := by rw [PyData.leavesShortAll, h.ls, r.ls]; rfl
  wt := by
    rw [PyData.weightAll]
    have a := h.wt
    have b := r.wt
    omega
theorem Sh.list {w n : Nat} {ds : List PyData} (h : ShA w n ds) : Sh w (n + 1) (.list ds) where
  sh := by rw [PyData.showable]; exact h.sh
  nd := by rw [PyData.hasDict]; exact h.nd
  dp := by rw [PyData.depth]; have := h.dp; omega
  ls := by rw [PyData.leavesShort]; exact h.ls
  wt := by rw [PyData.weight]; exact h.wt
theorem Sh.tup {w n : Nat} {ds : List PyData} (h : ShA w n ds) : Sh w (n + 1) (.tuple ds) where
  sh := by rw [PyData.showable]; exact h.sh
  nd := by rw [PyData.hasDict]; exact h.nd
  dp := by rw [PyData.depth]; have := h.dp; omega
  ls := by rw [PyData.leavesShort]; exact h.ls
  wt := by rw [PyData.weight]; exact h.wt
theorem Sh.none : Sh 0 0 .none := ⟨rfl, rfl, by decide, rfl, by decide⟩
theorem Sh.str {x : Str} {n : Nat} (h : x.length ≤ n) (c : ∀ c ∈ x.cps.toList, c < 128) : Sh n 0 (.str x) where
  sh := rfl
  nd := rfl
  dp := by rw [PyData.depth]; exact Nat.le_refl _
  ls := by
    simp only [PyData.leavesShort, List.all_eq_true, decide_eq_true_eq]
    intro y hy
    have := c y hy
    have e : (16 : Nat) ^ 8 = 4294967296 := by decide
    omega
  wt := h
theorem big_ten : (2 : Nat) ^ 1000 ≤ 10 ^ 400 := by
  have a : (2 : Nat) ^ 1000 = (2 ^ 10) ^ 100 := by rw [← Nat.pow_mul]
  have b : (10 : Nat) ^ 400 = (10 ^ 4) ^ 100 := by rw [← Nat.pow_mul]
  rw [a, b]
  exact Nat.pow_le_pow_left (by decide) 100
theorem Sh.int {i : Int} (h : i.natAbs < 2 ^ 1000) : Sh 1001 0 (.int i) where
  sh := by
    rw [PyData.showable]
    refine decide_eq_true ?_
    by_cases z : i.natAbs = 0
    · rw [z]
      decide
    · have q := (Nat.log2_lt z).mpr h
      omega
  nd := rfl
  dp := by rw [PyData.depth]; exact Nat.le_refl _
  ls := by
    rw [PyData.leavesShort]
    refine decide_eq_true ?_
    have e := int_text_length_le10 (k := 400) (by decide) (Nat.lt_of_lt_of_le h big_ten)
    show (Str.ofString (toString i)).length ≤ 640
    rw [ofString_length]
    omega
  wt := by
    rw [PyData.weight]
    split
    · exact Nat.zero_le _
    · by_cases z : i.natAbs = 0
      · rw [z]
        decide
      · have q := (Nat.log2_lt z).mpr h
        omega
theorem ShA.strs {m : Nat} : ∀ {ws : List Str}, (∀ x ∈ ws, x.length ≤ m ∧ ∀ c ∈ x.cps.toList, c < 128) → ShA ((m + 1) * ws.length) 0 (ws.map PyData.str)
  | [], _ => .nil
  | x :: ws, h => by
    refine (ShA.cons (Sh.str (h x List.mem_cons_self).1 (h x List.mem_cons_self).2) (ShA.strs fun y hy => h y (List.mem_cons_of_mem _ hy))).mono ?_ (Nat.le_refl _)
    rw [List.length_cons, Nat.mul_succ]
    omega
/-- what call_repr asks -/
theorem Sh.repr {w n : Nat} {d : PyData} {K : PySem.W.Frag} {v : V} {H : Hp} {Q : VK} (h : Sh w n d) (hw : w ≤ 20000) (hn : n ≤ 60) (r : Dp K H v d) (q : Q (.str d.shown) H) : rRepr K [v] H Q := by
  refine ⟨v, d, rfl, r, h.sh, h.nd, Nat.le_trans h.dp hn, .inl ?_, q⟩
  have z := PyData.shown_le 640 (by decide) d h.ls
  have y : (640 + 2) * d.weight ≤ 642 * 20000 := Nat.mul_le_mul_left _ (Nat.le_trans h.wt hw)
  rw [sizeLine_eq]
  omega
end Wk
set_option Elab.async false
set_option linter.all false
set_option maxRecDepth 100000
set_option maxHeartbeats 4000000
/-! The law of the letters of names. -/
namespace LB
open PySem L2 Wk
open Bg (Bg Wo)
def chartD (ones tens : List Str) (hun : Str) (scales : List Str) : PyData := .tuple [.list (ones.map PyData.str), .list (tens.map PyData.str), .str hun, .list (scales.map PyData.str)]
theorem chart_dp {K : PySem.W.Frag} {H : Hp} {t o te sc : Addr} {ones tens : List Str} {hun : Str} {scales : List Str} (T : TabAt H t ones tens hun scales o te sc) : Dp K H (.ref t) (chartD ones tens hun scales) :=
  .tup (SqT.of T.tup) (.cons (.lst (SqL.of T.lo) (wds_dp _)) (.cons (.lst (SqL.of T.lt) (wds_dp _)) (.cons (.str _) (.cons (.lst (SqL.of T.ls) (wds_dp _)) .nil))))
theorem chart_sh {ones tens : List Str} {hun : Str} {scales : List Str} (l1 : ones.length = 20) (l2 : tens.length = 8) (l3 : scales.length ≤ 20) (g : GoodRow (ones ++ (tens ++ hun :: scales))) : Sh 2000 2 (chartD ones tens hun scales) := by
  have ok : ∀ x, GoodWord x → x.length ≤ 21 ∧ ∀ c ∈ x.cps.toList, c < 128 := fun x h => ⟨by have := h.2.1; omega, fun c hc => by have := h.2.2 c hc; omega⟩
  have a1 : ∀ x ∈ ones, x.length ≤ 21 ∧ ∀ c ∈ x.cps.toList, c < 128 := fun x hx => ok x (g.ok x (List.mem_append_left _ hx))
  have a2 : ∀ x ∈ tens, x.length ≤ 21 ∧ ∀ c ∈ x.cps.toList, c < 128 := fun x hx => ok x (g.ok x (List.mem_append_right _ (List.mem_append_left _ hx)))
  have a3 := ok hun (g.ok hun (List.mem_append_right _ (List.mem_append_right _ List.mem_cons_self)))
  have a4 : ∀ x ∈ scales, x.length ≤ 21 ∧ ∀ c ∈ x.cps.toList, c < 128 := fun x hx => ok x (g.ok x (List.mem_append_right _ (List.mem_append_right _ (List.mem_cons_of_mem _ hx))))
  refine Sh.mono (Sh.tup (ShA.cons (Sh.list (ShA.strs a1)) (ShA.cons (Sh.list (ShA.strs a2)) (ShA.cons ((Sh.str a3.1 a3.2).mono (Nat.le_refl _) (Nat.zero_le 1)) (ShA.cons (Sh.list (ShA.strs a4)) (ShA.nil.mono (Nat.le_refl _) (Nat.zero_le 1))))))) ?_ (Nat.le_refl _)
  omega
structure LawNo (mg : Str → Option Value) : Prop where
  range : mg "range" = none
  min : mg "min" = none
  len : mg "len" = none
  repr : mg "repr" = none
theorem letters_en : lettersN enOnes enTens enHun (enScales.take 1) 21 = 9 ∧ lettersN enOnes enTens enHun (enScales.take 0) 0 = 4 := by decide +kernel
section
variable {P : Program} {w : World} {K : PySem.W.Frag} {mg : Str → Option Value} {base : Heap}
end
end LB
set_option Elab.async false
set_option linter.all false
set_option maxRecDepth 100000
set_option maxHeartbeats 8000000
/-! The law's own: how many numbers have so many letters, from the lowest group upwards. -/
namespace LB
open PySem L2 Wk LC
open Bg (Bg Wo)
/-- a new dict of counts -/
def NewD (H H' : Hp) (d : Addr) (x : Nat → Nat) (B M : Nat) : Prop := H d = none ∧ Same H H' ∧ ∃ es : List (Nat × Nat), H' d = some (.dK (es.map ent)) ∧ Spr es x B ∧ ∀ e ∈ es, e.1 ≤ M
def spGroupsL : Sp := fun vs H Q _ => ∃ (t o te sc : Addr) (ones tens : List Str) (hun : Str) (scales : List Str) (spot most : Nat), vs = [.ref t, .int (spot : Int), .int (most : Int)] ∧ Tab H t ones tens hun scales o te sc ∧ scales.length ≤ 20 ∧ spot ≤ scales.length ∧ most ≤ 1000 ∧
  ∀ d H', NewD H H' d (szL ones tens hun scales spot) most 100 → Q (.ref d) H'
/-- the letters of a number whose lowest group stands at a place -/
def xsL (ones tens : List Str) (hun : Str) (scales : List Str) (spot d : Nat) : Nat → Nat := fz (fun j => szL ones tens hun scales (spot + j)) (d + 1)
def spSpreadL (d : Nat) : Sp := fun vs H Q _ => ∃ (t o te sc : Addr) (ones tens : List Str) (hun : Str) (scales : List Str) (spot bound : Nat), vs = [.ref t, .int (spot : Int), .int (bound : Int)] ∧ Tab H t ones tens hun scales o te sc ∧ scales.length ≤ 20 ∧ spot + d = scales.length ∧ 1 ≤ bound ∧ bound ≤ 1000 ^ (d + 1) ∧
  ∀ q H', NewD H H' q (xsL ones tens hun scales spot d) bound (100 * (d + 1)) → Q (.ref q) H'
def spDueLL : Sp := fun vs H Q _ => ∃ (t o te sc : Addr) (ones tens : List Str) (hun : Str) (scales : List Str) (bound : Nat), vs = [.ref t, .int (bound : Int)] ∧ Tab H t ones tens hun scales o te sc ∧ scales.length ≤ 20 ∧ 1 ≤ bound ∧ bound ≤ 1000 ^ (scales.length + 1) ∧
  ∀ q H', NewD H H' q (fL ones tens hun scales) bound 2100 → Q (.ref q) H'
theorem Spr.le {es : List (Nat × Nat)} {x : Nat → Nat} {B : Nat} (C : Spr es x B) : ∀ e ∈ es, e.2 ≤ B := by
  have key : ∀ es : List (Nat × Nat), ∀ e ∈ es, e.2 ≤ sumE (fun _ => 1) es := by
    intro es
    induction es with
    | nil => intro e h; cases h
    | cons x es ih =>
      intro e h
      rw [sumE_cons]
      rcases List.mem_cons.mp h with rfl | h
      · omega
      · have := ih e h
        omega
  intro e he
  have a := key es e he
  rw [C.sum, sm_const, Nat.mul_one] at a
  exact a
theorem good_drop {ones tens : List Str} {hun : Str} {scales : List Str} (g : GoodRow (ones ++ (tens ++ hun :: scales))) (k : Nat) : GoodRow (ones ++ (tens ++ hun :: scales.drop k)) := by
  have sub : List.Sublist (ones ++ (tens ++ hun :: scales.drop k)) (ones ++ (tens ++ hun :: scales)) := ((List.drop_sublist k scales).cons₂ hun |>.append_left tens).append_left ones
  exact ⟨sub.nodup g.nd, fun x hx => g.ok x (sub.subset hx)⟩
theorem xsL_lots {ones tens : List Str} {hun : Str} {scales : List Str} {spot d hi : Nat} (hd : spot + (d + 1) = scales.length) (h : 0 < hi) : fL ones tens hun (scales.drop (spot + 1)) hi + (if hi % 1000 = 0 then 0 else lenS hun scales spot) = xsL ones tens hun scales (spot + 1) d hi := by
  have dl : (scales.drop (spot + 1)).length = d := by rw [List.length_drop]; omega
  have d0 : dg 0 hi = hi % 1000 := by
    unfold dg
    rw [Nat.pow_zero, Nat.div_one]
  rw [fL_fz h, dl]
  unfold xsL
  rw [fz_head, fz_head, d0]
  have e : sm (fun j => szL ones tens hun (scales.drop (spot + 1)) (j + 1) (dg (j + 1) hi)) d = sm (fun j => szL ones tens hun scales (spot + 1 + (j + 1)) (dg (j + 1) hi)) d := sm_congr d fun j _ => by
    unfold szL
    rw [if_neg (show ¬ j + 1 = 0 by omega), if_neg (show ¬ spot + 1 + (j + 1) = 0 by omega)]
    unfold lenS
    rw [List.getElem?_drop, show spot + 1 + (j + 1 - 1) = spot + 1 + (j + 1) - 1 by omega]
  rw [e]
  have f : szL ones tens hun (scales.drop (spot + 1)) 0 (hi % 1000) + (if hi % 1000 = 0 then 0 else lenS hun scales spot) = szL ones tens hun scales (spot + 1 + 0) (hi % 1000) := by
    unfold szL
    by_cases c : hi % 1000 = 0
    · rw [if_pos c, if_pos c, if_pos c]
    · rw [if_neg c, if_neg c, if_neg c, if_pos rfl, if_neg (show ¬ spot + 1 + 0 = 0 by omega)]
      rfl
  omega
theorem xsL_small {ones tens : List Str} {hun : Str} {scales : List Str} {spot d v : Nat} (h : v < 1000) : xsL ones tens hun scales spot d v = szL ones tens hun scales spot v := by
  unfold xsL
  have e := fz_more (sz := fun j => szL ones tens hun scales (spot + j)) (fun j => szL_zero _) (k := 1) (v := v) (by rw [Nat.pow_one]; exact h) d
  rw [Nat.add_comm 1 d] at e
  rw [e]
  show 0 + szL ones tens hun scales (spot + 0) (dg 0 v) = _
  unfold dg
  rw [Nat.pow_zero, Nat.div_one, Nat.mod_eq_of_lt h, Nat.zero_add, Nat.add_zero]
theorem xsL_tail {ones tens : List Str} {hun : Str} {scales : List Str} {spot d : Nat} (u : Nat) {g : Nat} (hg : g < 1000) : xsL ones tens hun scales spot (d + 1) (u * 1000 + g) = szL ones tens hun scales spot g + xsL ones tens hun scales (spot + 1) d u := by
  unfold xsL
  rw [fz_tail _ _ u hg]
  refine congrArg (fun z => szL ones tens hun scales spot g + fz z (d + 1) u) (funext fun j => ?_)
  rw [show spot + (j + 1) = spot + 1 + j by omega]
section
variable {P : Program} {w : World} {K : PySem.W.Frag} {mg : Str → Option Value} {base : Heap}
theorem scGroupsL : FnScope ["chart", "spot", "most", "found", "more", "group", "lots"] ["chart", "spot", "most"] (defScope sGroups) := ⟨rfl, rfl, rfl, by decide +kernel, rfl, by decide +kernel, by decide +kernel⟩
theorem scSpreadL : FnScope ["chart", "spot", "bound", "high", "low", "every", "found", "above", "one", "other", "lots", "last", "word"] ["chart", "spot", "bound"] (defScope sSpread) := ⟨rfl, rfl, rfl, by decide +kernel, rfl, by decide +kernel, by decide +kernel⟩
theorem scDueL : FnScope ["chart", "bound", "found", "zero"] ["chart", "bound"] (defScope sDue) := ⟨rfl, rfl, rfl, by decide +kernel, rfl, by decide +kernel, by decide +kernel⟩
theorem ok_groupsL {f fLL : Addr} {fd dLL : FuncData} (F : Fun K "_law_groups" "_law_groups" sGroups f fd) (LL : Def1 P w K mg base "_law_letters" 2 fLL dLL ["chart", "value"] spLetters) (mL : mg "len" = none) (mR : mg "range" = none) : FnOk P w K mg base CX0 3 f fd ["chart", "spot", "most"] spGroupsL := by
  refine F.ok scGroupsL (fun vs H Q E h => ?_) (fun cdv A outer s H vs Q E hr h => ?_)
  · obtain ⟨t, o, te, sc, ones, tens, hun, scales, spot, most, rfl, _⟩ := h
    rfl
  · obtain ⟨t, o, te, sc, ones, tens, hun, scales, spot, most, rfl, T, l20, sp20, m1000, k⟩ := h
    have hu := hu_of hr
    refine ⟨_, pss_mid (ps_par (i := 3) (j := 4) (by rfl) scGroupsL.nd rfl rfl (by decide) rfl rfl (pa_cons pe_dnewK (pa_cons pe_int pa_nil)) (by rfl))
        (pss_mid (ps_if (pt_cmpR op_gt (pv 1) pe_int (nomark _)) (pss_one (ps_set (i := 4) scGroupsL.nd rfl (.inl rfl) (pe_callB call_len_str (by rfl) mL PySem.boot_len (pa_cons (pe_ix ix_list (pe_ix ix_tup (pv 0) pe_int (fun _ _ => rfl)) (pe_op op_sub (pv 1) pe_int) (fun _ _ => rfl)) pa_nil)))) pss_nil)
        (pss_mid (ps_for PassesOwn.never rfl (pi_range1 rfl mR (pa_cons (pv 2) pa_nil)) (pg_name (i := 5) scGroupsL.nd rfl (.inl rfl))
          (pss_mid (ps_set (i := 6) scGroupsL.nd rfl (.inl rfl) (pe_ifExp (pt_cmpR op_eq (pv 5) pe_int (nomark _)) pe_int (pe_op op_add (pe_call LL.ok hr (by rfl) LL.g LL.k LL.b .nil pass0 (pa_cons (pv 0) (pa_cons (pv 5) pa_nil))) (pv 4))))
          (pss_one (ps_dput hu (pv 3) (pv 6) (pe_op op_add (pe_dget2 hu (pv 3) (pv 6) pe_int ⟨rfl, rfl, rfl, rfl⟩) pe_int) rfl))))
        (pss_one (ps_ret (pv 3))))), ?_⟩
    have big : 200000 ≤ sizeLine := by decide
    have l90 := T.tb.l3
    refine ⟨fun τ G => ∃ q : Addr, τ = [some (.ref t), some (.int (spot : Int)), some (.int (most : Int)), some (.ref q), some (.int 0), none, none] ∧ H q = none ∧ G q = some (.dK []) ∧ Same H G, ?_, ?_⟩
    · exact fun q nq => ⟨_, _, rfl, q, rfl, nq, upd_same, same_new nq⟩
    rintro τ G1 ⟨q, rfl, nq, hq, s1⟩
    obtain ⟨mo, hmo⟩ : ∃ mo : Nat, mo = if spot = 0 then 0 else lenS hun scales (spot - 1) := ⟨_, rfl⟩
    have mo20 : mo ≤ 20 := by
      rw [hmo]
      split
      · omega
      · exact (len20 T.good).2.2.2 _
    refine ⟨fun τ G => τ = [some (.ref t), some (.int (spot : Int)), some (.int (most : Int)), some (.ref q), some (.int (mo : Int)), none, none] ∧ G = G1, ?_, ?_⟩
    · refine ⟨_, rfl, _, _, rfl, rfl, _, rfl, ite2 (fun c => ?_) (fun c => ?_)⟩
      · have c : (spot : Int) > 0 := of_decide_eq_true c
        have sl : spot - 1 < scales.length := by omega
        have zat : scales[spot - 1]? = some scales[spot - 1] := List.getElem?_eq_getElem sl
        have mz : mo = scales[spot - 1].length := by
          rw [hmo, if_neg (by omega)]
          unfold lenS
          rw [zat]
          rfl
        have z20 : scales[spot - 1].length ≤ 20 := by omega
        have az : atI (scales.map V.str) ((spot : Int) - 1) = some (.str scales[spot - 1]) := by
          rw [show (spot : Int) - 1 = ((spot - 1 : Nat) : Int) by omega]
          exact atI_nat (by rw [List.getElem?_map, zat]; rfl)
        refine ⟨_, rfl, t, _, _, _, rfl, rfl, SqT.of (s1 _ _ T.tb.at_.tup), (rfl : atI [V.ref o, V.ref te, V.str hun, V.ref sc] 3 = some (.ref sc)), _, rfl, _, _, rfl, rfl, sc, _, _, _, rfl, rfl, SqL.of (s1 _ _ T.tb.at_.ls), az, _, rfl, by omega, ?_⟩
        rw [← mz]
        exact ⟨rfl, rfl⟩
      · have c : ¬ (spot : Int) > 0 := fun z => c (decide_eq_true z)
        rw [if_pos (by omega)] at hmo
        rw [hmo]
        exact ⟨rfl, rfl⟩
    rintro τ G ⟨rfl, rfl⟩
    refine ⟨fun τ J => ∃ (x5 x6 : Option V) (es : List (Nat × Nat)), τ = [some (.ref t), some (.int (spot : Int)), some (.int (most : Int)), some (.ref q), some (.int (mo : Int)), x5, x6] ∧ J q = some (.dK (es.map ent)) ∧ Spr es (szL ones tens hun scales spot) most ∧ (∀ e ∈ es, e.1 ≤ 100) ∧ Same H J, ?_, ?_⟩
    · refine ⟨_, rfl, (most : Int), rfl, by omega, by omega, ?_⟩
      refine for_range (lo := 0) (n := ((most : Int)).toNat) (fun i σ J => ∃ (x5 x6 : Option V) (es : List (Nat × Nat)), σ = [some (.ref t), some (.int (spot : Int)), some (.int (most : Int)), some (.ref q), some (.int (mo : Int)), x5, x6] ∧ J q = some (.dK (es.map ent)) ∧ Spr es (szL ones tens hun scales spot) i ∧ (∀ e ∈ es, e.1 ≤ 100) ∧ Same H J) ⟨none, none, [], rfl, hq, Spr.nil _, fun e h => (nomatch h), s1⟩ ?_ ?_
      · rintro i σ J hi ⟨x5, x6, es, rfl, hqJ, C, eb, sJ⟩
        have hi : i < most := hi
        rw [Int.zero_add]
        obtain ⟨z, hz⟩ : ∃ z, z = szL ones tens hun scales spot i := ⟨_, rfl⟩
        have zb : z ≤ 100 := hz ▸ szL_le T.good spot i
        refine ⟨fun τ J2 => τ = [some (.ref t), some (.int (spot : Int)), some (.int (most : Int)), some (.ref q), some (.int (mo : Int)), some (.int (i : Int)), some (.int (z : Int))] ∧ Same J J2, ?_, ?_⟩
        · refine ⟨_, rfl, rfl, _, rfl, ite2 (fun c => ?_) (fun c => ?_)⟩
          · have c := V.int.inj (of_decide_eq_true c)
            obtain rfl : i = 0 := by omega
            rw [szL_zero] at hz
            rw [hz]
            exact ⟨rfl, Same.refl _⟩
          · have c : i ≠ 0 := fun e => c (decide_eq_true (by rw [e]; rfl))
            have Wk1 : (i : Int) < Bg.W (scales.length + 1) := by
              have : Bg.W 1 ≤ Bg.W (scales.length + 1) := Bg.W_le (by omega)
              have e : Bg.W 1 = 1000 := by decide
              omega
            refine ⟨_, rfl, _, rfl, t, o, te, sc, ones, tens, hun, scales, (i : Int), rfl, T.same sJ, by omega, Wk1, fun J2 s2 => ?_⟩
            have eL : lettersN ones tens hun scales (i : Int) = (gl ones tens hun i : Int) := by
              have e1 := fL_eq ones tens hun scales i
              rw [e1, fz_K (i := 1) (by omega) (by omega) (by rw [Nat.pow_one]; omega)]
              show ((0 + szL ones tens hun scales 0 (dg 0 i) : Nat) : Int) = _
              unfold dg szL
              rw [Nat.pow_zero, Nat.div_one, Nat.mod_eq_of_lt (by omega), if_neg c, if_pos rfl, Nat.zero_add, Nat.add_zero]
            rw [eL]
            refine ⟨_, rfl, _, _, rfl, rfl, ?_, s2⟩
            have ez : ((gl ones tens hun i : Nat) : Int) + (mo : Int) = (z : Int) := by
              rw [hz, hmo]
              unfold szL
              rw [if_neg c]
              omega
            exact congrArg (fun y => [some (V.ref t), some (V.int (spot : Int)), some (V.int (most : Int)), some (V.ref q), some (V.int (mo : Int)), some (V.int (i : Int)), some (V.int y)]) ez
        rintro τ J2 ⟨rfl, s2⟩
        have sJ2 := Same.trans sJ s2
        have hq2 := s2 _ _ hqJ
        have few := keys_few C.nd eb
        refine ⟨_, rfl, q, rfl, .inl ⟨_, .inl hq2⟩, _, rfl, _, DGet.k (k := Sum.inl (z : Int)) hq2, ?_⟩
        rw [val_ind C.nd z]
        obtain ⟨es', h1, h2, h3, h4, h5⟩ := put_up C.nd z 1
        refine ⟨_, _, rfl, rfl, _, rfl, _, rfl, q, _, rfl, DPut.k (k := Sum.inl (z : Int)) hq2 (by rw [List.length_map]; omega), ?_⟩
        refine ⟨_, _, es', rfl, by rw [upd_same, ← h1]; rfl, ⟨h2, fun Fn => ?_⟩, fun e he => ?_, fun r ob e => ?_⟩
        · rw [h3, C.sum, Nat.one_mul, hz]
          rfl
        · rcases h5 e he with h | ⟨e0, he0, h⟩
          · rw [h]; exact zb
          · rw [← h]; exact eb e0 he0
        · rw [upd_ne (ne_of_none e nq)]
          exact sJ2 _ _ e
      · rintro σ J ⟨x5, x6, es, rfl, hqJ, C, eb, sJ⟩
        exact ⟨x5, x6, es, rfl, hqJ, C, eb, sJ⟩
    rintro τ J ⟨x5, x6, es, rfl, hqJ, C, eb, sJ⟩
    exact ⟨_, rfl, k q J ⟨nq, sJ, es, hqJ, C, eb⟩⟩
theorem ok_spreadL {f fGp fWo : Addr} {fd dGp dWo : FuncData} (F : Fun K "_law_spread" "_law_spread" sSpread f fd) (gS : mg "_law_spread" = some (.ref f)) (kS : PySem.W.keepIn K (.ref f) = true) (bS : Binds K fd ["chart", "spot", "bound"] []) (Gp : Def1 P w K mg base "_law_groups" 3 fGp dGp ["chart", "spot", "most"] spGroupsL) (Wo : Def1 P w K mg base "_law_words" 1 fWo dWo ["chart", "value"] spWords)
    (mL : mg "len" = none) (mU : mg "sum" = none) (mI : mg "int" = none) : ∀ d, FnOk P w K mg base CX0 (d + 4) f fd ["chart", "spot", "bound"] (spSpreadL d)
  | 0 => by
    refine F.ok scSpreadL (fun vs H Q E h => ?_) (fun cdv A outer s H vs Q E hr h => ?_)
    · obtain ⟨t, o, te, sc, ones, tens, hun, scales, spot, bound, rfl, _⟩ := h
      rfl
    obtain ⟨t, o, te, sc, ones, tens, hun, scales, spot, bound, rfl, T, l20, sd, b0, b1, k⟩ := h
    have hu := hu_of hr
    have hrG : Room 3 _ := hr.mono (by decide)
    have hrW : Room 1 _ := hr.mono (by decide)
    refine ⟨_, pss_cons (ps_if (pt_cmpR op_lt (pv 2) pe_int (nomark _)) (pss_one (ps_ret (pe_call Gp.ok hrG (by rfl) Gp.g Gp.k Gp.b .nil pass0 (pa_cons (pv 0) (pa_cons (pv 1) (pa_cons (pv 2) pa_nil)))))) pss_nil)
        pss_never, ?_⟩
    have lt : bound ≤ 1000 := b1
    refine ⟨_, rfl, _, _, rfl, rfl, _, rfl, ite2 (fun c => ?_) (fun c => absurd (decide_eq_true (show (bound : Int) < 1001 by omega)) c)⟩
    refine ⟨_, rfl, _, rfl, _, rfl, t, o, te, sc, ones, tens, hun, scales, spot, bound, rfl, T, l20, by omega, lt, fun q H' N => k q H' ?_⟩
    obtain ⟨n1, n2, es, n3, n4, n5⟩ := N
    refine ⟨n1, n2, es, n3, ⟨n4.nd, fun Fn => ?_⟩, n5⟩
    rw [n4.sum]
    exact sm_congr bound fun v hv => by
      show Fn (szL ones tens hun scales spot v) = Fn (0 + szL ones tens hun scales (spot + 0) (dg 0 v))
      unfold dg
      rw [Nat.pow_zero, Nat.div_one, Nat.mod_eq_of_lt (by omega), Nat.zero_add, Nat.add_zero]
  | d + 1 => by
    have Sp : Def1 P w K mg base "_law_spread" (d + 4) f fd ["chart", "spot", "bound"] (spSpreadL d) := ⟨ok_spreadL F gS kS bS Gp Wo mL mU mI d, gS, kS, bS⟩
    refine F.ok scSpreadL (fun vs H Q E h => ?_) (fun cdv A outer s H vs Q E hr h => ?_)
    · obtain ⟨t, o, te, sc, ones, tens, hun, scales, spot, bound, rfl, _⟩ := h
      rfl
    obtain ⟨t, o, te, sc, ones, tens, hun, scales, spot, bound, rfl, T, l20, sd, b0, b1, k⟩ := h
    have hu := hu_of hr
    have hrG : Room 3 _ := hr.mono (by omega)
    have hrW : Room 1 _ := hr.mono (by omega)
    refine ⟨_, pss_cons (ps_if (pt_cmpR op_lt (pv 2) pe_int (nomark _)) (pss_one (ps_ret (pe_call Gp.ok hrG (by rfl) Gp.g Gp.k Gp.b .nil pass0 (pa_cons (pv 0) (pa_cons (pv 1) (pa_cons (pv 2) pa_nil)))))) pss_nil)
        (pss_mid (ps_par (i := 3) (j := 4) (by rfl) scSpreadL.nd rfl rfl (by decide) rfl rfl (pa_cons (pe_op op_fdiv (pv 2) pe_int) (pa_cons (pe_op op_mod (pv 2) pe_int) pa_nil)) (by rfl))
        (pss_mid (ps_par (i := 5) (j := 6) (by rfl) scSpreadL.nd rfl rfl (by decide) rfl rfl (pa_cons (pe_call Gp.ok hrG (by rfl) Gp.g Gp.k Gp.b .nil pass0 (pa_cons (pv 0) (pa_cons (pv 1) (pa_cons pe_int pa_nil)))) (pa_cons pe_dnewK pa_nil)) (by rfl))
        (pss_mid (ps_set (i := 7) scSpreadL.nd rfl (.inl rfl) (pe_call Sp.ok hr (by rfl) Sp.g Sp.k Sp.b .nil pass0 (pa_cons (pv 0) (pa_cons (pe_op op_add (pv 1) pe_int) (pa_cons (pv 3) pa_nil)))))
        (pss_mid (ps_lock (ps_for PassesOwn.never rfl (pi_keys (pv 7)) (pg_name (i := 8) scSpreadL.nd rfl (.inl rfl)) (pss_one (ps_lock (ps_for PassesOwn.never rfl (pi_keys (pv 5)) (pg_name (i := 9) scSpreadL.nd rfl (.inl rfl)) (pss_one (ps_dput hu (pv 6) (pe_op op_add (pv 8) (pv 9)) (pe_op op_add (pe_dget2 hu (pv 6) (pe_op op_add (pv 8) (pv 9)) pe_int ⟨rfl, rfl, rfl, rfl⟩) (pe_op op_mulW (pe_dget hu (pv 7) (pv 8) (fun _ _ => rfl)) (pe_dget hu (pv 5) (pv 9) (fun _ _ => rfl)))) rfl)))))))
        (pss_cons (ps_if (pt_cmpR op_eq (pv 4) pe_int (nomark _)) (pss_one (ps_ret (pv 6))) pss_nil)
        (pss_mid (ps_set (i := 10) scSpreadL.nd rfl (.inl rfl) (pe_callB (cr_sum rfl) (by rfl) mU (by decide +kernel) (pa_cons (pe_lc (own := [("word", 12)]) (g := gName 12) (tt := tYes) rfl scSpreadL.nd (pi_list (pe_call Wo.ok hrW (by rfl) Wo.g Wo.k Wo.b .nil pass0 (pa_cons (pe_tup (pa_cons (pe_ix ix_tup (pv 0) pe_int (fun _ _ => rfl)) (pa_cons (pe_ix ix_tup (pv 0) pe_int (fun _ _ => rfl)) (pa_cons (pe_ix ix_tup (pv 0) pe_int (fun _ _ => rfl)) (pa_cons (pe_slice sl_list (pe_ix ix_tup (pv 0) pe_int (fun _ _ => rfl)) (po_some (pe_op op_add (pv 1) pe_int)) po_none) pa_nil))))) (pa_cons (pv 3) pa_nil)))) (blkOk_by (own := [("word", 12)]) (N := ["chart", "spot", "bound", "high", "low", "every", "found", "above", "one", "other", "lots", "last", "word"]) (sc := defScope sSpread) (by decide +kernel)) (fun _ _ _ _ _ => pg_name (i := 12) scSpreadL.nd rfl (Or.inl rfl)) (fun _ _ _ _ _ => pts_nil) (fun _ _ _ _ _ => (pe_callB call_len_str (by rfl) mL PySem.boot_len (pa_cons (pv 12) pa_nil)))) pa_nil)))
        (pss_mid (ps_set (i := 10) scSpreadL.nd rfl (.inl rfl) (pe_op op_add (pv 10) (pe_op op_mul (pe_callB call_len_str (by rfl) mL PySem.boot_len (pa_cons (pe_ix ix_list (pe_ix ix_tup (pv 0) pe_int (fun _ _ => rfl)) (pv 1) (fun _ _ => rfl)) pa_nil)) (pe_callTy call_int1 (by rfl) mI (by decide +kernel) (pa_cons (pe_cmpR op_gt (pe_op op_mod (pv 3) pe_int) pe_int (nomark _)) pa_nil)))))
        (pss_mid (ps_set (i := 11) scSpreadL.nd rfl (.inl rfl) (pe_call Gp.ok hrG (by rfl) Gp.g Gp.k Gp.b .nil pass0 (pa_cons (pv 0) (pa_cons (pv 1) (pa_cons (pv 4) pa_nil)))))
        (pss_mid (ps_lock (ps_for PassesOwn.never rfl (pi_keys (pv 11)) (pg_name (i := 9) scSpreadL.nd rfl (.inl rfl)) (pss_one (ps_dput hu (pv 6) (pe_op op_add (pv 10) (pv 9)) (pe_op op_add (pe_dget2 hu (pv 6) (pe_op op_add (pv 10) (pv 9)) pe_int ⟨rfl, rfl, rfl, rfl⟩) (pe_dget hu (pv 11) (pv 9) (fun _ _ => rfl))) rfl))))
        (pss_one (ps_ret (pv 6)))))))))))), ?_⟩
    have big : 200000 ≤ sizeLine := by decide
    have l90 := T.tb.l3
    have hp1 : spot < scales.length := by omega
    refine ⟨_, rfl, _, _, rfl, rfl, _, rfl, ite2 (fun c => ?_) (fun c => ?_)⟩
    · have c : (bound : Int) < 1001 := of_decide_eq_true c
      have lt : bound ≤ 1000 := by omega
      refine ⟨_, rfl, _, rfl, _, rfl, t, o, te, sc, ones, tens, hun, scales, spot, bound, rfl, T, l20, by omega, lt, fun q H' N => k q H' ?_⟩
      obtain ⟨n1, n2, es, n3, n4, n5⟩ := N
      refine ⟨n1, n2, es, n3, ⟨n4.nd, fun Fn => ?_⟩, fun e he => by have := n5 e he; omega⟩
      rw [n4.sum]
      exact sm_congr bound fun v hv => by rw [xsL_small (by omega)]
    have b1001 : 1001 ≤ bound := by
      have : ¬ (bound : Int) < 1001 := fun z => c (decide_eq_true z)
      omega
    obtain ⟨hi, hhi⟩ : ∃ hi, hi = bound / 1000 := ⟨_, rfl⟩
    obtain ⟨lo, hlo⟩ : ∃ lo, lo = bound % 1000 := ⟨_, rfl⟩
    have hi1 : 1 ≤ hi := by omega
    have hl : bound = hi * 1000 + lo := by omega
    have lo1 : lo < 1000 := by omega
    have hib : hi ≤ 1000 ^ (d + 1) := by
      rw [hhi]
      rw [pw_succ] at b1
      exact Nat.div_le_of_le_mul (by rw [Nat.mul_comm]; exact b1)
    -- high, low
    refine ⟨fun τ G => τ = [some (.ref t), some (.int (spot : Int)), some (.int (bound : Int)), some (.int (hi : Int)), some (.int (lo : Int)), none, none, none, none, none, none, none, none] ∧ G = H, ?_, ?_⟩
    · refine ⟨_, rfl, _, _, rfl, rfl, ⟨by decide, by decide⟩, _, rfl, _, _, rfl, rfl, (by show (0 : Int) < 1000; decide), _, _, rfl, ?_⟩
      have e1 : (bound : Int) / 1000 = (hi : Int) := by omega
      have e2 : (bound : Int) % 1000 = (lo : Int) := by omega
      exact ⟨congr (congrArg (fun (x y : Int) => [some (V.ref t), some (V.int (spot : Int)), some (V.int (bound : Int)), some (V.int x), some (V.int y), none, none, none, none, none, none, none, none]) e1) e2, rfl⟩
    rintro τ G ⟨rfl, rfl⟩
    -- every, found
    refine ⟨fun τ J => ∃ (de df : Addr) (ev : List (Nat × Nat)), τ = [some (.ref t), some (.int (spot : Int)), some (.int (bound : Int)), some (.int (hi : Int)), some (.int (lo : Int)), some (.ref de), some (.ref df), none, none, none, none, none, none] ∧ G de = none ∧ G df = none ∧ J de = some (.dK (ev.map ent)) ∧ J df = some (.dK []) ∧ de ≠ df ∧ Spr ev (szL ones tens hun scales spot) 1000 ∧ (∀ e ∈ ev, e.1 ≤ 100) ∧ Same G J, ?_, ?_⟩
    · refine ⟨_, rfl, _, rfl, t, o, te, sc, ones, tens, hun, scales, spot, 1000, rfl, T, l20, by omega, Nat.le_refl _, fun de J N => fun df ndf => ⟨_, _, rfl, ?_⟩⟩
      obtain ⟨n1, n2, ev, n3, n4, n5⟩ := N
      exact ⟨de, df, ev, rfl, n1, Same.free n2 ndf, upd_keepR n3 ndf, upd_same, ne_of_none n3 ndf, n4, n5, same_more n2 ndf⟩
    rintro τ J0 ⟨de, df, ev, rfl, nde, ndf, hde, hdf, def_, Cev, bev, s0⟩
    -- above
    refine ⟨fun τ J => ∃ (da : Addr) (ab : List (Nat × Nat)), τ = [some (.ref t), some (.int (spot : Int)), some (.int (bound : Int)), some (.int (hi : Int)), some (.int (lo : Int)), some (.ref de), some (.ref df), some (.ref da), none, none, none, none, none] ∧ G da = none ∧ da ≠ de ∧ da ≠ df ∧ J da = some (.dK (ab.map ent)) ∧ J de = some (.dK (ev.map ent)) ∧ J df = some (.dK []) ∧ Spr ab (xsL ones tens hun scales (spot + 1) d) hi ∧ (∀ e ∈ ab, e.1 ≤ 100 * (d + 1)) ∧ Same G J, ?_, ?_⟩
    · refine ⟨_, rfl, _, rfl, _, _, rfl, rfl, _, rfl, t, o, te, sc, ones, tens, hun, scales, spot + 1, hi, rfl, T.same s0, l20, by omega, hi1, hib, fun da J N => ?_⟩
      obtain ⟨n1, n2, ab, n3, n4, n5⟩ := N
      refine ⟨da, ab, rfl, Same.free s0 n1, fun e => ?_, fun e => ?_, n3, n2 _ _ hde, n2 _ _ hdf, n4, n5, Same.trans s0 n2⟩
      · rw [e, hde] at n1; cases n1
      · rw [e, hdf] at n1; cases n1
    rintro τ J1 ⟨da, ab, rfl, nda, dae, daf, hda, hde1, hdf1, Cab, bab, s1⟩
    -- the products
    let cv : (Nat → Nat) → Nat → Nat := fun Fn k1 => sumE (fun k2 => Fn (k1 + k2)) ev
    let St : Option V → Option V → L2.St := fun x8 x9 => [some (.ref t), some (.int (spot : Int)), some (.int (bound : Int)), some (.int (hi : Int)), some (.int (lo : Int)), some (.ref de), some (.ref df), some (.ref da), x8, x9, none, none, none]
    have upD : ∀ {J : Hp} {a : Addr} {x : HO}, G a = none → Same G J → Same G (upd J a x) := fun na s r ob e => by
      rw [upd_ne (ne_of_none e na)]
      exact s _ _ e
    refine ⟨fun τ J => ∃ (x8 x9 : Option V) (es : List (Nat × Nat)), τ = St x8 x9 ∧ J df = some (.dK (es.map ent)) ∧ (es.map (·.1)).Nodup ∧ (∀ Fn, sumE Fn es = sumE (cv Fn) ab) ∧ (∀ e ∈ es, e.1 ≤ 100 * (d + 1 + 1)) ∧ Same G J, ?_, ?_⟩
    · refine ⟨da, _, hda, trivial, fun od => ?_⟩
      refine ⟨_, rfl, da, od, rfl, .inl ⟨_, upd_same, ?_⟩⟩
      refine for_it walk_keys (fun i σ J => ∃ (x8 x9 : Option V) (es : List (Nat × Nat)), σ = St x8 x9 ∧ J da = some (.frz od (.dK (ab.map ent))) ∧ J de = some (.dK (ev.map ent)) ∧ J df = some (.dK (es.map ent)) ∧ (es.map (·.1)).Nodup ∧ (∀ Fn, sumE Fn es = sumE (cv Fn) (ab.take i)) ∧ (∀ e ∈ es, e.1 ≤ 100 * (d + 1 + 1)) ∧ Same G J) ⟨none, none, [], rfl, upd_same, (upd_ne dae.symm).trans hde1, (upd_ne daf.symm).trans hdf1, List.nodup_nil, fun _ => rfl, fun e h => (nomatch h), upD nda s1⟩ (fun i σ J _ ⟨_, _, _, _, h, _⟩ => h) ?_ ?_
      · rintro i x σ J J' hi' ⟨x8, x9, es, rfl, ha, he, hf, nd, sums, eb, sJ⟩ ⟨rfl, kk, vv, hkv, rfl⟩
        rw [List.length_map] at hi'
        rw [List.getElem?_map, List.getElem?_eq_getElem hi'] at hkv
        obtain ⟨ka, ca, hab⟩ : ∃ ka ca, ab[i] = (ka, ca) := ⟨_, _, rfl⟩
        have mab : (ka, ca) ∈ ab := hab ▸ List.getElem_mem hi'
        rw [hab] at hkv
        obtain ⟨rfl, rfl⟩ : kk = Sum.inl (ka : Int) ∧ vv = V.int (ca : Int) := by
          have := Option.some.inj hkv
          exact ⟨(congrArg Prod.fst this).symm, (congrArg Prod.snd this).symm⟩
        have va := (val_at Cab.nd mab).1
        have kab := bab _ mab
        have cab : ca ≤ hi := Spr.le Cab _ mab
        have tk : ab.take (i + 1) = ab.take i ++ [(ka, ca)] := by rw [List.take_add_one, List.getElem?_eq_getElem hi', hab]; rfl
        refine ⟨de, _, he, trivial, fun od2 => ?_⟩
        refine ⟨_, rfl, de, od2, rfl, .inl ⟨_, upd_same, ?_⟩⟩
        refine for_it walk_keys (fun j σ J => ∃ (x9 : Option V) (es : List (Nat × Nat)), σ = St (some (.int (ka : Int))) x9 ∧ J da = some (.frz od (.dK (ab.map ent))) ∧ J de = some (.frz od2 (.dK (ev.map ent))) ∧ J df = some (.dK (es.map ent)) ∧ (es.map (·.1)).Nodup ∧ (∀ Fn, sumE Fn es = sumE (cv Fn) (ab.take i) + ca * sumE (fun k2 => Fn (ka + k2)) (ev.take j)) ∧ (∀ e ∈ es, e.1 ≤ 100 * (d + 1 + 1)) ∧ Same G J) ⟨x9, es, rfl, (upd_ne dae).trans ha, upd_same, (upd_ne def_.symm).trans hf, nd, fun Fn => by rw [sums]; exact (Nat.add_zero _).symm, eb, upD nde sJ⟩ (fun j σ J _ ⟨_, _, _, _, h, _⟩ => h) ?_ ?_
        · rintro j x σ J J' hj ⟨x9, es, rfl, ha, he, hf, nd, sums, eb, sJ⟩ ⟨rfl, kk, vv, hkv, rfl⟩
          rw [List.length_map] at hj
          rw [List.getElem?_map, List.getElem?_eq_getElem hj] at hkv
          obtain ⟨kb, cb, hev⟩ : ∃ kb cb, ev[j] = (kb, cb) := ⟨_, _, rfl⟩
          have mev : (kb, cb) ∈ ev := hev ▸ List.getElem_mem hj
          rw [hev] at hkv
          obtain ⟨rfl, rfl⟩ : kk = Sum.inl (kb : Int) ∧ vv = V.int (cb : Int) := by
            have := Option.some.inj hkv
            exact ⟨(congrArg Prod.fst this).symm, (congrArg Prod.snd this).symm⟩
          have vb := (val_at Cev.nd mev).1
          have kev := bev _ mev
          have cev : cb ≤ 1000 := Spr.le Cev _ mev
          have tk2 : ev.take (j + 1) = ev.take j ++ [(kb, cb)] := by rw [List.take_add_one, List.getElem?_eq_getElem hj, hev]; rfl
          have few := keys_few nd eb
          have key : ((ka : Nat) : Int) + ((kb : Nat) : Int) = ((ka + kb : Nat) : Int) := (Int.natCast_add _ _).symm
          have w1 : ((ca : Nat) : Int).natAbs < 2 ^ 210 := by
            rw [Int.natAbs_natCast]
            refine Nat.lt_of_le_of_lt cab (Nat.lt_of_le_of_lt hib (Nat.lt_of_le_of_lt (Nat.pow_le_pow_right (by decide) (show d + 1 ≤ 21 by omega)) (by decide)))
          have w2 : ((cb : Nat) : Int).natAbs < 2 ^ 10 := by
            rw [Int.natAbs_natCast]
            exact Nat.lt_of_le_of_lt cev (by decide)
          obtain ⟨es', h1, h2, h3, h4, h5⟩ := put_up nd (ka + kb) (ca * cb)
          refine ⟨_, rfl, df, rfl, .inl ⟨_, .inl hf⟩, _, rfl, _, rfl, _, _, rfl, rfl, _, .inl ⟨es.map ent, Sum.inl ((ka + kb : Nat) : Int), .inl hf, congrArg V.int key, rfl⟩, ?_⟩
          rw [val_ind nd (ka + kb)]
          refine ⟨_, rfl, _, rfl, da, _, rfl, .inl ⟨ab.map ent, Sum.inl ((ka : Nat) : Int), .inr ⟨od, ha⟩, rfl, va.symm⟩, ?_⟩
          refine ⟨_, rfl, _, rfl, de, _, rfl, .inl ⟨ev.map ent, Sum.inl ((kb : Nat) : Int), .inr ⟨od2, he⟩, rfl, vb.symm⟩, ?_⟩
          refine ⟨_, _, rfl, rfl, wide_mul w1 w2 (by decide) (by decide) (by decide), _, _, rfl, rfl, _, rfl, _, rfl, _, rfl, _, _, rfl, rfl, df, _, rfl, .inl ⟨es.map ent, Sum.inl ((ka + kb : Nat) : Int), hf, congrArg V.int key, by rw [List.length_map]; omega, rfl⟩, ?_⟩
          have hv : ((sumE (ind (ka + kb)) es : Nat) : Int) + ((ca : Nat) : Int) * ((cb : Nat) : Int) = ((sumE (ind (ka + kb)) es : Nat) : Int) + ((ca * cb : Nat) : Int) := by rw [Int.natCast_mul]
          refine ⟨_, es', rfl, (upd_ne daf).trans ha, (upd_ne def_).trans he, ?_, h2, fun Fn => ?_, fun e he' => ?_, upD ndf sJ⟩
          · rw [upd_same, ← h1, ← hv]
          · rw [h3, sums, tk2, sumE_app]
            show _ = _ + ca * (_ + sumE (fun k2 => Fn (ka + k2)) [(kb, cb)])
            rw [sumE_cons]
            show _ = _ + ca * (_ + (cb * Fn (ka + kb) + 0))
            rw [Nat.add_zero, Nat.mul_add, Nat.mul_assoc]
            omega
          · rcases h5 e he' with h | ⟨e0, he0, h⟩
            · rw [h]; omega
            · rw [← h]; exact eb e0 he0
        · rintro σ J ⟨x9, es, rfl, ha, he, hf, nd, sums, eb, sJ⟩
          rw [List.length_map, List.take_length] at sums
          refine ⟨he, _, x9, es, rfl, (upd_ne dae).trans ha, upd_same, (upd_ne def_.symm).trans hf, nd, fun Fn => ?_, eb, upD nde sJ⟩
          rw [sums, tk, sumE_app]
          show _ = _ + sumE (cv Fn) [(ka, ca)]
          rw [sumE_cons]
          show _ = _ + (ca * cv Fn ka + 0)
          rw [Nat.add_zero]
      · rintro σ J ⟨x8, x9, es, rfl, ha, he, hf, nd, sums, eb, sJ⟩
        rw [List.length_map, List.take_length] at sums
        exact ⟨ha, x8, x9, es, rfl, (upd_ne daf.symm).trans hf, nd, sums, eb, upD nda sJ⟩
    rintro τ J2 ⟨x8, x9, es, rfl, hf, nd, sums, eb, s2⟩
    have Cf : Spr es (xsL ones tens hun scales spot (d + 1)) (hi * 1000) := ⟨nd, fun Fn => by
      rw [sums, Cab.sum, sm_block]
      refine sm_congr hi fun u _ => ?_
      show sumE (fun k2 => Fn (xsL ones tens hun scales (spot + 1) d u + k2)) ev = _
      rw [Cev.sum]
      refine sm_congr 1000 fun g hg => ?_
      rw [xsL_tail u hg, Nat.add_comm]⟩
    refine ⟨_, rfl, rfl, _, rfl, ite2 (fun c => ?_) (fun c => ?_)⟩
    · have c := V.int.inj (of_decide_eq_true c)
      have lo0 : lo = 0 := by omega
      rw [lo0, Nat.add_zero] at hl
      rw [← hl] at Cf
      exact ⟨_, rfl, k df J2 ⟨ndf, s2, es, hf, Cf, eb⟩⟩
    have lo0 : 0 < lo := by
      have : lo ≠ 0 := fun e => c (decide_eq_true (by rw [e]; rfl))
      omega
    have hilt : hi < 1000 ^ (d + 1) := by
      rw [pw_succ] at b1
      rcases Nat.lt_or_ge hi (1000 ^ (d + 1)) with z | z
      · exact z
      · have := Nat.mul_le_mul_right 1000 z
        omega
    -- the letters of the groups above
    have T2 := T.same s2
    have at2 : ∀ {G' : Hp}, Same J2 G' → SqT K G' t [.ref o, .ref te, .str hun, .ref sc] := fun s => SqT.of (s _ _ T2.tb.at_.tup)
    obtain ⟨lots, hlots⟩ : ∃ lots, lots = fL ones tens hun (scales.drop (spot + 1)) hi := ⟨_, rfl⟩
    have dl : (scales.drop (spot + 1)).length = d := by rw [List.length_drop]; omega
    have wl20 : lots ≤ 2100 := by
      rw [hlots]
      have := fL_le (good_drop T.good (spot + 1)) hi
      omega
    let S2 : Option V → Option V → List (Option V) → L2.St := fun x8 x9 l => [some (.ref t), some (.int (spot : Int)), some (.int (bound : Int)), some (.int (hi : Int)), some (.int (lo : Int)), some (.ref de), some (.ref df), some (.ref da), x8, x9] ++ l
    refine ⟨fun τ J => τ = S2 x8 x9 [some (.int (lots : Int)), none, none] ∧ Same J2 J, ?_, ?_⟩
    · refine ⟨_, rfl, t, _, _, _, rfl, rfl, at2 (Same.refl _), (rfl : atI [V.ref o, V.ref te, V.str hun, V.ref sc] 0 = some (.ref o)), _, rfl, t, _, _, _, rfl, rfl, at2 (Same.refl _), (rfl : atI [V.ref o, V.ref te, V.str hun, V.ref sc] 1 = some (.ref te)), _, rfl, t, _, _, _, rfl, rfl, at2 (Same.refl _), (rfl : atI [V.ref o, V.ref te, V.str hun, V.ref sc] 2 = some (.str hun)), _, rfl, t, _, _, _, rfl, rfl, at2 (Same.refl _), (rfl : atI [V.ref o, V.ref te, V.str hun, V.ref sc] 3 = some (.ref sc)), _, rfl, _, _, rfl, rfl, _, rfl, sc, _, rfl, SqL.of T2.tb.at_.ls, fun Z nZ => ?_⟩
      rw [show ((spot : Int) + 1) = ((spot + 1 : Nat) : Int) from rfl, cut_mapF]
      have sZ := same_new (x := .lst ((scales.drop (spot + 1)).map V.str)) nZ
      have hZ : (upd J2 Z (.lst ((scales.drop (spot + 1)).map V.str))) Z = some (.lst ((scales.drop (spot + 1)).map V.str)) := upd_same
      refine ⟨by show 4 ≤ sizeLine; omega, fun U nU => ?_⟩
      have sU := same_new (x := .tup [.ref o, .ref te, .str hun, .ref Z]) nU
      have sZU := Same.trans sZ sU
      have gd := good_drop T.good (spot + 1)
      have TU : Tab (upd (upd J2 Z (.lst ((scales.drop (spot + 1)).map V.str))) U (.tup [.ref o, .ref te, .str hun, .ref Z])) U ones tens hun (scales.drop (spot + 1)) o te Z := ⟨⟨⟨upd_same, sZU _ _ T2.tb.at_.lo, sZU _ _ T2.tb.at_.lt, sU _ _ hZ⟩, T.tb.l1, T.tb.l2, by omega, gd.nd⟩, gd⟩
      refine ⟨_, rfl, U, o, te, Z, ones, tens, hun, scales.drop (spot + 1), (hi : Int), rfl, TU, Int.natCast_nonneg _, by rw [W_nat, dl]; omega, fun p J3 np s3 hp => ?_⟩
      have s4 := Same.trans sZU s3
      have few := nm_len5 (ones := ones) (tens := tens) (hun := hun) (scales := scales.drop (spot + 1)) (hi : Int)
      refine ⟨p, rfl, ⟨_, SqL.of hp⟩, fun D nD => lc_mapN (K := K) V.str (fun w => w.length) hp nD (by omega) (fun j x J k e hx sJ hk => ?_) (fun J hD sJ => ?_)⟩
      · have := (nm_good gd (hi : Int) x (List.mem_of_getElem? hx)).2.1
        exact ⟨rfl, _, rfl, x, rfl, by omega, hk⟩
      · obtain ⟨ns, hns, hsum⟩ := intsN_sum ((nmL ones tens hun (scales.drop (spot + 1)) (hi : Int)).map fun w => w.length)
        refine ⟨D, ns, rfl, SqL.of (hD.trans (by rw [hns])), ?_, Same.trans s4 sJ⟩
        have e := fL_eq ones tens hun (scales.drop (spot + 1)) hi
        have e2 : ns.sum = (lots : Int) := by
          rw [hsum, hlots, ← e]
          unfold lettersN
          generalize nmL ones tens hun (scales.drop (spot + 1)) (hi : Int) = l
          clear hns hsum hD hp e few
          induction l with
          | nil => rfl
          | cons x l ih => rw [List.map_cons, List.map_cons, List.sum_cons, List.sum_cons, ← ih]; omega
        rw [e2]
        rfl
    rintro τ J3 ⟨rfl, s3⟩
    have s23 := Same.trans s2 s3
    have T3 := T2.same s3
    obtain ⟨lo2, hlo2⟩ : ∃ l, l = xsL ones tens hun scales (spot + 1) d hi := ⟨_, rfl⟩
    have eqL := xsL_lots (ones := ones) (tens := tens) (hun := hun) (scales := scales) sd hi1
    rw [← hlots, ← hlo2] at eqL
    have lS20 := (len20 T.good).2.2.2 spot
    have lob : lo2 ≤ 100 * (d + 1) := by
      rw [hlo2]
      exact fz_le (fun j g => szL_le T.good _ g) hi (d + 1)
    refine ⟨fun τ J => τ = S2 x8 x9 [some (.int (lo2 : Int)), none, none] ∧ J = J3, ?_, ?_⟩
    · have zat : scales[spot]? = some scales[spot] := List.getElem?_eq_getElem hp1
      have mz : lenS hun scales spot = scales[spot].length := by
        unfold lenS
        rw [zat]
        rfl
      have az : atI (scales.map V.str) (spot : Int) = some (.str scales[spot]) := atI_nat (by rw [List.getElem?_map, zat]; rfl)
      rw [mz] at eqL lS20
      obtain ⟨kb, hkb⟩ : ∃ kb : Int, kb = (if decide ((hi : Int) % 1000 > 0) = true then 1 else 0) := ⟨_, rfl⟩
      have kbE : ((scales[spot].length : Nat) : Int) * kb = ((if hi % 1000 = 0 then 0 else scales[spot].length : Nat) : Int) := by
        by_cases c : hi % 1000 = 0
        · rw [if_pos c, hkb, if_neg (by rw [decide_eq_true_eq]; omega), Int.mul_zero]
          rfl
        · rw [if_neg c, hkb, if_pos (by rw [decide_eq_true_eq]; omega), Int.mul_one]
      refine ⟨_, rfl, _, rfl, t, _, _, _, rfl, rfl, SqT.of T3.tb.at_.tup, (rfl : atI [V.ref o, V.ref te, V.str hun, V.ref sc] 3 = some (.ref sc)), _, rfl, sc, _, _, _, rfl, rfl, SqL.of T3.tb.at_.ls, az, _, rfl, by omega, ?_⟩
      refine ⟨_, rfl, _, _, rfl, rfl, (by show (0 : Int) < 1000; decide), _, _, rfl, rfl, .inr ⟨_, rfl, ?_⟩⟩
      rw [← hkb]
      refine ⟨_, _, rfl, rfl, .inl ⟨by omega, by omega⟩, _, _, rfl, rfl, ?_⟩
      have ez : (lots : Int) + ((scales[spot].length : Nat) : Int) * kb = (lo2 : Int) := by rw [kbE, ← eqL]; omega
      exact ⟨congrArg (fun z => [some (V.ref t), some (V.int (spot : Int)), some (V.int (bound : Int)), some (V.int (hi : Int)), some (V.int (lo : Int)), some (V.ref de), some (V.ref df), some (V.ref da), x8, x9, some (V.int z), none, none]) ez, rfl⟩
    rintro τ J ⟨rfl, rfl⟩
    have hf3 := s3 _ _ hf
    -- the last thousand
    refine ⟨fun τ J4 => ∃ (dl : Addr) (lv : List (Nat × Nat)), τ = S2 x8 x9 [some (.int (lo2 : Int)), some (.ref dl), none] ∧ G dl = none ∧ dl ≠ df ∧ J4 dl = some (.dK (lv.map ent)) ∧ Spr lv (szL ones tens hun scales spot) lo ∧ (∀ e ∈ lv, e.1 ≤ 100) ∧ J4 df = some (.dK (es.map ent)) ∧ Same G J4, ?_, ?_⟩
    · refine ⟨_, rfl, _, rfl, _, rfl, t, o, te, sc, ones, tens, hun, scales, spot, lo, rfl, T3, l20, by omega, by omega, fun dl J4 N => ?_⟩
      obtain ⟨n1, n2, lv, n3, n4, n5⟩ := N
      refine ⟨dl, lv, rfl, Same.free s23 n1, fun e => ?_, n3, n4, n5, n2 _ _ hf3, Same.trans s23 n2⟩
      rw [e, hf3] at n1
      cases n1
    rintro τ J4 ⟨dl, lv, rfl, ndl, dlf, hdl, Clv, blv, hf4, s4⟩
    refine ⟨fun τ J => ∃ (x9 : Option V) (es' : List (Nat × Nat)), τ = S2 x8 x9 [some (.int (lo2 : Int)), some (.ref dl), none] ∧ J df = some (.dK (es'.map ent)) ∧ (es'.map (·.1)).Nodup ∧ (∀ Fn, sumE Fn es' = sumE Fn es + sumE (fun k2 => Fn (lo2 + k2)) lv) ∧ (∀ e ∈ es', e.1 ≤ 100 * (d + 1 + 1)) ∧ Same G J, ?_, ?_⟩
    · refine ⟨dl, _, hdl, trivial, fun od => ?_⟩
      refine ⟨_, rfl, dl, od, rfl, .inl ⟨_, upd_same, ?_⟩⟩
      refine for_it walk_keys (fun j σ J => ∃ (x9 : Option V) (es' : List (Nat × Nat)), σ = S2 x8 x9 [some (.int (lo2 : Int)), some (.ref dl), none] ∧ J dl = some (.frz od (.dK (lv.map ent))) ∧ J df = some (.dK (es'.map ent)) ∧ (es'.map (·.1)).Nodup ∧ (∀ Fn, sumE Fn es' = sumE Fn es + sumE (fun k2 => Fn (lo2 + k2)) (lv.take j)) ∧ (∀ e ∈ es', e.1 ≤ 100 * (d + 1 + 1)) ∧ Same G J) ⟨x9, es, rfl, upd_same, (upd_ne dlf.symm).trans hf4, nd, fun Fn => (Nat.add_zero _).symm, eb, upD ndl s4⟩ (fun j σ J _ ⟨_, _, _, h, _⟩ => h) ?_ ?_
      · rintro j x σ J J' hj ⟨x9, es', rfl, ha, hf, nd, sums, eb, sJ⟩ ⟨rfl, kk, vv, hkv, rfl⟩
        rw [List.length_map] at hj
        rw [List.getElem?_map, List.getElem?_eq_getElem hj] at hkv
        obtain ⟨kb, cb, hev⟩ : ∃ kb cb, lv[j] = (kb, cb) := ⟨_, _, rfl⟩
        have mev : (kb, cb) ∈ lv := hev ▸ List.getElem_mem hj
        rw [hev] at hkv
        obtain ⟨rfl, rfl⟩ : kk = Sum.inl (kb : Int) ∧ vv = V.int (cb : Int) := by
          have := Option.some.inj hkv
          exact ⟨(congrArg Prod.fst this).symm, (congrArg Prod.snd this).symm⟩
        have vb := (val_at Clv.nd mev).1
        have kev := blv _ mev
        have tk2 : lv.take (j + 1) = lv.take j ++ [(kb, cb)] := by rw [List.take_add_one, List.getElem?_eq_getElem hj, hev]; rfl
        have few := keys_few nd eb
        have key : ((lo2 : Nat) : Int) + ((kb : Nat) : Int) = ((lo2 + kb : Nat) : Int) := (Int.natCast_add _ _).symm
        obtain ⟨es2, h1, h2, h3, h4, h5⟩ := put_up nd (lo2 + kb) cb
        refine ⟨_, rfl, df, rfl, .inl ⟨_, .inl hf⟩, _, rfl, _, rfl, _, _, rfl, rfl, _, .inl ⟨es'.map ent, Sum.inl ((lo2 + kb : Nat) : Int), .inl hf, congrArg V.int key, rfl⟩, ?_⟩
        rw [val_ind nd (lo2 + kb)]
        refine ⟨_, rfl, _, rfl, dl, _, rfl, .inl ⟨lv.map ent, Sum.inl ((kb : Nat) : Int), .inr ⟨od, ha⟩, rfl, vb.symm⟩, ?_⟩
        refine ⟨_, _, rfl, rfl, _, rfl, _, rfl, _, rfl, _, _, rfl, rfl, df, _, rfl, .inl ⟨es'.map ent, Sum.inl ((lo2 + kb : Nat) : Int), hf, congrArg V.int key, by rw [List.length_map]; omega, rfl⟩, ?_⟩
        refine ⟨_, es2, rfl, (upd_ne dlf).trans ha, ?_, h2, fun Fn => ?_, fun e he' => ?_, upD ndf sJ⟩
        · rw [upd_same, ← h1]
        · rw [h3, sums, tk2, sumE_app]
          show _ = _ + (_ + sumE (fun k2 => Fn (lo2 + k2)) [(kb, cb)])
          rw [sumE_cons]
          show _ = _ + (_ + (cb * Fn (lo2 + kb) + 0))
          omega
        · rcases h5 e he' with h | ⟨e0, he0, h⟩
          · rw [h]; omega
          · rw [← h]; exact eb e0 he0
      · rintro σ J ⟨x9, es', rfl, ha, hf, nd, sums, eb, sJ⟩
        rw [List.length_map, List.take_length] at sums
        exact ⟨ha, x9, es', rfl, (upd_ne dlf.symm).trans hf, nd, sums, eb, upD ndl sJ⟩
    rintro τ J5 ⟨x9, es', rfl, hf5, nd5, sums5, eb5, s5⟩
    refine ⟨_, rfl, k df J5 ⟨ndf, s5, es', hf5, ⟨nd5, fun Fn => ?_⟩, eb5⟩⟩
    rw [sums5, Cf.sum, Clv.sum, hl, sm_split]
    congr 1
    refine sm_congr lo fun g hg => ?_
    rw [xsL_tail hi (by omega), ← hlo2, Nat.add_comm]
theorem ok_dueL {f fSp : Addr} {fd dSp : FuncData} (F : Fun K "_law_due" "_law_due" sDue f fd) (Sp : ∀ d, Def1 P w K mg base "_law_spread" (d + 4) fSp dSp ["chart", "spot", "bound"] (spSpreadL d)) (mL : mg "len" = none) : FnOk P w K mg base CX0 25 f fd ["chart", "bound"] spDueLL := by
  refine F.ok scDueL (fun vs H Q E h => ?_) (fun cdv A outer s H vs Q E hr h => ?_)
  · obtain ⟨t, o, te, sc, ones, tens, hun, scales, bound, rfl, _⟩ := h
    rfl
  · obtain ⟨t, o, te, sc, ones, tens, hun, scales, bound, rfl, T, l20, b0, b1, k⟩ := h
    have hu := hu_of hr
    have Sp := Sp scales.length
    have hr : Room (scales.length + 4) _ := hr.mono (by omega)
    refine ⟨_, pss_cons (ps_set (i := 2) scDueL.nd rfl (.inl rfl) (pe_call Sp.ok hr (by rfl) Sp.g Sp.k Sp.b .nil pass0 (pa_cons (pv 0) (pa_cons pe_int (pa_cons (pv 1) pa_nil)))))
        (pss_mid (ps_dput hu (pv 2) pe_int (pe_op op_sub (pe_dget hu (pv 2) pe_int (fun _ _ => rfl)) pe_int) rfl)
        (pss_cons (ps_set (i := 3) scDueL.nd rfl (.inl rfl) (pe_callB call_len_str (by rfl) mL PySem.boot_len (pa_cons (pe_ix ix_list (pe_ix ix_tup (pv 0) pe_int (fun _ _ => rfl)) pe_int (fun _ _ => rfl)) pa_nil)))
        (pss_mid (ps_dput hu (pv 2) (pv 3) (pe_op op_add (pe_dget2 hu (pv 2) (pv 3) pe_int ⟨rfl, rfl, rfl, rfl⟩) pe_int) rfl)
        (pss_one (ps_ret (pv 2)))))), ?_⟩
    have big : 200000 ≤ sizeLine := by decide
    have WI : Bg.W (scales.length + 1) = ((1000 ^ (scales.length + 1) : Nat) : Int) := W_nat _
    refine ⟨_, rfl, _, rfl, t, o, te, sc, ones, tens, hun, scales, 0, bound, rfl, T, l20, by omega, b0, b1, fun q G N => ?_⟩
    obtain ⟨nq, s1, es, hq, C, eb⟩ := N
    have eb : ∀ e ∈ es, e.1 ≤ 2100 := fun e he => by have := eb e he; omega
    have xE : xsL ones tens hun scales 0 scales.length = fz (szL ones tens hun scales) (scales.length + 1) := by
      unfold xsL
      exact congrArg (fun z => fz z (scales.length + 1)) (funext fun j => by rw [Nat.zero_add])
    rw [xE] at C
    obtain ⟨N, rfl⟩ : ∃ N, bound = N + 1 := ⟨bound - 1, by omega⟩
    have x0 : fz (szL ones tens hun scales) (scales.length + 1) 0 = 0 := fz_zero (fun j => szL_zero j) _
    have c1 : 1 ≤ sumE (ind 0) es := by
      rw [C.sum, sm_head, x0]
      show 1 ≤ 1 + _
      omega
    obtain ⟨c, hc⟩ : ∃ c, (0, c) ∈ es := by
      refine Classical.byContradiction fun n => ?_
      rw [sumE_zero fun e he q => n ⟨e.2, by rw [← q]; exact he⟩] at c1
      exact absurd c1 (by decide)
    obtain ⟨v0, cE⟩ := val_at C.nd hc
    rw [cE] at c1
    have few := keys_few C.nd eb
    obtain ⟨es1, g1, g2, g3, g4, g5⟩ := put_any C.nd 0 (c - 1)
    rw [cE] at g3
    have zc : ((c : Nat) : Int) - 1 = ((c - 1 : Nat) : Int) := by omega
    refine ⟨fun τ J => τ = [some (.ref t), some (.int ((N + 1 : Nat) : Int)), some (.ref q), none] ∧ J q = some (.dK (es1.map ent)) ∧ Same H J, ?_, ?_⟩
    · refine ⟨_, rfl, q, _, rfl, .inl ⟨es.map ent, Sum.inl ((0 : Nat) : Int), .inl hq, rfl, v0.symm⟩, _, _, rfl, rfl, _, rfl, q, _, rfl, DPut.k (k := Sum.inl ((0 : Nat) : Int)) hq (by rw [List.length_map]; omega), ?_⟩
      refine ⟨rfl, ?_, fun r ob e => ?_⟩
      · rw [upd_same, ← g1, ← zc]
      · rw [upd_ne (ne_of_none e nq)]
        exact s1 _ _ e
    rintro τ J ⟨rfl, hq1, s2⟩
    obtain ⟨w, hw⟩ : ∃ w, ones[0]? = some w := ⟨ones[0]'(by rw [T.tb.l1]; decide), List.getElem?_eq_getElem _⟩
    have wz : fL ones tens hun scales 0 = w.length := by
      rw [fL_zero]
      unfold lenO
      rw [hw]
      rfl
    have w20 : w.length ≤ 20 := (T.good.ok w (List.mem_append_left _ (List.mem_of_getElem? hw))).2.1
    have aw : atI (ones.map V.str) 0 = some (.str w) := atI_nat (j := 0) (by rw [List.getElem?_map, hw]; rfl)
    refine ⟨_, rfl, t, _, _, _, rfl, rfl, SqT.of (s2 _ _ T.tb.at_.tup), (rfl : atI [V.ref o, V.ref te, V.str hun, V.ref sc] 0 = some (.ref o)), o, _, _, _, rfl, rfl, SqL.of (s2 _ _ T.tb.at_.lo), aw, _, rfl, by omega, ?_⟩
    obtain ⟨es2, h1, h2, h3, h4, h5⟩ := put_up g2 w.length 1
    have few1 : es1.length ≤ es.length + 1 := g4
    refine ⟨fun τ J => τ = [some (.ref t), some (.int ((N + 1 : Nat) : Int)), some (.ref q), some (.int ((w.length : Nat) : Int))] ∧ J q = some (.dK (es2.map ent)) ∧ Same H J, ?_, ?_⟩
    · refine ⟨_, rfl, q, rfl, .inl ⟨_, .inl hq1⟩, _, rfl, _, DGet.k (k := Sum.inl ((w.length : Nat) : Int)) hq1, ?_⟩
      rw [val_ind g2 w.length]
      refine ⟨_, _, rfl, rfl, _, rfl, _, rfl, q, _, rfl, DPut.k (k := Sum.inl ((w.length : Nat) : Int)) hq1 (by rw [List.length_map]; omega), ?_⟩
      refine ⟨rfl, by rw [upd_same, ← h1]; rfl, fun r ob e => ?_⟩
      rw [upd_ne (ne_of_none e nq)]
      exact s2 _ _ e
    rintro τ J ⟨rfl, hq2, s3⟩
    refine ⟨_, rfl, k q J ⟨nq, s3, es2, hq2, ⟨h2, fun Fn => ?_⟩, fun e he => ?_⟩⟩
    · have a1 := g3 Fn
      have a2 := h3 Fn
      have a3 := C.sum Fn
      rw [sm_head, x0] at a3
      rw [sm_head, wz]
      have e4 : sm (fun i => Fn (fz (szL ones tens hun scales) (scales.length + 1) (i + 1))) N = sm (fun i => Fn (fL ones tens hun scales (i + 1))) N := sm_congr N fun i _ => by rw [fL_fz (Nat.succ_pos i)]
      rw [e4] at a3
      rw [Nat.one_mul] at a2
      have e5 : c * Fn 0 = (c - 1) * Fn 0 + Fn 0 := by
        have : c = (c - 1) + 1 := by omega
        rw [this, Nat.add_mul, Nat.one_mul, Nat.add_sub_cancel]
      omega
    · rcases h5 e he with h | ⟨e0, he0, h⟩
      · rw [h]; omega
      · rw [← h]
        rcases g5 e0 he0 with h' | ⟨e1, he1, h'⟩
        · rw [h']; omega
        · rw [← h']; exact eb e1 he1
end
end LB
set_option Elab.async false
set_option linter.all false
set_option maxRecDepth 100000
set_option maxHeartbeats 4000000
/-! sorted of a dict whose keys are numbers, of any number of entries. -/
namespace Wk
open PySem L2 PySem.W PyProof.Rows
section
variable {X : Cx}
def rSortKeys : List V → Hp → VK → Prop := fun xs H Q => ∃ (a : Addr) (kvs : List (Key × V)) (ks : List Int), xs = [.ref a] ∧ Rd H a (.dK kvs) ∧ kvs.map (·.1) = ks.map Sum.inl ∧ ks.length ≤ 100000 ∧ ∀ (ys : List Int) (p : Addr), ys.Perm ks → ys.Pairwise (· ≤ ·) → H p = none → Q (.ref p) (upd H p (.lst (ys.map V.int)))
theorem cr_sortKeys (cold : X.calm = true) : CallR X (.builtin "sorted") rSortKeys := by
  intro pins s σ H xs us Q I r h
  obtain ⟨a, kvs, ks, rfl, rd, keys, many, q⟩ := h
  rw [Vals.ref1 r]
  obtain ⟨z, lo, vs, rel, dd⟩ := dk_rd I.hok rd
  obtain ⟨ep, at_⟩ := dd.dictAt
  have vk : vs.map (·.1) = ks.map Sum.inl := rel.keys.symm.trans keys
  have vl : vs.length = ks.length := by
    have := congrArg List.length vk
    rwa [List.length_map, List.length_map] at this
  have line : vs.length ≤ sizeLine := by
    rw [vl]
    exact Nat.le_trans many (by decide)
  refine Calls.call_function_entry kind_sorted plain_sorted entry_sorted (args_sorted1 _) ?_
  unfold Builtin.«sorted»
  refine wpAny_bind (m := checkCount "sorted" 1 1 _) (wpAny_pure ?_)
  refine wpAny_bind (kdu_collect (A := X.A.in1) (kdl_dict (knd := mixKind X.prog X.w) (kvs := vs) (ep := ep) lo) (I.ok.hd cold) at_ line fun h' tk acc kept hacc => ?_)
  have al : acc.toList.length = ks.length := by rw [Array.length_toList, hacc.1, vl]
  have are : IntsAre acc.toList ks := ints_each al fun j v e => by
    obtain ⟨k, x, e1, e2⟩ := hacc.2 j v (by rw [← Array.getElem?_toList]; exact e)
    have e3 : (vs.map (·.1))[j]? = some k := by rw [List.getElem?_map, e1]; rfl
    rw [vk, List.getElem?_map] at e3
    match e4 : ks[j]?, e3 with
    | none, e3 => cases e3
    | some y, e3 =>
      obtain rfl : Sum.inl y = k := Option.some.inj e3
      rcases keyIs_shape (show keyIs (Sum.inl y) v = true from e2) with ⟨i, t, ek, ev⟩ | ⟨w, t, ek, ev⟩
      · cases ek
        exact ⟨y, t, rfl, ev⟩
      · cases ek
  have I1 : Inv X pins σ H { s with heap := h', toks := tk } := I.kept kept
  refine wpAny_bind (wpAny_newList ?_ (by rw [al]; exact Nat.le_trans many (by decide)))
  have at1 : (h'.push (seqObj "list" acc.toList.toArray 0)).get? h'.objs.size = some (seqObj "list" acc.toList.toArray 0) := Heap.get?_push_size _ rfl
  show wpAny _ _ _ _ _ { s with heap := h'.push (seqObj "list" acc.toList.toArray 0), toks := tk }
  refine wpAny_bind (wpAny_holding (wpAny_call_entry slot_list_sort ⟨_, at1, rfl⟩ entry_list_sort (list_sort_treeAny (s := { s with heap := h'.push (seqObj "list" acc.toList.toArray 0), toks := tk }) at1 are (by rw [al]; exact Nat.le_trans many (by decide)) fun out ys g1 g2 g3 => ⟨_, rfl, ?_⟩) (args_list_sort _)))
  obtain ⟨c, hc⟩ := sortedHeap_at (vs := acc.toList) (out := out) at1
  have yl : (ys.map V.int).length ≤ sizeLine := by
    rw [List.length_map, g2.length_eq]
    exact Nat.le_trans many (by decide)
  refine wpAny_pure ⟨_, rfl, .ref h'.objs.size, upd H h'.objs.size (.lst (ys.map V.int)), I1.laid (t' := tk) (fun b u e => ?_) (Nat.le_refl _)
    (show ObjOk X.prog X.w _ _ _ (.lst (ys.map V.int)) from ⟨yl, out.toList, c, vals_of_ints g1, by rw [Array.toArray_toList]; exact hc⟩), rfl, q ys _ g2 g3 (I1.hok.fresh (Nat.le_refl _))⟩
  have less : b < h'.objs.size := Heap.lt_size e
  rw [sortedHeap_old (Nat.ne_of_lt less) (by rw [size_push']; exact Nat.lt_succ_of_lt less)]
  exact Heap.get?_push_of_some _ e
end
end Wk
set_option Elab.async false
set_option linter.all false
set_option maxRecDepth 100000
set_option maxHeartbeats 8000000
/-! The law of the great counts by letters. -/
namespace LB
open PySem L2 Wk LC
open Bg (Bg Wo)
theorem call_lenK25 {X : Cx} (K0 : PySem.W.Frag) (hK : X.K = K0) : CallR X (.builtin "len") (fun xs H Q => ∃ p n, xs = [.ref p] ∧ (SqL K0 H p n ∨ SqT K0 H p n) ∧ Q (.int (n.length : Nat)) H) := hK ▸ call_len_seq
theorem unlock_sameA {H J : Hp} {d : Addr} {od : Obj} {u : HO} (hd : H d = some u) (s : Same (upd H d (.frz od u)) J) : Same H (upd J d u) := fun b o e => by
  by_cases z : b = d
  · rw [z] at e ⊢
    rw [hd] at e
    rw [upd_same]
    exact e
  · rw [upd_ne z]
    exact s b o (by rw [upd_ne z]; exact e)
structure LawNo25 (mg : Str → Option Value) : Prop where
  range : mg "range" = none
  min : mg "min" = none
  sum : mg "sum" = none
  len : mg "len" = none
  int : mg "int" = none
  sorted : mg "sorted" = none
section
variable {P : Program} {w : World} {K : PySem.W.Frag} {mg : Str → Option Value} {base : Heap}
theorem scLaw25 : FnScope ["script", "source", "k", "chart", "whole", "some", "bound", "due", "lots", "time", "value"] ["script"] (defScope sLaw) := ⟨rfl, rfl, rfl, by decide +kernel, rfl, by decide +kernel, by decide +kernel⟩
theorem ok_law25 {f fS fD fT fW fV fDu fLL fCt fTo fE : Addr} {fd dS dD dT dW dV dDu dLL dCt dTo dE : FuncData} {dn dm : Value} (F : Fun K "law" "law" sLaw f fd) (So : Def1 P w K mg base "_law_source" 1 fS dS ["script"] (spSource K)) (D : Def1 P w K mg base "_law_draw" 1 fD dD ["source", "wide"] spDrawC) (Ta : Def1 P w K mg base "_law_table" 2 fT dT ["source", "most"] spTableC)
    (Wh : Def1 P w K mg base "_law_whole" 1 fW dW ["chart"] spWhole) (Va : Def1 P w K mg base "_law_value" 2 fV dV ["source", "chart"] spValue) (Du : Def1 P w K mg base "_law_due" 25 fDu dDu ["chart", "bound"] spDueLL) (LL : Def1 P w K mg base "_law_letters" 2 fLL dLL ["chart", "value"] spLetters)
    (Ct : Def1 P w K mg base "count_with_letters" 5 fCt dCt ["table", "many", "below"] spCountLE) (vC : Vals [V.non] [dn]) (bC : Binds K dCt ["table", "many", "below"] [dn])
    (To : Def1 P w K mg base "total_letters" 5 fTo dTo ["table", "below"] spTotalLE) (vT : Vals [V.non] [dm]) (bT : Binds K dTo ["table", "below"] [dm]) (En : Def1 P w K mg base "english" 1 fE dE ["scales"] spEng) (X : LawNo25 mg) : FnOk P w K mg base CX0 26 f fd ["script"] (spTrue K) := by
  refine F.ok scLaw25 (fun vs H Q E h => ?_) (fun cdv A outer s H vs Q E hr h => ?_)
  · obtain ⟨a, ns, rfl, _⟩ := h
    rfl
  · obtain ⟨a, ns, rfl, hS, hlen, kk⟩ := h
    have hu := hu_of hr
    have hr1 : Room 1 _ := hr.mono (by decide)
    have hr2 : Room 2 _ := hr.mono (by decide)
    have hr5 : Room 5 _ := hr.mono (by decide)
    refine ⟨_, pss_cons (ps_set (i := 1) scLaw25.nd rfl (.inr rfl) (pe_call So.ok hr1 (by rfl) So.g So.k So.b .nil pass0 (pa_cons (pv 0) pa_nil)))
        (pss_cons (ps_for PassesOwn.never rfl (pi_range1 rfl X.range (pa_cons (pe_op op_add pe_int (pe_callB (call_min2 rfl) (by rfl) X.min (by decide +kernel) (pa_cons pe_int (pa_cons (pe_callB call_len_seq (by rfl) X.len PySem.boot_len (pa_cons (pv 0) pa_nil)) pa_nil)))) pa_nil)) (pg_name (i := 2) scLaw25.nd rfl (.inl rfl))
          (pss_mid (ps_set (i := 3) scLaw25.nd rfl (.inl rfl) (pe_call Ta.ok hr2 (by rfl) Ta.g Ta.k Ta.b .nil pass0 (pa_cons (pv 1) (pa_cons (pe_ix ix_list (pe_lst (pa_cons pe_int (pa_cons pe_int pa_nil))) (pe_callTy call_int1 (by rfl) X.int (by decide +kernel) (pa_cons (pe_cmpR op_eq (pv 2) pe_int (nomark _)) pa_nil)) (fun _ _ => rfl)) pa_nil))))
        (pss_mid (ps_set (i := 4) scLaw25.nd rfl (.inl rfl) (pe_call Wh.ok hr1 (by rfl) Wh.g Wh.k Wh.b .nil pass0 (pa_cons (pv 3) pa_nil)))
        (pss_mid (ps_set (i := 5) scLaw25.nd rfl (.inr rfl) (pe_lst (pa_cons (pv 4) (pa_cons (pe_op op_add pe_int (pe_call Va.ok hr2 (by rfl) Va.g Va.k Va.b .nil pass0 (pa_cons (pv 1) (pa_cons (pv 3) pa_nil)))) (pa_cons (pe_op op_fdiv (pv 4) pe_int) (pa_cons (pe_op op_add pe_int (pe_call D.ok hr1 (by rfl) D.g D.k D.b .nil pass0 (pa_cons (pv 1) (pa_cons (pv 4) pa_nil)))) pa_nil))))))
        (pss_mid (ps_set (i := 6) scLaw25.nd rfl (.inl rfl) (pe_ix ix_list (pv 5) (pe_call D.ok hr1 (by rfl) D.g D.k D.b .nil pass0 (pa_cons (pv 1) (pa_cons pe_int pa_nil))) (fun _ _ => rfl)))
        (pss_mid (ps_set (i := 7) scLaw25.nd rfl (.inr rfl) (pe_call Du.ok hr (by rfl) Du.g Du.k Du.b .nil pass0 (pa_cons (pv 3) (pa_cons (pv 6) pa_nil))))
        (pss_mid (ps_if (pt_cmpR op_ne (pe_call To.ok hr5 (by rfl) To.g To.k To.b .nil pass0 (pa_cons (pv 3) (pa_cons (pv 6) pa_nil))) (pe_lock (pe_callB (cr_sum rfl) (by rfl) X.sum (by decide +kernel) (pa_cons (pe_lc (own := [("lots", 8)]) (g := gName 8) (tt := tYes) rfl scLaw25.nd (pi_keys (pv 7)) (blkOk_by (own := [("lots", 8)]) (N := ["script", "source", "k", "chart", "whole", "some", "bound", "due", "lots", "time", "value"]) (sc := defScope sLaw) (by decide +kernel)) (fun _ _ _ _ _ => pg_name (i := 8) scLaw25.nd rfl (Or.inl rfl)) (fun _ _ _ _ _ => pts_nil) (fun _ _ _ _ _ => (pe_op op_mulW (pv 8) (pe_dget hu (pv 7) (pv 8) (fun _ _ => rfl))))) pa_nil))) (nomark _)) (pss_one (ps_ret pe_bl)) pss_nil)
        (pss_mid (ps_set (i := 5) scLaw25.nd rfl (.inr rfl) (pe_callB (cr_sortKeys rfl) (by rfl) X.sorted (by decide +kernel) (pa_cons (pv 7) pa_nil)))
        (pss_mid (ps_for PassesOwn.never rfl (pi_list (pe_op op_cat (pe_lst (pa_cons (pe_ix ix_list (pv 5) pe_int (fun _ _ => rfl)) (pa_cons (pe_ix ix_list (pv 5) (pe_un un_neg pe_int) (fun _ _ => rfl)) (pa_cons (pe_op op_add (pe_ix ix_list (pv 5) (pe_un un_neg pe_int) (fun _ _ => rfl)) pe_int) pa_nil)))) (pe_lc (own := [("time", 9)]) (g := gName 9) (tt := tYes) rfl scLaw25.nd (pi_range1 rfl X.range (pa_cons pe_int pa_nil)) (blkOk_by (own := [("time", 9)]) (N := ["script", "source", "k", "chart", "whole", "some", "bound", "due", "lots", "time", "value"]) (sc := defScope sLaw) (by decide +kernel)) (fun _ _ _ _ _ => pg_name (i := 9) scLaw25.nd rfl (Or.inl rfl)) (fun _ _ _ _ _ => pts_nil) (fun _ _ _ _ _ => (pe_ix (ix_listK K rfl) (pv 5) (pe_call D.ok hr1 (by rfl) D.g D.k D.b .nil pass0 (pa_cons (pv 1) (pa_cons (pe_callB (call_lenK25 K rfl) (by rfl) X.len PySem.boot_len (pa_cons (pv 5) pa_nil)) pa_nil))) (fun _ _ => rfl)))))) (pg_name (i := 8) scLaw25.nd rfl (.inl rfl))
          (pss_cons (ps_if (pt_cmpR op_ne (pe_call Ct.ok hr5 (by rfl) Ct.g Ct.k Ct.b .nil pass0 (pa_cons (pv 3) (pa_cons (pv 8) (pa_cons (pv 6) pa_nil)))) (pe_dget2 hu (pv 7) (pv 8) pe_int ⟨rfl, rfl, rfl, rfl⟩) (nomark _)) (pss_one (ps_ret pe_bl)) pss_nil)
          (pss_one (ps_if (PW.pt (pw_and (pt_cmpR op_eq (pv 6) (pv 4) (nomark _)) (pw_and1 (pt_cmpR op_ne (pe_call Ct.ok hr5 (by rfl) Ct.g Ct.k bC vC pass0 (pa_cons (pv 3) (pa_cons (pv 8) pa_nil))) (pe_dget2 hu (pv 7) (pv 8) pe_int ⟨rfl, rfl, rfl, rfl⟩) (nomark _))))) (pss_one (ps_ret pe_bl)) pss_nil))))
        (pss_one (ps_if (PW.pt (pw_and (pt_cmpR op_eq (pv 6) (pv 4) (nomark _)) (pw_and1 (pt_cmpR op_ne (pe_call To.ok hr5 (by rfl) To.g To.k bT vT pass0 (pa_cons (pv 3) pa_nil)) (pe_call To.ok hr5 (by rfl) To.g To.k To.b .nil pass0 (pa_cons (pv 3) (pa_cons pe_non pa_nil))) (nomark _))))) (pss_one (ps_ret pe_bl)) pss_nil)))))))))))
        (pss_one (ps_ret (pe_cmpR op_eq (pe_call To.ok hr5 (by rfl) To.g To.k bT vT pass0 (pa_cons (pe_call En.ok hr1 (by rfl) En.g En.k En.b .nil pass0 (pa_cons pe_int pa_nil)) pa_nil)) (pe_callB (cr_sum rfl) (by rfl) X.sum (by decide +kernel) (pa_cons (pe_lc (own := [("value", 10)]) (g := gName 10) (tt := tYes) rfl scLaw25.nd (pi_range1 rfl X.range (pa_cons pe_int pa_nil)) (blkOk_by (own := [("value", 10)]) (N := ["script", "source", "k", "chart", "whole", "some", "bound", "due", "lots", "time", "value"]) (sc := defScope sLaw) (by decide +kernel)) (fun _ _ _ _ _ => pg_name (i := 10) scLaw25.nd rfl (Or.inl rfl)) (fun _ _ _ _ _ => pts_nil) (fun _ _ _ _ _ => (pe_call LL.ok hr2 (by rfl) LL.g LL.k LL.b .nil pass0 (pa_cons (pe_call En.ok hr1 (by rfl) En.g En.k En.b .nil pass0 (pa_cons pe_int pa_nil)) (pa_cons (pv 10) pa_nil))))) pa_nil)) (nomark _))))), ?_⟩
    have big : 200000 ≤ sizeLine := by decide
    refine ⟨_, rfl, a, ns, rfl, hS, hlen, fun p G gs0 m0 H1 np nG B1 s1 => ?_⟩
    have hn : ∃ m : Nat, (2 + if (((ns.map V.int).length : Nat) : Int) < 2 then (((ns.map V.int).length : Nat) : Int) else 2) = (m : Int) ∧ m ≤ 4 := by
      refine ⟨(2 + if (((ns.map V.int).length : Nat) : Int) < 2 then (((ns.map V.int).length : Nat) : Int) else 2).toNat, ?_, ?_⟩ <;> split <;> omega
    obtain ⟨nn, hm, m6⟩ := hn
    refine ⟨_, rfl, a, _, rfl, .inl (s1.seq hS), _, _, rfl, _, _, rfl, rfl, (nn : Int), congrArg (fun z => [V.int z]) hm, by omega, by omega, ?_⟩
    refine for_range (lo := 0) (n := ((nn : Int)).toNat) (fun i σ H2 => ∃ (x2 x3 x4 x5 x6 x7 x8 x9 x10 : Option V) (gs : List Int) (l c : Int), σ = [some (.ref a), some (.ref p), x2, x3, x4, x5, x6, x7, x8, x9, x10] ∧ SrcAt H2 p G gs l m0 c ∧ c ≤ 10000 * (i : Int)) ⟨none, none, none, none, none, none, none, none, none, gs0, 0, 0, rfl, B1, by omega⟩ ?_ ?_
    · rintro i σ H2 hi ⟨x2, x3, x4, x5, x6, x7, x8, x9, x10, gs2, l2, c2, rfl, B2, e2⟩
      have i6 : i < 6 := by omega
      -- chart
      refine ⟨fun τ G3 => ∃ (t o te sc : Addr) (ones tens : List Str) (hun : Str) (scales : List Str) (gs : List Int) (l c : Int), τ = [some (.ref a), some (.ref p), some (.int (0 + (i : Int))), some (.ref t), x4, x5, x6, x7, x8, x9, x10] ∧ TabC G3 p G t ones tens hun scales o te sc ∧ scales.length ≤ 20 ∧ SrcAt G3 p G gs l m0 c ∧ c ≤ c2 + 2000, ?_, ?_⟩
      · refine ⟨_, rfl, by show 2 ≤ sizeLine; omega, fun L nL => ?_⟩
        have sL := same_new (x := .lst [.int 4, .int 20]) nL
        have Ln := B2.free nL
        obtain ⟨ixv, hix, wd, hwd, w0, w1⟩ : ∃ ixv : Int, (if decide (V.int (0 + (i : Int)) = V.int 0) = true then 1 else 0) = ixv ∧ ∃ wd : Int, atI [V.int 4, V.int 20] ixv = some (.int wd) ∧ 0 ≤ wd ∧ wd ≤ 20 := by
          by_cases c : decide (V.int (0 + (i : Int)) = V.int 0) = true
          · exact ⟨1, if_pos c, 20, rfl, by decide, by decide⟩
          · exact ⟨0, if_neg c, 4, rfl, by decide, by decide⟩
        refine ⟨_, rfl, rfl, .inr ⟨_, rfl, ?_⟩⟩
        rw [hix]
        refine ⟨L, _, _, _, rfl, rfl, SqL.of upd_same, hwd, p, G, gs2, l2, m0, c2, wd, rfl, B2.same sL, w0, w1, by omega, fun t o te sc ones tens hun scales gs3 l3 c3 G3 nt T3 s20 B3 e3 K3 => ?_⟩
        exact ⟨t, o, te, sc, ones, tens, hun, scales, gs3, l3, c3, rfl, T3, by omega, B3, e3⟩
      rintro τ G3 ⟨t, o, te, sc, ones, tens, hun, scales, gs3, l3, c3, rfl, T3, s20, B3, e3⟩
      have good := T3.tab.good
      obtain ⟨Wn, hWn⟩ : ∃ Wn, Wn = 1000 ^ (scales.length + 1) := ⟨_, rfl⟩
      have WI : Bg.W (scales.length + 1) = (Wn : Int) := by rw [W_nat, hWn]
      have W1000 : 1000 ≤ Wn := by
        rw [hWn, pw_succ]
        have := pw_pos scales.length
        omega
      have Wbig : ((Wn : Nat) : Int).natAbs < 2 ^ 1000 := by
        rw [Int.natAbs_natCast, hWn]
        refine Nat.lt_of_le_of_lt (Nat.pow_le_pow_right (by decide) (show scales.length + 1 ≤ 21 by omega)) (Nat.lt_of_lt_of_le (show 1000 ^ 21 < 2 ^ 250 by decide) (Nat.pow_le_pow_right (by decide) (by decide)))
      -- whole
      refine ⟨fun τ G4 => G4 = G3 ∧ τ = [some (.ref a), some (.ref p), some (.int (0 + (i : Int))), some (.ref t), some (.int (Wn : Int)), x5, x6, x7, x8, x9, x10], ?_, ?_⟩
      · refine ⟨_, rfl, t, o, te, sc, ones, tens, hun, scales, rfl, T3.tab, rfl, ?_⟩
        rw [WI]
        rfl
      rintro τ G4 ⟨rfl, rfl⟩
      -- some
      refine ⟨fun τ G5 => ∃ (L : Addr) (vs : List Int) (gs : List Int) (l c : Int), τ = [some (.ref a), some (.ref p), some (.int (0 + (i : Int))), some (.ref t), some (.int (Wn : Int)), some (.ref L), x6, x7, x8, x9, x10] ∧ G5 L = some (.lst (vs.map V.int)) ∧ vs.length = 4 ∧ (∀ x ∈ vs, 1 ≤ x ∧ x ≤ (Wn : Int)) ∧ L ≠ p ∧ L ≠ G ∧ TabC G5 p G t ones tens hun scales o te sc ∧ SrcAt G5 p G gs l m0 c ∧ c ≤ c3 + 401, ?_, ?_⟩
      · refine ⟨_, rfl, _, rfl, _, rfl, p, G, gs3, l3, m0, c3, t, o, te, sc, ones, tens, hun, scales, rfl, B3, T3, by omega, fun n gs4 l4 c4 G5 n0 n1 B4 e4 K4 => ?_⟩
        rw [WI] at n1
        refine ⟨_, _, rfl, rfl, _, rfl, _, _, rfl, rfl, ⟨by decide, by decide⟩, _, rfl, _, rfl, p, G, gs4, l4, m0, c4, _, rfl, B4, by omega, Wbig, by omega, fun r gs5 l5 c5 G6 r0 r1 e5 B5 K5 => ?_⟩
        refine ⟨_, _, rfl, rfl, by show 4 ≤ sizeLine; omega, fun L nL => ?_⟩
        have sL := same_new (x := .lst [.int (Wn : Int), .int (1 + n), .int ((Wn : Int) / 1000), .int (1 + r)]) nL
        have Ln := B5.free nL
        refine ⟨L, [(Wn : Int), 1 + n, (Wn : Int) / 1000, 1 + r], gs5, l5, c5, rfl, upd_same, rfl, fun x hx => ?_, Ln.1, Ln.2, ((T3.kq K4).kq K5).same sL, B5.same sL, by omega⟩
        simp only [List.mem_cons, List.not_mem_nil, or_false] at hx
        rcases hx with rfl | rfl | rfl | rfl <;> omega
      rintro τ G5 ⟨L, vs, gs5, l5, c5, rfl, hL, vl, vb, Lp, LG, T5, B5, e5⟩
      -- bound
      refine ⟨fun τ G6 => ∃ (B : Nat) (gs : List Int) (l c : Int), τ = [some (.ref a), some (.ref p), some (.int (0 + (i : Int))), some (.ref t), some (.int (Wn : Int)), some (.ref L), some (.int (B : Int)), x7, x8, x9, x10] ∧ 1 ≤ B ∧ B ≤ Wn ∧ TabC G6 p G t ones tens hun scales o te sc ∧ SrcAt G6 p G gs l m0 c ∧ c ≤ c3 + 402, ?_, ?_⟩
      · refine ⟨_, rfl, _, rfl, p, G, gs5, l5, m0, c5, 4, rfl, B5, by decide, by decide, by omega, fun r gs6 l6 c6 G6 r0 r1 e6 B6 K6 => ?_⟩
        have hr' : r.toNat < vs.length := by omega
        have bb := vb _ (List.getElem_mem hr')
        obtain ⟨B, hB⟩ : ∃ B : Nat, vs[r.toNat] = (B : Int) := ⟨(vs[r.toNat]).toNat, by omega⟩
        have at_ : atI (vs.map V.int) r = some (.int (B : Int)) := by
          rw [show r = ((r.toNat : Nat) : Int) by omega]
          exact atI_nat (by rw [List.getElem?_map, List.getElem?_eq_getElem hr', hB]; rfl)
        refine ⟨L, _, _, _, rfl, rfl, SqL.of (K6 _ _ hL Lp LG), at_, ?_⟩
        exact ⟨B, gs6, l6, c6, rfl, by omega, by omega, T5.kq K6, B6, by omega⟩
      rintro τ G6 ⟨B, gs6, l6, c6, rfl, Bl, Bu, T6, B6, e6⟩
      have hmost : (V.int (B : Int) = .non ∨ ∃ b : Int, V.int (B : Int) = .int b ∧ 1 ≤ b ∧ b ≤ Bg.W (scales.length + 1)) := .inr ⟨_, rfl, by omega, by omega⟩
      -- due
      refine ⟨fun τ G7 => ∃ (q : Addr) (es : List (Nat × Nat)), τ = [some (.ref a), some (.ref p), some (.int (0 + (i : Int))), some (.ref t), some (.int (Wn : Int)), some (.ref L), some (.int (B : Int)), some (.ref q), x8, x9, x10] ∧ G6 q = none ∧ G7 q = some (.dK (es.map ent)) ∧ Spr es (fL ones tens hun scales) B ∧ (∀ e ∈ es, e.1 ≤ 2100) ∧ Same G6 G7, ?_, ?_⟩
      · refine ⟨_, rfl, _, rfl, t, o, te, sc, ones, tens, hun, scales, B, rfl, T6.tab, s20, Bl, by rw [← hWn]; exact Bu, fun q J N => ?_⟩
        obtain ⟨n1, n2, es, n3, n4, n5⟩ := N
        exact ⟨q, es, rfl, n1, n3, n4, n5, n2⟩
      rintro τ G7 ⟨q, es, rfl, nq, hq, C, eb, s7⟩
      have few := keys_few C.nd eb
      have hcnt : ∀ n : Nat, sumE (ind n) es = cntL ones tens hun scales (n : Int) B := fun n => by
        rw [C.sum]
        refine sm_congr B fun v _ => ?_
        unfold ind
        by_cases c : fL ones tens hun scales v = n
        · rw [if_pos c, if_pos (by rw [c])]
        · rw [if_neg c, if_neg (show ¬ ((fL ones tens hun scales v : Nat) : Int) = (n : Int) from fun e => c (by omega))]
      have htot : sumE (fun k => k) es = totL ones tens hun scales B := C.sum _
      have T7 := T6.same s7
      have B7 := B6.same s7
      obtain ⟨tot, hT⟩ : ∃ tot : Int, tot = ((totL ones tens hun scales B : Nat) : Int) := ⟨_, rfl⟩
      -- all letters
      refine ⟨fun τ J => τ = [some (.ref a), some (.ref p), some (.int (0 + (i : Int))), some (.ref t), some (.int (Wn : Int)), some (.ref L), some (.int (B : Int)), some (.ref q), x8, x9, x10] ∧ Same G7 J, ?_, ?_⟩
      · refine ⟨_, rfl, _, rfl, t, o, te, sc, ones, tens, hun, scales, _, rfl, T7.tab, s20, hmost, fun J1 t1 => ?_⟩
        have hq1 := t1 _ _ hq
        refine ⟨q, _, hq1, trivial, fun od => ?_⟩
        refine ⟨_, rfl, q, od, rfl, .inl ⟨_, upd_same, fun D nD => ?_⟩⟩
        have qD : q ≠ D := ne_of_none upd_same nD
        have nD1 : J1 D = none := by
          rw [upd_ne qD.symm] at nD
          exact nD
        refine lc_it walk_keys (fun j J => J D = some (.lst (intsN ((es.take j).map fun e => e.1 * e.2))) ∧ J q = some (.frz od (.dK (es.map ent))) ∧ Same (upd J1 q (.frz od (.dK (es.map ent)))) J) ⟨upd_same, (upd_ne qD).trans upd_same, same_new nD⟩ (fun j J _ ⟨_, h, _⟩ => h) ?_ ?_
        · rintro j x J J' hj ⟨hD, hqJ, sJ⟩ ⟨rfl, kk', vv, hkv, rfl⟩
          rw [List.length_map] at hj
          rw [List.getElem?_map, List.getElem?_eq_getElem hj] at hkv
          obtain ⟨ka, ca, hab⟩ : ∃ ka ca, es[j] = (ka, ca) := ⟨_, _, rfl⟩
          have mab : (ka, ca) ∈ es := hab ▸ List.getElem_mem hj
          rw [hab] at hkv
          obtain ⟨rfl, rfl⟩ : kk' = Sum.inl (ka : Int) ∧ vv = V.int (ca : Int) := by
            have := Option.some.inj hkv
            exact ⟨(congrArg Prod.fst this).symm, (congrArg Prod.snd this).symm⟩
          have va := (val_at C.nd mab).1
          have kab := eb _ mab
          have cab : ca ≤ B := Spr.le C _ mab
          have w1 : ((ka : Nat) : Int).natAbs < 2 ^ 20 := by omega
          have w2 : ((ca : Nat) : Int).natAbs < 2 ^ 250 := by
            rw [Int.natAbs_natCast]
            refine Nat.lt_of_le_of_lt (Nat.le_trans cab Bu) ?_
            rw [hWn]
            exact Nat.lt_of_le_of_lt (Nat.pow_le_pow_right (by decide) (show scales.length + 1 ≤ 21 by omega)) (by decide)
          refine ⟨rfl, _, rfl, _, rfl, _, rfl, q, _, rfl, .inl ⟨es.map ent, Sum.inl ((ka : Nat) : Int), .inr ⟨od, hqJ⟩, rfl, va.symm⟩, _, _, rfl, rfl, wide_mul w1 w2 (by decide) (by decide) (by decide), ?_⟩
          refine ⟨_, hD, by rw [intsN_len, List.length_map, List.length_take]; omega, ?_, (upd_ne qD).trans hqJ, fun r ob e => ?_⟩
          · rw [upd_same, List.take_add_one, List.getElem?_eq_getElem hj, List.map_append, intsN_app, hab]
            show some (HO.lst (_ ++ [V.int (((ka : Nat) : Int) * ((ca : Nat) : Int))])) = some (HO.lst (_ ++ [V.int ((ka * ca : Nat) : Int)]))
            rw [Int.natCast_mul]
          · rw [upd_ne (ne_of_none e nD)]
            exact sJ _ _ e
        · rintro J ⟨hD, hqJ, sJ⟩
          rw [List.length_map, List.take_length] at hD
          obtain ⟨ns', hns, hsum⟩ := intsN_sum (es.map fun e => e.1 * e.2)
          refine ⟨D, ns', rfl, SqL.of (hD.trans (by rw [hns])), hqJ, ?_⟩
          have e1 : ns'.sum = tot := by
            rw [hsum, hT, ← htot]
            unfold sumE
            exact congrArg (fun l : List Nat => ((l.sum : Nat) : Int)) (List.map_congr_left fun e _ => Nat.mul_comm _ _)
          have e2 : ((totL ones tens hun scales (bnd (Bg.W (scales.length + 1)) (.int (B : Int))).toNat : Nat) : Int) = tot := by rw [hT]; rfl
          rw [e1, e2]
          refine ⟨rfl, _, rfl, iteNS rfl ⟨rfl, Same.trans t1 (unlock_sameA hq1 sJ)⟩⟩
      rintro τ J8 ⟨rfl, s8⟩
      have hq8 := s8 _ _ hq
      have T8 := T7.same s8
      have B8 := B7.same s8
      -- some, sorted
      have esn : 0 < es.length := by
        rcases Nat.eq_zero_or_pos es.length with z | z
        · have e0 : es = [] := List.eq_nil_of_length_eq_zero z
          have := C.sum (fun _ => 1)
          rw [e0, sm_const] at this
          have : 0 = B * 1 := this
          omega
        · exact z
      refine ⟨fun τ J => ∃ (Pa : Addr) (ys : List Nat), τ = [some (.ref a), some (.ref p), some (.int (0 + (i : Int))), some (.ref t), some (.int (Wn : Int)), some (.ref Pa), some (.int (B : Int)), some (.ref q), x8, x9, x10] ∧ J Pa = some (.lst (intsN ys)) ∧ 0 < ys.length ∧ ys.length ≤ 2101 ∧ (∀ y ∈ ys, y ≤ 2100) ∧ Pa ≠ p ∧ Pa ≠ G ∧ Same J8 J, ?_, ?_⟩
      · refine ⟨_, rfl, q, _, es.map (fun e => ((e.1 : Nat) : Int)), rfl, .inl hq8, by rw [List.map_map, List.map_map]; rfl, by rw [List.length_map]; omega, fun ys Pa perm _ nP => ?_⟩
        have Pn := B8.free nP
        have ym : ∀ y ∈ ys, ∃ e ∈ es, y = ((e.1 : Nat) : Int) := fun y hy => by
          obtain ⟨e, he, rfl⟩ := List.mem_map.mp (perm.mem_iff.mp hy)
          exact ⟨e, he, rfl⟩
        have yE : ys.map V.int = intsN (ys.map Int.toNat) := by
          unfold intsN
          rw [List.map_map]
          refine List.map_congr_left fun y hy => ?_
          obtain ⟨e, _, rfl⟩ := ym y hy
          rfl
        refine ⟨Pa, ys.map Int.toNat, rfl, by rw [upd_same, yE], ?_, ?_, fun y hy => ?_, Pn.1, Pn.2, same_new nP⟩
        · rw [List.length_map, perm.length_eq, List.length_map]; exact esn
        · rw [List.length_map, perm.length_eq, List.length_map]; exact few
        · obtain ⟨z, hz, rfl⟩ := List.mem_map.mp hy
          obtain ⟨e, he, rfl⟩ := ym z hz
          exact eb e he
      rintro τ J9 ⟨Pa, ys, rfl, hPa, y0, y1, yb, Pp, PG, s9⟩
      have T9 := T8.same s9
      have B9 := B8.same s9
      have hq9 := s9 _ _ hq8
      have qp : q ≠ p := (B6.free nq).1
      have qG : q ≠ G := (B6.free nq).2
      obtain ⟨yf, hyf⟩ : ∃ y, ys[0]? = some y := ⟨ys[0], List.getElem?_eq_getElem y0⟩
      obtain ⟨pre, yl, hpre⟩ : ∃ pre last, ys = pre ++ [last] := ⟨ys.dropLast, ys.getLast (fun e => by rw [e] at y0; exact absurd y0 (by decide)), (List.dropLast_concat_getLast _).symm⟩
      have yfb := yb yf (List.mem_of_getElem? hyf)
      have ylb := yb yl (by rw [hpre]; exact List.mem_append_right _ (List.mem_singleton.mpr rfl))
      have atf : atI (intsN ys) 0 = some (.int (yf : Int)) := atI_nat (j := 0) (intsN_at hyf)
      have atl : atI (intsN ys) (-1) = some (.int (yl : Int)) := by rw [hpre, intsN_app]; exact atI_last _ _
      -- one by one
      refine ⟨fun τ J => ∃ (y8 : Option V) (gs : List Int) (l c : Int), τ = [some (.ref a), some (.ref p), some (.int (0 + (i : Int))), some (.ref t), some (.int (Wn : Int)), some (.ref Pa), some (.int (B : Int)), some (.ref q), y8, x9, x10] ∧ TabC J p G t ones tens hun scales o te sc ∧ SrcAt J p G gs l m0 c ∧ c ≤ c3 + 405, ?_, ?_⟩
      · refine ⟨_, rfl, Pa, _, _, _, rfl, rfl, SqL.of hPa, atf, _, rfl, _, rfl, Pa, _, _, _, rfl, rfl, SqL.of hPa, atl, _, rfl, _, rfl, Pa, _, _, _, rfl, rfl, SqL.of hPa, atl, _, _, rfl, rfl, by show 3 ≤ sizeLine; omega, fun L2 nL2 => ?_⟩
        have L2n := B9.free nL2
        have sL2 := same_new (x := .lst [.int (yf : Int), .int (yl : Int), .int ((yl : Int) + 1)]) nL2
        have hL2 : (upd J9 L2 (.lst [.int (yf : Int), .int (yl : Int), .int ((yl : Int) + 1)])) L2 = some (.lst (intsN [yf, yl, yl + 1])) := upd_same
        revert sL2 hL2
        generalize upd J9 L2 (.lst [.int (yf : Int), .int (yl : Int), .int ((yl : Int) + 1)]) = Ja
        intro sL2 hL2
        have Ta := T9.same sL2
        have Ba := B9.same sL2
        refine ⟨3, rfl, by decide, by decide, fun D nD => ?_⟩
        have Dn := Ba.free nD
        refine lc_range (lo := 0) (n := (3 : Int).toNat) (fun j J => ∃ (zs : List Nat) (gs : List Int) (l c : Int), J D = some (.lst (intsN zs)) ∧ zs.length = j ∧ (∀ z ∈ zs, z ≤ 2100) ∧ J Pa = some (.lst (intsN ys)) ∧ J L2 = some (.lst (intsN [yf, yl, yl + 1])) ∧ J q = some (.dK (es.map ent)) ∧ TabC J p G t ones tens hun scales o te sc ∧ SrcAt J p G gs l m0 c ∧ c ≤ c3 + 402 + (j : Int)) ?_ ?_ ?_
        · have sD := same_new (x := .lst []) nD
          exact ⟨[], gs6, l6, c6, upd_same, rfl, fun z h => (nomatch h), sD _ _ (sL2 _ _ hPa), sD _ _ hL2, sD _ _ (sL2 _ _ hq9), Ta.same sD, Ba.same sD, by omega⟩
        · rintro j J hj ⟨zs, gs, l, c, hD, zl, zb, hPJ, hL2J, hqJ, TJ, BJ, cJ⟩
          have hj : j < 3 := hj
          refine ⟨rfl, ?_⟩
          refine ⟨_, rfl, _, rfl, _, rfl, Pa, _, rfl, .inl (SqL.of hPJ), p, G, gs, l, m0, c, _, rfl, BJ, by rw [intsN_len]; omega, ?_, by omega, fun r gs' l' c' J' r0 r1 e' B' K' => ?_⟩
          · rw [intsN_len, Int.natAbs_natCast]
            exact Nat.lt_of_le_of_lt y1 (Nat.lt_of_lt_of_le (show 2101 < 2 ^ 20 by decide) (Nat.pow_le_pow_right (by decide) (by decide)))
          rw [intsN_len] at r1
          have rl : r.toNat < ys.length := by omega
          have ar : atI (intsN ys) r = some (.int ((ys[r.toNat] : Nat) : Int)) := by
            have e : r = ((r.toNat : Nat) : Int) := by omega
            have := atI_nat (j := r.toNat) (intsN_at (List.getElem?_eq_getElem rl))
            rw [← e] at this
            exact this
          refine ⟨Pa, _, _, _, rfl, rfl, SqL.of (K' _ _ hPJ Pp PG), ar, ?_⟩
          have D1 := Dn.1
          have D2 := Dn.2
          have keepD : ∀ {b : Addr} {ob : HO}, b ≠ D → J' b = some ob → (upd J' D (.lst (intsN zs ++ [V.int ((ys[r.toNat] : Nat) : Int)]))) b = some ob := fun h e => (upd_ne h).trans e
          have hPD : Pa ≠ D := ne_of_none (sL2 _ _ hPa) nD
          have hLD : L2 ≠ D := ne_of_none hL2 nD
          have hqD : q ≠ D := ne_of_none (sL2 _ _ hq9) nD
          have TJ' := TJ.kq K'
          refine ⟨_, K' _ _ hD D1 D2, by rw [intsN_len, zl]; omega, zs ++ [ys[r.toNat]], gs', l', c', by rw [upd_same, intsN_app]; rfl, by rw [List.length_append, zl]; rfl, fun z hz => ?_, keepD hPD (K' _ _ hPJ Pp PG), keepD hLD (K' _ _ hL2J L2n.1 L2n.2), keepD hqD (K' _ _ hqJ qp qG), ?_, ?_, by omega⟩
          · rcases List.mem_append.mp hz with h | h
            · exact zb z h
            · rw [List.mem_singleton.mp h]
              exact yb _ (List.getElem_mem rl)
          · have d1 := ne_of_none Ta.tab.tb.at_.tup nD
            have d2 := ne_of_none Ta.tab.tb.at_.lo nD
            have d3 := ne_of_none Ta.tab.tb.at_.lt nD
            have d4 := ne_of_none Ta.tab.tb.at_.ls nD
            exact ⟨⟨⟨⟨keepD d1 TJ'.tab.tb.at_.tup, keepD d2 TJ'.tab.tb.at_.lo, keepD d3 TJ'.tab.tb.at_.lt, keepD d4 TJ'.tab.tb.at_.ls⟩, TJ'.tab.tb.l1, TJ'.tab.tb.l2, TJ'.tab.tb.l3, TJ'.tab.tb.nd⟩, TJ'.tab.good⟩, TJ'.n1, TJ'.n2, TJ'.n3, TJ'.n4⟩
          · exact ⟨keepD D1.symm B'.at_, keepD D2.symm B'.list, B'.gnn, B'.l0, B'.m0, B'.m1, B'.c0, B'.few, B'.ne⟩
        · rintro J ⟨zs, gs, l, c, hD, zl, zb, hPJ, hL2J, hqJ, TJ, BJ, cJ⟩
          have cJ : c ≤ c3 + 405 := by
            have : c ≤ c3 + 402 + ((3 : Nat) : Int) := cJ
            omega
          have zl : zs.length = 3 := zl
          refine ⟨L2, D, _, _, rfl, rfl, hL2J, hD, by rw [intsN_len, intsN_len, zl]; show 3 + 3 ≤ sizeLine; omega, fun qq nqq => ?_⟩
          rw [← intsN_app]
          obtain ⟨us, hus⟩ : ∃ us, us = [yf, yl, yl + 1] ++ zs := ⟨_, rfl⟩
          have ub : ∀ u ∈ us, u ≤ 2101 := fun u hu => by
            rw [hus] at hu
            rcases List.mem_append.mp hu with h | h
            · simp only [List.mem_cons, List.not_mem_nil, or_false] at h
              rcases h with rfl | rfl | rfl <;> omega
            · have := zb u h
              omega
          rw [← hus]
          have sq := same_new (x := .lst (intsN us)) nqq
          have hqq : (upd J qq (.lst (intsN us))) qq = some (.lst (intsN us)) := upd_same
          revert sq hqq
          generalize upd J qq (.lst (intsN us)) = Jb
          intro sq hqq
          refine ⟨qq, rfl, ⟨_, SqL.of hqq⟩, for_list (K := K) (a := qq) (xs := intsN us) (fun j σ J2 => ∃ (y8 : Option V), σ = [some (.ref a), some (.ref p), some (.int (0 + (i : Int))), some (.ref t), some (.int (Wn : Int)), some (.ref Pa), some (.int (B : Int)), some (.ref q), y8, x9, x10] ∧ Same Jb J2) ⟨x8, rfl, Same.refl _⟩ (fun j σ J2 _ ⟨_, _, s⟩ => SqL.of (s _ _ hqq)) ?_ ?_⟩
          · rintro j y σ J2 hj ⟨y8, rfl, s2⟩
            obtain ⟨n, hn', rfl⟩ := intsN_get hj
            have nb := ub n (List.mem_of_getElem? hn')
            have nn : ((n : Nat) : Int).natAbs < 2 ^ 190 := by
              rw [Int.natAbs_natCast]
              exact Nat.lt_of_le_of_lt nb (by decide)
            have T2 := (TJ.tab.same sq).same s2
            obtain ⟨cn, hcn⟩ : ∃ cn : Int, cn = ((cntL ones tens hun scales (n : Int) B : Nat) : Int) := ⟨_, rfl⟩
            have vget : (valV (es.map ent) (Sum.inl (n : Int) : Key)).getD (.int 0) = .int cn := by rw [val_ind C.nd n, hcnt n, hcn]
            refine ⟨_, rfl, _, rfl, _, rfl, t, o, te, sc, ones, tens, hun, scales, (n : Int), _, rfl, T2, s20, hmost, nn, fun J3 t3 => ?_⟩
            have hq3 := t3 _ _ (s2 _ _ (sq _ _ hqJ))
            have e3 : ((cntL ones tens hun scales (n : Int) (bnd (Bg.W (scales.length + 1)) (.int (B : Int))).toNat : Nat) : Int) = cn := by rw [hcn]; rfl
            rw [e3]
            refine ⟨_, rfl, q, rfl, .inl ⟨_, .inl hq3⟩, _, rfl, _, DGet.k (k := Sum.inl (n : Int)) hq3, ?_⟩
            rw [vget]
            refine ⟨rfl, _, rfl, iteNS rfl ?_⟩
            refine ⟨_, rfl, _, rfl, rfl, _, rfl, ite2 (fun cW => ?_) (fun _ => ⟨_, rfl, Same.trans s2 t3⟩)⟩
            have cW : (B : Int) = (Wn : Int) := V.int.inj (of_decide_eq_true cW)
            refine ⟨_, rfl, _, rfl, t, o, te, sc, ones, tens, hun, scales, (n : Int), _, rfl, T2.same t3, s20, .inl rfl, nn, fun J4 t4 => ?_⟩
            have hq4 := t4 _ _ hq3
            have e4 : ((cntL ones tens hun scales (n : Int) (bnd (Bg.W (scales.length + 1)) .non).toNat : Nat) : Int) = cn := by
              rw [hcn]
              show ((cntL ones tens hun scales (n : Int) (Bg.W (scales.length + 1)).toNat : Nat) : Int) = _
              rw [WI, ← cW]
              rfl
            rw [e4]
            refine ⟨_, rfl, q, rfl, .inl ⟨_, .inl hq4⟩, _, rfl, _, DGet.k (k := Sum.inl (n : Int)) hq4, ?_⟩
            rw [vget]
            exact ⟨rfl, _, rfl, iteNS rfl ⟨_, rfl, Same.trans s2 (Same.trans t3 t4)⟩⟩
          · rintro σ J2 ⟨y8, rfl, s2⟩
            exact ⟨y8, gs, l, c, rfl, (TJ.same sq).same s2, (BJ.same sq).same s2, cJ⟩
      rintro τ J10 ⟨y8, gs, l, c, rfl, T10, B10, cb⟩
      refine ⟨_, rfl, _, rfl, rfl, _, rfl, ite2 (fun _ => ?_) (fun _ => ?_)⟩
      · refine ⟨_, rfl, t, o, te, sc, ones, tens, hun, scales, _, rfl, T10.tab, s20, .inl rfl, fun J1 t1 => ?_⟩
        refine ⟨_, rfl, t, o, te, sc, ones, tens, hun, scales, _, rfl, T10.tab.same t1, s20, .inl rfl, fun J2 t2 => ?_⟩
        refine ⟨rfl, _, rfl, iteNS rfl ?_⟩
        exact ⟨_, _, _, _, _, _, _, _, _, gs, l, c, rfl, B10.same (Same.trans t1 t2), by omega⟩
      · exact ⟨_, _, _, _, _, _, _, _, _, gs, l, c, rfl, B10, by omega⟩
    · rintro σ H2 ⟨x2, x3, x4, x5, x6, x7, x8, x9, x10, gs2, l2, c2, rfl, B2, e2⟩
      refine ⟨0, rfl, by decide, fun t o te sc G1 nt ns' s T => ?_⟩
      refine ⟨t, o, te, sc, _, _, _, _, .non, rfl, T, by decide, .inl rfl, fun G2 s2 => ?_⟩
      refine ⟨1000, rfl, by decide, by decide, fun D nD => ?_⟩
      refine lc_range (lo := 0) (n := (1000 : Int).toNat) (fun j J => J D = some (.lst (intsN ((List.range j).map (fL enOnes enTens enHun (enScales.take 0))))) ∧ Same G2 J) ⟨upd_same, same_new nD⟩ ?_ ?_
      · rintro j J hj ⟨hD, sJ⟩
        have hj : j < 1000 := hj
        refine ⟨rfl, ?_⟩
        refine ⟨0, rfl, by decide, fun t' o' te' sc' G3 nt' ns2 s3 T' => ?_⟩
        refine ⟨_, rfl, t', o', te', sc', _, _, _, _, (0 : Int) + (j : Int), rfl, T', by omega, by show _ < (1000 : Int) ^ 1; omega, fun J' s4 => ?_⟩
        have eL : lettersN enOnes enTens enHun (enScales.take 0) (0 + (j : Int)) = ((fL enOnes enTens enHun (enScales.take 0) j : Nat) : Int) := by rw [Int.zero_add]; exact fL_eq _ _ _ _ j
        have s5 := Same.trans s3 s4
        refine ⟨_, s5 _ _ hD, by rw [intsN_len, List.length_map, List.length_range]; omega, ?_, fun r o e => ?_⟩
        · rw [upd_same, List.range_succ, List.map_append, intsN_app]
          exact congrArg (fun z => some (HO.lst (intsN ((List.range j).map (fL enOnes enTens enHun (enScales.take 0))) ++ [V.int z]))) eL
        · rw [upd_ne (ne_of_none e nD)]
          exact s5 _ _ (sJ _ _ e)
      · rintro J ⟨hD, sJ⟩
        obtain ⟨ns', hns, hsum⟩ := intsN_sum ((List.range 1000).map (fL enOnes enTens enHun (enScales.take 0)))
        refine ⟨D, ns', rfl, SqL.of (hD.trans (by rw [← hns]; rfl)), ?_⟩
        rw [map_sm] at hsum
        rw [hsum]
        refine ⟨rfl, ?_⟩
        have e : ((totL enOnes enTens enHun (enScales.take 0) (bnd (Bg.W ((enScales.take 0).length + 1)) .non).toNat : Nat) : Int) = ((sm (fL enOnes enTens enHun (enScales.take 0)) 1000 : Nat) : Int) := rfl
        show Q (.bl (decide (V.int _ = V.int _))) J
        rw [decide_eq_true (congrArg V.int e)]
        exact kk _
end
end LB
set_option Elab.async false
set_option linter.all false
set_option maxRecDepth 100000
set_option maxHeartbeats 8000000
/-! What the top has written: tuples of texts, defs with a default. -/
namespace LB
open PySem L2 Wk
def isStrV : Value → Bool
  | .str _ _ => true
  | _ => false
theorem strs_vals : ∀ {l : List Value}, l.all isStrV = true → ∃ xs, xs.length = l.length ∧ Vals xs l
  | [], _ => ⟨[], rfl, .nil⟩
  | v :: l, h => by
    rw [List.all_cons, Bool.and_eq_true] at h
    obtain ⟨xs, e, r⟩ := strs_vals h.2
    cases v with
    | str x t => exact ⟨.str x :: xs, congrArg Nat.succ e, .cons ⟨t, rfl⟩ r⟩
    | _ => cases h.1
/-- a tuple of texts at the top -/
def TupAt (K : PySem.W.Frag) (x : Str) (n : Nat) (E : Addr) : Prop := PySem.W.nsIn K mainGlobals x = some (some (.ref E)) ∧ ∃ (o : Obj) (its : Array Value) (m : Nat), K.lookup E = some o ∧ o.cls = .type "tuple" ∧ o.data = .seq its m ∧ its.size = n ∧ its.toList.all isStrV = true
theorem tup_at {K : PySem.W.Frag} {x : Str} {n : Nat} {E : Addr} {o : Obj} {its : Array Value} {m : Nat} (a : PySem.W.nsIn K mainGlobals x = some (some (.ref E))) (l : K.lookup E = some o) (c : o.cls = .type "tuple") (d : o.data = .seq its m) (s : its.size = n)
    (f : its.toList.all isStrV = true) : TupAt K x n E := ⟨a, o, its, m, l, c, d, s, f⟩
theorem TupAt.seq {K : PySem.W.Frag} {x : Str} {n : Nat} {E : Addr} (h : TupAt K x n E) (hn : n ≤ 1000) : ∃ xs : List V, xs.length = n ∧ ∀ H, SqT K H E xs := by
  obtain ⟨_, o, its, m, l, c, d, s, f⟩ := h
  obtain ⟨xs, e, r⟩ := strs_vals f
  have big : 1000 ≤ sizeLine := by decide
  refine ⟨xs, e.trans (by rw [Array.length_toList, s]), fun H => .inr ⟨o, its, m, l, c, d, by omega, r⟩⟩
theorem defD_at {K : PySem.W.Frag} {x : Str} {st : Stmt} {f T : Addr} {oc : Value} {od : Option Addr} {kV doc pm : Value} {an : Option Addr} {cdv ct : Value} {osl : Array (Option Value)} {oT : Obj} {n : Nat} (a : PySem.W.nsIn K mainGlobals x = some (some (.ref f)))
    (l : K.lookup f = some ⟨oc, od, .func (PySem.W.fnOf x x (defArgs st) (defBody st) (defScope st) (.ref T) kV doc pm an cdv ct), osl⟩) (c : PySem.W.codeIn K cdv x = true) (lT : K.lookup T = some oT) (dT : oT.data = .seq #[.none] n) (k : PySem.W.keepIn K (.ref f) = true) : DefD K x st f :=
  ⟨a, ⟨_, _, _, _, _, _, _, _, _, _, l, c, _, _, lT, dT⟩, k⟩
end LB
set_option Elab.async false
set_option linter.all false
set_option maxRecDepth 100000
set_option maxHeartbeats 8000000
/-! From what the top has written: valid tables, draws, the end of a law. -/
namespace LB
open PySem L2 Wk
open Bg (Bg Wo)
/-- valid tables: what checks them -/
structure PT (K : PySem.W.Frag) (fW fC fM E1 E2 : Addr) (tk : Tok) : Prop where
  aW : DefAt K "is_word" sIsWord fW
  aC : DefAt K "check_table" sCheck fC
  aM : DefAt K "limit" sLimit fM
  t1 : TupAt K "ENGLISH_ONES" 20 E1
  t2 : TupAt K "ENGLISH_TENS" 8 E2
  tL : PySem.W.nsIn K mainGlobals "LONGEST_WORD" = some (some (.int 20 tk))
  zL : PySem.W.nsIn K mainGlobals "len" = some none
theorem PT.limit {P : Program} {w : World} {K : PySem.W.Frag} {mg : Str → Option Value} {base h : Heap} {fW fC fM E1 E2 : Addr} {tk : Tok} (p : PT K fW fC fM E1 E2 tk) (X : K.In h) (G : h.Ns mainGlobals mg) (A : CoreA P w K mg base) :
    ∃ fd, Def1 P w K mg base "limit" 3 fM fd ["table"] spLimit0 := by
  have no : ∀ {x : Str}, PySem.W.nsIn K mainGlobals x = some none → mg x = none := fun z => PySem.W.mg_none_of X G z
  have at_ : ∀ {x : Str} {v : Value}, PySem.W.nsIn K mainGlobals x = some (some v) → mg x = some v := fun z => PySem.W.mg_of X G z
  have TP : TxtP K mg E1 E2 := ⟨no p.zL, ⟨tk, at_ p.tL⟩, at_ p.t1.1, at_ p.t2.1, p.t1.seq (by decide), p.t2.seq (by decide)⟩
  obtain ⟨_, _, DT⟩ := A.topOf
  obtain ⟨dW, DW⟩ := def1_mk (P := P) (w := w) (base := base) (ps := ["text"]) X G p.aW (fun _ _ _ _ _ _ us hl => match us, hl with | [_], _ => rfl) fun fd F => ok_isWord F TP
  obtain ⟨dC, DC⟩ := def1_mk (P := P) (w := w) (base := base) (ps := ["table"]) X G p.aC (fun _ _ _ _ _ _ us hl => match us, hl with | [_], _ => rfl) fun fd F => ok_check F TP DW.ok DW.g DW.k DW.b
  exact def1_mk (P := P) (w := w) (base := base) (ps := ["table"]) X G p.aM (fun _ _ _ _ _ _ us hl => match us, hl with | [_], _ => rfl) fun fd F => ok_limit0 F DC DT
theorem walkT {kk : Nat} {l : PySem.W.OpenLaw} {q : Program} {loose : List Str} {XP : (Str → Option Value) → Heap → Prop} {YP : World → Heap → Prop} {d : DefRec} {K : Params → PySem.W.Frag} (hn : l.most = some 63) (hdf : d.params.defaults = []) (hr : Room kk PySem.callerA)
    (hY : ∀ (w : World) (h : Heap), YP w h → (K w.params).In h)
    (F : ∀ (w : World) (mg : Str → Option Value) (fa : Addr) (h : Heap), (K w.params).In h → h.Ns mainGlobals mg → mg d.name = some (.ref fa) →
      ∃ fd : FuncData, (∀ (s : Shared) (u : Value), BindsTo s fd ⟨[u], []⟩ [("script", u)]) ∧ ∀ base : Heap, (K w.params).In base → base.Ns mainGlobals mg → FnG l.prog w (K w.params) mg base CX0 kk fa fd ["script"] (spTrue (K w.params))) :
    PySem.W.WalkO q loose XP YP l.row.toRowW d [] (fun f vs => PySem.call f vs) :=
  walkG (n := 63) (k := kk) (x := "script") (CX := fun _ => CX0) (sp := fun w => spTrue (K w.params)) hn (by decide) hdf hr hY F (fun _ _ a ns hl _ hS => ⟨a, ns, rfl, hS, hl, fun _ => rfl⟩) fun _ _ _ _ _ z => z
end LB
set_option Elab.async false
set_option linter.all false
set_option maxRecDepth 100000
set_option maxHeartbeats 8000000
/-! k25: from what the top has written to the law. -/
namespace LB
open PySem L2 Wk
open Bg (Bg Wo)
def strOf : Value → Option Str
  | .str x _ => some x
  | _ => none
theorem told_vals : ∀ {l : List Str} {vs : List Value}, vs.map strOf = l.map some → Vals (l.map V.str) vs
  | [], [], _ => .nil
  | [], v :: vs, h => nomatch h
  | x :: l, [], h => nomatch h
  | x :: l, v :: vs, h => by
    have h1 := (List.cons.inj h).1
    have h2 := told_vals (List.cons.inj h).2
    cases v with
    | str y t =>
      cases h1
      exact .cons ⟨t, rfl⟩ h2
    | _ => cases h1
/-- a tuple of these texts at the top -/
def TupT (K : PySem.W.Frag) (x : Str) (l : List Str) (E : Addr) : Prop := PySem.W.nsIn K mainGlobals x = some (some (.ref E)) ∧ ∃ (o : Obj) (its : Array Value) (m : Nat), K.lookup E = some o ∧ o.cls = .type "tuple" ∧ o.data = .seq its m ∧ its.toList.map strOf = l.map some
theorem tupT_at {K : PySem.W.Frag} {x : Str} {l : List Str} {E : Addr} {o : Obj} {its : Array Value} {m : Nat} (a : PySem.W.nsIn K mainGlobals x = some (some (.ref E))) (lk : K.lookup E = some o) (c : o.cls = .type "tuple") (d : o.data = .seq its m) (f : its.toList.map strOf = l.map some) : TupT K x l E :=
  ⟨a, o, its, m, lk, c, d, f⟩
theorem TupT.seq {K : PySem.W.Frag} {x : Str} {l : List Str} {E : Addr} (h : TupT K x l E) (hn : l.length ≤ 1000) : ∀ H, SqT K H E (l.map V.str) := by
  obtain ⟨_, o, its, m, lk, c, d, f⟩ := h
  have big : 1000 ≤ sizeLine := by decide
  have sz : its.size = l.length := by
    have := congrArg List.length f
    rw [List.length_map, List.length_map, Array.length_toList] at this
    exact this
  exact fun H => .inr ⟨o, its, m, lk, c, d, by omega, told_vals f⟩
section
variable {P : Program} {w : World} {K : PySem.W.Frag} {mg : Str → Option Value} {base h : Heap}
theorem def1_mkF {x : Str} {st : Stmt} {f : Addr} {ps : List Str} {k : Nat} {sp : Sp} (X : K.In h) (G : h.Ns mainGlobals mg) (a : DefAt K x st f)
    (b : ∀ (kV doc pm : Value) (an : Option Addr) (cdv ct : Value) (us : List Value), us.length = ps.length → bindArgs (PySem.W.fnOf x x (defArgs st) (defBody st) (defScope st) .none kV doc pm an cdv ct) ⟨us, []⟩ = pure (ps.zip us))
    (ok : ∀ fd, Fun K x x st f fd → FnOk P w K mg base CX0 k f fd ps sp) : ∃ fd, Fun K x x st f fd ∧ Def1 P w K mg base x k f fd ps sp := by
  obtain ⟨n, ⟨oc, od, kV, doc, pm, an, cdv, ct, osl, l, c⟩, kp⟩ := a
  have F := fun_mk (st := st) l c kp
  exact ⟨_, F, ok _ F, PySem.W.mg_of X G n, kp, F.binds b⟩
/-- a def of two parameters, called by both names, the second one first -/
theorem kb2 {x : Str} {st : Stmt} {f : Addr} {fd : FuncData} {a b : Str} (F : Fun K x x st f fd)
    (hk : ∀ (kV doc pm : Value) (an : Option Addr) (cdv ct : Value) (u v : Value), bindArgs (PySem.W.fnOf x x (defArgs st) (defBody st) (defScope st) .none kV doc pm an cdv ct) ⟨[], [(b, u), (a, v)]⟩ = pure [(a, v), (b, u)]) :
    KBn K fd [a, b] 0 [b, a] (fun _ ws => [ws.getD 1 .none, ws.getD 0 .none]) (fun _ zs => [zs.getD 1 .non, zs.getD 0 .non]) := by
  obtain ⟨oc, od, kV, doc, pm, an, cdv, ct, osl, rfl, lk, hcd⟩ := F.ex
  refine ⟨fun s us ws X e1 e2 => ?_, fun {vs us zs ws} r1 r2 => ?_⟩
  · match us, ws, e1, e2 with
    | [], [u, v], _, _ => exact .of_eq (hk kV doc pm an cdv ct u v)
  · have at_ : ∀ j, RelV (zs.getD j .non) (ws.getD j .none) := by
      intro j
      induction r2 generalizing j with
      | nil => rfl
      | cons h _ ih =>
        cases j with
        | zero => exact h
        | succ j => exact ih j
    exact .cons (at_ 1) (.cons (at_ 0) .nil)
/-- a def of two parameters, the last with a default: by position, with one value alone, by both names -/
theorem bind2D {x : Str} {st : Stmt} {f : Addr} {fd : FuncData} {a b : Str} (F : FunD K x x (defArgs st) (defBody st) (defScope st) [.non] [] f fd)
    (h2 : ∀ (T : Addr) (kV doc pm : Value) (an : Option Addr) (cdv ct : Value) (u v d : Value),
      ∃ k, bindArgs (PySem.W.fnOf x x (defArgs st) (defBody st) (defScope st) (.ref T) kV doc pm an cdv ct) ⟨[u, v], []⟩ = seqItems? (.ref T) >>= k ∧ k (some #[d]) = pure (([a, b] : List Str).zip [u, v]))
    (h1 : ∀ (T : Addr) (kV doc pm : Value) (an : Option Addr) (cdv ct : Value) (u d : Value),
      ∃ k, bindArgs (PySem.W.fnOf x x (defArgs st) (defBody st) (defScope st) (.ref T) kV doc pm an cdv ct) ⟨[u], []⟩ = seqItems? (.ref T) >>= k ∧ k (some #[d]) = pure (([a, b] : List Str).zip [u, d]))
    (hk : ∀ (T : Addr) (kV doc pm : Value) (an : Option Addr) (cdv ct : Value) (u v d : Value),
      ∃ k, bindArgs (PySem.W.fnOf x x (defArgs st) (defBody st) (defScope st) (.ref T) kV doc pm an cdv ct) ⟨[], ([b, a] : List Str).zip [u, v]⟩ = seqItems? (.ref T) >>= k ∧ k (some #[d]) = pure (([a, b] : List Str).zip [v, u])) :
    Binds K fd [a, b] [] ∧ (∃ dn, Vals [V.non] [dn] ∧ Binds K fd [a, b] [dn]) ∧ KBn K fd [a, b] 0 [b, a] (fun _ ws => [ws.getD 1 .none, ws.getD 0 .none]) (fun _ zs => [zs.getD 1 .non, zs.getD 0 .non]) := by
  refine ⟨?_, ?_, ?_⟩
  · obtain ⟨ds, r, q⟩ := F.binds1 (ps := [a, b]) 2 1 (by simp) rfl fun T kV doc pm an cdv ct us its h3 h4 => match us, its, h3, h4 with
      | [u, v], [d], _, _ => h2 T kV doc pm an cdv ct u v d
    cases r
    exact q
  · obtain ⟨ds, r, q⟩ := F.binds1 (ps := [a, b]) 1 0 (by simp) rfl fun T kV doc pm an cdv ct us its h3 h4 => match us, its, h3, h4 with
      | [u], [d], _, _ => h1 T kV doc pm an cdv ct u d
    cases r with
    | cons r1 r2 =>
      cases r2
      exact ⟨_, .cons r1 .nil, q⟩
  · obtain ⟨oc, od, dV, kV, doc, pm, an, cdv, ct, osl, rfl, lk, hcd, hD, hK⟩ := F.ex
    rcases hD with ⟨e, _⟩ | ⟨_, T, o, its, m, rfl, lT, oT, rT⟩
    · cases e
    · refine ⟨fun s us ws X e1 e2 => ?_, fun {vs us zs ws} r1 r2 => ?_⟩
      · match us, ws, its, e1, e2, rT, oT with
        | [], [u, v], [d], _, _, _, oT =>
          obtain ⟨k, q1, q2⟩ := hk T kV doc pm an cdv ct u v d
          refine BindsTo.of_looks fun M => ?_
          rw [q1]
          exact looks_items X lT oT (.of_pure q2)
      · have at_ : ∀ j, RelV (zs.getD j .non) (ws.getD j .none) := by
          intro j
          induction r2 generalizing j with
          | nil => rfl
          | cons h _ ih =>
            cases j with
            | zero => exact h
            | succ j => exact ih j
        exact .cons (at_ 1) (.cons (at_ 0) .nil)
end
theorem all_mk {l : PySem.W.OpenLaw} {w : World} {K : PySem.W.Frag} {h : Heap} {mg : Str → Option Value} {fa f_aL f_aSo f_aDr f_aTa f_aWh f_aVa f_aGp f_aSd f_aDu f_aWo f_aLL f_aLo f_aSz f_aLw f_aCo f_aPk f_aUn f_aBe f_aLi f_aCh f_aIs f_aTp f_aSp f_aGr f_aGW f_aEn f_aCt f_aTo E1 E2 E3 : Addr} {tk tk2 : Tok} (X : K.In h) (G : h.Ns mainGlobals mg) (hfa : mg "law" = some (.ref fa))
    (aL : DefAt K "law" sLaw f_aL) (aSo : DefAt K "_law_source" sSource f_aSo) (aDr : DefAt K "_law_draw" sDraw f_aDr) (aTa : DefAt K "_law_table" sTable f_aTa) (aWh : DefAt K "_law_whole" sWhole f_aWh) (aVa : DefAt K "_law_value" sValue f_aVa) (aGp : DefAt K "_law_groups" sGroups f_aGp) (aSd : DefAt K "_law_spread" sSpread f_aSd) (aDu : DefAt K "_law_due" sDue f_aDu) (aWo : DefAt K "_law_words" sWords f_aWo) (aLL : DefAt K "_law_letters" sLetters f_aLL) (aLo : DefAt K "_letters_of" sLettersOf f_aLo) (aSz : DefAt K "_sizes" sSizes f_aSz) (aLw : DefAt K "_lowest_sizes" sLowest f_aLw) (aCo : DefAt K "_counts" sCounts f_aCo) (aPk : DefAt K "_packed_counts" sPacked f_aPk) (aUn : DefAt K "_unpacked" sUnpacked f_aUn) (aBe : DefAt K "checked_below" sBelow f_aBe) (aLi : DefAt K "limit" sLimit f_aLi) (aCh : DefAt K "check_table" sCheck f_aCh) (aIs : DefAt K "is_word" sIsWord f_aIs) (aTp : DefAt K "top_of" sTopOf f_aTp) (aSp : DefAt K "spelled" sSpelled f_aSp) (aGr : DefAt K "groups_of" sGroupsOf f_aGr) (aGW : DefAt K "_group_words" sGroupWords f_aGW) (aEn : DefAt K "english" sEnglish f_aEn) (aCt : DefD K "count_with_letters" sCountL f_aCt) (aTo : DefD K "total_letters" sTotalL f_aTo)
    (t1 : TupT K "ENGLISH_ONES" enOnes E1) (t2 : TupT K "ENGLISH_TENS" enTens E2) (t3 : TupT K "ENGLISH_SCALES" enScales E3) (tH : PySem.W.nsIn K mainGlobals "ENGLISH_HUNDRED" = some (some (.str "hundred" tk2))) (tL : PySem.W.nsIn K mainGlobals "LONGEST_WORD" = some (some (.int 20 tk)))
    (z_max : PySem.W.nsIn K mainGlobals "max" = some none) (z_int : PySem.W.nsIn K mainGlobals "int" = some none) (z_list : PySem.W.nsIn K mainGlobals "list" = some none) (z_len : PySem.W.nsIn K mainGlobals "len" = some none) (z_range : PySem.W.nsIn K mainGlobals "range" = some none) (z_min : PySem.W.nsIn K mainGlobals "min" = some none) (z_sum : PySem.W.nsIn K mainGlobals "sum" = some none) (z_divmod : PySem.W.nsIn K mainGlobals "divmod" = some none) (z_reversed : PySem.W.nsIn K mainGlobals "reversed" = some none) (z_sorted : PySem.W.nsIn K mainGlobals "sorted" = some none) :
    ∃ fd : FuncData, (∀ (s : Shared) (v : Value), BindsTo s fd ⟨[v], []⟩ [("script", v)]) ∧ ∀ base : Heap, K.In base → base.Ns mainGlobals mg → FnG l.prog w K mg base CX0 26 fa fd ["script"] (spTrue K) := by
  obtain ⟨nL, ⟨_, _, kV, doc, pm, an, cdv, ct, _, lL, cL⟩, kL⟩ := aL
  cases hfa.symm.trans (PySem.W.mg_of X G nL)
  have FL := fun_mk (st := sLaw) lL cL kL
  have no : ∀ {x : Str}, PySem.W.nsIn K mainGlobals x = some none → mg x = none := fun z => PySem.W.mg_none_of X G z
  have at_ : ∀ {x : Str} {v : Value}, PySem.W.nsIn K mainGlobals x = some (some v) → mg x = some v := fun z => PySem.W.mg_of X G z
  refine ⟨PySem.W.fnOf "law" "law" (defArgs sLaw) (defBody sLaw) (defScope sLaw) .none kV doc pm an cdv ct, fun s v => .of_eq rfl, fun base _ _ => ?_⟩
  have TP : TxtP K mg E1 E2 := ⟨no z_len, ⟨tk, at_ tL⟩, at_ t1.1, at_ t2.1, ⟨enOnes.map V.str, rfl, t1.seq (by decide)⟩, ⟨enTens.map V.str, rfl, t2.seq (by decide)⟩⟩
  have TE : EngT K mg E1 E2 E3 tk2 := ⟨at_ t1.1, at_ t2.1, at_ t3.1, at_ tH, t1.seq (by decide), t2.seq (by decide), t3.seq (by decide), no z_len, no z_list⟩
  obtain ⟨dDr, DDr⟩ := def1_mk (P := l.prog) (w := w) (base := base) (ps := ["source", "wide"]) X G aDr (fun _ _ _ _ _ _ us hl => match us, hl with | [_, _], _ => rfl) fun fd F => ok_drawC F
  obtain ⟨dSo, DSo⟩ := def1_mk (P := l.prog) (w := w) (base := base) (ps := ["script"]) X G aSo (fun _ _ _ _ _ _ us hl => match us, hl with | [_], _ => rfl) fun fd F => ok_source F (no z_max)
  obtain ⟨dEn, DEn⟩ := def1_mk (P := l.prog) (w := w) (base := base) (ps := ["scales"]) X G aEn (fun _ _ _ _ _ _ us hl => match us, hl with | [_], _ => rfl) fun fd F => ok_english F TE
  obtain ⟨dTa, DTa⟩ := def1_mk (P := l.prog) (w := w) (base := base) (ps := ["source", "most"]) X G aTa (fun _ _ _ _ _ _ us hl => match us, hl with | [_, _], _ => rfl) fun fd F => ok_tableC F DDr DEn (no z_range) (no z_min)
  obtain ⟨dWh, DWh⟩ := def1_mk (P := l.prog) (w := w) (base := base) (ps := ["chart"]) X G aWh (fun _ _ _ _ _ _ us hl => match us, hl with | [_], _ => rfl) fun fd F => ok_whole F
  obtain ⟨dWo, DWo⟩ := def1_mk (P := l.prog) (w := w) (base := base) (ps := ["chart", "value"]) X G aWo (fun _ _ _ _ _ _ us hl => match us, hl with | [_, _], _ => rfl) fun fd F => ok_words F (no z_range) (no z_len)
  obtain ⟨dLL, DLL⟩ := def1_mk (P := l.prog) (w := w) (base := base) (ps := ["chart", "value"]) X G aLL (fun _ _ _ _ _ _ us hl => match us, hl with | [_, _], _ => rfl) fun fd F => ok_llet F DWo (no z_len) (no z_sum)
  obtain ⟨dVa, DVa⟩ := def1_mk (P := l.prog) (w := w) (base := base) (ps := ["source", "chart"]) X G aVa (fun _ _ _ _ _ _ us hl => match us, hl with | [_, _], _ => rfl) fun fd F => ok_value F DDr (no z_range) (no z_len)
  obtain ⟨dGp, DGp⟩ := def1_mk (P := l.prog) (w := w) (base := base) (ps := ["chart", "spot", "most"]) X G aGp (fun _ _ _ _ _ _ us hl => match us, hl with | [_, _, _], _ => rfl) fun fd F => ok_groupsL F DLL (no z_len) (no z_range)
  obtain ⟨nSd, ⟨oc1, od1, kV1, doc1, pm1, an1, cdv1, ct1, osl1, lSd, cSd⟩, kSd⟩ := aSd
  have FSd := fun_mk (st := sSpread) lSd cSd kSd
  have bSd : Binds K _ ["chart", "spot", "bound"] [] := FSd.binds (ps := ["chart", "spot", "bound"]) fun _ _ _ _ _ _ us hl => match us, hl with | [_, _, _], _ => rfl
  have DSd : ∀ d, Def1 l.prog w K mg base "_law_spread" (d + 4) f_aSd _ ["chart", "spot", "bound"] (spSpreadL d) := fun d => ⟨ok_spreadL FSd (PySem.W.mg_of X G nSd) kSd bSd DGp DWo (no z_len) (no z_sum) (no z_int) d, PySem.W.mg_of X G nSd, kSd, bSd⟩
  obtain ⟨dDu, DDu⟩ := def1_mk (P := l.prog) (w := w) (base := base) (ps := ["chart", "bound"]) X G aDu (fun _ _ _ _ _ _ us hl => match us, hl with | [_, _], _ => rfl) fun fd F => ok_dueL F DSd (no z_len)
  obtain ⟨dIs, DIs⟩ := def1_mk (P := l.prog) (w := w) (base := base) (ps := ["text"]) X G aIs (fun _ _ _ _ _ _ us hl => match us, hl with | [_], _ => rfl) fun fd F => ok_isWord F TP
  obtain ⟨dCh, DCh⟩ := def1_mk (P := l.prog) (w := w) (base := base) (ps := ["table"]) X G aCh (fun _ _ _ _ _ _ us hl => match us, hl with | [_], _ => rfl) fun fd F => ok_check F TP DIs.ok DIs.g DIs.k DIs.b
  obtain ⟨dTp, DTp⟩ := def1_mk (P := l.prog) (w := w) (base := base) (ps := ["table"]) X G aTp (fun _ _ _ _ _ _ us hl => match us, hl with | [_], _ => rfl) fun fd F => ok_topOf F
  obtain ⟨dLi, DLi⟩ := def1_mk (P := l.prog) (w := w) (base := base) (ps := ["table"]) X G aLi (fun _ _ _ _ _ _ us hl => match us, hl with | [_], _ => rfl) fun fd F => ok_limit0 F DCh DTp
  obtain ⟨dBe, DBe⟩ := def1_mk (P := l.prog) (w := w) (base := base) (ps := ["table", "below"]) X G aBe (fun _ _ _ _ _ _ us hl => match us, hl with | [_, _], _ => rfl) fun fd F => ok_below0 F DLi
  obtain ⟨dGr, DGr⟩ := def1_mk (P := l.prog) (w := w) (base := base) (ps := ["number"]) X G aGr (fun _ _ _ _ _ _ us hl => match us, hl with | [_], _ => rfl) fun fd F => ok_groups F (no z_divmod)
  obtain ⟨dGW, DGW⟩ := def1_mk (P := l.prog) (w := w) (base := base) (ps := ["table", "group"]) X G aGW (fun _ _ _ _ _ _ us hl => match us, hl with | [_, _], _ => rfl) fun fd F => ok_groupWords F (no z_divmod)
  obtain ⟨dSp, DSp⟩ := def1_mk (P := l.prog) (w := w) (base := base) (ps := ["table", "number"]) X G aSp (fun _ _ _ _ _ _ us hl => match us, hl with | [_, _], _ => rfl) fun fd F => ok_spelled F DGr DGW (no z_reversed) (no z_range) (no z_len)
  obtain ⟨dLo, DLo⟩ := def1_mk (P := l.prog) (w := w) (base := base) (ps := ["table", "number"]) X G aLo (fun _ _ _ _ _ _ us hl => match us, hl with | [_, _], _ => rfl) fun fd F => ok_letof F DSp (no z_len) (no z_sum)
  obtain ⟨dLw, DLw⟩ := def1_mk (P := l.prog) (w := w) (base := base) (ps := ["table"]) X G aLw (fun _ _ _ _ _ _ us hl => match us, hl with | [_], _ => rfl) fun fd F => ok_lowestE F (no z_len) (no z_list)
  obtain ⟨dSz, DSz⟩ := def1_mk (P := l.prog) (w := w) (base := base) (ps := ["table"]) X G aSz (fun _ _ _ _ _ _ us hl => match us, hl with | [_], _ => rfl) fun fd F => ok_sizesE F DLw (no z_len)
  obtain ⟨dCo, DCo⟩ := def1_mk (P := l.prog) (w := w) (base := base) (ps := ["numbers"]) X G aCo (fun _ _ _ _ _ _ us hl => match us, hl with | [_], _ => rfl) fun fd F => ok_countsE F
  obtain ⟨dPk, DPk⟩ := def1_mk (P := l.prog) (w := w) (base := base) (ps := ["sizes", "width"]) X G aPk (fun _ _ _ _ _ _ us hl => match us, hl with | [_, _], _ => rfl) fun fd F => ok_packedE F DCo (no z_sum)
  obtain ⟨dUn, DUn⟩ := def1_mk (P := l.prog) (w := w) (base := base) (ps := ["packed", "width", "many"]) X G aUn (fun _ _ _ _ _ _ us hl => match us, hl with | [_, _, _], _ => rfl) fun fd F => ok_unpackedE F
  obtain ⟨dCt, FCt⟩ := aCt.fun
  have bC := bind3 (x := "count_with_letters") (st := sCountL) (a := "table") (b := "many") (c := "below") FCt (fun _ _ _ _ _ _ _ _ _ _ _ => ⟨_, rfl, rfl⟩) (fun _ _ _ _ _ _ _ _ _ _ => ⟨_, rfl, rfl⟩) (fun _ _ _ _ _ _ _ _ _ _ _ => ⟨_, rfl, rfl⟩)
  obtain ⟨dn, vn, bn⟩ := bC.b2
  obtain ⟨dTo, FTo⟩ := aTo.fun
  obtain ⟨bT, ⟨dm, vm, bm⟩, kT⟩ := bind2D (x := "total_letters") (st := sTotalL) (a := "table") (b := "below") FTo (fun _ _ _ _ _ _ _ _ _ _ => ⟨_, rfl, rfl⟩) (fun _ _ _ _ _ _ _ _ _ => ⟨_, rfl, rfl⟩) (fun _ _ _ _ _ _ _ _ _ _ => ⟨_, rfl, rfl⟩)
  have DCt : Def1 l.prog w K mg base "count_with_letters" 5 f_aCt dCt ["table", "many", "below"] spCountLE := ⟨ok_countLE FCt DBe DLo DGr DSz DPk DCo DUn (no z_len) (no z_reversed) (no z_range), at_ aCt.1, aCt.2.2, bC.b3⟩
  have DTo : Def1 l.prog w K mg base "total_letters" 5 f_aTo dTo ["table", "below"] spTotalLE := ⟨ok_totalLE FTo DBe DLo DSz (no z_divmod) (no z_sum), at_ aTo.1, aTo.2.2, bT⟩
  exact FnG.of (ok_law25 FL DSo DDr DTa DWh DVa DDu DLL DCt vn bn DTo vm bm DEn ⟨no z_range, no z_min, no z_sum, no z_len, no z_int, no z_sorted⟩)
end LB
set_option Elab.async false
open PySem PySem.W PyProof.Rows
set_option maxRecDepth 100000 in
set_option maxHeartbeats 0 in
theorem PySem.Challenge.cw_wordorder_k25_great_counts_by_letters_holds : PySem.Challenge.rw_wordorder_k25_great_counts_by_letters.Holds := by
  w_on; o_law; k_head; (case hw => w_witness2)
  k_fill
  refine LB.walkT (kk := 26) (l := PySem.Challenge.rw_wordorder_k25_great_counts_by_letters) rfl rfl ⟨rfl, by decide, by decide⟩ (fun w h Y => PySem.W.kIn_of Y) ?F
  case F =>
    intro w mg fa h KX G hmg
    refine' LB.all_mk KX G hmg ?aL ?aSo ?aDr ?aTa ?aWh ?aVa ?aGp ?aSd ?aDu ?aWo ?aLL ?aLo ?aSz ?aLw ?aCo ?aPk ?aUn ?aBe ?aLi ?aCh ?aIs ?aTp ?aSp ?aGr ?aGW ?aEn ?aCt ?aTo ?t1 ?t2 ?t3 ?tH ?tL ?z_max ?z_int ?z_list ?z_len ?z_range ?z_min ?z_sum ?z_divmod ?z_reversed ?z_sorted
    case aL => refine' Wk.def_at ?a ?l ?c ?k; (case a => k_is); (case l => k_is); (case c => k_is); (case k => k_is)
    case aSo => refine' Wk.def_at ?a ?l ?c ?k; (case a => k_is); (case l => k_is); (case c => k_is); (case k => k_is)
    case aDr => refine' Wk.def_at ?a ?l ?c ?k; (case a => k_is); (case l => k_is); (case c => k_is); (case k => k_is)
    case aTa => refine' Wk.def_at ?a ?l ?c ?k; (case a => k_is); (case l => k_is); (case c => k_is); (case k => k_is)
    case aWh => refine' Wk.def_at ?a ?l ?c ?k; (case a => k_is); (case l => k_is); (case c => k_is); (case k => k_is)
    case aVa => refine' Wk.def_at ?a ?l ?c ?k; (case a => k_is); (case l => k_is); (case c => k_is); (case k => k_is)
    case aGp => refine' Wk.def_at ?a ?l ?c ?k; (case a => k_is); (case l => k_is); (case c => k_is); (case k => k_is)
    case aSd => refine' Wk.def_at ?a ?l ?c ?k; (case a => k_is); (case l => k_is); (case c => k_is); (case k => k_is)
    case aDu => refine' Wk.def_at ?a ?l ?c ?k; (case a => k_is); (case l => k_is); (case c => k_is); (case k => k_is)
    case aWo => refine' Wk.def_at ?a ?l ?c ?k; (case a => k_is); (case l => k_is); (case c => k_is); (case k => k_is)
    case aLL => refine' Wk.def_at ?a ?l ?c ?k; (case a => k_is); (case l => k_is); (case c => k_is); (case k => k_is)
    case aLo => refine' Wk.def_at ?a ?l ?c ?k; (case a => k_is); (case l => k_is); (case c => k_is); (case k => k_is)
    case aSz => refine' Wk.def_at ?a ?l ?c ?k; (case a => k_is); (case l => k_is); (case c => k_is); (case k => k_is)
    case aLw => refine' Wk.def_at ?a ?l ?c ?k; (case a => k_is); (case l => k_is); (case c => k_is); (case k => k_is)
    case aCo => refine' Wk.def_at ?a ?l ?c ?k; (case a => k_is); (case l => k_is); (case c => k_is); (case k => k_is)
    case aPk => refine' Wk.def_at ?a ?l ?c ?k; (case a => k_is); (case l => k_is); (case c => k_is); (case k => k_is)
    case aUn => refine' Wk.def_at ?a ?l ?c ?k; (case a => k_is); (case l => k_is); (case c => k_is); (case k => k_is)
    case aBe => refine' Wk.def_at ?a ?l ?c ?k; (case a => k_is); (case l => k_is); (case c => k_is); (case k => k_is)
    case aLi => refine' Wk.def_at ?a ?l ?c ?k; (case a => k_is); (case l => k_is); (case c => k_is); (case k => k_is)
    case aCh => refine' Wk.def_at ?a ?l ?c ?k; (case a => k_is); (case l => k_is); (case c => k_is); (case k => k_is)
    case aIs => refine' Wk.def_at ?a ?l ?c ?k; (case a => k_is); (case l => k_is); (case c => k_is); (case k => k_is)
    case aTp => refine' Wk.def_at ?a ?l ?c ?k; (case a => k_is); (case l => k_is); (case c => k_is); (case k => k_is)
    case aSp => refine' Wk.def_at ?a ?l ?c ?k; (case a => k_is); (case l => k_is); (case c => k_is); (case k => k_is)
    case aGr => refine' Wk.def_at ?a ?l ?c ?k; (case a => k_is); (case l => k_is); (case c => k_is); (case k => k_is)
    case aGW => refine' Wk.def_at ?a ?l ?c ?k; (case a => k_is); (case l => k_is); (case c => k_is); (case k => k_is)
    case aEn => refine' Wk.def_at ?a ?l ?c ?k; (case a => k_is); (case l => k_is); (case c => k_is); (case k => k_is)
    case aCt => refine' LB.defD_at ?a ?l ?c ?lT ?dT ?k; (case a => k_is); (case l => k_is); (case c => k_is); (case lT => k_is); (case dT => rfl); (case k => k_is)
    case aTo => refine' LB.defD_at ?a ?l ?c ?lT ?dT ?k; (case a => k_is); (case l => k_is); (case c => k_is); (case lT => k_is); (case dT => rfl); (case k => k_is)
    case t1 => refine' LB.tupT_at ?a ?l ?c ?d ?f; (case a => k_is); (case l => k_is); (case c => rfl); (case d => rfl); (case f => decide +kernel)
    case t2 => refine' LB.tupT_at ?a ?l ?c ?d ?f; (case a => k_is); (case l => k_is); (case c => rfl); (case d => rfl); (case f => decide +kernel)
    case t3 => refine' LB.tupT_at ?a ?l ?c ?d ?f; (case a => k_is); (case l => k_is); (case c => rfl); (case d => rfl); (case f => decide +kernel)
    case tH => k_is
    case tL => k_is
    case z_max => k_is
    case z_int => k_is
    case z_list => k_is
    case z_len => k_is
    case z_range => k_is
    case z_min => k_is
    case z_sum => k_is
    case z_divmod => k_is
    case z_reversed => k_is
    case z_sorted => k_is
