import PyProof.Rows.All
import Wide.All
import OpenK.AllK
import Wide.FinOn
import PySem.Challenge.RW_stairlots_k01_whole_integers_and_binomia
import HandS.ForMost
import HandS.Exc
import HandS.TryOnly
import HandS.ExcOwn
import HandS.WordsExc
import HandS.Wide
import HandS.Gcd
import HandS.IsInst
import HandS.Rev
import KE.KExcInit
import HandS.Walk
import HandS.Style
import KE.KExcLine
set_option Elab.async false
set_option linter.all false
set_option maxRecDepth 100000
set_option maxHeartbeats 8000000
namespace K01
open PySem PySem.Spec PyProof.Rows L2
/-! ### the text -/
def topS (i : Nat) : Stmt := PySem.Challenge.pw_stairlots_k01_whole_integers_and_binomia.main.body.getD i (.Pass ⟨0, 0, 0, 0⟩)
/-! ### rules of my own -/
/-- ** of a base of any size, the result below 2 ^ 27 bits -/
def CPowW (i j : Int) : Prop := 0 ≤ j ∧ (Builtin.Int.intBits i : Int) * j ≤ 2 ^ 27
theorem op_powW {X : Cx} : OpR X (binaryOp .Pow) (rI CPowW fun i j => .int (i ^ j.toNat)) := opI fun _ _ _ _ _ _ _ hc q => pow_int hc.1 hc.2 q
theorem sub_same {H : Hp} {p : Addr} {o : HO} (h : H p = none) : Same H (upd H p o) := fun b x e => by
  rw [upd_ne (ne_of_none e h)]
  exact e
/-- all but one address as before -/
def But (a : Addr) (H H' : Hp) : Prop := ∀ b, b ≠ a → H' b = H b
theorem But.refl (a : Addr) (H : Hp) : But a H H := fun _ _ => rfl
theorem But.trans {a : Addr} {H H1 H2 : Hp} (x : But a H H1) (y : But a H1 H2) : But a H H2 := fun b hb => (y b hb).trans (x b hb)
theorem but_upd (a : Addr) (H : Hp) (o : HO) : But a H (upd H a o) := fun b hb => upd_ne hb
/-! ### the urn: a list of three ints -/
def Urn (H : Hp) (a : Addr) : Prop := ∃ g m c : Int, H a = some (.lst [.int g, .int m, .int c])
theorem Urn.seq {K : PySem.W.Frag} {H : Hp} {a : Addr} {xs : List V} (h : H a = some (.lst xs)) : SqL K H a xs := .inl (.inl h)
abbrev s_law_take : Stmt := topS 16
theorem sc_law_take : FnScope ["_law_urn_here", "_law_total", "_law_found", "_law_one", "_law_two"] ["_law_urn_here", "_law_total"] (defScope s_law_take) := ⟨rfl, rfl, rfl, by decide +kernel, rfl, by decide +kernel, by decide +kernel⟩
abbrev s_law_some : Stmt := topS 17
theorem sc_law_some : FnScope ["_law_urn_here", "_law_items"] ["_law_urn_here", "_law_items"] (defScope s_law_some) := ⟨rfl, rfl, rfl, by decide +kernel, rfl, by decide +kernel, by decide +kernel⟩
section
variable {P : Program} {w : World} {K : PySem.W.Frag} {mg : Str → Option Value} {base : Heap}
structure Txt (mg : Str → Option Value) : Prop where
  n_len : mg "len" = none
  n_abs : mg "abs" = none
  n_int : mg "int" = none
  n_bool : mg "bool" = none
  n_max : mg "max" = none
  n_min : mg "min" = none
  n_sum : mg "sum" = none
  n_tuple : mg "tuple" = none
  n_range : mg "range" = none
  n_repr : mg "repr" = none
  n_isinstance : mg "isinstance" = none
  n_reversed : mg "reversed" = none
structure D (K : PySem.W.Frag) (mg : Str → Option Value) (x : Str) (st : Stmt) (ps : List Str) (f : Addr) (fd : FuncData) : Prop where
  F : Fun K x x st f fd
  g : mg x = some (.ref f)
  b : Binds K fd ps []
/-- a drawn number below the total -/
def spTake : Sp := fun vs H Q _ => ∃ (a : Addr) (t : Int), vs = [.ref a, .int t] ∧ Urn H a ∧ 0 < t ∧ t.natAbs.log2 < 9000 ∧
  ∀ (v : Int) (H' : Hp), 0 ≤ v → v < t → Urn H' a → But a H H' → Q (.int v) H'
theorem ok_take {f : Addr} {fd : FuncData} {k : Nat} (T : Txt mg) (d : D K mg "_law_take" s_law_take ["_law_urn_here", "_law_total"] f fd) :
    FnOk P w K mg base CX0 (k + 1) f fd ["_law_urn_here", "_law_total"] spTake := by
  refine d.F.ok sc_law_take (fun vs H Q E h => ?_) (fun cdv A outer s H vs Q E hr h => ?_)
  · obtain ⟨a, t, rfl, _⟩ := h
    rfl
  · obtain ⟨a, t, rfl, ⟨g, m, c, hu⟩, ht, hl, q⟩ := h
    refine ⟨_, (pss_cons (ps_if (pt_cmpR op_gt (pe_ix ix_list (pv 0) pe_int (fun _ _ => rfl)) pe_int (nomark _)) (pss_cons (ps_set (i := 2) sc_law_take.nd rfl (.inl rfl) (pe_op op_mod (pe_callTy call_int1 (by rfl) T.n_int (by decide +kernel) (pa_cons (pe_ix ix_list (pv 0) pe_int (fun _ _ => rfl)) pa_nil)) (pv 1)))
        (pss_cons (ps_asg (pe_op op_fdivW (pe_ix ix_list (pv 0) pe_int (fun _ _ => rfl)) (pv 1)) (pg_sub (pv 0) pe_int set_list))
        (pss_one (ps_ret (pv 2))))) pss_nil)
      (pss_cons (ps_asg (pe_op op_add (pe_ix ix_list (pv 0) pe_int (fun _ _ => rfl)) pe_int) (pg_sub (pv 0) pe_int set_list))
      (pss_cons (ps_set (i := 3) sc_law_take.nd rfl (.inl rfl) (pe_op op_mod (pe_callTy call_int1 (by rfl) T.n_int (by decide +kernel) (pa_cons (pe_op op_add (pe_ix ix_list (pv 0) pe_int (fun _ _ => rfl)) (pe_op op_mul pe_int (pe_ix ix_list (pv 0) pe_int (fun _ _ => rfl)))) pa_nil)) pe_int))
      (pss_cons (ps_set (i := 4) sc_law_take.nd rfl (.inl rfl) (pe_op op_mod (pe_callTy call_int1 (by rfl) T.n_int (by decide +kernel) (pa_cons (pe_op op_add (pe_op op_mul (pv 3) (pv 3)) (pe_op op_mul pe_int (pe_ix ix_list (pv 0) pe_int (fun _ _ => rfl)))) pa_nil)) pe_int))
      (pss_one (ps_ret (pe_op op_mod (pe_callTy call_int1 (by rfl) T.n_int (by decide +kernel) (pa_cons (pe_op op_fdivW (pe_op op_mod (pe_callTy call_int1 (by rfl) T.n_int (by decide +kernel) (pa_cons (pe_op op_add (pe_op op_mul (pv 4) pe_int) (pv 3)) pa_nil)) pe_int) pe_int) pa_nil)) (pv 1)))))))), ?_⟩
    have A0 : ∀ {xs : List V} {v : V} {i : Int}, xs = [.int g, .int m, .int c] → atI xs i = some v → True := fun _ _ => trivial
    -- if urn[0] > 0
    refine ⟨.ref a, rfl, a, _, 0, .int g, rfl, rfl, Urn.seq hu, atI_nat (j := 0) rfl, g, 0, rfl, rfl, _, rfl, ite2 (fun e => ?_) (fun e => ?_)⟩
    · refine ⟨.ref a, rfl, ⟨a, _, 0, .int g, rfl, rfl, Urn.seq hu, atI_nat (j := 0) rfl, .inl ⟨g, rfl, .int t, rfl, g, t, rfl, rfl, ht, ?_⟩⟩⟩
      refine ⟨.ref a, rfl, ⟨a, _, 0, .int g, rfl, rfl, Urn.seq hu, atI_nat (j := 0) rfl, .int t, rfl, g, t, rfl, rfl, ⟨ht, hl⟩, ?_⟩⟩
      refine ⟨.ref a, rfl, a, _, 0, 0, rfl, rfl, hu, rfl, ?_⟩
      exact ⟨_, rfl, q _ _ (Int.emod_nonneg _ (by omega)) (Int.emod_lt_of_pos _ ht) ⟨_, _, _, upd_same⟩ (but_upd _ _ _)⟩
    · refine ⟨.ref a, rfl, ⟨a, _, 2, .int c, rfl, rfl, Urn.seq hu, atI_nat (j := 2) rfl, c, 1, rfl, rfl, ?_⟩⟩
      refine ⟨.ref a, rfl, a, _, 2, 2, rfl, rfl, hu, rfl, ?_⟩
      have h1 : (upd H a (.lst ([.int g, .int m, .int c].set 2 (.int (c + 1))))) a = some (.lst [.int g, .int m, .int (c + 1)]) := upd_same
      have b1 := but_upd a H (.lst ([.int g, .int m, .int c].set 2 (.int (c + 1))))
      revert h1 b1
      generalize upd H a (.lst ([.int g, .int m, .int c].set 2 (.int (c + 1)))) = H1
      intro h1 b1
      refine ⟨.ref a, rfl, ⟨a, _, 1, .int m, rfl, rfl, Urn.seq h1, atI_nat (j := 1) rfl, ?_⟩⟩
      refine ⟨.ref a, rfl, ⟨a, _, 2, .int (c + 1), rfl, rfl, Urn.seq h1, atI_nat (j := 2) rfl, ?_⟩⟩
      refine ⟨_, _, rfl, rfl, .inl (by decide), _, _, rfl, rfl, .inl ⟨_, rfl, _, _, rfl, rfl, (by show (0 : Int) < _; decide), ?_⟩⟩
      generalize ho : (m + 1299709 * (c + 1)) % 2305843009213693951 = o
      have o0 : 0 ≤ o := by omega
      have o1 : o < 2305843009213693951 := by omega
      refine ⟨_, rfl, _, rfl, _, _, rfl, rfl, .inl (by omega), ?_⟩
      refine ⟨.ref a, rfl, ⟨a, _, 2, .int (c + 1), rfl, rfl, Urn.seq h1, atI_nat (j := 2) rfl, ?_⟩⟩
      refine ⟨_, _, rfl, rfl, .inl (by decide), _, _, rfl, rfl, .inl ⟨_, rfl, _, _, rfl, rfl, (by show (0 : Int) < _; decide), ?_⟩⟩
      generalize (o * o + 15485863 * (c + 1)) % 1152921504606846883 = z
      refine ⟨_, rfl, _, _, rfl, rfl, .inr (by decide), _, rfl, _, _, rfl, rfl, .inl ⟨_, rfl, _, _, rfl, rfl, (by show (0 : Int) < _; decide), _, _, rfl, rfl, ⟨by decide, by decide⟩, .inl ⟨_, rfl, _, rfl, _, _, rfl, rfl, ht, ?_⟩⟩⟩
      exact q _ _ (Int.emod_nonneg _ (by omega)) (Int.emod_lt_of_pos _ ht) ⟨_, _, _, h1⟩ b1
/-- one of the items -/
def spSome : Sp := fun vs H Q _ => ∃ (a b : Addr) (xs : List V), vs = [.ref a, .ref b] ∧ Urn H a ∧ H b = some (.lst xs) ∧ b ≠ a ∧ xs ≠ [] ∧ xs.length ≤ 1000 ∧
  ∀ (i : Nat) (x : V) (H' : Hp), xs[i]? = some x → Urn H' a → But a H H' → Q x H'
theorem ok_some {f ft : Addr} {fd fdt : FuncData} {k : Nat} (T : Txt mg) (d : D K mg "_law_some" s_law_some ["_law_urn_here", "_law_items"] f fd) (dt : D K mg "_law_take" s_law_take ["_law_urn_here", "_law_total"] ft fdt) :
    FnOk P w K mg base CX0 (k + 2) f fd ["_law_urn_here", "_law_items"] spSome := by
  have G : FnOk P w K mg base CX0 (k + 1) ft fdt ["_law_urn_here", "_law_total"] spTake := ok_take T dt
  refine d.F.ok sc_law_some (fun vs H Q E h => ?_) (fun cdv A outer s H vs Q E hr h => ?_)
  · obtain ⟨a, b, xs, rfl, _⟩ := h
    rfl
  · obtain ⟨a, b, xs, rfl, hu, hb, hne, hx, hz, q⟩ := h
    refine ⟨_, (pss_one (ps_ret (pe_ix ix_list (pv 1) (pe_call G hr (by rfl) dt.g dt.F.kp dt.b .nil pass0 (pa_cons (pv 0) (pa_cons (pe_callB call_len_seq (by rfl) T.n_len PySem.boot_len (pa_cons (pv 1) pa_nil)) pa_nil))) (fun _ _ => rfl)))), ?_⟩
    refine ⟨.ref b, rfl, .ref a, rfl, .ref b, rfl, b, xs, rfl, .inl (Urn.seq hb), a, _, rfl, hu, ?_, ?_, fun v H' v0 v1 hu' hk => ?_⟩
    · cases xs with
      | nil => exact absurd rfl hx
      | cons x r => rw [List.length_cons]; omega
    · have e : ((xs.length : Int)).natAbs = xs.length := Int.natAbs_natCast _
      rw [e]
      exact Nat.lt_of_le_of_lt (Nat.log2_le_self _) (by omega)
    · obtain ⟨j, rfl⟩ : ∃ j : Nat, v = (j : Int) := ⟨v.toNat, by omega⟩
      have hv : j < xs.length := by omega
      exact ⟨b, xs, j, xs[j], rfl, rfl, Urn.seq ((hk b hne).trans hb), atI_nat (List.getElem?_eq_getElem hv), q j _ H' (List.getElem?_eq_getElem hv) hu' hk⟩
end
end K01

namespace K01
/-! ### binomials of integers of any sign -/
def cN : Nat → Nat → Nat
  | _, 0 => 1
  | 0, _ + 1 => 0
  | n + 1, k + 1 => cN n k + cN n (k + 1)
theorem cN_zero (n : Nat) : cN n 0 = 1 := by cases n <;> rfl
theorem cN_lt : ∀ (n k : Nat), n < k → cN n k = 0
  | 0, 0, h => absurd h (by omega)
  | 0, k + 1, _ => rfl
  | n + 1, 0, h => absurd h (by omega)
  | n + 1, k + 1, h => by
    show cN n k + cN n (k + 1) = 0
    rw [cN_lt n k (by omega), cN_lt n (k + 1) (by omega)]
theorem cN_self : ∀ n : Nat, cN n n = 1
  | 0 => rfl
  | n + 1 => by
    show cN n n + cN n (n + 1) = 1
    rw [cN_self n, cN_lt n (n + 1) (by omega)]
/-- 1 or -1 -/
def sg (k : Nat) : Int := if k % 2 = 0 then 1 else -1
theorem sg_succ (k : Nat) : sg (k + 1) = - sg k := by
  unfold sg
  by_cases h : k % 2 = 0
  · rw [if_pos h, if_neg (by omega)]
  · rw [if_neg h, if_pos (by omega)]
    rfl
def bi (n : Int) (k : Nat) : Int := if 0 ≤ n then (cN n.toNat k : Int) else sg k * (cN (k + (-n - 1).toNat) k : Int)
theorem bi_zero (n : Int) : bi n 0 = 1 := by
  unfold bi
  rw [cN_zero, cN_zero]
  by_cases h : 0 ≤ n
  · rw [if_pos h]; rfl
  · rw [if_neg h]; rfl
theorem bi_lt {n : Int} {k : Nat} (h0 : 0 ≤ n) (h : n < k) : bi n k = 0 := by
  unfold bi
  rw [if_pos h0, cN_lt _ _ (by omega)]
  rfl
theorem bi_pascal (n : Int) (k : Nat) : bi (n + 1) (k + 1) = bi n k + bi n (k + 1) := by
  unfold bi
  by_cases h : 0 ≤ n
  · rw [if_pos h, if_pos h, if_pos (by omega)]
    have e : (n + 1).toNat = n.toNat + 1 := by omega
    rw [e]
    show ((cN n.toNat k + cN n.toNat (k + 1) : Nat) : Int) = _
    rw [Int.natCast_add]
  · rw [if_neg h, if_neg h]
    by_cases h1 : 0 ≤ n + 1
    · have hn : n = -1 := by omega
      subst hn
      rw [if_pos h1]
      show ((cN 0 (k + 1) : Nat) : Int) = sg k * (cN (k + 0) k : Int) + sg (k + 1) * (cN (k + 1 + 0) (k + 1) : Int)
      rw [cN_lt 0 (k + 1) (by omega), Nat.add_zero, Nat.add_zero, cN_self, cN_self, sg_succ]
      omega
    · rw [if_neg h1]
      obtain ⟨m, hm⟩ : ∃ m : Nat, (-n - 1).toNat = m + 1 := ⟨(-n - 2).toNat, by omega⟩
      have hm2 : (-(n + 1) - 1).toNat = m := by omega
      rw [hm, hm2]
      have e1 : k + 1 + (m + 1) = (k + 1 + m) + 1 := by omega
      have e2 : k + (m + 1) = k + 1 + m := by omega
      rw [e1, e2]
      show sg (k + 1) * ((cN (k + 1 + m) (k + 1) : Nat) : Int) = sg k * (cN (k + 1 + m) k : Int) + sg (k + 1) * ((cN (k + 1 + m) k + cN (k + 1 + m) (k + 1) : Nat) : Int)
      rw [Int.natCast_add, sg_succ, Int.mul_add]
      rw [Int.neg_mul, Int.neg_mul]
      omega
theorem int_const {g : Int → Int} (h : ∀ n, g (n + 1) = g n) : ∀ n, g n = g 0 := by
  have up : ∀ m : Nat, g (m : Int) = g 0 := by
    intro m
    induction m with
    | zero => rfl
    | succ m ih =>
      rw [Int.natCast_succ, h, ih]
  have dn : ∀ m : Nat, g (-(m : Int)) = g 0 := by
    intro m
    induction m with
    | zero => rfl
    | succ m ih =>
      rw [← ih, ← h (-((m + 1 : Nat) : Int))]
      congr 1
      omega
  intro n
  by_cases hn : 0 ≤ n
  · have e : n = ((n.toNat : Nat) : Int) := by omega
    rw [e]
    exact up _
  · have e : n = -(((-n).toNat : Nat) : Int) := by omega
    rw [e]
    exact dn _
theorem bi_step : ∀ (k : Nat) (n : Int), ((k : Int) + 1) * bi n (k + 1) = (n - k) * bi n k := by
  intro k
  induction k with
  | zero =>
    intro n
    have key : ∀ n, (fun n => bi n 1 - n) n = (fun n => bi n 1 - n) 0 := int_const fun n => by
      show bi (n + 1) (0 + 1) - (n + 1) = bi n (0 + 1) - n
      rw [bi_pascal, bi_zero]
      omega
    have e := key n
    have z : bi 0 1 = 0 := bi_lt (by omega) (by decide)
    dsimp only at e
    rw [z] at e
    rw [bi_zero]
    show (0 + 1) * bi n 1 = (n - 0) * 1
    omega
  | succ j ih =>
    intro n
    have key : ∀ n, (fun n => ((j : Int) + 1 + 1) * bi n (j + 1 + 1) - (n - (j + 1)) * bi n (j + 1)) n = (fun n => ((j : Int) + 1 + 1) * bi n (j + 1 + 1) - (n - (j + 1)) * bi n (j + 1)) 0 := int_const fun n => by
      show ((j : Int) + 1 + 1) * bi (n + 1) (j + 1 + 1) - (n + 1 - (j + 1)) * bi (n + 1) (j + 1) = ((j : Int) + 1 + 1) * bi n (j + 1 + 1) - (n - (j + 1)) * bi n (j + 1)
      have i := ih n
      rw [bi_pascal, bi_pascal]
      generalize bi n (j + 1 + 1) = x at *
      generalize bi n (j + 1) = y at *
      generalize bi n j = z at *
      have e1 : ((j : Int) + 1 + 1) * (y + x) = ((j : Int) + 1) * y + y + ((j : Int) + 1 + 1) * x := by
        rw [Int.mul_add, Int.add_mul ((j : Int) + 1) 1 y, Int.one_mul]
      have e2 : (n + 1 - ((j : Int) + 1)) * (z + y) = (n - j) * z + (n - ((j : Int) + 1)) * y + y := by
        have a : n + 1 - ((j : Int) + 1) = n - j := by omega
        have b : n - ((j : Int) + 1) = n - j - 1 := by omega
        rw [a, b, Int.mul_add, Int.sub_mul (n - j) 1 y, Int.one_mul]
        omega
      rw [e1, e2, i]
      omega
    have e := key n
    have z1 : bi 0 (j + 1 + 1) = 0 := bi_lt (by omega) (by omega)
    have z2 : bi 0 (j + 1) = 0 := bi_lt (by omega) (by omega)
    dsimp only at e
    rw [z1, z2, Int.mul_zero, Int.mul_zero] at e
    have c : (((j + 1 : Nat) : Int)) = (j : Int) + 1 := rfl
    rw [c]
    omega
theorem bi_next (k : Nat) (n : Int) : bi n k * (n - k) / ((k : Int) + 1) = bi n (k + 1) := by
  rw [Int.mul_comm (bi n k), ← bi_step, Int.mul_ediv_cancel_left _ (by omega)]
/-- the falling product, and k! -/
def fall (n : Int) : Nat → Int
  | 0 => 1
  | k + 1 => fall n k * (n - k)
def fac : Nat → Int
  | 0 => 1
  | k + 1 => fac k * ((k : Int) + 1)
theorem fac_pos : ∀ k, 0 < fac k
  | 0 => by decide
  | k + 1 => Int.mul_pos (fac_pos k) (by omega)
theorem fall_bi (n : Int) : ∀ k : Nat, fall n k = bi n k * fac k
  | 0 => by rw [bi_zero]; rfl
  | k + 1 => by
    show fall n k * (n - k) = bi n (k + 1) * (fac k * ((k : Int) + 1))
    rw [fall_bi n k]
    have s := bi_step k n
    have e1 : bi n k * fac k * (n - k) = fac k * ((n - k) * bi n k) := by
      rw [Int.mul_comm (bi n k), Int.mul_assoc, Int.mul_comm (bi n k)]
    have e2 : bi n (k + 1) * (fac k * ((k : Int) + 1)) = fac k * (((k : Int) + 1) * bi n (k + 1)) := by
      rw [Int.mul_comm (bi n (k + 1)), Int.mul_assoc]
    rw [e1, e2, s]
def overL (t b : Int) : Int := if t < 0 then 0 - (0 - t) / b else t / b
theorem over_bi (n : Int) (k : Nat) : overL (fall n k) (fac k) = bi n k := by
  have p := fac_pos k
  unfold overL
  rw [fall_bi]
  by_cases h : bi n k * fac k < 0
  · have e : 0 - bi n k * fac k = (0 - bi n k) * fac k := by rw [Int.sub_mul, Int.zero_mul]
    rw [if_pos h, e, Int.mul_ediv_cancel _ (by omega)]
    omega
  · rw [if_neg h, Int.mul_ediv_cancel _ (by omega)]
theorem bi_flip : ∀ (k : Nat) (n : Int), bi ((k : Int) - n - 1) k = sg k * bi n k := by
  intro k
  induction k with
  | zero =>
    intro n
    rw [bi_zero, bi_zero]
    rfl
  | succ j ih =>
    intro n
    have key : ∀ n, (fun n => bi ((j : Int) + 1 - n - 1) (j + 1) - sg (j + 1) * bi n (j + 1)) n = (fun n => bi ((j : Int) + 1 - n - 1) (j + 1) - sg (j + 1) * bi n (j + 1)) 0 := int_const fun n => by
      show bi ((j : Int) + 1 - (n + 1) - 1) (j + 1) - sg (j + 1) * bi (n + 1) (j + 1) = bi ((j : Int) + 1 - n - 1) (j + 1) - sg (j + 1) * bi n (j + 1)
      have a : (j : Int) + 1 - (n + 1) - 1 = (j : Int) - n - 1 := by omega
      have b : (j : Int) + 1 - n - 1 = ((j : Int) - n - 1) + 1 := by omega
      rw [a, b, bi_pascal n j, bi_pascal ((j : Int) - n - 1) j, ih n, sg_succ, Int.mul_add, Int.neg_mul, Int.neg_mul]
      omega
    have e := key n
    have z1 : bi ((j : Int) + 1 - 0 - 1) (j + 1) = 0 := bi_lt (by omega) (by omega)
    have z2 : bi 0 (j + 1) = 0 := bi_lt (by omega) (by omega)
    dsimp only at e
    rw [z1, z2, Int.mul_zero] at e
    have c : (((j + 1 : Nat) : Int)) = (j : Int) + 1 := rfl
    rw [c]
    omega
theorem sg_sq (k : Nat) : sg k * sg k = 1 := by
  unfold sg
  by_cases h : k % 2 = 0
  · rw [if_pos h]; rfl
  · rw [if_neg h]; rfl
/-- the sum of products -/
def vsum (a b : Int) (k : Nat) : Nat → Int
  | 0 => 0
  | i + 1 => vsum a b k i + bi a i * bi b (k - i)
theorem vsum_step (a b : Int) (k : Nat) : ∀ i : Nat, i ≤ k + 1 → vsum (a + 1) b (k + 1) (i + 1) = vsum a b (k + 1) (i + 1) + vsum a b k i
  | 0, _ => by
    show 0 + bi (a + 1) 0 * bi b (k + 1 - 0) = 0 + bi a 0 * bi b (k + 1 - 0) + 0
    rw [bi_zero, bi_zero]
    omega
  | i + 1, h => by
    show vsum (a + 1) b (k + 1) (i + 1) + bi (a + 1) (i + 1) * bi b (k + 1 - (i + 1)) = vsum a b (k + 1) (i + 1) + bi a (i + 1) * bi b (k + 1 - (i + 1)) + (vsum a b k i + bi a i * bi b (k - i))
    rw [vsum_step a b k i (by omega), bi_pascal, Int.add_mul]
    have e : k + 1 - (i + 1) = k - i := by omega
    rw [e]
    omega
theorem vsum_zero (b : Int) (k : Nat) : ∀ i : Nat, vsum 0 b k (i + 1) = bi b k
  | 0 => by
    show 0 + bi 0 0 * bi b (k - 0) = bi b k
    rw [bi_zero, Nat.sub_zero]
    omega
  | i + 1 => by
    show vsum 0 b k (i + 1) + bi 0 (i + 1) * bi b (k - (i + 1)) = bi b k
    have z : bi 0 (i + 1) = 0 := bi_lt (by omega) (by omega)
    rw [vsum_zero b k i, z, Int.zero_mul, Int.add_zero]
theorem vandermonde (b : Int) : ∀ (k : Nat) (a : Int), vsum a b k (k + 1) = bi (a + b) k := by
  intro k
  induction k with
  | zero =>
    intro a
    show 0 + bi a 0 * bi b (0 - 0) = bi (a + b) 0
    rw [bi_zero, bi_zero, bi_zero]
    rfl
  | succ k ih =>
    intro a
    have key : ∀ a, (fun a => vsum a b (k + 1) (k + 1 + 1) - bi (a + b) (k + 1)) a = (fun a => vsum a b (k + 1) (k + 1 + 1) - bi (a + b) (k + 1)) 0 := int_const fun a => by
      show vsum (a + 1) b (k + 1) (k + 1 + 1) - bi (a + 1 + b) (k + 1) = vsum a b (k + 1) (k + 1 + 1) - bi (a + b) (k + 1)
      have e : a + 1 + b = a + b + 1 := by omega
      rw [vsum_step a b k (k + 1) (by omega), ih a, e, bi_pascal]
      omega
    have e := key a
    dsimp only at e
    rw [vsum_zero, Int.zero_add] at e
    omega
/-! ### sizes -/
theorem fall_size {n : Int} (h : n.natAbs < 2 ^ 200) : ∀ k : Nat, k ≤ 61 → (fall n k).natAbs < 2 ^ (201 * k + 1)
  | 0, _ => by
    show (1 : Int).natAbs < 2 ^ (201 * 0 + 1)
    decide
  | k + 1, hk => by
    have ih := fall_size h k (by omega)
    show (fall n k * (n - k)).natAbs < _
    rw [Int.natAbs_mul]
    have p : 2 ^ (201 * (k + 1) + 1) = 2 ^ (201 * k + 1) * 2 ^ 201 := by
      rw [← Nat.pow_add]
      congr 1
    rw [p]
    have q : (n - k).natAbs < 2 ^ 201 := by
      have : (2 : Nat) ^ 201 = 2 ^ 200 + 2 ^ 200 := by decide
      have : (61 : Nat) < 2 ^ 200 := by decide
      omega
    exact Nat.mul_lt_mul'' ih q
theorem bi_size {n : Int} (h : n.natAbs < 2 ^ 200) {k : Nat} (hk : k ≤ 61) : (bi n k).natAbs < 2 ^ (201 * k + 1) := by
  have a := fall_size h k hk
  rw [fall_bi, Int.natAbs_mul] at a
  have p := fac_pos k
  have q : 1 ≤ (fac k).natAbs := by omega
  exact Nat.lt_of_le_of_lt (Nat.le_mul_of_pos_right _ q) a
theorem bi_size' {n : Int} (h : n.natAbs < 2 ^ 200) {k : Nat} (hk : k ≤ 61) : (bi n k).natAbs < 2 ^ 12263 :=
  Nat.lt_of_lt_of_le (bi_size h hk) (Nat.pow_le_pow_right (by decide) (by omega))
theorem fac_size : ∀ k : Nat, k ≤ 61 → (fac k).natAbs < 2 ^ (6 * k + 1)
  | 0, _ => by decide
  | k + 1, hk => by
    have ih := fac_size k (by omega)
    show (fac k * ((k : Int) + 1)).natAbs < _
    rw [Int.natAbs_mul]
    have p : 2 ^ (6 * (k + 1) + 1) = 2 ^ (6 * k + 1) * 2 ^ 6 := by
      rw [← Nat.pow_add]
      congr 1
    rw [p]
    exact Nat.mul_lt_mul'' ih (by omega)
end K01

namespace PySem
namespace NumX
open PySem.W PySem.Calls PyProof.Rows PySem.HandSPX
abbrev tailIE : List Value := [.type "IndexError", .type "LookupError", .type "Exception", .type "BaseException", .type "object"]
/-! ### the text of __init__ -/
def iA (p1 p2 : Pos) : Arguments := { posonlyargs := [], args := [{ arg := "self", annotation := none, pos := p1 }, { arg := "given", annotation := none, pos := p2 }], vararg := none, kwonlyargs := [], kw_defaults := [], kwarg := none, defaults := [] }
def iB (q1 q2 q3 q4 : Pos) : List Stmt := [.Assign [.Attribute (.Name "self" q1) "given" q2] (.Name "given" q3) q4]
def iS : Scope := { kind := .function, names := [(PySem.Str.ofString "self", .local), (PySem.Str.ofString "given", .local)], isGenerator := false, isCoroutine := false, more := [] }
/-- what the written part says of Low, at C, and of its __init__, at fI -/
structure NumTxt (K : Frag) (mg : Str → Option Value) (C fI : Addr) : Prop where
  gC : mg "InvalidNumber" = some (.ref C)
  cls : ∃ nm q N bs bm sn sub ab col dd k0 k1 k2 k3 k5, K.lookup C = some (excClassObj nm q C N bs bm true sn sub ab col dd k0 k1 k2 k3 k5 "IndexError.__new__") ∧ PySem.W.excTail tailIE bm = true
  over : excOver K C tailIE = true
  tk : takerIn K C "given" = some none
  sa : findIn K (.ref C) "__setattr__" = some (some (.builtin "object.__setattr__"))
  ga : findIn K (.ref C) "__getattribute__" = some (some (.builtin "BaseException.__getattribute__"))
  gg : findIn K (.ref C) "__getattr__" = some none
  noN : findIn K (.ref C) "given" = some none
  iC : findIn K (.ref C) "__init__" = some (some (.ref fI))
  tC : typeIn K (.ref fI) = some (.type "function")
  kC : keepIn K (.ref C) = true
  exC : subIn K (.ref C) (.type "BaseException") = some true
  tyC : typeIn K (.ref C) = some (.type "type")
  hdC : hasDictIn K C = true
  te : exmOne K (.ref C) (.ref C) = some true
  fn : ∃ (oc : Value) (od : Option Addr) (doc pm : Value) (an : Option Addr) (cdv ct : Value) (osl : Array (Option Value)) (p1 p2 q1 q2 q3 q4 : Pos),
    K.lookup fI = some ⟨oc, od, .func (fnOf "__init__" "InvalidNumber.__init__" (iA p1 p2) (iB q1 q2 q3 q4) iS .none .none doc pm an cdv ct), osl⟩ ∧ codeIn K cdv "InvalidNumber.__init__" = true
section
open Builtin Builtin.ObjectAttr
variable {prog : Program} {w : World} {A : Around} {E : Value → Shared → Prop} {R : Result → Shared → Prop} {hp : Heap} {g : Array GenState} {d : Drawn} {t : Nat} {os : OsState}
/-- the first field of an exception over IndexError is stored: its dict is made -/
theorem num_osa {K : Frag} {nam : Str} {tok : Tok} {u : Value} {ex C t0 : Addr} {cdt : ClassData} (X : K.In hp) (he : hp.get? ex = some (excO C t0)) (hcl : clsIn K C = some cdt) (hdi : cdt.hasDict = true) (hov : excOver K C tailIE = true) (htk : takerIn K C nam = some none)
    (go : ∀ h' tk' dx, (∀ b o, b ≠ ex → hp.get? b = some o → h'.get? b = some o) → hp.objs.size ≤ dx → dx ≠ ex → h'.get? ex = some { cls := .ref C, dict := some dx, data := .fields #[.ref t0, .none, .none, .none, .bool false, .none] } →
      h'.Ns1 dx (fun y => if y = nam then some u else none) → R (.ok (.ret .none)) ⟨h', g, d, tk', os⟩) :
    codeAny (model prog w) A (.call (.builtin "object.__setattr__") ⟨[.ref ex, .str nam tok, u], []⟩) R ⟨hp, g, d, t, os⟩ := by
  have J : InstAt hp ex (excO C t0) C none := ⟨he, rfl, rfl, trivial⟩
  have away : ex ≠ hp.objs.size := Nat.ne_of_lt (Heap.lt_size he)
  have look : Looks (model prog w) hp (classData C) cdt := looks_clsIn X hcl
  refine osa_openX F.store_IndexError X J hov htk (fun b => ?_)
  show wpAny _ _ (storeInOwnDict (.ref ex) (.ref C) (.str nam tok) nam u b) _ _ _
  obtain ⟨c1, c2, c3, c4, c5, c6, c7, c8, c9, c10, c11⟩ := cdt
  dsimp only at hdi
  subst hdi
  unfold storeInOwnDict ownDictForStores
  repeat (first | with_reducible refine store_in_new ?_ ?_ | with_reducible refine wpAny_loadPart_at he ?_ | with_reducible refine look.at ?_ | wp_step)
  · exact ⟨_, #[], _, (Heap.get?_update_ne _ _ _ _ away.symm).trans (Heap.get?_push_at rfl rfl), rfl, fun z hz => absurd hz (by simp), fun _ => rfl⟩
  · intro h' tk' hn' same
    have he1 : (hp.push { cls := .type "dict", data := .dict #[] }).get? ex = some (excO C t0) := Heap.get?_push_of_some _ he
    refine go h' tk' hp.objs.size (fun b o hb ho => ?_) (Nat.le_refl _) away.symm ?_ hn'
    · have y := same.2 b (Nat.ne_of_lt (Heap.lt_size ho))
      exact y.trans ((Heap.get?_update_ne _ _ _ _ hb).trans (Heap.get?_push_of_some _ ho))
    · exact (same.2 ex away).trans (Heap.get?_update_self _ he1 rfl)
end
theorem one_size (v : Value) : [v].length ≤ sizeLine := by
  rw [sizeLine_eq]
  exact (by decide : 1 ≤ 16777216)
theorem kept_but {K : Frag} {h h' : Heap} {x : Addr} (X : K.In h) (hx : K.lookup x = none) (k : ∀ b o, b ≠ x → h.get? b = some o → h'.get? b = some o) : K.In h' := fun a o e =>
  k a o (fun z => by rw [z, hx] at e; cases e) (X a o e)
theorem ldC {M : Model} {s : Shared} {name : Str} {scope : Scope} {L a : Addr} {cd : Value} {m : Str → Option Value} {x : Str} {pos : Pos} {v : Value} {Q : Value → Shared → Prop} {A : Around} {E : Value → Shared → Prop} (hn : s.heap.Ns L m) (hv : m x = some v) (h : Q v s)
    (hk : scope.kind = .function := by rfl) (hl : (envOfC name scope L a cd).kindOf x = some .local := by rfl) (hd : (x == ("__debug__" : Str)) = false := by decide) :
    wpAny M A (eval (.Name x pos) (envOfC name scope L a cd)) Q E s := wpAny_Name (wpAny_loadName_local hk hl hn hv h) hd
/-- what __init__ leaves of a fresh exception at x -/
structure InitEnd (h h' : Heap) (x C dx t1 : Addr) (v : Value) : Prop where
  keep : ∀ b o, b ≠ x → h.get? b = some o → h'.get? b = some o
  obj : h'.get? x = some { cls := .ref C, dict := some dx, data := .fields #[.ref t1, .none, .none, .none, .bool false, .none] }
  dbig : h.objs.size ≤ dx
  dne : dx ≠ x
  ns : h'.Ns1 dx (fun y => if y = "given" then some v else none)
/-- a made Low -/
structure OwnMade (h h' : Heap) (e C d : Addr) (v : Value) : Prop where
  keep : ∀ b o, h.get? b = some o → h'.get? b = some o
  new : h.objs.size ≤ e
  obj : ∃ oe vs, h'.get? e = some oe ∧ oe.cls = .ref C ∧ oe.dict = some d ∧ oe.data = .fields vs ∧ vs[1]? = some .none
  dbig : h.objs.size ≤ d
  dne : d ≠ e
  ns : h'.Ns1 d (fun y => if y = "given" then some v else none)
section
variable {prog : Program} {w : World} {A : Around} {E : Value → Shared → Prop} {R : Result → Shared → Prop} {s : Shared} {K : Frag} {mg : Str → Option Value} {C fI : Addr}
theorem num_init (T : NumTxt K mg C fI) {x t0 : Addr} {v : Value} (X : K.In s.heap) (hlim : s.heap.NoLimit) (hx : s.heap.get? x = some (excO C t0)) (hnx : K.lookup x = none) (hroom : A.depth < recursionLimit)
    (hq : ∀ h' tk dx, InitEnd s.heap h' x C dx t0 v → R (.ok (.ret .none)) { s with heap := h', toks := tk }) :
    codeAny (model prog w) A (.call (.ref fI) ⟨[.ref x, v], []⟩) R s := by
  obtain ⟨oc, od, doc, pm, an, cdv, ct, osl, p1, p2, q1, q2, q3, q4, ho, hcd⟩ := T.fn
  obtain ⟨nm, q, N, bs, bm, sn, sub, ab, col, dd, k0, k1, k2, k3, k5, hC, hbm⟩ := T.cls
  have hcl : clsIn K C = some { name := nm, bases := bs, mro := .ref C :: bm, ns := N, qualname := q, hasDict := true, slotNames := sn, subclasses := sub, abstract := ab, collection := col, hasDel := false } := by unfold clsIn; rw [hC] <;> rfl
  refine Att.call_fn (binds := [("self", .ref x), ("given", v)]) X hlim ho hcd hroom (BindsTo.of_eq (by first | rfl | with_unfolding_all rfl)) (by first | rfl | decide | with_unfolding_all rfl) (fun s₁ IC => ?_) rfl rfl rfl
  obtain ⟨h₁, tk₁, rfl⟩ := IC.toInCall.same
  have k : ∀ b o, s.heap.get? b = some o → h₁.get? b = some o := IC.toInCall.keep
  have hn := IC.toInCall.ns
  have hxL : s.heap.objs.size ≠ x := Nat.ne_of_gt (Heap.lt_size hx)
  have X₁ : K.In h₁ := X.keeps k
  have hx₁ := k _ _ hx
  -- self.by = by
  show wpAny _ _ (execs _ _) _ _ _
  refine wpAny_execs_cons (plainObj_wpAny_Assign_Attribute ?_)
  refine ldC (v := v) hn (by first | rfl | with_unfolding_all rfl | kernel_rfl) (ldC (v := .ref x) hn (by first | rfl | with_unfolding_all rfl | kernel_rfl) ?_)
  refine set_plain X₁ (ox := excO C t0) (od := none) ⟨hx₁, rfl, rfl, trivial⟩ T.sa ?_
  refine num_osa X₁ hx₁ hcl rfl T.over T.tk (fun h₃ tk₃ dx k₃ dn dne hx₃ hn₃ => ?_)
  show wpAny _ _ (execs _ _) _ _ _
  have z : s.heap.objs.size < h₁.objs.size := hn.lt
  exact wpAny_execs_nil (hq h₃ tk₃ dx ⟨fun b o hb e => k₃ b o hb (k b o e), hx₃, Nat.le_of_lt (Nat.lt_of_lt_of_le z dn), dne, hn₃⟩)
theorem num_made (T : NumTxt K mg C fI) {v : Value} (X : K.In s.heap) (hlim : s.heap.NoLimit) (hroom : A.depth + 1 < recursionLimit)
    (hq : ∀ h' tk e d, OwnMade s.heap h' e C d v → R (.ok (.ret (.ref e))) { s with heap := h', toks := tk }) :
    codeAny (model prog w) A (.call (.ref C) ⟨[v], []⟩) R s := by
  obtain ⟨nm, q, N, bs, bm, sn, sub, ab, col, dd, k0, k1, k2, k3, k5, hC, hbm⟩ := T.cls
  obtain ⟨hp, g, dr, tk, os⟩ := s
  have k : ∀ b o, hp.get? b = some o → ((hp.push (kdv_tup [v])).push (excO C hp.objs.size)).get? b = some o := fun b o e => Heap.get?_push_of_some _ (Heap.get?_push_of_some _ e)
  have hget : ((hp.push (kdv_tup [v])).push (excO C hp.objs.size)).get? (hp.objs.size + 1) = some (excO C hp.objs.size) := by heap_get
  have hnx : K.lookup (hp.objs.size + 1) = none := by
    cases e : K.lookup (hp.objs.size + 1) with
    | none => rfl
    | some o =>
      have z : hp.get? (hp.objs.size + 1) = some o := X _ _ e
      exact absurd (Nat.lt_of_succ_lt (Heap.lt_size z)) (Nat.lt_irrefl _)
  refine call_own F.excBase_IndexError (fun X => PySem.W.excTail_contains X bm hbm) (X _ _ hC) (looks_findIn X T.iC) (fun self => bind_fn X self T.tC) (one_size v) ?_
  refine num_init (s := ⟨(hp.push (kdv_tup [v])).push (excO C hp.objs.size), g, dr, tk, os⟩) T (X.keeps k) (hlim.keeps k) hget hnx ?_ fun h' tk' dx ⟨k', hx, dn, dne, hns⟩ => ?_
  · show A.depth + 1 < recursionLimit
    exact hroom
  · have old : ∀ b o, hp.get? b = some o → h'.get? b = some o := fun b o e => k' b o (Nat.ne_of_lt (Nat.lt_succ_of_lt (Heap.lt_size e))) (k b o e)
    have z : hp.objs.size + 1 + 1 ≤ dx := by
      first
        | (simpa only [Heap.size_push] using dn)
        | exact dn
        | (have q := dn; rw [Heap.size_push, Heap.size_push] at q; exact q)
    exact ⟨rfl, hq h' tk' (hp.objs.size + 1) dx ⟨old, Nat.le_succ _, ⟨_, _, hx, rfl, rfl, rfl, rfl⟩, Nat.le_trans (Nat.le_trans (Nat.le_succ _) (Nat.le_succ _)) z, dne, hns⟩⟩
end
end NumX
end PySem
namespace L2
open PySem PySem.Spec PyProof.Rows
theorem relO_num {v : V} {v' : Value} (r : RelV v v') (f : Str) : RelO (List.lookup f [(("given" : Str), v)]) (if f = "given" then some v' else none) := by
  by_cases hw : f = "given"
  · subst hw
    rw [if_pos rfl]
    have q : List.lookup ("given" : Str) [(("given" : Str), v)] = some v := by simp [List.lookup]
    rw [q]
    exact r
  · rw [if_neg hw]
    have qw : (f == ("given" : Str)) = false := by simpa using hw
    have q2 : List.lookup f [(("given" : Str), v)] = none := by simp [List.lookup, qw]
    rw [q2]
    trivial
section
variable {X : Cx} {C fI : Addr}
/-- Low(e) -/
def tMkNum (C : Addr) (ta : TA) : St → Hp → XK → Prop := fun σ H Q => ta σ H fun vs H1 => ∃ v, vs = [v] ∧ ∀ d, H1 d = none → Q (.ref C) (some d) (upd H1 d (.xd [(("given" : Str), v)]))
theorem pmk_num {a : Expr} {ta : TA} {p pos : Pos} {k : Nat} (T : PySem.NumX.NumTxt X.K X.mg C fI) (hr : Room k X.A) (ha : PA X [a] ta) (hg : Gl X "InvalidNumber" := by rfl)
    (he : starEach (a :: []) X.env = (false, eval a X.env) :: starEach [] X.env := by rfl) (hpl : (backTo pos (starEach [] X.env)).any (·.1) = false := by rfl) :
    PMk X (.Call (.Name "InvalidNumber" p) [a] [] pos) (tMkNum C ta) := by
  intro pins s σ H Q I h
  refine wpAny_Call_Name_kw (ld_glob I hg T.gC ?_)
  refine PySem.W.callWith_K (h₀ := X.base) I.ok.mod.kin T.kC (thn (ha.run pos pins s σ H _ I h) fun us s1 hh => ?_) he hpl
  obtain ⟨vs, H1, I1, r1, v, ev, q1⟩ := hh
  subst ev
  refine ⟨I1.kIn, ?_⟩
  cases r1 with
  | cons rv rn =>
    rename_i v' us'
    cases rn
    show wpAny _ _ (call (.ref C) [v']) _ _ _
    have hlim := I1.nolimit
    obtain ⟨hp, g, dr, tk, os⟩ := s1
    refine wpAny_call (PySem.NumX.num_made T I1.kIn hlim (by have := hr.dp; omega) fun h' tk' e d M => ?_)
    show MkP X pins σ Q (.ref e) ⟨h', g, dr, tk', os⟩
    obtain ⟨oe, fv, hoe, hc, hd, hdat, h1⟩ := M.obj
    have hns := M.ns
    obtain ⟨G', g1, g2⟩ := restrict h' fun b => decide (b ≠ e)
    have gk : ∀ b, b ≠ e → G'.get? b = h'.get? b := fun b hb => g1 b (decide_eq_true hb)
    have ge : G'.get? e = none := g2 e (by simp)
    have old : ∀ b o, hp.get? b = some o → G'.get? b = some o := fun b o q => (gk b (Nat.ne_of_lt (Nat.lt_of_lt_of_le (Heap.lt_size q) M.new))).trans (M.keep b o q)
    have ob : ObjOk X.prog X.w (upd H1 d (.xd [(("given" : Str), v)])) G' d (.xd [(("given" : Str), v)]) :=
      ⟨_, hns.at (fun o q => (gk d M.dne).trans q), fun f => relO_num rv f⟩
    have J : Inv X pins σ (upd H1 d (.xd [(("given" : Str), v)])) ⟨G', g, dr, tk', os⟩ := I1.laid (t' := tk') old M.dbig ob
    refine ⟨e, oe, fv, ⟨G', g, dr, tk', os⟩, _, .ref C, some d, rfl, J, fun b o q => ?_, ge, hoe, ⟨hc, hd⟩, hdat, h1, ?_, rfl, I1.bare, raises_own T.exC T.tyC, q1 d (I1.hok.fresh M.dbig)⟩
    · by_cases hb : b = e
      · have q' : G'.get? b = some o := q
        rw [hb, ge] at q'; cases q'
      · exact (gk b hb).symm.trans q
    · rw [upd_ne (Ne.symm M.dne)]
      exact I1.hok.fresh M.new
/-- raise Low(e) -/
def tRaiseNum (C : Addr) (W : WX) (ta : TA) : TS := fun _ σ H => tMkNum C ta σ H fun cls d H' => W cls d σ H'
theorem ps_raiseNum {a : Expr} {ta : TA} {W : WX} {p pos pos2 : Pos} {k : Nat} (hc : X.calm = true) (T : PySem.NumX.NumTxt X.K X.mg C fI) (hr : Room k X.A) (tk : Takes X W) (ha : PA X [a] ta) (hg : Gl X "InvalidNumber" := by rfl)
    (he : starEach (a :: []) X.env = (false, eval a X.env) :: starEach [] X.env := by rfl) (hpl : (backTo pos (starEach [] X.env)).any (·.1) = false := by rfl) :
    PS X (.Raise (some (.Call (.Name "InvalidNumber" p) [a] [] pos)) none pos2) (tRaiseNum C W ta) := ps_raise hc tk (pmk_num T hr ha hg he hpl)
/-- low.by, low the exception that the suite holds (at a; its class cls, its dict d) -/
def tGiven (C : Addr) (a : Addr) (cls : Value) (d : Option Addr) (te : TE) : TE := fun σ H Q => te σ H fun x H1 => x = .ref a ∧ cls = .ref C ∧ ∃ (dd : Addr) (v : V), d = some dd ∧ H1 dd = some (.xd [(("given" : Str), v)]) ∧ Q v H1
theorem pe_given {a : Addr} {oe : Obj} {cls : Value} {d : Option Addr} {pn : List (Addr × Obj)} {e : Expr} {te : TE} {pos : Pos} (T : PySem.NumX.NumTxt X.K X.mg C fI) (hz : Zc cls d oe) (hf : ∃ vs, oe.data = .fields vs) (he : PE (X.suite a ((a, oe) :: pn)) e te)
    (hb : attributeBase e "given" X.env (eval e X.env) = eval e X.env := by rfl) :
    PE (X.suite a ((a, oe) :: pn)) (.Attribute e "given" pos) (tGiven C a cls d te) := by
  refine ⟨fun pins s σ H Q I h => ?_⟩
  refine attr_of hb (thn (he.run pins s σ H _ I h) fun u s1 hh => ?_)
  obtain ⟨x, H1, I1, rx, ex, ec, dd, v, ed, ea, q⟩ := hh
  subst ex
  obtain rfl : u = Value.ref a := rx
  subst ec
  subst ed
  obtain ⟨ha, _⟩ := I1.pin (a, oe) (List.mem_append_left _ List.mem_cons_self)
  obtain ⟨vs, hd⟩ := hf
  have hx : ObjOk X.prog X.w H1 s1.heap dd (.xd [(("given" : Str), v)]) := I1.hok dd _ ea
  obtain ⟨mA, hns, hr⟩ := hx
  obtain ⟨od, ho, hl⟩ := lookIn_ns hns
  have l : List.lookup ("given" : Str) [(("given" : Str), v)] = some v := by simp [List.lookup]
  obtain ⟨u, hu, ru⟩ := RelO.some_of (v := v) (o := mA "given") (by rw [← l]; exact hr "given")
  have J : PySem.W.InstAt s1.heap a oe C (some od) := ⟨ha, hz.1, by unfold PySem.W.notCls; rw [hd] <;> rfl, by rw [hz.2]; exact ho⟩
  exact HandSPX.exc_get I1.kIn J T.ga T.gg T.exC (PySem.W.findObj_own T.hdC T.noN rfl (by rw [hl, hu])) (handed_of ru) ⟨v, H1, I1.tok _, ru, q⟩
end
end L2

/-! # defs that are called where no repr is under way -/
namespace K01
open PySem PySem.Spec PyProof.Rows L2
/-- a def's promise, kept where no repr is under way -/
structure FnG (P : Program) (w : World) (K : PySem.W.Frag) (mg : Str → Option Value) (base : Heap) (CX : CXT) (k : Nat) (f : Addr) (fd : FuncData) (ps : List Str) (sp : Sp) : Prop where
  size : ∀ vs H Q E, sp vs H Q E → vs.length = ps.length
  runs : ∀ (A : Around) (out : List Env) (s : Shared) (H : Hp) (ar : Args) (us : List Value) (vs : List V) (Q : VK) (E : XK), A.guards = some [] → Room k A → Env0 P w K mg base A out s H → BindsTo s fd ar (ps.zip us) → Vals vs us → sp vs H Q E →
    codeAny (model P w) A (.call (.ref f) ar) (CR CX out P w H s Q E) s
theorem deep_guards {A : Around} {env : Env} (h : A.guards = some []) : (A.deeper env).guards = some [] := by
  first | exact h | (simp [Around.deeper, h])
theorem FnG.of {P : Program} {w : World} {K : PySem.W.Frag} {mg : Str → Option Value} {base : Heap} {k : Nat} {x qual : Str} {st : Stmt} {f : Addr} {fd : FuncData} {N ps : List Str} {sp : Sp} (F : Fun K x qual st f fd) (S : FnScope N ps (defScope st))
    (size : ∀ vs H Q E, sp vs H Q E → vs.length = ps.length)
    (body : ∀ (cdv : Value) (A : Around) (out : List Env) (s : Shared) (H : Hp) (vs : List V) (Q : VK) (E : XK), (A.deeper (envOfC qual (defScope st) s.heap.objs.size f cdv)).guards = some [] → Room k (A.deeper (envOfC qual (defScope st) s.heap.objs.size f cdv)) → sp vs H Q E →
      ∃ t, PSs (cxOf CX0 P w K mg base N qual (defScope st) f cdv A out s H E).nox (defBody st) t ∧ t { nx := fun _ H' => Q .non H', rt := Q } (start N vs) H) :
    FnG P w K mg base CX0 (k + 1) f fd ps sp := by
  obtain ⟨oc, od, kV, doc, pm, an, cdv, ct, osl, rfl, lk, hcd⟩ := F.ex
  refine ⟨size, fun A out s H ar us vs Q E hg hr e0 hb r hs => ?_⟩
  have many := size _ _ _ _ hs
  have low : ∀ b o, base.get? b = some o → s.heap.get? b = some o := fun b o e => (e0.bs b o e).1
  refine Att.call_fn (e0.mod.kin.keeps low) (e0.mod.nolimit.keeps low) lk hcd hr.depth hb ?_ (fun s1 x => ?_) S.co S.gen S.kind
  · rw [List.all_eq_true]
    rintro ⟨n, v⟩ hy
    have z := S.par n (List.of_mem_zip hy).1
    rcases z with z | z <;> simp [z]
  · obtain ⟨t, ht, hq⟩ := body cdv A out s H vs Q E (deep_guards hg) (hr.deeper _) hs
    have I : Inv (cxOf CX0 P w K mg base N qual (defScope st) f cdv A out s H E) [] (start N vs) H s1 := inv_start S hr.hd e0 many r x
    refine wpAny_mono (ht.nox.run [] s1 (start N vs) H _ I hq) (fun fl s' ends => ?_) fun e s' z => z
    have fin : ∀ {σ : L2.St} {H' : Hp} {v : V} {u : Value}, Inv (cxOf CX0 P w K mg base N qual (defScope st) f cdv A out s H E) [] σ H' s' → RelV v u → Q v H' → CE out P w H s Q u s' := fun {_ H' v _} J rv q =>
      ⟨v, H', J.os, J.bare, J.base, J.hok, rv, q⟩
    cases fl with
    | ret u =>
      obtain ⟨v, σ, H', J, rv, q⟩ := ends
      exact fin J rv q
    | next =>
      obtain ⟨σ, H', J, q⟩ := ends
      exact fin (v := V.non) (u := Value.none) J rfl q
    | brk =>
      obtain ⟨_, _, _, no⟩ := ends
      exact False.elim no
    | cont =>
      obtain ⟨_, _, _, no⟩ := ends
      exact False.elim no
section
variable {X : Cx} {k : Nat} {f : Addr} {fd : FuncData} {ps : List Str} {sp : Sp} {x : Str} {p pos : Pos} {e : Expr} {es : List Expr} {t : TA}
/-- f(e, ..) where no repr is under way -/
theorem pe_callG (G : FnG X.prog X.w X.K X.mg X.base CX0 k f fd ps sp) (no : X.A.guards = some []) (hr : Room k X.A) (hg : Gl X x) (hm : X.mg x = some (.ref f)) (hk : PySem.W.keepIn X.K (.ref f) = true) (hb : Binds X.K fd ps [])
    (ha : PA X (e :: es) t) (hdb : (x == ("__debug__" : Str)) = false := by decide) (he : starEach (e :: es) X.env = (false, eval e X.env) :: starEach es X.env := by rfl) (hpl : (backTo pos (starEach es X.env)).any (·.1) = false := by rfl) :
    PE X (.Call (.Name x p) (e :: es) [] pos) (tCall sp [] E0 t) := by
  refine ⟨fun pins s σ H Q I h => wpAny_Call_Name_kw (ld_glob I hg hm ?_ hdb)⟩
  refine PySem.W.callWith_K (h₀ := X.base) I.ok.mod.kin hk (thn (ha.run pos pins s σ H _ I h) fun us s1 ⟨vs, H1, I1, r, q⟩ => ⟨I1.kIn, ?_⟩) he hpl
  have q1 : sp vs H1 Q E0 := by
    have q2 : sp (vs ++ []) H1 Q E0 := q
    rwa [List.append_nil] at q2
  have many : (us ++ []).length = ps.length := by
    rw [List.append_nil, ← r.length]
    exact G.size _ _ _ _ q1
  have bnd := hb s1 us I1.kIn many
  rw [List.append_nil] at bnd
  refine wpAny_call (codeAny_mono (G.runs X.A X.stack s1 H1 ⟨us, []⟩ us vs Q E0 no hr I1.env0 bnd r q1) fun res s' z => ?_)
  cases res with
  | error e => exact False.elim z
  | ok fl =>
    cases fl with
    | ret u => exact I1.after z
    | next => exact False.elim z
    | brk => exact False.elim z
    | cont => exact False.elim z
/-- repr of a list or tuple of data, where no repr is under way -/
theorem call_repr_D (no : X.A.guards = some []) (hu : X.A.units + 100 < cLine) : CallR X (.builtin "repr") (fun xs H Q => ∃ (a : Addr) (d : PyData), xs = [.ref a] ∧ (∀ (pins : List (Addr × Obj)) (σ : L2.St) (s : Shared), Inv X pins σ H s → ∃ as, Reads s.heap (.ref a) d as ∧ (d.hasDict = true → sysModules ∉ as)) ∧
    d.showable = true ∧ d.depth ≤ 90 ∧ d.shown.length ≤ sizeLine ∧ Q (.str d.shown) H) := by
  intro pins s σ H vs us Q I r h
  obtain ⟨a, d, rfl, rd, sh, dp, sz, q⟩ := h
  obtain ⟨as, hr, hs⟩ := rd pins σ s I
  cases r with
  | cons r1 r2 =>
    cases r2
    obtain rfl := (show _ = Value.ref a from r1)
    refine repr_of_reads' hr sh hs no (by omega) (fun b o e => e) (fun h' u tk k => ?_) sz
    exact ⟨.str d.shown, H, I.kept (h' := h') (t' := tk) k, ⟨_, rfl⟩, q⟩
end
/-! ### the root -/
/-- nothing is tracked, but the script where the module does not hold it -/
def onlyS (K : PySem.W.Frag) (a : Addr) (u : HO) : Hp := fun b => if b = a ∧ K.lookup a = none then some u else none
theorem onlyS_at {K : PySem.W.Frag} {a b : Addr} {u v : HO} (h : onlyS K a u b = some v) : b = a ∧ K.lookup a = none ∧ v = u := by
  unfold onlyS at h
  by_cases c : b = a ∧ K.lookup a = none
  · rw [if_pos c] at h
    exact ⟨c.1, c.2, (Option.some.inj h).symm⟩
  · rw [if_neg c] at h
    cases h
theorem onlyS_off {K : PySem.W.Frag} {a b : Addr} {u : HO} (h : b ≠ a) : onlyS K a u b = none := if_neg fun c => h c.1
theorem onlyS_none {K : PySem.W.Frag} {a b : Addr} {u : HO} {o : Obj} (h : K.lookup b = some o) : onlyS K a u b = none := if_neg fun c => by
  obtain ⟨rfl, c2⟩ := c
  rw [h] at c2
  cases c2
theorem root_of {P : Program} {w : World} {K : PySem.W.Frag} {mg mb : Str → Option Value} {k : Nat} {fa a : Addr} {fd : FuncData} {x : Str} {sp : Sp} {s1 : Shared} {us : List Value} {ns : List Int}
    (KX : K.In s1.heap) (main : s1.heap.Ns mainGlobals mg) (blt : s1.heap.Ns builtinsNs mb) (boot : ∀ y : Str, y ≠ "__name__" → mb y = bootBuiltins y) (lim : s1.heap.NoLimit) (gens : s1.gens = #[])
    (ha : s1.heap.get? a = some { cls := .type "list", data := .seq us.toArray }) (hi : IntsAre us ns) (hl : ns.length ≤ sizeLine) (hr : Room k callerA)
    (G : ∀ base : Heap, K.In base → base.Ns mainGlobals mg → FnG P w K mg base CX0 k fa fd [x] sp) (bnd : ∀ (s : Shared) (u : Value), BindsTo s fd ⟨[u], []⟩ [(x, u)])
    (hsp : ∀ H : Hp, SqL K H a (ns.map V.int) → sp [.ref a] H (fun v _ => v = .bl true) E0) :
    codeAny (model P w) callerA (.call (.ref fa) ⟨[.ref a], []⟩) (fun r s' => r = .ok (.ret (.bool true)) ∧ OldK s1.heap s'.heap ∧ s'.os = s1.os ∧ AllBare s'.gens) s1 := by
  have rv := vals_ints hi
  have sized : (ns.map V.int).length ≤ sizeLine := by rwa [List.length_map]
  generalize hu : HO.frz { cls := .type "list", data := .seq us.toArray } (.lst (ns.map V.int)) = u
  have far : ∀ {b : Addr} {o : Obj} {es : Array DictEntry} {ep : Nat}, s1.heap.get? b = some o → o.data = .dict es ep → b ≠ a := fun {b o es ep} e d z => by
    subst z
    rw [ha] at e
    cases e
    cases d
  have space : ∀ {b : Addr} {m : Str → Option Value}, s1.heap.Ns b m → (hidT s1.heap (onlyS K a u)).Ns b m := fun {b m} ⟨o, es, ep, e, d, r⟩ => ⟨o, es, ep, hidT_get e (onlyS_off (far e d)), d, r⟩
  have KB : K.In (hidT s1.heap (onlyS K a u)) := fun b o e => hidT_get (KX b o e) (onlyS_none e)
  have M : Mod K mg (hidT s1.heap (onlyS K a u)) := ⟨KB, space main, ⟨mb, space blt, boot⟩, let ⟨mc, h1, h2⟩ := lim; ⟨mc, space h1, h2⟩⟩
  have ok : HOk P w (onlyS K a u) s1.heap := fun b v e => by
    obtain ⟨rfl, _, rfl⟩ := onlyS_at e
    subst hu
    exact ⟨ha, sized, us, _, rv, ha⟩
  have list : SqL K (onlyS K a u) a (ns.map V.int) := by
    cases hk : K.lookup a with
    | none =>
      refine .inl (.inr ⟨{ cls := .type "list", data := .seq us.toArray }, ?_⟩)
      rw [hu]
      exact if_pos ⟨rfl, hk⟩
    | some o =>
      have e := KX a o hk
      rw [ha] at e
      cases e
      exact .inr ⟨_, us.toArray, _, hk, rfl, rfl, rfl, by rw [List.size_toArray, hi.length]; exact hl, by simpa using rv⟩
  have e0 : Env0 P w K mg (hidT s1.heap (onlyS K a u)) callerA [] s1 (onlyS K a u) :=
    ⟨rfl, M, fun b o e => of_hidT e, Nat.le_of_eq (hidT_size _ _), trivial, fun b hb => absurd (show b ∈ ([] : List Addr) from hb) (by simp), ok, .of_eq gens⟩
  refine codeAny_mono ((G _ KB (space main)).runs callerA [] s1 _ ⟨[.ref a], []⟩ [.ref a] [.ref a] _ _ rfl hr e0 (bnd s1 (.ref a)) (.cons rfl .nil) (hsp _ list)) fun r s' z => ?_
  cases r with
  | error e => exact False.elim z
  | ok fl =>
    cases fl with
    | next => exact False.elim z
    | brk => exact False.elim z
    | cont => exact False.elim z
    | ret out =>
      obtain ⟨v, H', os, bare, un, ok', r', q⟩ := z
      obtain rfl : v = .bl true := q
      obtain rfl : out = Value.bool true := r'
      refine ⟨rfl, OldK.of_keep fun b o e => ?_, os, bare⟩
      cases q : onlyS K a u b with
      | none => exact un.keep b o e q (fun y => absurd (show b ∈ ([] : List Addr) from y) (by simp)) (by simp)
      | some v =>
        obtain ⟨rfl, _, rfl⟩ := onlyS_at q
        subst hu
        rw [ha] at e
        cases e
        exact (ok' _ _ (un.frzs _ _ _ q)).1
theorem walk_ofG {l : PySem.W.OpenLaw} {n k : Nat} {q : Program} {loose : List Str} {XP : (Str → Option Value) → Heap → Prop} {YP : World → Heap → Prop} {d : DefRec} {K : Params → PySem.W.Frag} {sp : PySem.W.Frag → Sp} {x : Str}
    (most : l.most = some n) (fits : n ≤ sizeLine) (plain : d.params.defaults = []) (hr : Room k callerA) (hY : ∀ (w : World) (h : Heap), YP w h → (K w.params).In h)
    (F : ∀ (w : World) (mg : Str → Option Value) (fa : Addr) (h : Heap), (K w.params).In h → h.Ns mainGlobals mg → mg d.name = some (.ref fa) →
      ∃ fd : FuncData, (∀ (s : Shared) (u : Value), BindsTo s fd ⟨[u], []⟩ [(x, u)]) ∧ ∀ base : Heap, (K w.params).In base → base.Ns mainGlobals mg → FnG l.prog w (K w.params) mg base CX0 k fa fd [x] (sp (K w.params)))
    (hsp : ∀ (K : PySem.W.Frag) (H : Hp) (a : Addr) (ns : List Int), ns.length ≤ n → SqL K H a (ns.map V.int) → sp K [.ref a] H (fun v _ => v = .bl true) E0) :
    PySem.W.WalkO q loose XP YP l.row.toRowW d [] (fun f vs => PySem.call f vs) := by
  refine Att.attach_call most plain fun w s0 s1 mg mb fa o pm cd doc a vs ns G Y ho hd hcd hmg hobj hints hlen hg => ?_
  have KX := hY w _ Y
  obtain ⟨fd, hb, hF⟩ := F w mg fa _ KX G.T.g hmg
  exact root_of KX G.T.g G.T.b G.T.builtins G.T.nolimit hg hobj hints (Nat.le_trans hlen fits) hr hF hb fun H hS => hsp _ H a ns hlen hS
end K01

namespace K01
open PySem PySem.Spec PyProof.Rows L2
/-! ### ints and what is none -/
/-- o: the int that x is, or none where x is no int (True and False are none) -/
def Val (K : PySem.W.Frag) (H : Hp) (x : V) (o : Option Int) : Prop :=
  (∃ i, x = .int i ∧ o = some i) ∨ (o = none ∧ ∃ (t : String) (b1 b2 : Bool), TyX K H x (.type t) ∧ kitB t "int" = some b1 ∧ kitB t "bool" = some b2 ∧ (b1 && !b2) = false)
theorem Val.int {K : PySem.W.Frag} {H : Hp} (i : Int) : Val K H (.int i) (some i) := .inl ⟨i, rfl, rfl⟩
def inL (o : Option Int) : Bool := match o with
  | some i => decide (i.natAbs < 10 ^ 60)
  | none => false
def inR (o : Option Int) (lo hi : Int) : Bool := match o with
  | some i => decide (lo ≤ i ∧ i ≤ hi)
  | none => false
/-- an InvalidNumber that keeps x -/
def Rais (C : Addr) (x : V) (H : Hp) (E : XK) : Prop := ∀ d : Addr, H d = none → E (.ref C) (some d) (upd H d (.xd [("given", x)]))
abbrev s_is_whole : Stmt := topS 7
theorem sc_is_whole : FnScope ["value"] ["value"] (defScope s_is_whole) := ⟨rfl, rfl, rfl, by decide +kernel, rfl, by decide +kernel, by decide +kernel⟩
abbrev s_is_integer : Stmt := topS 8
theorem sc_is_integer : FnScope ["value"] ["value"] (defScope s_is_integer) := ⟨rfl, rfl, rfl, by decide +kernel, rfl, by decide +kernel, by decide +kernel⟩
abbrev s_is_between : Stmt := topS 9
theorem sc_is_between : FnScope ["value", "least", "most"] ["value", "least", "most"] (defScope s_is_between) := ⟨rfl, rfl, rfl, by decide +kernel, rfl, by decide +kernel, by decide +kernel⟩
abbrev s_binomial : Stmt := topS 10
theorem sc_binomial : FnScope ["number", "many", "found", "taken"] ["number", "many"] (defScope s_binomial) := ⟨rfl, rfl, rfl, by decide +kernel, rfl, by decide +kernel, by decide +kernel⟩
abbrev s_choose : Stmt := topS 11
theorem sc_choose : FnScope ["number", "many"] ["number", "many"] (defScope s_choose) := ⟨rfl, rfl, rfl, by decide +kernel, rfl, by decide +kernel, by decide +kernel⟩
abbrev s_common_divisor : Stmt := topS 12
theorem sc_common_divisor : FnScope ["one", "other"] ["one", "other"] (defScope s_common_divisor) := ⟨rfl, rfl, rfl, by decide +kernel, rfl, by decide +kernel, by decide +kernel⟩
structure Num (K : PySem.W.Frag) (mg : Str → Option Value) (C fI : Addr) : Prop where
  num : PySem.NumX.NumTxt K mg C fI
  m_LIMIT : ∃ t, mg "_LIMIT" = some (.int (10 ^ 60) t)
  m_MOST_CHOSEN : ∃ t, mg "_MOST_CHOSEN" = some (.int 60 t)
  m_MOST_DIVIDED : ∃ t, mg "_MOST_DIVIDED" = some (.int (10 ^ 6) t)
  m_gcd : mg "gcd" = some (.builtin "math.gcd")
section
variable {P : Program} {w : World} {K : PySem.W.Frag} {mg : Str → Option Value} {base : Heap} {C fI : Addr}
def spWhole (K : PySem.W.Frag) : Sp := fun vs H Q _ => ∃ x o, vs = [x] ∧ Val K H x o ∧ Q (.bl o.isSome) H
theorem ok_whole {f : Addr} {fd : FuncData} {k : Nat} (T : Txt mg) (d : D K mg "is_whole" s_is_whole ["value"] f fd) : FnOk P w K mg base CX0 (k + 1) f fd ["value"] (spWhole K) := by
  refine d.F.ok sc_is_whole (fun vs H Q E h => ?_) (fun cdv A outer s H vs Q E hr h => ?_)
  · obtain ⟨x, o, rfl, _⟩ := h
    rfl
  · obtain ⟨x, o, rfl, hv, q⟩ := h
    refine ⟨_, (pss_one (ps_ret (pe_and (pe_callB call_isi (by rfl) T.n_isinstance (by decide +kernel) (pa_cons (pv 0) (pa_cons (pe_bltn (v := .ty "int") (by rfl) T.n_int (by decide +kernel) rfl) pa_nil))) (pe_one (pe_not (pe_callB call_isi (by rfl) T.n_isinstance (by decide +kernel) (pa_cons (pv 0) (pa_cons (pe_bltn (v := .ty "bool") (by rfl) T.n_bool (by decide +kernel) rfl) pa_nil)))))))), ?_⟩
    rcases hv with ⟨i, rfl, rfl⟩ | ⟨rfl, t, b1, b2, ty, k1, k2, kb⟩
    · refine ⟨_, rfl, _, _, .type "int", _, true, rfl, .ty _, .base (.int i), kit_ty (by decide +kernel), true, rfl, iteT ?_⟩
      exact ⟨_, rfl, _, _, .type "int", _, false, rfl, .ty _, .base (.int i), kit_ty (by decide +kernel), false, rfl, q⟩
    · refine ⟨_, rfl, _, _, .type t, _, b1, rfl, .ty _, ty, kit_ty k1, b1, rfl, ite2 (fun e => ?_) (fun e => q)⟩
      refine ⟨_, rfl, _, _, .type t, _, b2, rfl, .ty _, ty, kit_ty k2, b2, rfl, ?_⟩
      rw [e, Bool.true_and] at kb
      rw [kb]
      exact q
def spInteger (K : PySem.W.Frag) : Sp := fun vs H Q _ => ∃ x o, vs = [x] ∧ Val K H x o ∧ Q (.bl (inL o)) H
theorem ok_integer {f f1 : Addr} {fd fd1 : FuncData} {k : Nat} (T : Txt mg) (U : Num K mg C fI) (d : D K mg "is_integer" s_is_integer ["value"] f fd) (d_is_whole : D K mg "is_whole" s_is_whole ["value"] f1 fd1) : FnOk P w K mg base CX0 (k + 2) f fd ["value"] (spInteger K) := by
  have G_is_whole : FnOk P w K mg base CX0 (k + 1) f1 fd1 ["value"] (spWhole K) := ok_whole T d_is_whole
  obtain ⟨tL, m_LIMIT⟩ := U.m_LIMIT
  refine d.F.ok sc_is_integer (fun vs H Q E h => ?_) (fun cdv A outer s H vs Q E hr h => ?_)
  · obtain ⟨x, o, rfl, _⟩ := h
    rfl
  · obtain ⟨x, o, rfl, hv, q⟩ := h
    refine ⟨_, (pss_one (ps_ret (pe_and (pe_call G_is_whole hr (by rfl) d_is_whole.g d_is_whole.F.kp d_is_whole.b .nil pass0 (pa_cons (pv 0) pa_nil)) (pe_one (pe_cmpR op_lt (pe_callB call_abs (by rfl) T.n_abs (by decide +kernel) (pa_cons (pv 0) pa_nil)) (pe_glob (v := .int (10 ^ 60)) rfl m_LIMIT ⟨_, rfl⟩) (nomark _)))))), ?_⟩
    refine ⟨x, rfl, x, o, rfl, hv, o.isSome, rfl, ?_⟩
    rcases hv with ⟨i, rfl, rfl⟩ | ⟨rfl, _⟩
    · refine iteT ⟨_, rfl, i, rfl, _, _, rfl, rfl, ?_⟩
      have e : decide ((if i < 0 then -i else i) < 10 ^ 60) = inL (some i) := by
        unfold inL
        apply decide_eq_decide.mpr
        split <;> omega
      show Q (.bl (decide ((if i < 0 then -i else i) < 10 ^ 60))) H
      rw [e]
      exact q
    · exact iteF q
def spBetween (K : PySem.W.Frag) : Sp := fun vs H Q _ => ∃ x o lo hi, vs = [x, .int lo, .int hi] ∧ Val K H x o ∧ Q (.bl (inR o lo hi)) H
theorem ok_between {f f1 : Addr} {fd fd1 : FuncData} {k : Nat} (T : Txt mg) (d : D K mg "is_between" s_is_between ["value", "least", "most"] f fd) (d_is_whole : D K mg "is_whole" s_is_whole ["value"] f1 fd1) : FnOk P w K mg base CX0 (k + 2) f fd ["value", "least", "most"] (spBetween K) := by
  have G_is_whole : FnOk P w K mg base CX0 (k + 1) f1 fd1 ["value"] (spWhole K) := ok_whole T d_is_whole
  refine d.F.ok sc_is_between (fun vs H Q E h => ?_) (fun cdv A outer s H vs Q E hr h => ?_)
  · obtain ⟨x, o, lo, hi, rfl, _⟩ := h
    rfl
  · obtain ⟨x, o, lo, hi, rfl, hv, q⟩ := h
    refine ⟨_, (pss_one (ps_ret (pe_and (pe_call G_is_whole hr (by rfl) d_is_whole.g d_is_whole.F.kp d_is_whole.b .nil pass0 (pa_cons (pv 0) pa_nil)) (pe_one (pe_chain op_le op_le (pv 1) (pv 0) (pv 2)))))), ?_⟩
    refine ⟨x, rfl, x, o, rfl, hv, o.isSome, rfl, ?_⟩
    rcases hv with ⟨i, rfl, rfl⟩ | ⟨rfl, _⟩
    · refine iteT ⟨_, rfl, _, rfl, lo, i, rfl, rfl, _, rfl, ite2 (fun e => ?_) (fun e => ?_)⟩
      · refine ⟨_, rfl, i, hi, rfl, rfl, ?_⟩
        have e1 : lo ≤ i := of_decide_eq_true e
        have e2 : decide (i ≤ hi) = inR (some i) lo hi := by
          unfold inR
          apply decide_eq_decide.mpr
          omega
        show Q (.bl (decide (i ≤ hi))) H
        rw [e2]
        exact q
      · have e2 : false = inR (some i) lo hi := by
          unfold inR
          have e1 : ¬ lo ≤ i := fun z => e (decide_eq_true z)
          exact (decide_eq_false (by omega)).symm
        show Q (.bl false) H
        rw [e2]
        exact q
    · exact iteF q
def spBinomial : Sp := fun vs H Q _ => ∃ (n : Int) (k : Nat), vs = [.int n, .int k] ∧ n.natAbs < 2 ^ 200 ∧ k ≤ 60 ∧ Q (.int (bi n k)) H
theorem ok_binomial {f : Addr} {fd : FuncData} {k : Nat} (T : Txt mg) (d : D K mg "binomial" s_binomial ["number", "many"] f fd) : FnOk P w K mg base CX0 (k + 1) f fd ["number", "many"] spBinomial := by
  refine d.F.ok sc_binomial (fun vs H Q E h => ?_) (fun cdv A outer s H vs Q E hr h => ?_)
  · obtain ⟨n, j, rfl, _⟩ := h
    rfl
  · obtain ⟨n, j, rfl, hn, hj, q⟩ := h
    refine ⟨_, (pss_cons (ps_set (i := 2) sc_binomial.nd rfl (.inl rfl) pe_int)
      (pss_cons (ps_for PassesOwn.never rfl (pi_range1 rfl T.n_range (pa_cons (pv 1) pa_nil)) (pg_name (i := 3) sc_binomial.nd rfl (.inl rfl))
        (pss_one (ps_set (i := 2) sc_binomial.nd rfl (.inl rfl) (pe_op op_fdivW (pe_op op_mulW (pv 2) (pe_op op_sub (pv 0) (pv 3))) (pe_op op_add (pv 3) pe_int)))))
      (pss_one (ps_ret (pv 2))))), ?_⟩
    refine ⟨_, rfl, (j : Int), rfl, by omega, by omega, ?_⟩
    rw [show ((j : Int)).toNat = j from rfl]
    refine for_range (n := j) (fun i σ H' => (∃ y, σ = [some (.int n), some (.int j), some (.int (bi n i)), y]) ∧ H' = H) ⟨⟨none, by rw [bi_zero]; rfl⟩, rfl⟩ ?_ ?_
    · rintro i σ H' hi ⟨⟨y, rfl⟩, rfl⟩
      have h1 := bi_size' hn (show i ≤ 61 by omega)
      have h2 : (n - (i : Int)).natAbs < 2 ^ 201 := by
        have a : (2 : Nat) ^ 201 = 2 ^ 200 + 2 ^ 200 := by decide
        have b : (61 : Nat) < 2 ^ 200 := by decide
        omega
      refine ⟨_, rfl, _, rfl, _, rfl, n, 0 + (i : Int), rfl, rfl, bi n i, _, rfl, rfl, wide_mul (a := 12263) (b := 201) h1 (by rw [Int.zero_add]; exact h2) (by decide) (by decide) (by decide), ?_⟩
      refine ⟨_, rfl, 0 + (i : Int), 1, rfl, rfl, _, _, rfl, rfl, wide_div (b := 64) (by omega) (by omega) (by decide) (by decide), ?_⟩
      refine ⟨⟨some (.int (0 + i)), ?_⟩, rfl⟩
      show _ = [some (V.int n), some (V.int j), some (V.int (bi n (i + 1))), some (V.int (0 + i))]
      rw [← bi_next i n, Int.zero_add]
      rfl
    · rintro σ H' ⟨⟨y, rfl⟩, rfl⟩
      exact ⟨_, rfl, q⟩
def spChoose (K : PySem.W.Frag) (C : Addr) : Sp := fun vs H Q E => ∃ x y ox oy, vs = [x, y] ∧ Val K H x ox ∧ Val K H y oy ∧ (inL ox = false → Rais C x H E) ∧ (inL ox = true → inR oy 0 60 = false → Rais C y H E) ∧
  ∀ (n : Int) (k : Nat), ox = some n → oy = some (k : Int) → n.natAbs < 10 ^ 60 → k ≤ 60 → Q (.int (bi n k)) H
theorem lim200 {n : Int} (h : n.natAbs < 10 ^ 60) : n.natAbs < 2 ^ 200 := Nat.lt_of_lt_of_le h (by decide)
theorem ok_choose {f f1 f2 f3 f4 : Addr} {fd fd1 fd2 fd3 fd4 : FuncData} {k : Nat} (T : Txt mg) (U : Num K mg C fI) (d : D K mg "choose" s_choose ["number", "many"] f fd) (d_is_whole : D K mg "is_whole" s_is_whole ["value"] f1 fd1)
    (d_is_integer : D K mg "is_integer" s_is_integer ["value"] f2 fd2) (d_is_between : D K mg "is_between" s_is_between ["value", "least", "most"] f3 fd3) (d_binomial : D K mg "binomial" s_binomial ["number", "many"] f4 fd4) :
    FnOk P w K mg base (L2.CX P w) (k + 3) f fd ["number", "many"] (spChoose K C) := by
  have G_is_integer : FnOk P w K mg base CX0 (k + 2) f2 fd2 ["value"] (spInteger K) := ok_integer T U d_is_integer d_is_whole
  have G_is_between : FnOk P w K mg base CX0 (k + 2) f3 fd3 ["value", "least", "most"] (spBetween K) := ok_between T d_is_between d_is_whole
  have G_binomial : FnOk P w K mg base CX0 (k + 2) f4 fd4 ["number", "many"] spBinomial := ok_binomial T d_binomial
  obtain ⟨tL, m_MOST_CHOSEN⟩ := U.m_MOST_CHOSEN
  refine d.F.okX sc_choose (fun vs H Q E h => ?_) (fun cdv A outer s H vs Q E hr h => ?_)
  · obtain ⟨x, y, ox, oy, rfl, _⟩ := h
    rfl
  · obtain ⟨x, y, ox, oy, rfl, hx, hy, r1, r2, q⟩ := h
    refine ⟨_, (pss_cons (ps_if (pt_not (pt_val (pe_call G_is_integer hr (by rfl) d_is_integer.g d_is_integer.F.kp d_is_integer.b .nil pass0 (pa_cons (pv 0) pa_nil)))) (pss_one (ps_raiseNum rfl U.num hr (takes_of rfl rfl rfl rfl) (by exact (pa_cons (pv 0) pa_nil)))) pss_nil)
      (pss_cons (ps_if (pt_not (pt_val (pe_call G_is_between hr (by rfl) d_is_between.g d_is_between.F.kp d_is_between.b .nil pass0 (pa_cons (pv 1) (pa_cons pe_int (pa_cons (pe_glob (v := .int 60) rfl m_MOST_CHOSEN ⟨_, rfl⟩) pa_nil)))))) (pss_one (ps_raiseNum rfl U.num hr (takes_of rfl rfl rfl rfl) (by exact (pa_cons (pv 1) pa_nil)))) pss_nil)
      (pss_one (ps_ret (pe_call G_binomial hr (by rfl) d_binomial.g d_binomial.F.kp d_binomial.b .nil pass0 (pa_cons (pv 0) (pa_cons (pv 1) pa_nil))))))), ?_⟩
    refine ⟨x, rfl, x, ox, rfl, hx, inL ox, rfl, ite2 (fun e => ?_) (fun e => ?_)⟩
    · have e1 : inL ox = false := by cases z : inL ox <;> simp_all
      exact ⟨x, rfl, x, rfl, fun dd hd => r1 e1 dd hd⟩
    · have e1 : inL ox = true := by cases z : inL ox <;> simp_all
      refine ⟨y, rfl, y, oy, 0, 60, rfl, hy, inR oy 0 60, rfl, ite2 (fun e => ?_) (fun e => ?_)⟩
      · have e2 : inR oy 0 60 = false := by cases z : inR oy 0 60 <;> simp_all
        exact ⟨y, rfl, y, rfl, fun dd hd => r2 e1 e2 dd hd⟩
      · have e2 : inR oy 0 60 = true := by cases z : inR oy 0 60 <;> simp_all
        rcases hx with ⟨n, rfl, rfl⟩ | ⟨rfl, _⟩
        · rcases hy with ⟨m, rfl, rfl⟩ | ⟨rfl, _⟩
          · have a1 : n.natAbs < 10 ^ 60 := of_decide_eq_true e1
            have a2 : 0 ≤ m ∧ m ≤ 60 := of_decide_eq_true e2
            obtain ⟨j, rfl⟩ : ∃ j : Nat, m = (j : Int) := ⟨m.toNat, by omega⟩
            exact ⟨_, rfl, _, rfl, n, j, rfl, lim200 a1, by omega, q n j rfl rfl a1 (by omega)⟩
          · cases e2
        · cases e1
def spCommon (K : PySem.W.Frag) (C : Addr) : Sp := fun vs H Q E => ∃ x y ox oy, vs = [x, y] ∧ Val K H x ox ∧ Val K H y oy ∧ (inL ox = false → Rais C x H E) ∧ (inL ox = true → inL oy = false → Rais C y H E) ∧
  ∀ (n m : Int), ox = some n → oy = some m → n.natAbs < 10 ^ 60 → m.natAbs < 10 ^ 60 → Q (.int ((Nat.gcd n.natAbs m.natAbs : Nat) : Int)) H
theorem ok_common {f f1 f2 : Addr} {fd fd1 fd2 : FuncData} {k : Nat} (T : Txt mg) (U : Num K mg C fI) (d : D K mg "common_divisor" s_common_divisor ["one", "other"] f fd) (d_is_whole : D K mg "is_whole" s_is_whole ["value"] f1 fd1)
    (d_is_integer : D K mg "is_integer" s_is_integer ["value"] f2 fd2) : FnOk P w K mg base (L2.CX P w) (k + 3) f fd ["one", "other"] (spCommon K C) := by
  have G_is_integer : FnOk P w K mg base CX0 (k + 2) f2 fd2 ["value"] (spInteger K) := ok_integer T U d_is_integer d_is_whole
  refine d.F.okX sc_common_divisor (fun vs H Q E h => ?_) (fun cdv A outer s H vs Q E hr h => ?_)
  · obtain ⟨x, y, ox, oy, rfl, _⟩ := h
    rfl
  · obtain ⟨x, y, ox, oy, rfl, hx, hy, r1, r2, q⟩ := h
    refine ⟨_, (pss_cons (ps_if (pt_not (pt_val (pe_call G_is_integer hr (by rfl) d_is_integer.g d_is_integer.F.kp d_is_integer.b .nil pass0 (pa_cons (pv 0) pa_nil)))) (pss_one (ps_raiseNum rfl U.num hr (takes_of rfl rfl rfl rfl) (by exact (pa_cons (pv 0) pa_nil)))) pss_nil)
      (pss_cons (ps_if (pt_not (pt_val (pe_call G_is_integer hr (by rfl) d_is_integer.g d_is_integer.F.kp d_is_integer.b .nil pass0 (pa_cons (pv 1) pa_nil)))) (pss_one (ps_raiseNum rfl U.num hr (takes_of rfl rfl rfl rfl) (by exact (pa_cons (pv 1) pa_nil)))) pss_nil)
      (pss_one (ps_ret (pe_callBfun cr_gcd (by rfl) U.m_gcd (pa_cons (pv 0) (pa_cons (pv 1) pa_nil))))))), ?_⟩
    refine ⟨x, rfl, x, ox, rfl, hx, inL ox, rfl, ite2 (fun e => ?_) (fun e => ?_)⟩
    · have e1 : inL ox = false := by cases z : inL ox <;> simp_all
      exact ⟨x, rfl, x, rfl, fun dd hd => r1 e1 dd hd⟩
    · have e1 : inL ox = true := by cases z : inL ox <;> simp_all
      refine ⟨y, rfl, y, oy, rfl, hy, inL oy, rfl, ite2 (fun e => ?_) (fun e => ?_)⟩
      · have e2 : inL oy = false := by cases z : inL oy <;> simp_all
        exact ⟨y, rfl, y, rfl, fun dd hd => r2 e1 e2 dd hd⟩
      · have e2 : inL oy = true := by cases z : inL oy <;> simp_all
        rcases hx with ⟨n, rfl, rfl⟩ | ⟨rfl, _⟩
        · rcases hy with ⟨m, rfl, rfl⟩ | ⟨rfl, _⟩
          · exact ⟨_, rfl, _, rfl, n, m, rfl, q n m rfl rfl (of_decide_eq_true e1) (of_decide_eq_true e2)⟩
          · cases e2
        · cases e1
end
end K01

namespace K01
open PySem PySem.Spec PyProof.Rows L2
/-! ### divisors -/
/-- the divisors s of n with s * s ≤ n among 1 .. m -/
def dv (n : Int) : Nat → List Int
  | 0 => []
  | m + 1 => dv n m ++ if ((m : Int) + 1) * ((m : Int) + 1) ≤ n ∧ n % ((m : Int) + 1) = 0 then [(m : Int) + 1] else []
def dvH (n : Int) (l : List Int) : List Int := (l.reverse.filter fun s => decide (s * s ≠ n)).map fun s => n / s
def divs (n : Int) : List Int := dv n 1000 ++ dvH n (dv n 1000)
theorem dv_len (n : Int) : ∀ m, (dv n m).length ≤ m
  | 0 => Nat.le_refl _
  | m + 1 => by
    have ih := dv_len n m
    unfold dv
    rw [List.length_append]
    split
    · show _ + 1 ≤ _
      omega
    · show _ + 0 ≤ _
      omega
theorem dvH_len (n : Int) (l : List Int) : (dvH n l).length ≤ l.length := by
  unfold dvH
  rw [List.length_map]
  exact Nat.le_trans (List.length_filter_le _ _) (by rw [List.length_reverse]; exact Nat.le_refl _)
theorem dv_mem {n : Int} : ∀ {m : Nat} {s : Int}, s ∈ dv n m → 1 ≤ s ∧ s ≤ m ∧ s * s ≤ n ∧ n % s = 0
  | 0, s, h => by cases h
  | m + 1, s, h => by
    unfold dv at h
    rcases List.mem_append.mp h with h | h
    · obtain ⟨a, b, c⟩ := dv_mem h
      exact ⟨a, by omega, c⟩
    · split at h
      · rename_i hc
        have e := List.mem_singleton.mp h
        subst e
        exact ⟨by omega, by omega, hc.1, hc.2⟩
      · cases h
theorem dv_stop {n : Int} {m : Nat} (h : n < ((m : Int) + 1) * ((m : Int) + 1)) : ∀ j : Nat, dv n (m + j) = dv n m
  | 0 => rfl
  | j + 1 => by
    show dv n (m + j) ++ (if (((m + j : Nat) : Int) + 1) * (((m + j : Nat) : Int) + 1) ≤ n ∧ n % (((m + j : Nat) : Int) + 1) = 0 then [((m + j : Nat) : Int) + 1] else []) = _
    rw [dv_stop h j, if_neg, List.append_nil]
    rintro ⟨a, _⟩
    have b : ((m : Int) + 1) * ((m : Int) + 1) ≤ (((m + j : Nat) : Int) + 1) * (((m + j : Nat) : Int) + 1) := Int.mul_le_mul (by omega) (by omega) (by omega) (by omega)
    omega
theorem dv_all {n : Int} {m : Nat} (h : n < ((m : Int) + 1) * ((m : Int) + 1)) (hm : m ≤ 1000) : dv n m = dv n 1000 := by
  have e := dv_stop h (1000 - m)
  rw [show m + (1000 - m) = 1000 by omega] at e
  exact e.symm
theorem dv_put {n : Int} {m : Nat} (h : ((m : Int) + 1) * ((m : Int) + 1) ≤ n) : dv n (m + 1) = dv n m ++ if n % ((m : Int) + 1) = 0 then [(m : Int) + 1] else [] := by
  show dv n m ++ _ = _
  by_cases c : n % ((m : Int) + 1) = 0
  · rw [if_pos ⟨h, c⟩, if_pos c]
  · rw [if_neg (fun z => c z.2), if_neg c]
/-- what a walk back over l has laid behind i turns -/
def backL (n : Int) (l : List Int) (i : Nat) : List Int := ((l.reverse.take i).filter fun s => decide (s * s ≠ n)).map fun s => n / s
theorem backL_next {n : Int} {l : List Int} {i : Nat} {s : Int} (h : l.reverse[i]? = some s) : backL n l (i + 1) = backL n l i ++ if s * s ≠ n then [n / s] else [] := by
  unfold backL
  rw [List.take_add_one, h, List.filter_append, List.map_append]
  congr 1
  by_cases c : s * s ≠ n
  · rw [if_pos c]
    simp [c]
  · rw [if_neg c]
    simp [c]
theorem backL_all (n : Int) (l : List Int) : backL n l l.length = dvH n l := by
  unfold backL dvH
  rw [← List.length_reverse, List.take_length]
abbrev s_divisors : Stmt := topS 13
theorem sc_divisors : FnScope ["number", "low", "trial", "high", "small"] ["number"] (defScope s_divisors) := ⟨rfl, rfl, rfl, by decide +kernel, rfl, by decide +kernel, by decide +kernel⟩
section
variable {P : Program} {w : World} {K : PySem.W.Frag} {mg : Str → Option Value} {base : Heap} {C fI : Addr}
def spDivisors (K : PySem.W.Frag) (C : Addr) : Sp := fun vs H Q E => ∃ x o, vs = [x] ∧ Val K H x o ∧ (inR o 1 (10 ^ 6) = false → Rais C x H E) ∧
  ∀ n : Int, o = some n → 1 ≤ n → n ≤ 10 ^ 6 → ∀ (H' : Hp) (p : Addr), Same H H' → H p = none → H' p = some (.tup ((divs n).map V.int)) → Q (.ref p) H'
theorem ok_divisors {f f1 f3 : Addr} {fd fd1 fd3 : FuncData} {k : Nat} (T : Txt mg) (U : Num K mg C fI) (d : D K mg "divisors" s_divisors ["number"] f fd) (d_is_whole : D K mg "is_whole" s_is_whole ["value"] f1 fd1)
    (d_is_between : D K mg "is_between" s_is_between ["value", "least", "most"] f3 fd3) :
    FnOk P w K mg base (L2.CX P w) (k + 3) f fd ["number"] (spDivisors K C) := by
  have G_is_between : FnOk P w K mg base CX0 (k + 2) f3 fd3 ["value", "least", "most"] (spBetween K) := ok_between T d_is_between d_is_whole
  obtain ⟨tL, m_MOST_DIVIDED⟩ := U.m_MOST_DIVIDED
  refine d.F.okX sc_divisors (fun vs H Q E h => ?_) (fun cdv A outer s H vs Q E hr h => ?_)
  · obtain ⟨x, o, rfl, _⟩ := h
    rfl
  · obtain ⟨x, o, rfl, hx, r1, q⟩ := h
    refine ⟨_, (pss_cons (ps_if (pt_not (pt_val (pe_call G_is_between hr (by rfl) d_is_between.g d_is_between.F.kp d_is_between.b .nil pass0 (pa_cons (pv 0) (pa_cons pe_int (pa_cons (pe_glob (v := .int (10 ^ 6)) rfl m_MOST_DIVIDED ⟨_, rfl⟩) pa_nil)))))) (pss_one (ps_raiseNum rfl U.num hr (takes_of rfl rfl rfl rfl) (by exact (pa_cons (pv 0) pa_nil)))) pss_nil)
      (PSs.nox (pss_cons (ps_set (i := 1) sc_divisors.nd rfl (.inl rfl) (pe_lst pa_nil))
      (pss_cons (ps_set (i := 2) sc_divisors.nd rfl (.inl rfl) pe_int)
      (pss_cons (ps_while PassesOwn.never (pt_cmpR op_le (pe_op op_mul (pv 2) (pv 2)) (pv 0) (nomark _))
        (pss_cons (ps_if (pt_cmpR op_eq (pe_op op_mod (pv 0) (pv 2)) pe_int (nomark _)) (pss_one (ps_expr (pe_bm PySem.F.plainAttrs_list PySem.F.slot_list_append PySem.F.type_list_append mt_append (pv 1) (pa_cons (pv 2) pa_nil)))) pss_nil)
        (pss_one (ps_aug (i := 2) sc_divisors.nd rfl (.inl rfl) pe_int ip_add))))
      (pss_cons (ps_setLc (i := 3) (own := [("small", 4)]) (g := gName 4) (by rfl) sc_divisors.nd rfl rfl (sw_true rfl rfl rfl (by decide +kernel)) (pi_reversed rfl T.n_reversed (pa_cons (pv 1) pa_nil)) (blkOk_by (own := [("small", 4)]) (N := ["number", "low", "trial", "high", "small"]) (sc := defScope s_divisors) (by decide +kernel)) (fun _ _ _ _ _ => pg_name (i := 4) sc_divisors.nd rfl (Or.inl rfl)) (fun _ _ _ _ _ => pts_one (pt_cmpR op_ne (pe_op op_mul (pv 4) (pv 4)) (pv 0) (nomark _))) (fun _ _ _ _ _ => (pe_op op_fdivW (pv 0) (pv 4))))
      (pss_one (ps_ret (pe_callTy call_tuple_of (by rfl) T.n_tuple (by decide +kernel) (pa_cons (pe_op op_cat (pv 1) (pv 3)) pa_nil)))))))))), ?_⟩
    refine ⟨x, rfl, x, o, 1, 10 ^ 6, rfl, hx, inR o 1 (10 ^ 6), rfl, ite2 (fun e => ?_) (fun e => ?_)⟩
    · have e1 : inR o 1 (10 ^ 6) = false := by cases z : inR o 1 (10 ^ 6) <;> simp_all
      exact ⟨x, rfl, x, rfl, fun dd hd => r1 e1 dd hd⟩
    · have e1 : inR o 1 (10 ^ 6) = true := by cases z : inR o 1 (10 ^ 6) <;> simp_all
      rcases hx with ⟨n, rfl, rfl⟩ | ⟨rfl, _⟩
      · obtain ⟨n1, n2⟩ : 1 ≤ n ∧ n ≤ 10 ^ 6 := of_decide_eq_true e1
        -- low = []
        refine ⟨Nat.zero_le _, fun l nl => ?_⟩
        -- the while
        refine ⟨fun m σ H' => ∃ j : Nat, m = 1000 - j ∧ j ≤ 1000 ∧ (j : Int) * j ≤ n ∧ σ = [some (.int n), some (.ref l), some (.int ((j : Int) + 1)), none, none] ∧ Same H H' ∧ H' l = some (.lst ((dv n j).map V.int)), ⟨1000, 0, rfl, by omega, by omega, rfl, sub_same nl, upd_same⟩, ?_⟩
        rintro m σ H1 ⟨j, rfl, hj, jj, rfl, sm, hl⟩
        refine ⟨_, rfl, _, rfl, (j : Int) + 1, (j : Int) + 1, rfl, rfl, .inl ⟨by omega, by omega⟩, _, rfl, _, _, rfl, rfl, _, rfl, ite2 (fun c => ?_) (fun c => ?_)⟩
        · have c1 : ((j : Int) + 1) * ((j : Int) + 1) ≤ n := of_decide_eq_true c
          have hj1 : j + 1 ≤ 1000 := by
            by_cases z : j + 1 ≤ 1000
            · exact z
            · have b : (1001 : Int) * 1001 ≤ ((j : Int) + 1) * ((j : Int) + 1) := Int.mul_le_mul (by omega) (by omega) (by omega) (by omega)
              omega
          refine ⟨fun σ' H' => j + 1 ≤ 1000 ∧ ((j + 1 : Nat) : Int) * ((j + 1 : Nat) : Int) ≤ n ∧ σ' = [some (.int n), some (.ref l), some (.int (((j + 1 : Nat) : Int) + 1)), none, none] ∧ Same H H' ∧ H' l = some (.lst ((dv n (j + 1)).map V.int)),
            fun σ' H' z => ⟨1000 - (j + 1), by omega, j + 1, rfl, z⟩, ?_⟩
          refine ⟨_, rfl, _, rfl, n, (j : Int) + 1, rfl, rfl, (by show (0 : Int) < _; omega), rfl, _, rfl, ite2 (fun c2 => ?_) (fun c2 => ?_)⟩
          · have c3 : n % ((j : Int) + 1) = 0 := V.int.inj (of_decide_eq_true c2)
            refine ⟨_, rfl, .inl ⟨rfl, _, .inl (.inl hl)⟩, _, rfl, l, _, _, rfl, rfl, hl, ?_, ?_⟩
            · rw [List.length_map]
              exact small1000 (Nat.le_trans (dv_len n j) hj)
            · refine ⟨_, rfl, _, _, rfl, rfl, hj1, c1, rfl, fun b z hz => ?_, ?_⟩
              · rw [upd_ne (ne_of_none hz nl)]
                exact sm b z hz
              · rw [upd_same, dv_put c1, if_pos c3, List.map_append]
                rfl
          · have c3 : ¬ n % ((j : Int) + 1) = 0 := fun z => c2 (decide_eq_true (congrArg V.int z))
            refine ⟨_, rfl, _, _, rfl, rfl, hj1, c1, rfl, sm, ?_⟩
            rw [hl, dv_put c1, if_neg c3, List.append_nil]
        · have c1 : n < ((j : Int) + 1) * ((j : Int) + 1) := by
            have z : ¬ ((j : Int) + 1) * ((j : Int) + 1) ≤ n := fun z => c (decide_eq_true z)
            omega
          rw [dv_all c1 hj] at hl
          have len : (dv n 1000).length ≤ 1000 := dv_len n 1000
          -- high
          refine ⟨_, rfl, l, (dv n 1000).map V.int, rfl, .inl (.inl hl), fun h nh => ?_⟩
          refine lc_it (walk_rev (K := K)) (fun i H2 => Same H1 H2 ∧ H2 h = some (.lst ((backL n (dv n 1000) i).map V.int))) ⟨sub_same nh, upd_same⟩ (fun i H2 _ z => .inl (.inl (z.1 _ _ hl))) ?_ ?_
          · rintro i y H2 H3 hi ⟨sm2, hh⟩ ⟨rfl, hy⟩
            rw [List.length_map] at hi hy
            obtain ⟨s, hs, rfl⟩ : ∃ s : Int, (dv n 1000)[(dv n 1000).length - 1 - i]? = some s ∧ y = .int s := by
              rw [List.getElem?_map] at hy
              cases z : (dv n 1000)[(dv n 1000).length - 1 - i]? with
              | none =>
                rw [z] at hy
                cases hy
              | some s =>
                rw [z] at hy
                exact ⟨s, rfl, (Option.some.inj hy).symm⟩
            have hr' : (dv n 1000).reverse[i]? = some s := by
              rw [List.getElem?_reverse hi]
              exact hs
            obtain ⟨s1, s2, _, _⟩ := dv_mem (List.mem_of_getElem? hs)
            refine ⟨rfl, ?_⟩
            refine ⟨_, rfl, _, rfl, s, s, rfl, rfl, .inl ⟨by omega, by omega⟩, _, rfl, rfl, _, rfl, ite2 (fun c3 => ?_) (fun c3 => ?_)⟩
            · have c4 : s * s ≠ n := fun z => by
                rw [show (decide (V.int (s * s) = V.int n)) = true from decide_eq_true (congrArg V.int z)] at c3
                exact Bool.noConfusion c3
              refine ⟨_, rfl, _, rfl, n, s, rfl, rfl, wide_div (b := 64) (by omega) (by omega) (by decide) (by decide), _, hh, ?_, ?_, ?_⟩
              · rw [List.length_map]
                have a1 : (backL n (dv n 1000) i).length ≤ 1000 := by
                  unfold backL
                  rw [List.length_map]
                  exact Nat.le_trans (List.length_filter_le _ _) (Nat.le_trans (List.length_take_le _ _) (by omega))
                exact small1000 a1
              · intro b z hz
                rw [upd_ne (ne_of_none hz nh)]
                exact sm2 b z hz
              · rw [upd_same, backL_next hr', if_pos c4, List.map_append]
                rfl
            · have c4 : ¬ s * s ≠ n := fun z => c3 (by
                rw [decide_eq_false (fun y => z (V.int.inj y))]
                rfl)
              refine ⟨sm2, ?_⟩
              rw [hh, backL_next hr', if_neg c4, List.append_nil]
          · rintro H2 ⟨sm2, hh⟩
            rw [List.length_map, backL_all] at hh
            refine ⟨_, rfl, _, rfl, l, h, _, _, rfl, rfl, sm2 _ _ hl, hh, ?_, fun p np => ?_⟩
            · rw [List.length_map, List.length_map]
              have := dvH_len n (dv n 1000)
              have : 2000 ≤ sizeLine := by decide
              omega
            · refine ⟨p, _, rfl, .inl ⟨.inl (.inl upd_same), fun t nt => ?_⟩⟩
              have all : Same H (upd (upd H2 p (.lst ((dv n 1000).map V.int ++ (dvH n (dv n 1000)).map V.int))) t (.tup ((dv n 1000).map V.int ++ (dvH n (dv n 1000)).map V.int))) := (sm.trans sm2).trans ((sub_same np).trans (sub_same nt))
              refine q n rfl n1 n2 _ t all ?_ ?_
              · exact ((sm.trans sm2).trans (sub_same np)).free nt
              · rw [upd_same]
                unfold divs
                rw [List.map_append]
      · cases e1
end
end K01

namespace K01
open PySem PySem.Spec PyProof.Rows L2
abbrev s_law_urn : Stmt := topS 15
theorem sc_law_urn : FnScope ["_law_script", "_law_at", "_law_mixed", "_law_cell", "_law_great"] ["_law_script", "_law_at"] (defScope s_law_urn) := ⟨rfl, rfl, rfl, by decide +kernel, rfl, by decide +kernel, by decide +kernel⟩
abbrev s_law_long : Stmt := topS 18
theorem sc_law_long : FnScope ["_law_urn_here", "_law_bound"] ["_law_urn_here"] (defScope s_law_long) := ⟨rfl, rfl, rfl, by decide +kernel, rfl, by decide +kernel, by decide +kernel⟩
abbrev s_law_over : Stmt := topS 19
theorem sc_law_over : FnScope ["_law_top", "_law_bottom"] ["_law_top", "_law_bottom"] (defScope s_law_over) := ⟨rfl, rfl, rfl, by decide +kernel, rfl, by decide +kernel, by decide +kernel⟩
abbrev s_law_binomial : Stmt := topS 20
theorem sc_law_binomial : FnScope ["_law_number", "_law_many", "_law_top", "_law_bottom", "_law_turn"] ["_law_number", "_law_many"] (defScope s_law_binomial) := ⟨rfl, rfl, rfl, by decide +kernel, rfl, by decide +kernel, by decide +kernel⟩
abbrev s_law_shared : Stmt := topS 22
theorem sc_law_shared : FnScope ["_law_one", "_law_other"] ["_law_one", "_law_other"] (defScope s_law_shared) := ⟨rfl, rfl, rfl, by decide +kernel, rfl, by decide +kernel, by decide +kernel⟩
theorem cut_ints (ns : List Int) (lo hi : Option Int) : ∃ ms : List Int, cutV (ns.map V.int) lo hi = ms.map V.int := by
  refine ⟨(ns.drop (HT.sIx ns.length 0 lo)).take (HT.sIx ns.length ns.length hi - HT.sIx ns.length 0 lo), ?_⟩
  unfold cutV
  rw [List.length_map, List.map_take, List.map_drop]
theorem int_at {ns : List Int} {i : Nat} {x : V} (h : (ns.map V.int)[i]? = some x) : ∃ z : Int, ns[i]? = some z ∧ x = .int z := by
  rw [List.getElem?_map] at h
  cases e : ns[i]? with
  | none =>
    rw [e] at h
    cases h
  | some z =>
    rw [e] at h
    exact ⟨z, rfl, (Option.some.inj h).symm⟩
section
variable {P : Program} {w : World} {K : PySem.W.Frag} {mg : Str → Option Value} {base : Heap} {C fI : Addr}
/-- a new urn -/
def spUrn (K : PySem.W.Frag) : Sp := fun vs H Q _ => ∃ (a : Addr) (i : Nat) (ns : List Int), vs = [.ref a, .int i] ∧ SqL K H a (ns.map V.int) ∧ i ≤ 1000 ∧
  ∀ (H' : Hp) (p : Addr), Same H H' → H p = none → Urn H' p → Q (.ref p) H'
theorem ok_urn {f : Addr} {fd : FuncData} {k : Nat} (T : Txt mg) (d : D K mg "_law_urn" s_law_urn ["_law_script", "_law_at"] f fd) : FnOk P w K mg base CX0 (k + 1) f fd ["_law_script", "_law_at"] (spUrn K) := by
  refine d.F.ok sc_law_urn (fun vs H Q E h => ?_) (fun cdv A outer s H vs Q E hr h => ?_)
  · obtain ⟨a, i, ns, rfl, _⟩ := h
    rfl
  · obtain ⟨a, i, ns, rfl, hS, hi, q⟩ := h
    refine ⟨_, (pss_cons (ps_set (i := 2) sc_law_urn.nd rfl (.inl rfl) (pe_op op_add (pe_op op_mul pe_int (pv 1)) pe_int))
      (pss_cons (ps_for PassesOwn.never rfl (pi_list (pe_slice sl_list (pv 0) (po_some (pv 1)) po_none)) (pg_name (i := 3) sc_law_urn.nd rfl (.inl rfl))
        (pss_one (ps_set (i := 2) sc_law_urn.nd rfl (.inl rfl) (pe_op op_mod (pe_callTy call_int1 (by rfl) T.n_int (by decide +kernel) (pa_cons (pe_op op_add (pe_op op_add (pe_op op_mul (pv 2) pe_int) (pe_op op_mul (pe_op op_mod (pe_callTy call_int1 (by rfl) T.n_int (by decide +kernel) (pa_cons (pe_callB call_abs (by rfl) T.n_abs (by decide +kernel) (pa_cons (pv 3) pa_nil)) pa_nil)) (pe_op op_powW pe_int pe_int)) pe_int)) (pe_op op_mul (pe_callTy call_int1 (by rfl) T.n_int (by decide +kernel) (pa_cons (pe_cmpR op_gt (pv 3) pe_int (nomark _)) pa_nil)) pe_int)) pa_nil)) pe_int))))
      (pss_cons (ps_set (i := 4) sc_law_urn.nd rfl (.inl rfl) (pe_ifExp (pt_cmpR op_lt (pv 1) (pe_callB call_len_seq (by rfl) T.n_len PySem.boot_len (pa_cons (pv 0) pa_nil)) (nomark _)) (pe_op op_mod (pe_callTy call_int1 (by rfl) T.n_int (by decide +kernel) (pa_cons (pe_callB call_abs (by rfl) T.n_abs (by decide +kernel) (pa_cons (pe_ix ix_list (pv 0) (pv 1) (fun _ _ => rfl)) pa_nil)) pa_nil)) (pe_op op_powW (pe_op op_powW pe_int pe_int) pe_int)) pe_int))
      (pss_one (ps_ret (pe_lst (pa_cons (pe_callB (call_max2 rfl) (by rfl) T.n_max (by decide +kernel) (pa_cons pe_int (pa_cons (pe_op op_sub (pv 4) (pe_op op_powW pe_int pe_int)) pa_nil))) (pa_cons (pv 2) (pa_cons pe_int pa_nil))))))))), ?_⟩
    refine ⟨_, rfl, _, _, rfl, rfl, .inl (by decide), _, _, rfl, rfl, ?_⟩
    refine ⟨.ref a, rfl, _, rfl, _, rfl, a, _, rfl, hS, fun c nc => ?_⟩
    obtain ⟨ms, em⟩ := cut_ints ns (some (i : Int)) none
    have s1 : Same H (upd H c (.lst (cutV (ns.map V.int) (some (i : Int)) none))) := sub_same nc
    have hc : (upd H c (.lst (cutV (ns.map V.int) (some (i : Int)) none))) c = some (.lst (ms.map V.int)) := by rw [upd_same, em]
    revert s1 hc
    generalize upd H c (.lst (cutV (ns.map V.int) (some (i : Int)) none)) = H1
    intro s1 hc
    refine ⟨c, rfl, ⟨_, .inl (.inl hc)⟩, for_list (K := K) (a := c) (xs := ms.map V.int) (fun j σ H2 => (∃ (m : Int) (y : Option V), σ = [some (.ref a), some (.int i), some (.int m), y, none]) ∧ H2 = H1) ⟨⟨_, none, rfl⟩, rfl⟩ (fun j σ H2 _ z => by rw [z.2]; exact .inl (.inl hc)) ?_ ?_⟩
    · rintro j x σ H2 hj ⟨⟨m, y, rfl⟩, rfl⟩
      obtain ⟨z, _, rfl⟩ := int_at hj
      refine ⟨_, rfl, _, _, rfl, rfl, .inr (by decide), ?_⟩
      refine ⟨_, rfl, _, rfl, .inl ⟨_, rfl, _, _, rfl, rfl, ⟨by decide, by decide +kernel⟩, _, _, rfl, rfl, (by show (0 : Int) < _; decide), _, _, rfl, rfl, .inr (by decide), _, _, rfl, rfl, ?_⟩⟩
      refine ⟨_, rfl, _, _, rfl, rfl, .inr ⟨_, rfl, _, _, rfl, rfl, .inr (by decide), _, _, rfl, rfl, .inl ⟨_, rfl, _, _, rfl, rfl, (by show (0 : Int) < _; decide), ?_⟩⟩⟩
      exact ⟨⟨_, some (.int z), rfl⟩, rfl⟩
    · rintro σ H2 ⟨⟨m, y, rfl⟩, rfl⟩
      have rest : ∀ (g : Int), (fun (g : Int) => ∀ p, H2 p = none → Q (.ref p) (upd H2 p (.lst [.int g, .int m, .int 0]))) g := fun g p np => q _ p (s1.trans (sub_same np)) (s1.free np) ⟨_, _, _, upd_same⟩
      refine ⟨_, rfl, .ref a, rfl, a, _, rfl, .inl (s1.seq hS), _, _, rfl, rfl, _, rfl, ite2 (fun e => ?_) (fun e => ?_)⟩
      · have hlt : i < ns.length := by
          have z := of_decide_eq_true e
          rw [List.length_map] at z
          omega
        refine ⟨.ref a, rfl, _, rfl, a, _, _, .int ns[i], rfl, rfl, s1.seq hS, atI_nat (by rw [List.getElem?_map, List.getElem?_eq_getElem hlt]; rfl), ?_⟩
        refine ⟨_, rfl, .inl ⟨_, rfl, _, _, rfl, rfl, ⟨by decide, by decide +kernel⟩, _, _, rfl, rfl, ⟨by decide, by decide +kernel⟩, _, _, rfl, rfl, (by show (0 : Int) < _; decide), ?_⟩⟩
        refine ⟨_, rfl, _, _, rfl, rfl, ⟨by decide, by decide +kernel⟩, _, _, rfl, rfl, _, _, rfl, _, rfl, (by show 3 ≤ sizeLine; decide), fun p np => rest _ p np⟩
      · refine ⟨_, rfl, _, _, rfl, rfl, ⟨by decide, by decide +kernel⟩, _, _, rfl, rfl, _, _, rfl, _, rfl, (by show 3 ≤ sizeLine; decide), fun p np => rest _ p np⟩
/-- an int of at most fifty-nine digits and a one -/
def spLong : Sp := fun vs H Q _ => ∃ (a : Addr), vs = [.ref a] ∧ Urn H a ∧ ∀ (v : Int) (H' : Hp), v.natAbs ≤ 10 ^ 59 → Urn H' a → (∀ b o, b ≠ a → H b = some o → H' b = some o) → Q (.int v) H'
theorem ok_long {f f1 f2 : Addr} {fd fd1 fd2 : FuncData} {k : Nat} (T : Txt mg) (d : D K mg "_law_long" s_law_long ["_law_urn_here"] f fd) (d_law_take : D K mg "_law_take" s_law_take ["_law_urn_here", "_law_total"] f1 fd1)
    (d_law_some : D K mg "_law_some" s_law_some ["_law_urn_here", "_law_items"] f2 fd2) : FnOk P w K mg base CX0 (k + 3) f fd ["_law_urn_here"] spLong := by
  have G_law_take : FnOk P w K mg base CX0 (k + 1) f1 fd1 ["_law_urn_here", "_law_total"] spTake := ok_take T d_law_take
  have G_law_some : FnOk P w K mg base CX0 (k + 2) f2 fd2 ["_law_urn_here", "_law_items"] spSome := ok_some T d_law_some d_law_take
  refine d.F.ok sc_law_long (fun vs H Q E h => ?_) (fun cdv A outer s H vs Q E hr h => ?_)
  · obtain ⟨a, rfl, _⟩ := h
    rfl
  · obtain ⟨a, rfl, hu, q⟩ := h
    refine ⟨_, (pss_cons (ps_set (i := 1) sc_law_long.nd rfl (.inl rfl) (pe_call G_law_some (hr.mono (by omega)) (by rfl) d_law_some.g d_law_some.F.kp d_law_some.b .nil pass0 (pa_cons (pv 0) (pa_cons (pe_lst (pa_cons pe_int (pa_cons pe_int (pa_cons pe_int (pa_cons (pe_op op_powW pe_int pe_int) (pa_cons (pe_op op_powW pe_int pe_int) (pa_cons (pe_op op_powW pe_int pe_int) pa_nil))))))) pa_nil))))
      (pss_one (ps_ret (pe_op op_sub (pe_call G_law_take (hr.mono (by omega)) (by rfl) d_law_take.g d_law_take.F.kp d_law_take.b .nil pass0 (pa_cons (pv 0) (pa_cons (pe_op op_mul pe_int (pv 1)) pa_nil))) (pv 1))))), ?_⟩
    refine ⟨.ref a, rfl, _, _, rfl, rfl, ⟨by decide, by decide +kernel⟩, _, _, rfl, rfl, ⟨by decide, by decide +kernel⟩, _, _, rfl, rfl, ⟨by decide, by decide +kernel⟩, (by show 6 ≤ sizeLine; decide), fun l nl => ?_⟩
    have ne : l ≠ a := fun z => by
      obtain ⟨_, _, _, e⟩ := hu
      rw [← z, nl] at e
      cases e
    refine ⟨a, l, _, rfl, ?_, upd_same, ne, by simp, by simp, fun j x H1 hx u1 b1 => ?_⟩
    · obtain ⟨g, m, c, e⟩ := hu
      exact ⟨g, m, c, by rw [upd_ne ne.symm]; exact e⟩
    · have keep : ∀ b o, b ≠ a → H b = some o → H1 b = some o := fun b o hb e => by
        rw [b1 b hb, upd_ne (ne_of_none e nl)]
        exact e
      have go : ∀ v : Int, x = .int v → 0 < v → v ≤ 10 ^ 59 → _ := fun v (ev : x = .int v) (v0 : 0 < v) (v1 : v ≤ 10 ^ 59) =>
        (show ∃ v : Int, x = .int v ∧ 0 < v ∧ v ≤ 10 ^ 59 from ⟨v, ev, v0, v1⟩)
      have hx2 : ∃ v : Int, x = .int v ∧ 0 < v ∧ v ≤ 10 ^ 59 := by
        match j, hx with
        | 0, hx => exact go 3 (Option.some.inj hx).symm (by decide) (by decide)
        | 1, hx => exact go 10 (Option.some.inj hx).symm (by decide) (by decide)
        | 2, hx => exact go 70 (Option.some.inj hx).symm (by decide) (by decide)
        | 3, hx => exact go _ (Option.some.inj hx).symm (by decide) (by decide)
        | 4, hx => exact go _ (Option.some.inj hx).symm (by decide) (by decide)
        | 5, hx => exact go _ (Option.some.inj hx).symm (by decide) (by decide)
        | _ + 6, hx => simp at hx
      obtain ⟨v, rfl, v0, v1⟩ := hx2
      have big : (2 * v).natAbs.log2 < 9000 := by
        have z : (2 * v).natAbs < 2 ^ 200 := Nat.lt_of_le_of_lt (m := 2 * 10 ^ 59) (by omega) (by decide)
        exact Nat.lt_of_lt_of_le (PySem.Flt.log2_lt_of (by decide) z) (by decide)
      refine ⟨_, rfl, _, rfl, _, _, rfl, rfl, .inl (by decide), a, 2 * v, rfl, u1, by omega, big, fun t H2 t0 t1 u2 b2 => ?_⟩
      refine ⟨_, rfl, t, v, rfl, rfl, q (t - v) H2 (by omega) u2 fun b o hb e => ?_⟩
      rw [b2 b hb]
      exact keep b o hb e
def spOver : Sp := fun vs H Q _ => ∃ (t b : Int), vs = [.int t, .int b] ∧ 0 < b ∧ b.natAbs < 2 ^ 400 ∧ Q (.int (overL t b)) H
theorem ok_over {f : Addr} {fd : FuncData} {k : Nat} (T : Txt mg) (d : D K mg "_law_over" s_law_over ["_law_top", "_law_bottom"] f fd) : FnOk P w K mg base CX0 (k + 1) f fd ["_law_top", "_law_bottom"] spOver := by
  refine d.F.ok sc_law_over (fun vs H Q E h => ?_) (fun cdv A outer s H vs Q E hr h => ?_)
  · obtain ⟨t, b, rfl, _⟩ := h
    rfl
  · obtain ⟨t, b, rfl, hb, hz, q⟩ := h
    refine ⟨_, (pss_one (ps_ret (pe_ifExp (pt_cmpR op_lt (pv 0) pe_int (nomark _)) (pe_op op_sub pe_int (pe_op op_fdivW (pe_op op_sub pe_int (pv 0)) (pv 1))) (pe_op op_fdivW (pv 0) (pv 1))))), ?_⟩
    have dk : CDivW 0 b := wide_div (i := 0) hb hz (by decide) (by decide)
    unfold overL at q
    refine ⟨_, rfl, t, 0, rfl, rfl, _, rfl, ite2 (fun e => ?_) (fun e => ?_)⟩
    · rw [if_pos (of_decide_eq_true e)] at q
      exact ⟨_, rfl, _, _, rfl, rfl, _, rfl, _, _, rfl, rfl, dk, _, _, rfl, rfl, q⟩
    · rw [if_neg (fun z => e (decide_eq_true z))] at q
      exact ⟨_, rfl, _, rfl, _, _, rfl, rfl, dk, q⟩
def spLBin : Sp := fun vs H Q _ => ∃ (n : Int) (k : Nat), vs = [.int n, .int k] ∧ n.natAbs < 2 ^ 200 ∧ k ≤ 60 ∧ ∀ H', Same H H' → Q (.int (bi n k)) H'
theorem ok_lbin {f f1 : Addr} {fd fd1 : FuncData} {k : Nat} (T : Txt mg) (d : D K mg "_law_binomial" s_law_binomial ["_law_number", "_law_many"] f fd) (d_law_over : D K mg "_law_over" s_law_over ["_law_top", "_law_bottom"] f1 fd1) :
    FnOk P w K mg base CX0 (k + 2) f fd ["_law_number", "_law_many"] spLBin := by
  have G_law_over : FnOk P w K mg base CX0 (k + 1) f1 fd1 ["_law_top", "_law_bottom"] spOver := ok_over T d_law_over
  refine d.F.ok sc_law_binomial (fun vs H Q E h => ?_) (fun cdv A outer s H vs Q E hr h => ?_)
  · obtain ⟨n, j, rfl, _⟩ := h
    rfl
  · obtain ⟨n, j, rfl, hn, hj, q⟩ := h
    refine ⟨_, (pss_cons (ps_asg (pe_tup (pa_cons pe_int (pa_cons pe_int pa_nil))) (pg_tup rfl (pgs_cons (pg_name (i := 2) sc_law_binomial.nd rfl (.inl rfl)) (pgs_cons (pg_name (i := 3) sc_law_binomial.nd rfl (.inl rfl)) pgs_nil))))
      (pss_cons (ps_for PassesOwn.never rfl (pi_range1 rfl T.n_range (pa_cons (pv 1) pa_nil)) (pg_name (i := 4) sc_law_binomial.nd rfl (.inl rfl))
        (pss_one (ps_par (i := 2) (j := 3) rfl sc_law_binomial.nd rfl rfl (by decide) rfl rfl (pa_cons (pe_op op_mulW (pv 2) (pe_op op_sub (pv 0) (pv 4))) (pa_cons (pe_op op_mulW (pv 3) (pe_op op_add (pv 4) pe_int)) pa_nil)) (by rfl))))
      (pss_one (ps_ret (pe_call G_law_over hr (by rfl) d_law_over.g d_law_over.F.kp d_law_over.b .nil pass0 (pa_cons (pv 2) (pa_cons (pv 3) pa_nil))))))), ?_⟩
    refine ⟨(by show 2 ≤ sizeLine; decide), fun p np => ⟨p, _, rfl, .inl (.inl upd_same), rfl, _, _, rfl, _, _, rfl, rfl, ?_⟩⟩
    have s1 : Same H (upd H p (.tup [.int 1, .int 1])) := sub_same np
    revert s1
    generalize upd H p (.tup [.int 1, .int 1]) = H1
    intro s1
    refine ⟨_, rfl, (j : Int), rfl, by omega, by omega, ?_⟩
    rw [show ((j : Int)).toNat = j from rfl]
    refine for_range (n := j) (fun i σ H' => (∃ y, σ = [some (.int n), some (.int j), some (.int (fall n i)), some (.int (fac i)), y]) ∧ H' = H1) ⟨⟨none, rfl⟩, rfl⟩ ?_ ?_
    · rintro i σ H' hi ⟨⟨y, rfl⟩, rfl⟩
      have h1 : (fall n i).natAbs < 2 ^ 12263 := Nat.lt_of_lt_of_le (fall_size hn i (by omega)) (Nat.pow_le_pow_right (by decide) (by omega))
      have h2 : (n - (0 + (i : Int))).natAbs < 2 ^ 201 := by
        have a : (2 : Nat) ^ 201 = 2 ^ 200 + 2 ^ 200 := by decide
        have b : (61 : Nat) < 2 ^ 200 := by decide
        omega
      have h3 : (fac i).natAbs < 2 ^ 400 := Nat.lt_of_lt_of_le (fac_size i (by omega)) (Nat.pow_le_pow_right (by decide) (by omega))
      refine ⟨_, rfl, _, rfl, _, rfl, n, _, rfl, rfl, _, _, rfl, rfl, wide_mul (a := 12263) (b := 201) h1 h2 (by decide) (by decide) (by decide), ?_⟩
      refine ⟨_, rfl, _, rfl, _, _, rfl, rfl, _, _, rfl, rfl, wide_mul (a := 400) (b := 64) h3 (by omega) (by decide) (by decide) (by decide), _, _, rfl, ?_⟩
      refine ⟨⟨some (.int (0 + i)), ?_⟩, rfl⟩
      show [some (V.int n), some (V.int j), some (V.int (fall n i * (n - (0 + i)))), some (V.int (fac i * (0 + i + 1))), some (V.int (0 + i))] = _
      rw [Int.zero_add]
      rfl
    · rintro σ H' ⟨⟨y, rfl⟩, rfl⟩
      have h3 : (fac j).natAbs < 2 ^ 400 := Nat.lt_of_lt_of_le (fac_size j (by omega)) (Nat.pow_le_pow_right (by decide) (by omega))
      refine ⟨_, rfl, _, rfl, fall n j, fac j, rfl, fac_pos j, h3, ?_⟩
      rw [over_bi]
      exact q _ s1
def spShared : Sp := fun vs H Q _ => ∃ (n m : Int), vs = [.int n, .int m] ∧ Q (.int ((Nat.gcd n.natAbs m.natAbs : Nat) : Int)) H
theorem ok_shared {f : Addr} {fd : FuncData} {k : Nat} (T : Txt mg) (d : D K mg "_law_shared" s_law_shared ["_law_one", "_law_other"] f fd) : FnOk P w K mg base CX0 (k + 1) f fd ["_law_one", "_law_other"] spShared := by
  refine d.F.ok sc_law_shared (fun vs H Q E h => ?_) (fun cdv A outer s H vs Q E hr h => ?_)
  · obtain ⟨n, m, rfl, _⟩ := h
    rfl
  · obtain ⟨n, m, rfl, q⟩ := h
    refine ⟨_, (pss_cons (ps_par (i := 0) (j := 1) rfl sc_law_shared.nd rfl rfl (by decide) rfl rfl (pa_cons (pe_callB call_abs (by rfl) T.n_abs (by decide +kernel) (pa_cons (pv 0) pa_nil)) (pa_cons (pe_callB call_abs (by rfl) T.n_abs (by decide +kernel) (pa_cons (pv 1) pa_nil)) pa_nil)) (by rfl))
      (pss_cons (ps_while PassesOwn.never (pt_cmpR op_gt (pv 1) pe_int (nomark _))
        (pss_one (ps_par (i := 0) (j := 1) rfl sc_law_shared.nd rfl rfl (by decide) rfl rfl (pa_cons (pv 1) (pa_cons (pe_op op_mod (pe_callTy call_int1 (by rfl) T.n_int (by decide +kernel) (pa_cons (pv 0) pa_nil)) (pv 1)) pa_nil)) (by rfl))))
      (pss_one (ps_ret (pv 0))))), ?_⟩
    refine ⟨_, rfl, n, rfl, _, rfl, m, rfl, _, _, rfl, ?_⟩
    have ab : ∀ z : Int, (if z < 0 then -z else z) = ((z.natAbs : Nat) : Int) := fun z => by split <;> omega
    refine ⟨fun t σ H' => ∃ a b : Nat, t = b ∧ σ = [some (.int a), some (.int b)] ∧ Nat.gcd a b = Nat.gcd n.natAbs m.natAbs ∧ H' = H, ⟨m.natAbs, n.natAbs, m.natAbs, rfl, ?_, rfl, rfl⟩, ?_⟩
    · show [some (V.int (if n < 0 then -n else n)), some (V.int (if m < 0 then -m else m))] = _
      rw [ab, ab]
    · rintro b σ H' ⟨a, b', eb, rfl, hg, rfl⟩
      subst eb
      refine ⟨_, rfl, (b : Int), 0, rfl, rfl, _, rfl, ite2 (fun e => ?_) (fun e => ?_)⟩
      · have b0 : 0 < b := by
          have z := of_decide_eq_true e
          omega
        refine ⟨fun σ' H2 => σ' = [some (.int b), some (.int ((a % b : Nat) : Int))] ∧ H2 = H', fun σ' H2 z => ⟨a % b, Nat.mod_lt _ b0, b, a % b, rfl, z.1, ?_, z.2⟩, ?_⟩
        · rw [← hg, Nat.gcd_comm b, ← Nat.gcd_rec, Nat.gcd_comm]
        · refine ⟨_, rfl, _, rfl, .inl ⟨_, rfl, _, rfl, _, _, rfl, rfl, (by show (0 : Int) < _; omega), _, _, rfl, rfl, rfl⟩⟩
      · have b0 : b = 0 := by
          have z : ¬ (0 : Int) < b := fun z => e (decide_eq_true z)
          omega
        subst b0
        rw [Nat.gcd_zero_right] at hg
        refine ⟨_, rfl, ?_⟩
        rw [hg]
        exact q
end
end K01

namespace K01
open PySem PySem.Spec PyProof.Rows L2
theorem iteP {p A B : Prop} [Decidable p] (h : p) (a : A) : if decide p = true then A else B := by
  rw [if_pos (decide_eq_true h)]
  exact a
theorem iteQ {p A B : Prop} [Decidable p] (h : ¬ p) (b : B) : if decide p = true then A else B := by
  rw [if_neg (fun z => h (of_decide_eq_true z))]
  exact b
theorem ab_eq (z : Int) : (if z < 0 then -z else z) = ((z.natAbs : Nat) : Int) := by split <;> omega
abbrev s_law_refused : Stmt := topS 21
theorem sc_law_refused : FnScope ["_law_way", "_law_value", "_law_other", "error"] ["_law_way", "_law_value", "_law_other"] (defScope s_law_refused) := ⟨rfl, rfl, rfl, by decide +kernel, rfl, by decide +kernel, by decide +kernel⟩
abbrev s_law_choices_right : Stmt := topS 23
theorem sc_law_choices_right : FnScope ["_law_urn_here", "_law_number", "_law_many", "_law_other", "_law_told", "_law_parts", "_law_at"] ["_law_urn_here"] (defScope s_law_choices_right) := ⟨rfl, rfl, rfl, by decide +kernel, rfl, by decide +kernel, by decide +kernel⟩
section
variable {P : Program} {w : World} {K : PySem.W.Frag} {mg : Str → Option Value} {base : Heap} {C fI : Addr}
/-- the same promises, closed: callers use the rules below -/
@[irreducible] def ipChoose (K : PySem.W.Frag) (C : Addr) : Sp := spChoose K C
@[irreducible] def ipCommon (K : PySem.W.Frag) (C : Addr) : Sp := spCommon K C
@[irreducible] def ipDivisors (K : PySem.W.Frag) (C : Addr) : Sp := spDivisors K C
theorem ip_choose {vs : List V} {H : Hp} {Q : VK} {E : XK} (h : ipChoose K C vs H Q E) : spChoose K C vs H Q E := by
  unfold ipChoose at h
  exact h
theorem ip_common {vs : List V} {H : Hp} {Q : VK} {E : XK} (h : ipCommon K C vs H Q E) : spCommon K C vs H Q E := by
  unfold ipCommon at h
  exact h
theorem ip_divisors {vs : List V} {H : Hp} {Q : VK} {E : XK} (h : ipDivisors K C vs H Q E) : spDivisors K C vs H Q E := by
  unfold ipDivisors at h
  exact h
theorem inL_of {n : Int} (h : n.natAbs < 10 ^ 60) : inL (some n) = true := decide_eq_true h
theorem choose_ok {n m : Int} {k : Nat} {H : Hp} {Q : VK} {E : XK} (hm : m = (k : Int)) (hn : n.natAbs < 10 ^ 60) (hk : k ≤ 60) (q : Q (.int (bi n k)) H) : ipChoose K C [.int n, .int m] H Q E := by
  subst hm
  unfold ipChoose
  refine ⟨_, _, _, _, rfl, .int n, .int _, fun z => ?_, fun _ z => ?_, fun n' k' e1 e2 _ _ => ?_⟩
  · rw [inL_of hn] at z
    cases z
  · have y : inR (some (k : Int)) 0 60 = true := decide_eq_true (by omega)
    rw [y] at z
    cases z
  · obtain rfl := Option.some.inj e1
    have e3 : k = k' := by
      have := Option.some.inj e2
      omega
    subst e3
    exact q
theorem common_ok {n m : Int} {H : Hp} {Q : VK} {E : XK} (hn : n.natAbs < 10 ^ 60) (hm : m.natAbs < 10 ^ 60) (q : Q (.int ((Nat.gcd n.natAbs m.natAbs : Nat) : Int)) H) : ipCommon K C [.int n, .int m] H Q E := by
  unfold ipCommon
  refine ⟨_, _, _, _, rfl, .int n, .int m, fun z => ?_, fun _ z => ?_, fun n' k' e1 e2 _ _ => ?_⟩
  · rw [inL_of hn] at z
    cases z
  · rw [inL_of hm] at z
    cases z
  · obtain rfl := Option.some.inj e1
    obtain rfl := Option.some.inj e2
    exact q
theorem divisors_ok {n : Int} {H : Hp} {Q : VK} {E : XK} (h1 : 1 ≤ n) (h2 : n ≤ 10 ^ 6) (q : ∀ (H' : Hp) (p : Addr), Same H H' → H p = none → H' p = some (.tup ((divs n).map V.int)) → Q (.ref p) H') : ipDivisors K C [.int n] H Q E := by
  unfold ipDivisors
  refine ⟨_, _, rfl, .int n, fun z => ?_, fun n' e1 _ _ => ?_⟩
  · have y : inR (some n) 1 (10 ^ 6) = true := decide_eq_true ⟨h1, h2⟩
    rw [y] at z
    cases z
  · obtain rfl := Option.some.inj e1
    exact q
/-- what is refused keeps x -/
def spRefused (K : PySem.W.Frag) : Sp := fun vs H Q _ => ∃ (i : Int) (x y : V) (ox oy : Option Int), vs = [.int i, x, y] ∧ Val K H x ox ∧ Val K H y oy ∧
  ((i = 0 ∧ inL ox = false) ∨ (i = 1 ∧ inL oy = true ∧ inR ox 0 60 = false) ∨ (i = 2 ∧ inL ox = false) ∨ (i = 3 ∧ inL oy = true ∧ inL ox = false) ∨ (i = 4 ∧ inR ox 1 (10 ^ 6) = false)) ∧
  ∀ (H' : Hp) (p : Addr), Same H H' → H p = none → H' p = some (.lst [x]) → Q (.ref p) H'
def rEqI : R2 := rEq
/-- the try's body: five ways -/
def tB5 (K : PySem.W.Frag) (C : Addr) (W : WX) : TS :=
  tIfS (tTest (tOp rEq (tVar 0) (tC (.int 0)))) (tDrop (tCallS (spChoose K C) (WE W) (tCons (tVar 1) (tCons (tVar 2) tNil))))
  (tIfS (tTest (tOp rEq (tVar 0) (tC (.int 1)))) (tDrop (tCallS (spChoose K C) (WE W) (tCons (tVar 2) (tCons (tVar 1) tNil))))
  (tIfS (tTest (tOp rEq (tVar 0) (tC (.int 2)))) (tDrop (tCallS (spCommon K C) (WE W) (tCons (tVar 1) (tCons (tVar 2) tNil))))
  (tIfS (tTest (tOp rEq (tVar 0) (tC (.int 3)))) (tDrop (tCallS (spCommon K C) (WE W) (tCons (tVar 2) (tCons (tVar 1) tNil))))
  (tDrop (tCallS (spDivisors K C) (WE W) (tCons (tVar 1) tNil))))))
def tS5 (C : Addr) : Addr → Value → Option Addr → TS := fun a cls d => tRet (tLst (tCons (tGiven C a cls d (tVar 3)) tNil))
theorem ok_refused {f f1 f2 f3 f4 f5 f6 f7 : Addr} {fd fd1 fd2 fd3 fd4 fd5 fd6 fd7 : FuncData} {k : Nat} (T : Txt mg) (U : Num K mg C fI) (d : D K mg "_law_refused" s_law_refused ["_law_way", "_law_value", "_law_other"] f fd) (d_is_whole : D K mg "is_whole" s_is_whole ["value"] f1 fd1)
    (d_is_integer : D K mg "is_integer" s_is_integer ["value"] f2 fd2) (d_is_between : D K mg "is_between" s_is_between ["value", "least", "most"] f3 fd3) (d_binomial : D K mg "binomial" s_binomial ["number", "many"] f4 fd4)
    (d_choose : D K mg "choose" s_choose ["number", "many"] f5 fd5) (d_common_divisor : D K mg "common_divisor" s_common_divisor ["one", "other"] f6 fd6) (d_divisors : D K mg "divisors" s_divisors ["number"] f7 fd7) :
    FnOk P w K mg base CX0 (k + 4) f fd ["_law_way", "_law_value", "_law_other"] (spRefused K) := by
  have G_choose : FnOk P w K mg base (L2.CX P w) (k + 3) f5 fd5 ["number", "many"] (spChoose K C) := ok_choose T U d_choose d_is_whole d_is_integer d_is_between d_binomial
  have G_common_divisor : FnOk P w K mg base (L2.CX P w) (k + 3) f6 fd6 ["one", "other"] (spCommon K C) := ok_common T U d_common_divisor d_is_whole d_is_integer
  have G_divisors : FnOk P w K mg base (L2.CX P w) (k + 3) f7 fd7 ["number"] (spDivisors K C) := ok_divisors T U d_divisors d_is_whole d_is_between
  refine d.F.ok sc_law_refused (fun vs H Q E h => ?_) (fun cdv A outer s H vs Q E hr h => ?_)
  · obtain ⟨i, x, y, ox, oy, rfl, _⟩ := h
    rfl
  · obtain ⟨i, x, y, ox, oy, rfl, hx, hy, way, q⟩ := h
    refine ⟨_, (pss_cons (ps_try_as (i := 3) (tb := tB5 K C) (ts := tS5 C) (Wout := fun _ _ _ _ => False) rfl rfl sc_law_refused.nd rfl rfl ⟨rfl, by decide, Or.inl U.num.gC⟩ takes0
        (fun W pn xe tk _ => pss_one (ps_if (pt_cmpR op_eq (pv 0) pe_int (nomark _)) (pss_one (ps_expr (by exact (pe_callS G_choose hr rfl d_choose.g d_choose.F.kp d_choose.b (fun σ => passAt tk σ) (by exact (pa_cons (pv 1) (pa_cons (pv 2) pa_nil)))))))
          (pss_one (ps_if (pt_cmpR op_eq (pv 0) pe_int (nomark _)) (pss_one (ps_expr (by exact (pe_callS G_choose hr rfl d_choose.g d_choose.F.kp d_choose.b (fun σ => passAt tk σ) (by exact (pa_cons (pv 2) (pa_cons (pv 1) pa_nil)))))))
          (pss_one (ps_if (pt_cmpR op_eq (pv 0) pe_int (nomark _)) (pss_one (ps_expr (by exact (pe_callS G_common_divisor hr rfl d_common_divisor.g d_common_divisor.F.kp d_common_divisor.b (fun σ => passAt tk σ) (by exact (pa_cons (pv 1) (pa_cons (pv 2) pa_nil)))))))
          (pss_one (ps_if (pt_cmpR op_eq (pv 0) pe_int (nomark _)) (pss_one (ps_expr (by exact (pe_callS G_common_divisor hr rfl d_common_divisor.g d_common_divisor.F.kp d_common_divisor.b (fun σ => passAt tk σ) (by exact (pa_cons (pv 2) (pa_cons (pv 1) pa_nil)))))))
          (pss_one (ps_expr (by exact (pe_callS G_divisors hr rfl d_divisors.g d_divisors.F.kp d_divisors.b (fun σ => passAt tk σ) (by exact (pa_cons (pv 1) pa_nil))))))))))))))
        (fun a oe cls d pn hz hf => pss_one (ps_ret (pe_lst (pa_cons (pe_given U.num hz hf (pv 3)) pa_nil)))))
      (pss_one (ps_ret (pe_lst pa_nil)))), ?_⟩
    have out : ∀ (dd : Addr), H dd = none → ∀ p, (upd H dd (.xd [("given", x)])) p = none → Q (.ref p) (upd (upd H dd (.xd [("given", x)])) p (.lst [x])) := fun dd hd p hp =>
      q _ p ((sub_same hd).trans (sub_same hp)) ((sub_same hd).free hp) upd_same
    rcases way with ⟨rfl, e⟩ | ⟨rfl, e0, e⟩ | ⟨rfl, e⟩ | ⟨rfl, e0, e⟩ | ⟨rfl, e⟩
    · refine ⟨_, rfl, rfl, _, rfl, iteP rfl ?_⟩
      refine ⟨_, rfl, _, rfl, x, y, ox, oy, rfl, hx, hy, fun _ dd hd => ?_, fun z => ?_, fun n' k' e1 e2 e3 e4 => ?_⟩
      · exact ⟨true, U.num.te, fun _ a0 _ => ⟨_, rfl, rfl, rfl, dd, x, rfl, upd_same, (by show 1 ≤ sizeLine; decide), fun p hp => out dd hd p hp⟩, fun q => Bool.noConfusion q⟩
      · rw [e] at z
        cases z
      · subst e1
        rw [inL_of e3] at e
        cases e
    · refine ⟨_, rfl, rfl, _, rfl, iteQ (by decide) ⟨_, rfl, rfl, _, rfl, iteP rfl ?_⟩⟩
      refine ⟨_, rfl, _, rfl, y, x, oy, ox, rfl, hy, hx, fun z => ?_, fun _ _ dd hd => ?_, fun n' k' e1 e2 e3 e4 => ?_⟩
      · rw [e0] at z
        cases z
      · exact ⟨true, U.num.te, fun _ a0 _ => ⟨_, rfl, rfl, rfl, dd, x, rfl, upd_same, (by show 1 ≤ sizeLine; decide), fun p hp => out dd hd p hp⟩, fun q => Bool.noConfusion q⟩
      · subst e2
        have y : inR (some (k' : Int)) 0 60 = true := decide_eq_true (by omega)
        rw [y] at e
        cases e
    · refine ⟨_, rfl, rfl, _, rfl, iteQ (by decide) ⟨_, rfl, rfl, _, rfl, iteQ (by decide) ⟨_, rfl, rfl, _, rfl, iteP rfl ?_⟩⟩⟩
      refine ⟨_, rfl, _, rfl, x, y, ox, oy, rfl, hx, hy, fun _ dd hd => ?_, fun z => ?_, fun n' k' e1 e2 e3 e4 => ?_⟩
      · exact ⟨true, U.num.te, fun _ a0 _ => ⟨_, rfl, rfl, rfl, dd, x, rfl, upd_same, (by show 1 ≤ sizeLine; decide), fun p hp => out dd hd p hp⟩, fun q => Bool.noConfusion q⟩
      · rw [e] at z
        cases z
      · subst e1
        rw [inL_of e3] at e
        cases e
    · refine ⟨_, rfl, rfl, _, rfl, iteQ (by decide) ⟨_, rfl, rfl, _, rfl, iteQ (by decide) ⟨_, rfl, rfl, _, rfl, iteQ (by decide) ⟨_, rfl, rfl, _, rfl, iteP rfl ?_⟩⟩⟩⟩
      refine ⟨_, rfl, _, rfl, y, x, oy, ox, rfl, hy, hx, fun z => ?_, fun _ _ dd hd => ?_, fun n' k' e1 e2 e3 e4 => ?_⟩
      · rw [e0] at z
        cases z
      · exact ⟨true, U.num.te, fun _ a0 _ => ⟨_, rfl, rfl, rfl, dd, x, rfl, upd_same, (by show 1 ≤ sizeLine; decide), fun p hp => out dd hd p hp⟩, fun q => Bool.noConfusion q⟩
      · subst e2
        rw [inL_of e4] at e
        cases e
    · refine ⟨_, rfl, rfl, _, rfl, iteQ (by decide) ⟨_, rfl, rfl, _, rfl, iteQ (by decide) ⟨_, rfl, rfl, _, rfl, iteQ (by decide) ⟨_, rfl, rfl, _, rfl, iteQ (by decide) ?_⟩⟩⟩⟩
      refine ⟨_, rfl, x, ox, rfl, hx, fun _ dd hd => ?_, fun n' e1 e2 e3 => ?_⟩
      · exact ⟨true, U.num.te, fun _ a0 _ => ⟨_, rfl, rfl, rfl, dd, x, rfl, upd_same, (by show 1 ≤ sizeLine; decide), fun p hp => out dd hd p hp⟩, fun q => Bool.noConfusion q⟩
      · subst e1
        have y : inR (some n') 1 (10 ^ 6) = true := decide_eq_true ⟨e2, e3⟩
        rw [y] at e
        cases e
/-- what the comprehension lays: the products of Vandermonde's sum -/
def vl (a b : Int) (k : Nat) : Nat → List Int
  | 0 => []
  | i + 1 => vl a b k i ++ [bi a i * bi b (k - i)]
theorem vl_sum (a b : Int) (k : Nat) : ∀ i, (vl a b k i).sum = vsum a b k i
  | 0 => rfl
  | i + 1 => by
    show (vl a b k i ++ [bi a i * bi b (k - i)]).sum = vsum a b k i + bi a i * bi b (k - i)
    rw [List.sum_append, vl_sum a b k i]
    simp
theorem vl_len (a b : Int) (k : Nat) : ∀ i, (vl a b k i).length = i
  | 0 => rfl
  | i + 1 => by
    show (vl a b k i ++ [bi a i * bi b (k - i)]).length = i + 1
    rw [List.length_append, vl_len a b k i]
    rfl
end
end K01

namespace K01
open PySem PySem.Spec PyProof.Rows L2
theorem Urn.same {H H' : Hp} {a : Addr} (h : Urn H a) (s : Same H H') : Urn H' a := by
  obtain ⟨g, m, c, e⟩ := h
  exact ⟨g, m, c, s _ _ e⟩
theorem Urn.ne {H : Hp} {a p : Addr} (h : Urn H a) (n : H p = none) : p ≠ a := fun z => by
  obtain ⟨_, _, _, e⟩ := h
  rw [← z, n] at e
  cases e
/-- what stood beside a stands -/
def Keep (a : Addr) (H H' : Hp) : Prop := ∀ b o, b ≠ a → H b = some o → H' b = some o
theorem Keep.trans {a : Addr} {H H1 H2 : Hp} (x : Keep a H H1) (y : Keep a H1 H2) : Keep a H H2 := fun b o hb e => y b o hb (x b o hb e)
theorem Same.keep {a : Addr} {H H' : Hp} (s : Same H H') : Keep a H H' := fun b o _ e => s b o e
theorem But.keep {a : Addr} {H H' : Hp} (s : But a H H') : Keep a H H' := fun b o hb e => (s b hb).trans e
section
variable {P : Program} {w : World} {K : PySem.W.Frag} {mg : Str → Option Value} {base : Heap} {C fI : Addr}
/-- a check of the law over the urn: it ends in True -/
def spCheck : Sp := fun vs H Q _ => ∃ (a : Addr), vs = [.ref a] ∧ Urn H a ∧ ∀ H' : Hp, Urn H' a → Keep a H H' → Q (.bl true) H'
theorem lt59 {n : Int} (h : n.natAbs < 10 ^ 59) : (if n < 0 then -n else n) < (10 : Int) ^ 59 := by
  rw [ab_eq]
  omega
theorem ge59 {n : Int} (h : ¬ n.natAbs < 10 ^ 59) : ¬ (if n < 0 then -n else n) < (10 : Int) ^ 59 := by
  rw [ab_eq]
  omega
theorem flip_even {n : Int} {j : Nat} (h : (j : Int) = (j : Int) / 2 * 2) : bi ((j : Int) - n - 1) j * 1 = bi n j := by
  have s : sg j = 1 := if_pos (by omega)
  rw [bi_flip, s, Int.mul_one, Int.one_mul]
theorem flip_odd {n : Int} {j : Nat} (h : ¬ (j : Int) = (j : Int) / 2 * 2) : bi ((j : Int) - n - 1) j * -1 = bi n j := by
  have s : sg j = -1 := if_neg (by omega)
  rw [bi_flip, s]
  omega
theorem pw59 : CPowW 10 59 := ⟨by decide, by decide +kernel⟩
theorem pw60 : CPowW 10 60 := ⟨by decide, by decide +kernel⟩
theorem ok_choices {f f1 f2 f3 f4 f5 f8 f9 f10 f11 f12 : Addr} {fd fd1 fd2 fd3 fd4 fd5 fd8 fd9 fd10 fd11 fd12 : FuncData} {k : Nat} (T : Txt mg) (U : Num K mg C fI) (d : D K mg "_law_choices_right" s_law_choices_right ["_law_urn_here"] f fd) (d_is_whole : D K mg "is_whole" s_is_whole ["value"] f1 fd1)
    (d_is_integer : D K mg "is_integer" s_is_integer ["value"] f2 fd2) (d_is_between : D K mg "is_between" s_is_between ["value", "least", "most"] f3 fd3) (d_binomial : D K mg "binomial" s_binomial ["number", "many"] f4 fd4)
    (d_choose : D K mg "choose" s_choose ["number", "many"] f5 fd5) (d_law_take : D K mg "_law_take" s_law_take ["_law_urn_here", "_law_total"] f8 fd8) (d_law_some : D K mg "_law_some" s_law_some ["_law_urn_here", "_law_items"] f9 fd9)
    (d_law_long : D K mg "_law_long" s_law_long ["_law_urn_here"] f10 fd10) (d_law_over : D K mg "_law_over" s_law_over ["_law_top", "_law_bottom"] f11 fd11) (d_law_binomial : D K mg "_law_binomial" s_law_binomial ["_law_number", "_law_many"] f12 fd12) :
    FnOk P w K mg base CX0 (k + 4) f fd ["_law_urn_here"] spCheck := by
  have G_choose : FnOk P w K mg base (L2.CX P w) (k + 3) f5 fd5 ["number", "many"] (ipChoose K C) := (ok_choose T U d_choose d_is_whole d_is_integer d_is_between d_binomial).imp fun _ _ _ _ z => ip_choose z
  have G_law_take : FnOk P w K mg base CX0 (k + 1) f8 fd8 ["_law_urn_here", "_law_total"] spTake := ok_take T d_law_take
  have G_law_some : FnOk P w K mg base CX0 (k + 2) f9 fd9 ["_law_urn_here", "_law_items"] spSome := ok_some T d_law_some d_law_take
  have G_law_long : FnOk P w K mg base CX0 (k + 3) f10 fd10 ["_law_urn_here"] spLong := ok_long T d_law_long d_law_take d_law_some
  have G_law_binomial : FnOk P w K mg base CX0 (k + 2) f12 fd12 ["_law_number", "_law_many"] spLBin := ok_lbin T d_law_binomial d_law_over
  refine d.F.ok sc_law_choices_right (fun vs H Q E h => ?_) (fun cdv A outer s H vs Q E hr h => ?_)
  · obtain ⟨a, rfl, _⟩ := h
    rfl
  · obtain ⟨a, rfl, hu, q⟩ := h
    have hr1 : Room (k + 1) _ := hr.mono (by omega)
    have hr2 : Room (k + 2) _ := hr.mono (by omega)
    refine ⟨_, (pss_cons (ps_asg (pe_tup (pa_cons (pe_call G_law_long hr (by rfl) d_law_long.g d_law_long.F.kp d_law_long.b .nil pass0 (pa_cons (pv 0) pa_nil)) (pa_cons (pe_call G_law_take hr1 (by rfl) d_law_take.g d_law_take.F.kp d_law_take.b .nil pass0 (pa_cons (pv 0) (pa_cons pe_int pa_nil))) (pa_cons (pe_op op_sub (pe_call G_law_take hr1 (by rfl) d_law_take.g d_law_take.F.kp d_law_take.b .nil pass0 (pa_cons (pv 0) (pa_cons pe_int pa_nil))) pe_int) pa_nil))))
        (pg_tup rfl (pgs_cons (pg_name (i := 1) sc_law_choices_right.nd rfl (.inr rfl)) (pgs_cons (pg_name (i := 2) sc_law_choices_right.nd rfl (.inr rfl)) (pgs_cons (pg_name (i := 3) sc_law_choices_right.nd rfl (.inr rfl)) pgs_nil)))))
      (pss_cons (ps_set (i := 1) sc_law_choices_right.nd rfl (.inr rfl) (pe_call G_law_some hr2 (by rfl) d_law_some.g d_law_some.F.kp d_law_some.b .nil pass0 (pa_cons (pv 0) (pa_cons (pe_lst (pa_cons (pv 1) (pa_cons (pv 1) (pa_cons (pe_op op_sub (pe_op op_powW pe_int pe_int) pe_int) (pa_cons (pe_op op_sub pe_int (pe_op op_powW pe_int pe_int)) (pa_cons (pv 2) (pa_cons (pe_op op_sub (pv 2) pe_int) (pa_cons pe_int pa_nil)))))))) pa_nil))))
      (pss_cons (ps_set (i := 4) sc_law_choices_right.nd rfl (.inl rfl) (pe_call G_choose hr (by rfl) d_choose.g d_choose.F.kp d_choose.b .nil passL (pa_cons (pv 1) (pa_cons (pv 2) pa_nil))))
      (pss_cons (ps_if (PW.pt (pw_or (pt_cmpR op_ne (pv 4) (pe_call G_law_binomial hr2 (by rfl) d_law_binomial.g d_law_binomial.F.kp d_law_binomial.b .nil pass0 (pa_cons (pv 1) (pa_cons (pv 2) pa_nil))) (nomark _)) (pw_or1 (pt_cmpR op_ne (pe_call G_choose hr (by rfl) d_choose.g d_choose.F.kp d_choose.b .nil passL (pa_cons (pv 1) (pa_cons pe_int pa_nil))) pe_int (nomark _))))) (pss_one (ps_ret pe_bl)) pss_nil)
      (pss_cons (ps_if (PW.pt (pw_and (pt_cmpR op_lt (pe_callB call_abs (by rfl) T.n_abs (by decide +kernel) (pa_cons (pv 1) pa_nil)) (pe_op op_powW pe_int pe_int) (nomark _)) (pw_and1 (pt_cmpR op_ne (pe_call G_choose hr (by rfl) d_choose.g d_choose.F.kp d_choose.b .nil passL (pa_cons (pe_op op_add (pv 1) pe_int) (pa_cons (pe_op op_add (pv 2) pe_int) pa_nil))) (pe_op op_add (pe_call G_choose hr (by rfl) d_choose.g d_choose.F.kp d_choose.b .nil passL (pa_cons (pv 1) (pa_cons (pv 2) pa_nil))) (pe_call G_choose hr (by rfl) d_choose.g d_choose.F.kp d_choose.b .nil passL (pa_cons (pv 1) (pa_cons (pe_op op_add (pv 2) pe_int) pa_nil)))) (nomark _))))) (pss_one (ps_ret pe_bl)) pss_nil)
      (pss_cons (ps_if (PW.pt (pw_and (pt_cmpR op_lt (pe_callB call_abs (by rfl) T.n_abs (by decide +kernel) (pa_cons (pv 1) pa_nil)) (pe_op op_powW pe_int pe_int) (nomark _)) (pw_and1 (pt_cmpR op_ne (pe_op op_mul (pe_call G_choose hr (by rfl) d_choose.g d_choose.F.kp d_choose.b .nil passL (pa_cons (pe_op op_sub (pe_op op_sub (pv 2) (pv 1)) pe_int) (pa_cons (pv 2) pa_nil))) (pe_ifExp (pt_cmpR op_eq (pv 2) (pe_op op_mul (pe_op op_fdivW (pv 2) pe_int) pe_int) (nomark _)) pe_int (pe_un un_neg pe_int))) (pv 4) (nomark _))))) (pss_one (ps_ret pe_bl)) pss_nil)
      (pss_cons (ps_setLc (i := 5) (own := [("_law_at", 6)]) (g := gName 6) (by rfl) sc_law_choices_right.nd rfl rfl (sw_true rfl rfl rfl (by decide +kernel)) (pi_range1 (by rfl) T.n_range (pa_cons (pe_op op_add (pv 2) pe_int) pa_nil)) (blkOk_by (own := [("_law_at", 6)]) (N := ["_law_urn_here", "_law_number", "_law_many", "_law_other", "_law_told", "_law_parts", "_law_at"]) (sc := defScope s_law_choices_right) (by decide +kernel)) (fun _ _ _ _ _ => pg_name (i := 6) sc_law_choices_right.nd rfl (Or.inl rfl)) (fun _ _ _ _ _ => pts_nil)
        (fun _ _ _ _ _ => (pe_op op_mulW (pe_call G_choose hr (by rfl) d_choose.g d_choose.F.kp d_choose.b .nil passL (pa_cons (pv 3) (pa_cons (pv 6) pa_nil))) (pe_call G_choose hr (by rfl) d_choose.g d_choose.F.kp d_choose.b .nil passL (pa_cons (pv 1) (pa_cons (pe_op op_sub (pv 2) (pv 6)) pa_nil))))))
      (pss_one (ps_ret (pe_or (pe_cmpR op_ge (pe_callB call_abs (by rfl) T.n_abs (by decide +kernel) (pa_cons (pv 1) pa_nil)) (pe_op op_powW pe_int pe_int) (nomark _)) (pe_one (pe_cmpR op_eq (pe_call G_choose hr (by rfl) d_choose.g d_choose.F.kp d_choose.b .nil passL (pa_cons (pe_op op_add (pv 1) (pv 3)) (pa_cons (pv 2) pa_nil))) (pe_callB (cr_sum rfl) (by rfl) T.n_sum (by decide +kernel) (pa_cons (pv 5) pa_nil)) (nomark _))))))))))))), ?_⟩
    -- number, many, other
    refine ⟨.ref a, rfl, a, rfl, hu, fun v H1 hv u1 k1 => ?_⟩
    refine ⟨.ref a, rfl, a, 12, rfl, u1, by decide, by decide +kernel, fun m H2 m0 m1 u2 b2 => ?_⟩
    obtain ⟨j, rfl⟩ : ∃ j : Nat, m = (j : Int) := ⟨m.toNat, by omega⟩
    refine ⟨.ref a, rfl, a, 9, rfl, u2, by decide, by decide +kernel, fun o H3 o0 o1 u3 b3 => ?_⟩
    refine ⟨o, 4, rfl, rfl, (by show 3 ≤ sizeLine; decide), fun p np => ⟨p, _, rfl, .inl (.inl upd_same), rfl, _, _, rfl, _, _, rfl, _, _, rfl, rfl, ?_⟩⟩
    have ot0 : (o - 4).natAbs ≤ 4 := by omega
    have k3 : Keep a H (upd H3 p (.tup [.int v, .int j, .int (o - 4)])) := (Keep.trans k1 (But.keep b2)).trans ((But.keep b3).trans (Same.keep (sub_same np)))
    have u4 : Urn (upd H3 p (.tup [.int v, .int j, .int (o - 4)])) a := u3.same (sub_same np)
    dsimp only
    revert k3 u4
    generalize upd H3 p (.tup [.int v, .int j, .int (o - 4)]) = H4
    intro k3 u4
    revert ot0
    generalize o - 4 = ot
    intro ot0
    -- one of the numbers
    refine ⟨.ref a, rfl, _, rfl, _, rfl, _, _, rfl, rfl, pw60, _, _, rfl, rfl, _, _, rfl, rfl, pw60, _, _, rfl, rfl, _, rfl, _, rfl, _, _, rfl, rfl, (by show 7 ≤ sizeLine; decide), fun l nl => ?_⟩
    refine ⟨a, l, _, rfl, u4.same (sub_same nl), upd_same, u4.ne nl, by simp, by simp, fun i x H5 hx u5 b5 => ?_⟩
    have k5 : Keep a H H5 := (k3.trans (Same.keep (sub_same nl))).trans (But.keep b5)
    have hx2 : ∃ n : Int, x = .int n ∧ n.natAbs < 10 ^ 60 := by
      have v60 : v.natAbs < 10 ^ 60 := by omega
      match i, hx with
      | 0, hx => exact ⟨v, (Option.some.inj hx).symm, v60⟩
      | 1, hx => exact ⟨v, (Option.some.inj hx).symm, v60⟩
      | 2, hx => exact ⟨_, (Option.some.inj hx).symm, by decide⟩
      | 3, hx => exact ⟨_, (Option.some.inj hx).symm, by decide⟩
      | 4, hx => exact ⟨(j : Int), (Option.some.inj hx).symm, by omega⟩
      | 5, hx => exact ⟨(j : Int) - 1, (Option.some.inj hx).symm, by omega⟩
      | 6, hx => exact ⟨0, (Option.some.inj hx).symm, by decide⟩
      | _ + 7, hx => simp at hx
    obtain ⟨n, rfl, hn⟩ := hx2
    -- told
    refine ⟨_, rfl, _, rfl, choose_ok (k := j) rfl hn (by omega) ?_⟩
    refine ⟨_, rfl, _, rfl, _, rfl, n, j, rfl, lim200 hn, by omega, fun H6 s6 => ⟨rfl, _, rfl, iteNS rfl ?_⟩⟩
    refine ⟨_, rfl, choose_ok (k := 0) rfl hn (by decide) ⟨rfl, _, rfl, iteNS (congrArg V.int (bi_zero n)) ?_⟩⟩
    have k6 : Keep a H H6 := k5.trans (Same.keep s6)
    have u6 : Urn H6 a := u5.same s6
    have j60 : j ≤ 60 := by omega
    have two : CDivW 0 2 := wide_div (i := 0) (b := 64) (by decide) (by decide) (by decide) (by decide)
    rcases (show (n.natAbs < 10 ^ 59 ∧ (j : Int) = (j : Int) / 2 * 2) ∨ (n.natAbs < 10 ^ 59 ∧ ¬ (j : Int) = (j : Int) / 2 * 2) ∨ ¬ n.natAbs < 10 ^ 59 by omega) with ⟨hs, hp⟩ | ⟨hs, hp⟩ | hs
    -- small, many even
    refine ⟨_, rfl, n, rfl, _, _, rfl, rfl, pw59, _, _, rfl, rfl, _, rfl, iteP (lt59 hs) ?_⟩
    refine ⟨_, rfl, _, _, rfl, rfl, _, rfl, _, _, rfl, rfl, choose_ok (k := j + 1) rfl (by omega) (by omega) ⟨_, rfl, _, rfl, choose_ok (k := j) rfl hn j60 ⟨_, rfl, _, rfl, _, _, rfl, rfl, choose_ok (k := j + 1) rfl hn (by omega) ⟨_, _, rfl, rfl, rfl, _, rfl, iteNS (congrArg V.int (bi_pascal n j)) ?_⟩⟩⟩⟩
    refine ⟨_, rfl, n, rfl, _, _, rfl, rfl, pw59, _, _, rfl, rfl, _, rfl, iteP (lt59 hs) ?_⟩
    refine ⟨_, rfl, _, rfl, _, _, rfl, rfl, _, _, rfl, rfl, _, rfl, choose_ok (k := j) rfl (by omega) j60 ?_⟩
    refine ⟨_, rfl, _, rfl, _, _, rfl, rfl, two, _, _, rfl, rfl, .inr (by decide), rfl, _, rfl, iteP (congrArg V.int hp) ⟨_, _, rfl, rfl, .inr (by decide), _, rfl, rfl, _, rfl, iteNS (congrArg V.int (flip_even hp)) ?_⟩⟩
    rotate_left
    -- small, many odd
    refine ⟨_, rfl, n, rfl, _, _, rfl, rfl, pw59, _, _, rfl, rfl, _, rfl, iteP (lt59 hs) ?_⟩
    refine ⟨_, rfl, _, _, rfl, rfl, _, rfl, _, _, rfl, rfl, choose_ok (k := j + 1) rfl (by omega) (by omega) ⟨_, rfl, _, rfl, choose_ok (k := j) rfl hn j60 ⟨_, rfl, _, rfl, _, _, rfl, rfl, choose_ok (k := j + 1) rfl hn (by omega) ⟨_, _, rfl, rfl, rfl, _, rfl, iteNS (congrArg V.int (bi_pascal n j)) ?_⟩⟩⟩⟩
    refine ⟨_, rfl, n, rfl, _, _, rfl, rfl, pw59, _, _, rfl, rfl, _, rfl, iteP (lt59 hs) ?_⟩
    refine ⟨_, rfl, _, rfl, _, _, rfl, rfl, _, _, rfl, rfl, _, rfl, choose_ok (k := j) rfl (by omega) j60 ?_⟩
    refine ⟨_, rfl, _, rfl, _, _, rfl, rfl, two, _, _, rfl, rfl, .inr (by decide), rfl, _, rfl, iteQ (fun z => hp (V.int.inj z)) ⟨_, rfl, _, _, rfl, rfl, .inr (by decide), _, rfl, rfl, _, rfl, iteNS (congrArg V.int (flip_odd hp)) ?_⟩⟩
    rotate_left
    -- great
    refine ⟨_, rfl, n, rfl, _, _, rfl, rfl, pw59, _, _, rfl, rfl, _, rfl, iteQ (ge59 hs) (iteF ?_)⟩
    refine ⟨_, rfl, n, rfl, _, _, rfl, rfl, pw59, _, _, rfl, rfl, _, rfl, iteQ (ge59 hs) (iteF ?_)⟩
    rotate_left
    -- the parts, the sum
    all_goals
      refine ⟨_, rfl, _, _, rfl, rfl, (j : Int) + 1, rfl, by omega, by omega, fun D hD => ?_⟩
      rw [show ((j : Int) + 1).toNat = j + 1 by omega]
      refine lc_range (n := j + 1) (fun i H' => Same H6 H' ∧ H' D = some (.lst ((vl ot n j i).map V.int))) ⟨sub_same hD, upd_same⟩ ?_ ?_
      · rintro i H' hi ⟨s', hD'⟩
        refine ⟨rfl, ?_⟩
        unfold tYes
        refine ite2 (fun _ => ?_) (fun z => absurd rfl z)
        refine ⟨_, rfl, _, rfl, choose_ok (k := i) (by omega) (by omega) (by omega) ⟨_, rfl, _, rfl, _, rfl, _, _, rfl, rfl, choose_ok (k := j - i) (by omega) hn (by omega) ⟨_, _, rfl, rfl, wide_mul (a := 12263) (b := 12263) (bi_size' (lim200 (by omega)) (by omega)) (bi_size' (lim200 hn) (by omega)) (by decide) (by decide) (by decide), _, hD', ?_, ?_, ?_⟩⟩⟩
        · rw [List.length_map, vl_len]
          exact small1000 (by omega)
        · intro b z hz
          rw [upd_ne (ne_of_none hz hD)]
          exact s' b z hz
        · rw [upd_same]
          show _ = some (HO.lst ((vl ot n j i ++ [bi ot i * bi n (j - i)]).map V.int))
          rw [List.map_append]
          rfl
      · rintro H' ⟨s', hD'⟩
        have fin : Q (.bl true) H' := q H' (u6.same s') (k6.trans (Same.keep s'))
        refine ⟨_, rfl, n, rfl, _, _, rfl, rfl, pw59, _, _, rfl, rfl, _, rfl, ite2 (fun e => fin) (fun e => ?_)⟩
        have hs2 : n.natAbs < 10 ^ 59 := by
          have z : ¬ (10 : Int) ^ 59 ≤ (if n < 0 then -n else n) := fun z => e (decide_eq_true z)
          rw [ab_eq] at z
          omega
        refine ⟨_, rfl, _, rfl, _, _, rfl, rfl, _, rfl, choose_ok (k := j) rfl (by omega) j60 ⟨_, rfl, D, _, rfl, .inl (.inl hD'), rfl, ?_⟩⟩
        have e2 : bi (n + ot) j = (vl ot n j (j + 1)).sum := by
          rw [vl_sum, vandermonde, Int.add_comm]
        show Q (.bl (decide (V.int (bi (n + ot) j) = V.int (vl ot n j (j + 1)).sum))) H'
        rw [decide_eq_true (congrArg V.int e2)]
        exact fin
end
end K01

namespace K01
open PySem PySem.Spec PyProof.Rows L2
abbrev s_law_divisors_right : Stmt := topS 24
theorem sc_law_divisors_right : FnScope ["_law_urn_here", "_law_small", "_law_number", "_law_low", "_law_high", "_law_one", "_law_other", "_law_share", "_law_at"] ["_law_urn_here"] (defScope s_law_divisors_right) := ⟨rfl, rfl, rfl, by decide +kernel, rfl, by decide +kernel, by decide +kernel⟩
section
variable {P : Program} {w : World} {K : PySem.W.Frag} {mg : Str → Option Value} {base : Heap} {C fI : Addr}
theorem dp_ints (H : Hp) : ∀ ns : List Int, DpAll K H (ns.map V.int) (ns.map PyData.int)
  | [] => .nil
  | n :: r => .cons (.int n) (dp_ints H r)
theorem tup_shaped (ns : List Int) : SeqAt.shaped (.tuple (ns.map PyData.int)) = true := by
  have h := PySem.W.ke_canLayAll0 ns
  have h2 := PySem.W.ke_depthAll ns
  simp [SeqAt.shaped, PyData.canLay0, PyData.depth, h, h2]
theorem tup_same (ns : List Int) : PyData.eqv (.tuple (ns.map PyData.int)) (.tuple (ns.map PyData.int)) = true := PySem.SeqAt.eqv_refl _ (PySem.SeqAt.canLay_of_shaped (tup_shaped ns))
theorem dv_cond {n s : Int} (h : 1 ≤ s) : (n / s * s = n) ↔ n % s = 0 := by
  have e := Int.emod_add_mul_ediv n s
  have c := Int.mul_comm s (n / s)
  constructor
  · intro z
    omega
  · intro z
    omega
theorem dv_yes {n : Int} {i : Nat} (h1 : (1 + (i : Int)) * (1 + (i : Int)) ≤ n) (h2 : n / (1 + (i : Int)) * (1 + (i : Int)) = n) : dv n (i + 1) = dv n i ++ [1 + (i : Int)] := by
  have h3 := (dv_cond (n := n) (s := 1 + (i : Int)) (by omega)).mp h2
  rw [show (1 : Int) + (i : Int) = (i : Int) + 1 by omega] at h1 h3 ⊢
  rw [dv_put h1, if_pos h3]
theorem dv_no {n : Int} {i : Nat} (h : ¬ ((1 + (i : Int)) * (1 + (i : Int)) ≤ n ∧ n / (1 + (i : Int)) * (1 + (i : Int)) = n)) : dv n (i + 1) = dv n i := by
  rw [dv_cond (by omega), show (1 : Int) + (i : Int) = (i : Int) + 1 by omega] at h
  show dv n i ++ (if ((i : Int) + 1) * ((i : Int) + 1) ≤ n ∧ n % ((i : Int) + 1) = 0 then [(i : Int) + 1] else []) = _
  rw [if_neg h, List.append_nil]
theorem iteE {c : Bool} {A B : Prop} (h : c = true) (b : B) : if (!c) = true then A else B := by
  rw [h]
  exact iteF b
theorem pw6 : CPowW 10 6 := ⟨by decide, by decide +kernel⟩
theorem gcd7 (v : Int) : Nat.gcd (v * 7).natAbs (0 - v).natAbs = v.natAbs := by
  have a : (v * 7).natAbs = v.natAbs * 7 := by rw [Int.natAbs_mul]; rfl
  have b : (0 - v).natAbs = v.natAbs := by omega
  rw [a, b]
  exact Nat.gcd_eq_right (Nat.dvd_mul_right _ _)
theorem gcd1 (v : Int) : Nat.gcd v.natAbs (0 - v).natAbs = v.natAbs := by
  have b : (0 - v).natAbs = v.natAbs := by omega
  rw [b, Nat.gcd_self]
theorem ok_ldiv {f f1 f2 f3 f6 f7 f8 f9 f10 f13 : Addr} {fd fd1 fd2 fd3 fd6 fd7 fd8 fd9 fd10 fd13 : FuncData} {k : Nat} (T : Txt mg) (U : Num K mg C fI) (d : D K mg "_law_divisors_right" s_law_divisors_right ["_law_urn_here"] f fd) (d_is_whole : D K mg "is_whole" s_is_whole ["value"] f1 fd1)
    (d_is_integer : D K mg "is_integer" s_is_integer ["value"] f2 fd2) (d_is_between : D K mg "is_between" s_is_between ["value", "least", "most"] f3 fd3)
    (d_common_divisor : D K mg "common_divisor" s_common_divisor ["one", "other"] f6 fd6) (d_divisors : D K mg "divisors" s_divisors ["number"] f7 fd7) (d_law_take : D K mg "_law_take" s_law_take ["_law_urn_here", "_law_total"] f8 fd8) (d_law_some : D K mg "_law_some" s_law_some ["_law_urn_here", "_law_items"] f9 fd9)
    (d_law_long : D K mg "_law_long" s_law_long ["_law_urn_here"] f10 fd10) (d_law_shared : D K mg "_law_shared" s_law_shared ["_law_one", "_law_other"] f13 fd13) :
    FnOk P w K mg base CX0 (k + 4) f fd ["_law_urn_here"] spCheck := by
  have G_common_divisor : FnOk P w K mg base (L2.CX P w) (k + 3) f6 fd6 ["one", "other"] (ipCommon K C) := (ok_common T U d_common_divisor d_is_whole d_is_integer).imp fun _ _ _ _ z => ip_common z
  have G_divisors : FnOk P w K mg base (L2.CX P w) (k + 3) f7 fd7 ["number"] (ipDivisors K C) := (ok_divisors T U d_divisors d_is_whole d_is_between).imp fun _ _ _ _ z => ip_divisors z
  have G_law_take : FnOk P w K mg base CX0 (k + 1) f8 fd8 ["_law_urn_here", "_law_total"] spTake := ok_take T d_law_take
  have G_law_some : FnOk P w K mg base CX0 (k + 2) f9 fd9 ["_law_urn_here", "_law_items"] spSome := ok_some T d_law_some d_law_take
  have G_law_long : FnOk P w K mg base CX0 (k + 3) f10 fd10 ["_law_urn_here"] spLong := ok_long T d_law_long d_law_take d_law_some
  have G_law_shared : FnOk P w K mg base CX0 (k + 1) f13 fd13 ["_law_one", "_law_other"] spShared := ok_shared T d_law_shared
  refine d.F.ok sc_law_divisors_right (fun vs H Q E h => ?_) (fun cdv A outer s H vs Q E hr h => ?_)
  · obtain ⟨a, rfl, _⟩ := h
    rfl
  · obtain ⟨a, rfl, hu, q⟩ := h
    have hr1 : Room (k + 1) _ := hr.mono (by omega)
    have hr2 : Room (k + 2) _ := hr.mono (by omega)
    refine ⟨_, (pss_cons (ps_set (i := 1) sc_law_divisors_right.nd rfl (.inl rfl) (pe_op op_add pe_int (pe_call G_law_some hr2 (by rfl) d_law_some.g d_law_some.F.kp d_law_some.b .nil pass0 (pa_cons (pv 0) (pa_cons (pe_lst (pa_cons (pe_call G_law_take hr1 (by rfl) d_law_take.g d_law_take.F.kp d_law_take.b .nil pass0 (pa_cons (pv 0) (pa_cons pe_int pa_nil))) (pa_cons (pe_op op_add (pe_op op_mul (pe_call G_law_take hr1 (by rfl) d_law_take.g d_law_take.F.kp d_law_take.b .nil pass0 (pa_cons (pv 0) (pa_cons pe_int pa_nil))) pe_int) pe_int) (pa_cons (pe_call G_law_take hr1 (by rfl) d_law_take.g d_law_take.F.kp d_law_take.b .nil pass0 (pa_cons (pv 0) (pa_cons pe_int pa_nil))) pa_nil)))) pa_nil)))))
      (pss_cons (ps_set (i := 2) sc_law_divisors_right.nd rfl (.inr rfl) (pe_call G_law_some hr2 (by rfl) d_law_some.g d_law_some.F.kp d_law_some.b .nil pass0 (pa_cons (pv 0) (pa_cons (pe_lst (pa_cons (pv 1) (pa_cons (pe_op op_mul (pv 1) (pv 1)) (pa_cons (pe_op op_powW pe_int pe_int) pa_nil)))) pa_nil))))
      (pss_cons (ps_set (i := 2) sc_law_divisors_right.nd rfl (.inr rfl) (pe_callB (call_min2 rfl) (by rfl) T.n_min (by decide +kernel) (pa_cons (pv 2) (pa_cons (pe_op op_powW pe_int pe_int) pa_nil))))
      (pss_cons (ps_setLc (i := 3) (own := [("_law_at", 8)]) (g := gName 8) (by rfl) sc_law_divisors_right.nd rfl rfl (sw_true rfl rfl rfl (by decide +kernel)) (pi_range2 (by rfl) T.n_range (pa_cons pe_int (pa_cons pe_int pa_nil))) (blkOk_by (own := [("_law_at", 8)]) (N := ["_law_urn_here", "_law_small", "_law_number", "_law_low", "_law_high", "_law_one", "_law_other", "_law_share", "_law_at"]) (sc := defScope s_law_divisors_right) (by decide +kernel)) (fun _ _ _ _ _ => pg_name (i := 8) sc_law_divisors_right.nd rfl (Or.inl rfl)) (fun _ _ _ _ _ => pts_one (PW.pt (pw_and (pt_cmpR op_le (pe_op op_mul (pv 8) (pv 8)) (pv 2) (nomark _)) (pw_and1 (pt_cmpR op_eq (pe_op op_mul (pe_op op_fdivW (pv 2) (pv 8)) (pv 8)) (pv 2) (nomark _)))))) (fun _ _ _ _ _ => (pv 8)))
      (pss_cons (ps_setLc (i := 4) (own := [("_law_at", 8)]) (g := gName 8) (by rfl) sc_law_divisors_right.nd rfl rfl (sw_true rfl rfl rfl (by decide +kernel)) (pi_list (pe_revL (pv 3))) (blkOk_by (own := [("_law_at", 8)]) (N := ["_law_urn_here", "_law_small", "_law_number", "_law_low", "_law_high", "_law_one", "_law_other", "_law_share", "_law_at"]) (sc := defScope s_law_divisors_right) (by decide +kernel)) (fun _ _ _ _ _ => pg_name (i := 8) sc_law_divisors_right.nd rfl (Or.inl rfl)) (fun _ _ _ _ _ => pts_one (pt_cmpR op_lt (pe_op op_mul (pv 8) (pv 8)) (pv 2) (nomark _))) (fun _ _ _ _ _ => (pe_op op_fdivW (pv 2) (pv 8))))
      (pss_cons (ps_if (pt_cmpR (op_neD hr.units) (pe_call G_divisors hr (by rfl) d_divisors.g d_divisors.F.kp d_divisors.b .nil passL (pa_cons (pv 2) pa_nil)) (pe_callTy call_tuple_of (by rfl) T.n_tuple (by decide +kernel) (pa_cons (pe_op op_cat (pv 3) (pv 4)) pa_nil)) (nomark _)) (pss_one (ps_ret pe_bl)) pss_nil)
      (pss_cons (ps_par (i := 5) (j := 6) rfl sc_law_divisors_right.nd rfl rfl (by decide) rfl rfl (pa_cons (pe_call G_law_long hr (by rfl) d_law_long.g d_law_long.F.kp d_law_long.b .nil pass0 (pa_cons (pv 0) pa_nil)) (pa_cons (pe_call G_law_some hr2 (by rfl) d_law_some.g d_law_some.F.kp d_law_some.b .nil pass0 (pa_cons (pv 0) (pa_cons (pe_lst (pa_cons pe_int (pa_cons (pv 2) (pa_cons (pe_call G_law_long hr (by rfl) d_law_long.g d_law_long.F.kp d_law_long.b .nil pass0 (pa_cons (pv 0) pa_nil)) pa_nil)))) pa_nil))) pa_nil)) (by rfl))
      (pss_cons (ps_set (i := 7) sc_law_divisors_right.nd rfl (.inl rfl) (pe_call G_common_divisor hr (by rfl) d_common_divisor.g d_common_divisor.F.kp d_common_divisor.b .nil passL (pa_cons (pv 5) (pa_cons (pv 6) pa_nil))))
      (pss_cons (ps_if (PW.pt (pw_or (pt_cmpR op_ne (pv 7) (pe_call G_law_shared hr1 (by rfl) d_law_shared.g d_law_shared.F.kp d_law_shared.b .nil pass0 (pa_cons (pv 5) (pa_cons (pv 6) pa_nil))) (nomark _)) (pw_or (pt_cmpR op_ne (pe_call G_common_divisor hr (by rfl) d_common_divisor.g d_common_divisor.F.kp d_common_divisor.b .nil passL (pa_cons (pv 6) (pa_cons (pv 5) pa_nil))) (pv 7) (nomark _)) (pw_or1 (pt_cmpR op_ne (pe_call G_common_divisor hr (by rfl) d_common_divisor.g d_common_divisor.F.kp d_common_divisor.b .nil passL (pa_cons (pv 5) (pa_cons pe_int pa_nil))) (pe_callB call_abs (by rfl) T.n_abs (by decide +kernel) (pa_cons (pv 5) pa_nil)) (nomark _)))))) (pss_one (ps_ret pe_bl)) pss_nil)
      (pss_one (ps_ret (pe_cmpR op_eq (pe_call G_common_divisor hr (by rfl) d_common_divisor.g d_common_divisor.F.kp d_common_divisor.b .nil passL (pa_cons (pe_ifExp (pt_cmpR op_lt (pe_callB call_abs (by rfl) T.n_abs (by decide +kernel) (pa_cons (pv 5) pa_nil)) (pe_op op_powW pe_int pe_int) (nomark _)) (pe_op op_mul (pv 5) pe_int) (pv 5)) (pa_cons (pe_op op_sub pe_int (pv 5)) pa_nil))) (pe_callB call_abs (by rfl) T.n_abs (by decide +kernel) (pa_cons (pv 5) pa_nil)) (nomark _))))))))))))), ?_⟩
    -- small
    refine ⟨.ref a, rfl, .ref a, rfl, a, 60, rfl, hu, by decide, by decide +kernel, fun v1 H1 v10 v11 u1 b1 => ?_⟩
    refine ⟨.ref a, rfl, a, 60, rfl, u1, by decide, by decide +kernel, fun v2 H2 v20 v21 u2 b2 => ?_⟩
    refine ⟨_, _, rfl, rfl, .inr (by decide), _, _, rfl, rfl, ?_⟩
    refine ⟨.ref a, rfl, a, 900, rfl, u2, by decide, by decide +kernel, fun v3 H3 v30 v31 u3 b3 => ?_⟩
    refine ⟨(by show 3 ≤ sizeLine; decide), fun l nl => ⟨a, l, _, rfl, u3.same (sub_same nl), upd_same, u3.ne nl, by simp, by simp, fun i x H4 hx u4 b4 => ?_⟩⟩
    have k4 : Keep a H H4 := ((Keep.trans (But.keep b1) (But.keep b2)).trans (But.keep b3)).trans ((Same.keep (sub_same nl)).trans (But.keep b4))
    have hx2 : ∃ s : Int, x = .int s ∧ 0 ≤ s ∧ s ≤ 899 := by
      match i, hx with
      | 0, hx => exact ⟨v1, (Option.some.inj hx).symm, by omega, by omega⟩
      | 1, hx => exact ⟨v2 * 12 + 11, (Option.some.inj hx).symm, by omega, by omega⟩
      | 2, hx => exact ⟨v3, (Option.some.inj hx).symm, by omega, by omega⟩
      | _ + 3, hx => simp at hx
    obtain ⟨s0, rfl, s00, s01⟩ := hx2
    refine ⟨_, _, rfl, rfl, ?_⟩
    -- number
    have sq1 : (1 : Int) * 1 ≤ (1 + s0) * (1 + s0) := Int.mul_le_mul (by omega) (by omega) (by omega) (by omega)
    have sq2 : (1 + s0) * (1 + s0) ≤ (900 : Int) * 900 := Int.mul_le_mul (by omega) (by omega) (by omega) (by omega)
    refine ⟨.ref a, rfl, _, rfl, _, rfl, _, rfl, _, _, rfl, rfl, .inl ⟨by omega, by omega⟩, _, _, rfl, rfl, pw6, (by show 3 ≤ sizeLine; decide), fun l2 nl2 => ⟨a, l2, _, rfl, u4.same (sub_same nl2), upd_same, u4.ne nl2, by simp, by simp, fun i2 x2 H5 hx2 u5 b5 => ?_⟩⟩
    have k5 : Keep a H H5 := k4.trans ((Same.keep (sub_same nl2)).trans (But.keep b5))
    have hx3 : ∃ n : Int, x2 = .int n ∧ 1 ≤ n ∧ n ≤ 10 ^ 6 := by
      match i2, hx2 with
      | 0, hx => exact ⟨1 + s0, (Option.some.inj hx).symm, by omega, by omega⟩
      | 1, hx => exact ⟨(1 + s0) * (1 + s0), (Option.some.inj hx).symm, by omega, by omega⟩
      | 2, hx => exact ⟨_, (Option.some.inj hx).symm, by decide, by decide⟩
      | _ + 3, hx => simp at hx
    obtain ⟨n, rfl, n1, n2⟩ := hx3
    refine ⟨_, rfl, _, _, rfl, rfl, pw6, _, _, rfl, ?_⟩
    rw [if_neg (show ¬ (10 : Int) ^ Int.toNat 6 < n from Int.not_lt.mpr n2)]
    -- low
    refine ⟨1, 1001, rfl, ⟨by decide, by decide, by decide, by decide⟩, fun D hD => ?_⟩
    refine lc_range (lo := 1) (n := 1000) (fun i H' => Same H5 H' ∧ H' D = some (.lst ((dv n i).map V.int))) ⟨sub_same hD, upd_same⟩ ?_ ?_
    · rintro i H' hi ⟨s', hD'⟩
      refine ⟨rfl, ?_⟩
      refine ⟨_, rfl, _, rfl, _, _, rfl, rfl, .inl ⟨by omega, by omega⟩, _, rfl, _, _, rfl, rfl, _, rfl, ite2 (fun c1 => ?_) (fun c1 => ?_)⟩
      · have c1' : (1 + (i : Int)) * (1 + (i : Int)) ≤ n := of_decide_eq_true c1
        refine ⟨_, rfl, _, rfl, n, 1 + (i : Int), rfl, rfl, wide_div (b := 64) (by omega) (by omega) (by decide) (by decide), _, rfl, _, _, rfl, rfl, .inr ⟨by omega, by omega⟩, _, rfl, rfl, _, rfl, ite2 (fun c2 => ?_) (fun c2 => ?_)⟩
        · have c2' : n / (1 + (i : Int)) * (1 + (i : Int)) = n := V.int.inj (of_decide_eq_true c2)
          refine ⟨_, rfl, _, hD', ?_, ?_, ?_⟩
          · rw [List.length_map]
            exact small1000 (Nat.le_trans (dv_len n i) (by omega))
          · intro b z hz
            rw [upd_ne (ne_of_none hz hD)]
            exact s' b z hz
          · rw [upd_same, dv_yes c1' c2', List.map_append]
            rfl
        · have c2' : ¬ n / (1 + (i : Int)) * (1 + (i : Int)) = n := fun z => c2 (decide_eq_true (congrArg V.int z))
          exact ⟨s', by rw [hD', dv_no (fun z => c2' z.2)]⟩
      · have c1' : ¬ (1 + (i : Int)) * (1 + (i : Int)) ≤ n := fun z => c1 (decide_eq_true z)
        refine ite2 (fun z => absurd z (by decide)) (fun _ => ?_)
        exact ⟨s', by rw [hD', dv_no (fun z => c1' z.1)]⟩
    rintro H6 ⟨s6, hL⟩
    have len1 : (dv n 1000).length ≤ 1000 := dv_len n 1000
    -- high
    refine ⟨_, rfl, D, _, rfl, .inl (.inl hL), fun p np => ⟨p, rfl, ⟨_, .inl (.inl upd_same)⟩, fun D2 hD2 => ?_⟩⟩
    have sp : Same H6 (upd H6 p (.lst ((dv n 1000).map V.int).reverse)) := sub_same np
    refine lc_list (K := K) (a := p) (xs := ((dv n 1000).map V.int).reverse) (fun i H2 => Same (upd H6 p (.lst ((dv n 1000).map V.int).reverse)) H2 ∧ H2 D2 = some (.lst ((backL n (dv n 1000) i).map V.int))) ⟨sub_same hD2, upd_same⟩ (fun i H2 _ z => .inl (.inl (z.1 _ _ upd_same))) ?_ ?_
    · rintro i y H2 hy ⟨s2, hh⟩
      rw [← List.map_reverse] at hy
      obtain ⟨s0, hs, rfl⟩ := int_at hy
      obtain ⟨s1, s2', sq, _⟩ := dv_mem (List.mem_reverse.mp (List.mem_of_getElem? hs))
      refine ⟨rfl, ?_⟩
      refine ⟨_, rfl, _, rfl, s0, s0, rfl, rfl, .inl ⟨by omega, by omega⟩, _, rfl, _, _, rfl, rfl, _, rfl, ite2 (fun c3 => ?_) (fun c3 => ?_)⟩
      · have c4 : s0 * s0 ≠ n := by
          have z : s0 * s0 < n := of_decide_eq_true c3
          omega
        refine ⟨_, rfl, _, rfl, n, s0, rfl, rfl, wide_div (b := 64) (by omega) (by omega) (by decide) (by decide), _, hh, ?_, ?_, ?_⟩
        · rw [List.length_map]
          have a1 : (backL n (dv n 1000) i).length ≤ 1000 := by
            unfold backL
            rw [List.length_map]
            exact Nat.le_trans (List.length_filter_le _ _) (Nat.le_trans (List.length_take_le' _ _) (by rw [List.length_reverse]; exact len1))
          exact small1000 a1
        · intro b z hz
          rw [upd_ne (ne_of_none hz hD2)]
          exact s2 b z hz
        · rw [upd_same, backL_next hs, if_pos c4, List.map_append]
          rfl
      · have c4 : ¬ s0 * s0 ≠ n := fun z => c3 (decide_eq_true (by omega))
        exact ⟨s2, by rw [hh, backL_next hs, if_neg c4, List.append_nil]⟩
    rintro H7 ⟨s7, hH⟩
    rw [List.length_reverse, List.length_map, backL_all] at hH
    have s67 : Same H6 H7 := sp.trans s7
    -- divisors(number) against low + high
    refine ⟨_, rfl, divisors_ok n1 n2 fun H8 p8 s8 n8 h8 => ?_⟩
    refine ⟨_, rfl, _, rfl, D, D2, _, _, rfl, rfl, s8 _ _ (s67 _ _ hL), s8 _ _ hH, ?_, fun p9 n9 => ⟨p9, _, rfl, .inl ⟨.inl (.inl upd_same), fun t nt => ?_⟩⟩⟩
    · rw [List.length_map, List.length_map]
      have := dvH_len n (dv n 1000)
      have : 2000 ≤ sizeLine := by decide
      omega
    have s9 : Same H8 (upd H8 p9 (.lst ((dv n 1000).map V.int ++ (dvH n (dv n 1000)).map V.int))) := sub_same n9
    have s10 := sub_same (o := .tup ((dv n 1000).map V.int ++ (dvH n (dv n 1000)).map V.int)) nt
    have hT : (upd (upd H8 p9 (.lst ((dv n 1000).map V.int ++ (dvH n (dv n 1000)).map V.int))) t (.tup ((dv n 1000).map V.int ++ (dvH n (dv n 1000)).map V.int))) t = some (.tup ((divs n).map V.int)) := by
      rw [upd_same]
      unfold divs
      rw [List.map_append]
    have h8' := s10 _ _ (s9 _ _ h8)
    revert hT h8'
    generalize divs n = L
    intro hT h8'
    have dp1 : Dp K _ (.ref p8) (.tuple (L.map PyData.int)) := .tup (.inl (.inl h8')) (dp_ints _ L)
    have dp2 : Dp K _ (.ref t) (.tuple (L.map PyData.int)) := .tup (.inl (.inl hT)) (dp_ints _ L)
    refine ⟨.tuple (L.map PyData.int), .tuple (L.map PyData.int), dp1, dp2, tup_shaped L, tup_shaped L, _, rfl, iteE (tup_same L) ?_⟩
    clear dp1 dp2 hT h8'
    have s11 : Same H5 (upd (upd H8 p9 (.lst ((dv n 1000).map V.int ++ (dvH n (dv n 1000)).map V.int))) t (.tup ((dv n 1000).map V.int ++ (dvH n (dv n 1000)).map V.int))) := (s6.trans s67).trans (s8.trans (s9.trans s10))
    clear s10 s9
    revert s11
    generalize upd (upd H8 p9 (.lst ((dv n 1000).map V.int ++ (dvH n (dv n 1000)).map V.int))) t (.tup ((dv n 1000).map V.int ++ (dvH n (dv n 1000)).map V.int)) = H9
    intro s11
    have u9 : Urn H9 a := u5.same s11
    have k9 : Keep a H H9 := k5.trans (Same.keep s11)
    -- one, other
    refine ⟨.ref a, rfl, a, rfl, u9, fun v H10 hv u10 k10 => ?_⟩
    refine ⟨.ref a, rfl, _, rfl, .ref a, rfl, a, rfl, u10, fun v2 H11 hv2 u11 k11 => ?_⟩
    refine ⟨(by show 3 ≤ sizeLine; decide), fun l3 nl3 => ⟨a, l3, _, rfl, u11.same (sub_same nl3), upd_same, u11.ne nl3, by simp, by simp, fun i3 x3 H12 hx3 u12 b12 => ?_⟩⟩
    have k12 : Keep a H H12 := ((k9.trans k10).trans k11).trans ((Same.keep (sub_same nl3)).trans (But.keep b12))
    have hx4 : ∃ m : Int, x3 = .int m ∧ m.natAbs < 10 ^ 60 := by
      match i3, hx3 with
      | 0, hx => exact ⟨0, (Option.some.inj hx).symm, by decide⟩
      | 1, hx => exact ⟨n, (Option.some.inj hx).symm, by omega⟩
      | 2, hx => exact ⟨v2, (Option.some.inj hx).symm, by omega⟩
      | _ + 3, hx => simp at hx
    obtain ⟨m, rfl, hm⟩ := hx4
    have v60 : v.natAbs < 10 ^ 60 := by omega
    refine ⟨_, _, rfl, ?_⟩
    -- the share
    refine ⟨_, rfl, _, rfl, common_ok v60 hm ?_⟩
    refine ⟨_, rfl, _, rfl, _, rfl, v, m, rfl, rfl, _, rfl, iteNS rfl ?_⟩
    refine ⟨_, rfl, _, rfl, common_ok hm v60 ⟨_, rfl, rfl, _, rfl, iteNS (congrArg V.int (congrArg Int.ofNat (Nat.gcd_comm _ _))) ?_⟩⟩
    refine ⟨_, rfl, common_ok v60 (by decide) ⟨_, rfl, v, rfl, rfl, _, rfl, iteNS (congrArg V.int ?_) ?_⟩⟩
    · rw [ab_eq]
      exact congrArg Int.ofNat (Nat.gcd_zero_right _)
    have fin : Q (.bl true) H12 := q H12 u12 k12
    refine ⟨_, rfl, v, rfl, _, _, rfl, rfl, pw59, _, _, rfl, rfl, _, rfl, ite2 (fun e => ?_) (fun e => ?_)⟩
    · have e1 : (if v < 0 then -v else v) < (10 : Int) ^ 59 := of_decide_eq_true e
      rw [ab_eq] at e1
      refine ⟨_, rfl, _, _, rfl, rfl, .inr (by decide), _, rfl, _, _, rfl, rfl, common_ok (by omega) (by omega) ⟨_, rfl, v, rfl, rfl, ?_⟩⟩
      show Q (.bl (decide (V.int ((Nat.gcd (v * 7).natAbs (0 - v).natAbs : Nat) : Int) = V.int (if v < 0 then -v else v)))) H12
      rw [gcd7, ab_eq, decide_eq_true rfl]
      exact fin
    · refine ⟨_, rfl, _, rfl, _, _, rfl, rfl, common_ok v60 (by omega) ⟨_, rfl, v, rfl, rfl, ?_⟩⟩
      show Q (.bl (decide (V.int ((Nat.gcd v.natAbs (0 - v).natAbs : Nat) : Int) = V.int (if v < 0 then -v else v)))) H12
      rw [gcd1, ab_eq, decide_eq_true rfl]
      exact fin
end
end K01

namespace K01
open PySem PySem.Spec PyProof.Rows L2
/-! ### values that are shown -/
/-- x has the data d -/
inductive Shw (H : Hp) : V → PyData → Prop
  | non : Shw H .non .none
  | bl (b : Bool) : Shw H (.bl b) (.bool b)
  | int (i : Int) : Shw H (.int i) (.int i)
  | str (z : Str) : Shw H (.str z) (.str z)
  | tup1 {a : Addr} {i : Int} : H a = some (.tup [.int i]) → Shw H (.ref a) (.tuple [.int i])
  | lst1 {a : Addr} {i : Int} : H a = some (.lst [.int i]) → Shw H (.ref a) (.list [.int i])
  | emp {a : Addr} : H a = some (.dK []) → Shw H (.ref a) (.dict [])
theorem Shw.same {H H' : Hp} {x : V} {d : PyData} (h : Shw H x d) (s : Same H H') : Shw H' x d := by
  cases h with
  | non => exact .non
  | bl b => exact .bl b
  | int i => exact .int i
  | str z => exact .str z
  | tup1 e => exact .tup1 (s _ _ e)
  | lst1 e => exact .lst1 (s _ _ e)
  | emp e => exact .emp (s _ _ e)
theorem Shw.keep {H H' : Hp} {x : V} {d : PyData} {u : Addr} (h : Shw H x d) (hu : Urn H u) (s : Keep u H H') : Shw H' x d := by
  obtain ⟨g, m, c, eu⟩ := hu
  have off : ∀ {a : Addr} {o : HO}, H a = some o → o ≠ .lst [.int g, .int m, .int c] → a ≠ u := fun e ne z => by
    subst z
    rw [e] at eu
    exact ne (Option.some.inj eu)
  cases h with
  | non => exact .non
  | bl b => exact .bl b
  | int i => exact .int i
  | str z => exact .str z
  | tup1 e => exact .tup1 (s _ _ (off e (fun z => by cases z)) e)
  | lst1 e => exact .lst1 (s _ _ (off e (fun z => by cases z)) e)
  | emp e => exact .emp (s _ _ (off e (fun z => by cases z)) e)
/-- the int that x is -/
def oOf : V → Option Int
  | .int i => some i
  | _ => none
theorem Shw.val {K : PySem.W.Frag} {H : Hp} {x : V} {d : PyData} (h : Shw H x d) : Val K H x (oOf x) := by
  cases h with
  | non => exact .inr ⟨rfl, "NoneType", false, false, .base .non, by decide +kernel, by decide +kernel, rfl⟩
  | bl b => exact .inr ⟨rfl, "bool", true, true, .base (.bl b), by decide +kernel, by decide +kernel, rfl⟩
  | int i => exact .int i
  | str z => exact .inr ⟨rfl, "str", false, false, .base (.str z), by decide +kernel, by decide +kernel, rfl⟩
  | tup1 e => exact .inr ⟨rfl, "tuple", false, false, .base (.tup e), by decide +kernel, by decide +kernel, rfl⟩
  | lst1 e => exact .inr ⟨rfl, "list", false, false, .base (.lst e), by decide +kernel, by decide +kernel, rfl⟩
  | emp e => exact .inr ⟨rfl, "dict", false, false, .base (.dK e), by decide +kernel, by decide +kernel, rfl⟩
/-- short enough to be shown in a list -/
structure Small (d : PyData) : Prop where
  sh : d.showable = true
  dp : d.depth ≤ 3
  sz : (PyData.list [d]).shown.length ≤ sizeLine
section
variable {X : Cx} {pins : List (Addr × Obj)} {σ : L2.St} {H : Hp} {s : Shared}
theorem Shw.reads (I : Inv X pins σ H s) {x : V} {u : Value} {d : PyData} (r : RelV x u) (h : Shw H x d) : ∃ as, Reads s.heap u d as ∧ (d.hasDict = true → sysModules ∉ as) := by
  have one : ∀ i : Int, DpAll X.K H [V.int i] [PyData.int i] := fun i => .cons (.int i) .nil
  cases h with
  | non =>
    obtain ⟨as, z⟩ := Dp.reads I .none .non u .non r
    exact ⟨as, z, fun y => nomatch y⟩
  | bl b =>
    obtain ⟨as, z⟩ := Dp.reads I (.bool b) (.bl b) u (.bl b) r
    exact ⟨as, z, fun y => nomatch y⟩
  | int i =>
    obtain ⟨as, z⟩ := Dp.reads I (.int i) (.int i) u (.int i) r
    exact ⟨as, z, fun y => nomatch y⟩
  | str t =>
    obtain ⟨as, z⟩ := Dp.reads I (.str t) (.str t) u (.str t) r
    exact ⟨as, z, fun y => nomatch y⟩
  | tup1 e =>
    obtain ⟨as, z⟩ := Dp.reads I _ _ u (.tup (.inl (.inl e)) (one _)) r
    exact ⟨as, z, fun y => nomatch y⟩
  | lst1 e =>
    obtain ⟨as, z⟩ := Dp.reads I _ _ u (.lst (.inl (.inl e)) (one _)) r
    exact ⟨as, z, fun y => nomatch y⟩
  | @emp a e =>
    obtain rfl : u = Value.ref a := r
    obtain ⟨_, lo, vs, kv, o, es, ep, h1, h2, h3, _, h5, _⟩ := dk_of I.hok e
    cases kv
    have nil : es.toList = [] := by
      generalize es.toList = l at h5
      cases h5
      rfl
    refine ⟨[a] ++ [], Reads.dict (kvs := []) h1 h2.1 h3 ?_ ?_, fun _ z => ?_⟩
    · rw [nil]
      exact ReadsAll.nil
    · rw [nil]
      exact ReadsAll.nil
    · have z1 : sysModules = a := List.mem_singleton.mp (by simpa using z)
      rw [← z1] at lo
      simp at lo
/-- repr([x]) where no repr is under way -/
theorem call_repr_1 (no : X.A.guards = some []) (hu : X.A.units + 100 < cLine) : CallR X (.builtin "repr") (fun xs H Q => ∃ (a : Addr) (x : V) (d : PyData), xs = [.ref a] ∧ H a = some (.lst [x]) ∧ Shw H x d ∧ Small d ∧ Q (.str (PyData.list [d]).shown) H) := by
  intro pins s σ H vs us Q I r h
  obtain ⟨a, x, d, rfl, e, hs, sm, q⟩ := h
  cases r with
  | cons r1 r2 =>
    cases r2
    obtain rfl := (show _ = Value.ref a from r1)
    obtain ⟨its, n, rv, ho, _⟩ := I.lst e
    cases rv with
    | @cons _ v0 _ vr rx rn =>
      cases rn
      obtain ⟨as, hr, hm⟩ := hs.reads I rx
      have all : ReadsAll s.heap [v0] [d] (as ++ []) := .cons hr .nil
      have szL : (listText (PyData.shownAll [d])).length ≤ sizeLine := by
        have z := sm.sz
        simpa only [PyData.shown] using z
      have dpt := sm.dp
      obtain ⟨bs, hb, hk⟩ := ReprAllK.of_readsAll (prog := X.prog) (w := X.w) all (by simp [PyData.showableAll, sm.sh]) (fun y z => hm (by simpa [PyData.hasDictAll] using y) (by simpa using z)) (fun t ht => Nat.le_trans (listText_mem_le ht) szL)
      have whole : Reads s.heap (.ref a) (.list [d]) _ := Reads.list ho rfl rfl all
      have off : a ∉ bs := not_mem_of_deeper whole (by simp only [PyData.depth]; omega) hb
      refine call_repr_slot (by omega) ⟨_, ho, rfl⟩ F.slot_list_repr.toG ?_
      refine call_list_reprK (g := []) ho rfl rfl off (by simpa using hk.length_eq) (fun i y z => hk.item i y (by simpa using z)) no (fun b _ => Clear.nil b) ?_ (fun b o z => z) (fun h' u tk k => ?_) szL
      · show X.A.units + 1 + _ < cLine
        have dz : PyData.depthAll [d] ≤ 3 := by simp [PyData.depthAll, dpt]
        omega
      · refine ⟨_, _, rfl, .str (PyData.list [d]).shown, H, I.kept (h' := h') (t' := tk) k, ⟨u, ?_⟩, q⟩
        simp only [PyData.shown]
end
end K01

namespace K01
open PySem PySem.Spec PyProof.Rows L2
abbrev s_law_wrong_right : Stmt := topS 25
theorem sc_law_wrong_right : FnScope ["_law_urn_here", "_law_wrong", "_law_later", "_law_none"] ["_law_urn_here"] (defScope s_law_wrong_right) := ⟨rfl, rfl, rfl, by decide +kernel, rfl, by decide +kernel, by decide +kernel⟩
theorem sm_non : Small .none := ⟨rfl, by decide, by decide +kernel⟩
theorem sm_bl (b : Bool) : Small (.bool b) := by cases b <;> exact ⟨rfl, by decide, by decide +kernel⟩
section
variable {P : Program} {w : World} {K : PySem.W.Frag} {mg : Str → Option Value} {base : Heap} {C fI : Addr}
theorem ok_wrong {f f1 f2 f3 f4 f5 f6 f7 f8 f9 f10 f14 : Addr} {fd fd1 fd2 fd3 fd4 fd5 fd6 fd7 fd8 fd9 fd10 fd14 : FuncData} {k : Nat} (T : Txt mg) (U : Num K mg C fI) (d : D K mg "_law_wrong_right" s_law_wrong_right ["_law_urn_here"] f fd) (d_is_whole : D K mg "is_whole" s_is_whole ["value"] f1 fd1)
    (d_is_integer : D K mg "is_integer" s_is_integer ["value"] f2 fd2) (d_is_between : D K mg "is_between" s_is_between ["value", "least", "most"] f3 fd3) (d_binomial : D K mg "binomial" s_binomial ["number", "many"] f4 fd4)
    (d_choose : D K mg "choose" s_choose ["number", "many"] f5 fd5) (d_common_divisor : D K mg "common_divisor" s_common_divisor ["one", "other"] f6 fd6) (d_divisors : D K mg "divisors" s_divisors ["number"] f7 fd7)
    (d_law_take : D K mg "_law_take" s_law_take ["_law_urn_here", "_law_total"] f8 fd8) (d_law_some : D K mg "_law_some" s_law_some ["_law_urn_here", "_law_items"] f9 fd9)
    (d_law_long : D K mg "_law_long" s_law_long ["_law_urn_here"] f10 fd10) (d_law_refused : D K mg "_law_refused" s_law_refused ["_law_way", "_law_value", "_law_other"] f14 fd14) :
    FnG P w K mg base CX0 (k + 5) f fd ["_law_urn_here"] spCheck := by
  have G_law_some : FnOk P w K mg base CX0 (k + 2) f9 fd9 ["_law_urn_here", "_law_items"] spSome := ok_some T d_law_some d_law_take
  have G_law_long : FnOk P w K mg base CX0 (k + 3) f10 fd10 ["_law_urn_here"] spLong := ok_long T d_law_long d_law_take d_law_some
  have G_is_integer : FnOk P w K mg base CX0 (k + 2) f2 fd2 ["value"] (spInteger K) := ok_integer T U d_is_integer d_is_whole
  have G_law_refused : FnOk P w K mg base CX0 (k + 4) f14 fd14 ["_law_way", "_law_value", "_law_other"] (spRefused K) := ok_refused T U d_law_refused d_is_whole d_is_integer d_is_between d_binomial d_choose d_common_divisor d_divisors
  refine FnG.of d.F sc_law_wrong_right (fun vs H Q E h => ?_) (fun cdv A outer s H vs Q E hn hr h => ?_)
  · obtain ⟨a, rfl, _⟩ := h
    rfl
  · obtain ⟨a, rfl, hu, q⟩ := h
    have hr2 : Room (k + 2) _ := hr.mono (by omega)
    have hr3 : Room (k + 3) _ := hr.mono (by omega)
    have un : (A.deeper (envOfC "_law_wrong_right" (defScope s_law_wrong_right) s.heap.objs.size f cdv)).units + 100 < cLine := by
      have := hr.un
      omega
    refine ⟨_, (pss_cons (ps_set (i := 1) sc_law_wrong_right.nd rfl (.inl rfl) (pe_call G_law_some hr2 (by rfl) d_law_some.g d_law_some.F.kp d_law_some.b .nil pass0 (pa_cons (pv 0) (pa_cons (pe_lst (pa_cons pe_non (pa_cons pe_bl (pa_cons pe_str (pa_cons (pe_tup (pa_cons pe_int pa_nil)) (pa_cons (pe_op op_powW pe_int pe_int) (pa_cons (pe_op op_sub pe_int (pe_op op_powW pe_int pe_int)) (pa_cons (pe_lst (pa_cons pe_int pa_nil)) (pa_cons pe_bl (pa_cons pe_dnewK pa_nil)))))))))) pa_nil))))
      (pss_cons (ps_set (i := 2) sc_law_wrong_right.nd rfl (.inl rfl) (pe_call G_law_some hr2 (by rfl) d_law_some.g d_law_some.F.kp d_law_some.b .nil pass0 (pa_cons (pv 0) (pa_cons (pe_lst (pa_cons pe_non (pa_cons (pe_un un_neg pe_int) (pa_cons pe_int (pa_cons pe_bl (pa_cons pe_str (pa_cons (pe_op op_powW pe_int pe_int) pa_nil))))))) pa_nil))))
      (pss_cons (ps_if (PW.pt (pw_or (pt_cmpR op_notBl (pe_call G_is_integer hr2 (by rfl) d_is_integer.g d_is_integer.F.kp d_is_integer.b .nil pass0 (pa_cons (pv 1) pa_nil)) pe_bl (nomark _)) (pw_or1 (pt_cmpR op_notBl (pe_call G_is_integer hr2 (by rfl) d_is_integer.g d_is_integer.F.kp d_is_integer.b .nil pass0 (pa_cons (pe_call G_law_long hr3 (by rfl) d_law_long.g d_law_long.F.kp d_law_long.b .nil pass0 (pa_cons (pv 0) pa_nil)) pa_nil)) pe_bl (nomark _))))) (pss_one (ps_ret pe_bl)) pss_nil)
      (pss_cons (ps_if (PW.pt (pw_or (pt_cmpR op_ne (pe_callB (call_repr_1 hn un) (by rfl) T.n_repr (by decide +kernel) (pa_cons (pe_call G_law_refused hr (by rfl) d_law_refused.g d_law_refused.F.kp d_law_refused.b .nil pass0 (pa_cons pe_int (pa_cons (pv 1) (pa_cons (pv 2) pa_nil)))) pa_nil)) (pe_callB (call_repr_1 hn un) (by rfl) T.n_repr (by decide +kernel) (pa_cons (pe_lst (pa_cons (pv 1) pa_nil)) pa_nil)) (nomark _)) (pw_or1 (pt_cmpR op_ne (pe_callB (call_repr_1 hn un) (by rfl) T.n_repr (by decide +kernel) (pa_cons (pe_call G_law_refused hr (by rfl) d_law_refused.g d_law_refused.F.kp d_law_refused.b .nil pass0 (pa_cons pe_int (pa_cons (pv 2) (pa_cons pe_int pa_nil)))) pa_nil)) (pe_callB (call_repr_1 hn un) (by rfl) T.n_repr (by decide +kernel) (pa_cons (pe_lst (pa_cons (pv 2) pa_nil)) pa_nil)) (nomark _))))) (pss_one (ps_ret pe_bl)) pss_nil)
      (pss_cons (ps_if (PW.pt (pw_or (pt_cmpR op_ne (pe_callB (call_repr_1 hn un) (by rfl) T.n_repr (by decide +kernel) (pa_cons (pe_call G_law_refused hr (by rfl) d_law_refused.g d_law_refused.F.kp d_law_refused.b .nil pass0 (pa_cons pe_int (pa_cons (pv 1) (pa_cons pe_non pa_nil)))) pa_nil)) (pe_callB (call_repr_1 hn un) (by rfl) T.n_repr (by decide +kernel) (pa_cons (pe_lst (pa_cons (pv 1) pa_nil)) pa_nil)) (nomark _)) (pw_or1 (pt_cmpR op_ne (pe_callB (call_repr_1 hn un) (by rfl) T.n_repr (by decide +kernel) (pa_cons (pe_call G_law_refused hr (by rfl) d_law_refused.g d_law_refused.F.kp d_law_refused.b .nil pass0 (pa_cons pe_int (pa_cons (pv 1) (pa_cons pe_int pa_nil)))) pa_nil)) (pe_callB (call_repr_1 hn un) (by rfl) T.n_repr (by decide +kernel) (pa_cons (pe_lst (pa_cons (pv 1) pa_nil)) pa_nil)) (nomark _))))) (pss_one (ps_ret pe_bl)) pss_nil)
      (pss_cons (ps_set (i := 3) sc_law_wrong_right.nd rfl (.inl rfl) (pe_call G_law_some hr2 (by rfl) d_law_some.g d_law_some.F.kp d_law_some.b .nil pass0 (pa_cons (pv 0) (pa_cons (pe_lst (pa_cons pe_int (pa_cons (pe_un un_neg pe_int) (pa_cons (pe_op op_add (pe_op op_powW pe_int pe_int) pe_int) (pa_cons pe_bl (pa_cons pe_non (pa_cons (pe_op op_powW pe_int pe_int) (pa_cons pe_str pa_nil)))))))) pa_nil))))
      (pss_one (ps_ret (pe_cmpR op_eq (pe_callB (call_repr_1 hn un) (by rfl) T.n_repr (by decide +kernel) (pa_cons (pe_call G_law_refused hr (by rfl) d_law_refused.g d_law_refused.F.kp d_law_refused.b .nil pass0 (pa_cons pe_int (pa_cons (pv 3) (pa_cons pe_int pa_nil)))) pa_nil)) (pe_callB (call_repr_1 hn un) (by rfl) T.n_repr (by decide +kernel) (pa_cons (pe_lst (pa_cons (pv 3) pa_nil)) pa_nil)) (nomark _)))))))))), ?_⟩
    -- wrong
    refine ⟨.ref a, rfl, (by show 1 ≤ sizeLine; decide), fun t nt => ?_⟩
    refine ⟨_, _, rfl, rfl, pw60, _, _, rfl, rfl, pw60, _, _, rfl, rfl, (by show 1 ≤ sizeLine; decide), fun l nl => ?_⟩
    refine fun e ne => ⟨(by show 9 ≤ sizeLine; decide), fun m nm => ?_⟩
    have u1 : Urn _ a := ((hu.same (sub_same (o := .tup [.int 1]) nt)).same (sub_same (o := .lst [.int 2]) nl)).same (sub_same (o := .dK []) ne)
    refine ⟨a, m, _, rfl, u1.same (sub_same nm), upd_same, u1.ne nm, by simp, by simp, fun i x1 H1 hx u2 b2 => ?_⟩
    have ht : (upd (upd (upd H t (.tup [.int 1])) l (.lst [.int 2])) e (.dK [])) t = some (.tup [.int 1]) := sub_same ne _ _ (sub_same nl _ _ upd_same)
    have hl : (upd (upd (upd H t (.tup [.int 1])) l (.lst [.int 2])) e (.dK [])) l = some (.lst [.int 2]) := sub_same ne _ _ upd_same
    have he : (upd (upd (upd H t (.tup [.int 1])) l (.lst [.int 2])) e (.dK [])) e = some (.dK []) := upd_same
    have k1 : Keep a H (upd (upd (upd H t (.tup [.int 1])) l (.lst [.int 2])) e (.dK [])) := Same.keep (((sub_same nt).trans (sub_same nl)).trans (sub_same ne))
    have sh1 : ∃ d, Shw H1 x1 d ∧ Small d ∧ inL (oOf x1) = false := by
      have up : ∀ {x : V} {d : PyData}, Shw (upd (upd (upd H t (.tup [.int 1])) l (.lst [.int 2])) e (.dK [])) x d → Shw H1 x d := fun z => (z.same (sub_same nm)).keep (u1.same (sub_same nm)) (But.keep b2)
      match i, hx with
      | 0, hx => cases hx; exact ⟨_, .non, sm_non, rfl⟩
      | 1, hx => cases hx; exact ⟨_, .bl _, sm_bl _, rfl⟩
      | 2, hx => cases hx; exact ⟨_, .str _, ⟨rfl, by decide, by decide +kernel⟩, rfl⟩
      | 3, hx => cases hx; exact ⟨_, up (.tup1 ht), ⟨by decide +kernel, by decide +kernel, by decide +kernel⟩, rfl⟩
      | 4, hx => cases hx; exact ⟨_, .int _, ⟨by decide +kernel, by decide +kernel, by decide +kernel⟩, by decide +kernel⟩
      | 5, hx => cases hx; exact ⟨_, .int _, ⟨by decide +kernel, by decide +kernel, by decide +kernel⟩, by decide +kernel⟩
      | 6, hx => cases hx; exact ⟨_, up (.lst1 hl), ⟨by decide +kernel, by decide +kernel, by decide +kernel⟩, rfl⟩
      | 7, hx => cases hx; exact ⟨_, .bl _, sm_bl _, rfl⟩
      | 8, hx => cases hx; exact ⟨_, up (.emp he), ⟨by decide +kernel, by decide +kernel, by decide +kernel⟩, rfl⟩
      | _ + 9, hx => simp at hx
    obtain ⟨d1, w1, sm1, in1⟩ := sh1
    have k2 : Keep a H H1 := (k1.trans (Same.keep (sub_same nm))).trans (But.keep b2)
    -- later
    refine ⟨.ref a, rfl, _, rfl, _, _, rfl, rfl, pw60, (by show 6 ≤ sizeLine; decide), fun m2 nm2 => ⟨a, m2, _, rfl, u2.same (sub_same nm2), upd_same, u2.ne nm2, by simp, by simp, fun i2 x2 H2 hx2 u3 b3 => ?_⟩⟩
    have sh2 : ∃ d, Shw H2 x2 d ∧ Small d ∧ inR (oOf x2) 0 60 = false := by
      match i2, hx2 with
      | 0, hx => cases hx; exact ⟨_, .non, sm_non, rfl⟩
      | 1, hx => cases hx; exact ⟨_, .int _, ⟨by decide +kernel, by decide +kernel, by decide +kernel⟩, by decide +kernel⟩
      | 2, hx => cases hx; exact ⟨_, .int _, ⟨by decide +kernel, by decide +kernel, by decide +kernel⟩, by decide +kernel⟩
      | 3, hx => cases hx; exact ⟨_, .bl _, sm_bl _, rfl⟩
      | 4, hx => cases hx; exact ⟨_, .str _, ⟨rfl, by decide, by decide +kernel⟩, rfl⟩
      | 5, hx => cases hx; exact ⟨_, .int _, ⟨by decide +kernel, by decide +kernel, by decide +kernel⟩, by decide +kernel⟩
      | _ + 6, hx => simp at hx
    obtain ⟨d2, w2, sm2, in2⟩ := sh2
    have v1 : Shw H2 x1 d1 := (w1.same (sub_same nm2)).keep (u2.same (sub_same nm2)) (But.keep b3)
    have k3 : Keep a H H2 := (k2.trans (Same.keep (sub_same nm2))).trans (But.keep b3)
    -- is_integer
    refine ⟨_, rfl, x1, oOf x1, rfl, v1.val, _, _, rfl, rfl, _, rfl, iteNS in1 ?_⟩
    refine ⟨.ref a, rfl, a, rfl, u3, fun v H3 hv u4 k4 => ⟨.int v, some v, rfl, Val.int v, _, _, rfl, rfl, _, rfl, iteNS (inL_of (by omega)) ?_⟩⟩
    have a1 : Shw H3 x1 d1 := v1.keep u3 k4
    have a2 : Shw H3 x2 d2 := w2.keep u3 k4
    have k5 : Keep a H H3 := k3.trans k4
    -- refused(0, wrong, later)
    refine ⟨_, rfl, _, rfl, 0, x1, x2, oOf x1, oOf x2, rfl, a1.val, a2.val, .inl ⟨rfl, in1⟩, fun H4 p s4 n4 e4 => ⟨p, x1, d1, rfl, e4, a1.same s4, sm1, _, rfl, (by show 1 ≤ sizeLine; decide), fun p2 np2 => ⟨p2, x1, d1, rfl, upd_same, (a1.same s4).same (sub_same np2), sm1, rfl, _, rfl, iteNS rfl ?_⟩⟩⟩
    have t4 : Same H3 (upd H4 p2 (.lst [x1])) := s4.trans (sub_same np2)
    revert t4
    generalize upd H4 p2 (.lst [x1]) = H5
    intro t5
    -- refused(1, later, 5)
    refine ⟨_, rfl, 1, x2, .int 5, oOf x2, some 5, rfl, (a2.same t5).val, Val.int 5, .inr (.inl ⟨rfl, by decide +kernel, in2⟩), fun H6 p3 s6 n6 e6 => ⟨p3, x2, d2, rfl, e6, (a2.same t5).same s6, sm2, _, rfl, (by show 1 ≤ sizeLine; decide), fun p4 np4 => ⟨p4, x2, d2, rfl, upd_same, ((a2.same t5).same s6).same (sub_same np4), sm2, rfl, _, rfl, iteNS rfl ?_⟩⟩⟩
    have t6 : Same H3 (upd H6 p4 (.lst [x2])) := t5.trans (s6.trans (sub_same np4))
    revert t6
    generalize upd H6 p4 (.lst [x2]) = H7
    intro t7
    -- refused(2, wrong, None)
    refine ⟨_, rfl, 2, x1, .non, oOf x1, none, rfl, (a1.same t7).val, (Shw.non (H := H7)).val, .inr (.inr (.inl ⟨rfl, in1⟩)), fun H8 p5 s8 n8 e8 => ⟨p5, x1, d1, rfl, e8, (a1.same t7).same s8, sm1, _, rfl, (by show 1 ≤ sizeLine; decide), fun p6 np6 => ⟨p6, x1, d1, rfl, upd_same, ((a1.same t7).same s8).same (sub_same np6), sm1, rfl, _, rfl, iteNS rfl ?_⟩⟩⟩
    have t8 : Same H3 (upd H8 p6 (.lst [x1])) := t7.trans (s8.trans (sub_same np6))
    revert t8
    generalize upd H8 p6 (.lst [x1]) = H9
    intro t9
    -- refused(3, wrong, 7)
    refine ⟨_, rfl, 3, x1, .int 7, oOf x1, some 7, rfl, (a1.same t9).val, Val.int 7, .inr (.inr (.inr (.inl ⟨rfl, by decide +kernel, in1⟩))), fun H10 p7 s10 n10 e10 => ⟨p7, x1, d1, rfl, e10, (a1.same t9).same s10, sm1, _, rfl, (by show 1 ≤ sizeLine; decide), fun p8 np8 => ⟨p8, x1, d1, rfl, upd_same, ((a1.same t9).same s10).same (sub_same np8), sm1, rfl, _, rfl, iteNS rfl ?_⟩⟩⟩
    have t10 : Same H3 (upd H10 p8 (.lst [x1])) := t9.trans (s10.trans (sub_same np8))
    revert t10
    generalize upd H10 p8 (.lst [x1]) = H11
    intro t11
    have u11 : Urn H11 a := u4.same t11
    -- none
    refine ⟨.ref a, rfl, _, rfl, _, _, rfl, rfl, pw6, _, _, rfl, rfl, _, _, rfl, rfl, pw60, (by show 7 ≤ sizeLine; decide), fun m3 nm3 => ⟨a, m3, _, rfl, u11.same (sub_same nm3), upd_same, u11.ne nm3, by simp, by simp, fun i3 x3 H12 hx3 u12 b12 => ?_⟩⟩
    have sh3 : ∃ d, Shw H12 x3 d ∧ Small d ∧ inR (oOf x3) 1 (10 ^ 6) = false := by
      match i3, hx3 with
      | 0, hx => cases hx; exact ⟨_, .int _, ⟨by decide +kernel, by decide +kernel, by decide +kernel⟩, by decide +kernel⟩
      | 1, hx => cases hx; exact ⟨_, .int _, ⟨by decide +kernel, by decide +kernel, by decide +kernel⟩, by decide +kernel⟩
      | 2, hx => cases hx; exact ⟨_, .int _, ⟨by decide +kernel, by decide +kernel, by decide +kernel⟩, by decide +kernel⟩
      | 3, hx => cases hx; exact ⟨_, .bl _, sm_bl _, rfl⟩
      | 4, hx => cases hx; exact ⟨_, .non, sm_non, rfl⟩
      | 5, hx => cases hx; exact ⟨_, .int _, ⟨by decide +kernel, by decide +kernel, by decide +kernel⟩, by decide +kernel⟩
      | 6, hx => cases hx; exact ⟨_, .str _, ⟨rfl, by decide, by decide +kernel⟩, rfl⟩
      | _ + 7, hx => simp at hx
    obtain ⟨d3, w3, sm3, in3⟩ := sh3
    have k12 : Keep a H H12 := ((k5.trans (Same.keep t11)).trans (Same.keep (sub_same nm3))).trans (But.keep b12)
    refine ⟨_, rfl, 4, x3, .int 0, oOf x3, some 0, rfl, w3.val, Val.int 0, .inr (.inr (.inr (.inr ⟨rfl, in3⟩))), fun H13 p9 s13 n13 e13 => ⟨p9, x3, d3, rfl, e13, w3.same s13, sm3, _, rfl, (by show 1 ≤ sizeLine; decide), fun pa npa => ⟨pa, x3, d3, rfl, upd_same, (w3.same s13).same (sub_same npa), sm3, rfl, ?_⟩⟩⟩
    have s14 : Same H12 (upd H13 pa (.lst [x3])) := s13.trans (sub_same npa)
    rw [decide_eq_true rfl]
    exact q _ (u12.same s14) (k12.trans (Same.keep s14))
end
end K01

namespace K01
open PySem PySem.Spec PyProof.Rows L2
abbrev s_law : Stmt := topS 26
theorem sc_law : FnScope ["_law_script", "_law_at", "_law_urn_here", "_law_written"] ["_law_script"] (defScope s_law) := ⟨rfl, rfl, rfl, by decide +kernel, rfl, by decide +kernel, by decide +kernel⟩
theorem bi_top (n : Nat) : bi (n : Int) n = 1 := by
  unfold bi
  rw [if_pos (by omega), show ((n : Int)).toNat = n from rfl, cN_self]
  rfl
theorem bi_m1 : bi (-1) 60 = 1 := by
  unfold bi
  rw [if_neg (by decide), show (-(-1 : Int) - 1).toNat = 0 from rfl, Nat.add_zero, cN_self]
  rfl
theorem written : [bi 5 2, bi (-2) 3, bi 3 5, bi (-1) 60, bi 60 60, bi 0 0, bi (-7) 1] = [10, -4, 0, 1, 1, 1, -7] := by
  have e : bi 60 60 = 1 := bi_top 60
  rw [bi_m1, e]
  decide +kernel
theorem list_shaped (ns : List Int) : SeqAt.shaped (.list (ns.map PyData.int)) = true := PySem.W.ke_shaped_ints ns
theorem list_same (ns : List Int) : PyData.eqv (.list (ns.map PyData.int)) (.list (ns.map PyData.int)) = true := PySem.SeqAt.eqv_refl _ (PySem.SeqAt.canLay_of_shaped (list_shaped ns))
theorem divs_1 : divs 1 = [1] := by decide +kernel
theorem divs_p : divs 999983 = [1, 999983] := by decide +kernel
theorem divs_36 : divs 36 = [1, 2, 3, 4, 6, 9, 12, 18, 36] := by decide +kernel
theorem past {H H1 H2 : Hp} {p : Addr} (n : H p = none) (s : Same H H1) (k : Keep p H1 H2) : Same H H2 := fun b o e => k b o (ne_of_none e n) (s b o e)
section
variable {P : Program} {w : World} {K : PySem.W.Frag} {mg : Str → Option Value} {base : Heap} {C fI : Addr}
def spLaw (K : PySem.W.Frag) : Sp := fun vs H Q _ => ∃ (a : Addr) (ns : List Int), vs = [.ref a] ∧ SqL K H a (ns.map V.int) ∧ ns.length ≤ 63 ∧ ∀ H', Q (.bl true) H'
theorem turns (z : Int) : -(2 ^ 62) ≤ (if (if z < 4 then z else 4) > 1 then (if z < 4 then z else 4) else 1) ∧ (if (if z < 4 then z else 4) > 1 then (if z < 4 then z else 4) else 1) < 2 ^ 62 ∧ (if (if z < 4 then z else 4) > 1 then (if z < 4 then z else 4) else 1) ≤ 4 := by
  split <;> split <;> omega
theorem ok_law {f f5 f6 f7 f15 f16 f17 f18 : Addr} {fd fd5 fd6 fd7 fd15 fd16 fd17 fd18 : FuncData} (T : Txt mg) (d : D K mg "law" s_law ["_law_script"] f fd)
    (d_choose : D K mg "choose" s_choose ["number", "many"] f5 fd5) (d_common_divisor : D K mg "common_divisor" s_common_divisor ["one", "other"] f6 fd6) (d_divisors : D K mg "divisors" s_divisors ["number"] f7 fd7)
    (d_law_urn : D K mg "_law_urn" s_law_urn ["_law_script", "_law_at"] f15 fd15) (d_law_choices_right : D K mg "_law_choices_right" s_law_choices_right ["_law_urn_here"] f16 fd16) (d_law_divisors_right : D K mg "_law_divisors_right" s_law_divisors_right ["_law_urn_here"] f17 fd17) (d_law_wrong_right : D K mg "_law_wrong_right" s_law_wrong_right ["_law_urn_here"] f18 fd18)
    (G_choose : FnOk P w K mg base (L2.CX P w) 3 f5 fd5 ["number", "many"] (ipChoose K C)) (G_common_divisor : FnOk P w K mg base (L2.CX P w) 3 f6 fd6 ["one", "other"] (ipCommon K C)) (G_divisors : FnOk P w K mg base (L2.CX P w) 3 f7 fd7 ["number"] (ipDivisors K C))
    (G_law_urn : FnOk P w K mg base CX0 1 f15 fd15 ["_law_script", "_law_at"] (spUrn K)) (G_law_choices_right : FnOk P w K mg base CX0 4 f16 fd16 ["_law_urn_here"] spCheck) (G_law_divisors_right : FnOk P w K mg base CX0 4 f17 fd17 ["_law_urn_here"] spCheck) (G_law_wrong_right : FnG P w K mg base CX0 5 f18 fd18 ["_law_urn_here"] spCheck) :
    FnG P w K mg base CX0 6 f fd ["_law_script"] (spLaw K) := by
  refine FnG.of d.F sc_law (fun vs H Q E h => ?_) (fun cdv A outer s H vs Q E hn hr h => ?_)
  · obtain ⟨a, ns, rfl, _⟩ := h
    rfl
  · obtain ⟨a, ns, rfl, hS, hl, q⟩ := h
    have hr1 : Room 1 _ := hr.mono (by decide)
    have hr3 : Room 3 _ := hr.mono (by decide)
    have hr4 : Room 4 _ := hr.mono (by decide)
    refine ⟨_, (pss_cons (ps_for PassesOwn.never rfl (pi_range1 rfl T.n_range (pa_cons (pe_callB (call_max2 rfl) (by rfl) T.n_max (by decide +kernel) (pa_cons pe_int (pa_cons (pe_callB (call_min2 rfl) (by rfl) T.n_min (by decide +kernel) (pa_cons pe_int (pa_cons (pe_callB call_len_seq (by rfl) T.n_len PySem.boot_len (pa_cons (pv 0) pa_nil)) pa_nil))) pa_nil))) pa_nil)) (pg_name (i := 1) sc_law.nd rfl (.inl rfl))
        (pss_cons (ps_set (i := 2) sc_law.nd rfl (.inl rfl) (pe_call G_law_urn hr1 (by rfl) d_law_urn.g d_law_urn.F.kp d_law_urn.b .nil pass0 (pa_cons (pv 0) (pa_cons (pv 1) pa_nil))))
        (pss_one (ps_if (PW.pt (pw_or (pt_not (pt_val (pe_call G_law_choices_right hr4 (by rfl) d_law_choices_right.g d_law_choices_right.F.kp d_law_choices_right.b .nil pass0 (pa_cons (pv 2) pa_nil)))) (pw_or (pt_not (pt_val (pe_call G_law_divisors_right hr4 (by rfl) d_law_divisors_right.g d_law_divisors_right.F.kp d_law_divisors_right.b .nil pass0 (pa_cons (pv 2) pa_nil)))) (pw_or1 (pt_not (pt_val (pe_callG G_law_wrong_right hn hr (by rfl) d_law_wrong_right.g d_law_wrong_right.F.kp d_law_wrong_right.b (pa_cons (pv 2) pa_nil)))))))) (pss_one (ps_ret pe_bl)) pss_nil))))
      (pss_cons (ps_set (i := 3) sc_law.nd rfl (.inl rfl) (pe_lst (pa_cons (pe_call G_choose hr3 (by rfl) d_choose.g d_choose.F.kp d_choose.b .nil passL (pa_cons pe_int (pa_cons pe_int pa_nil))) (pa_cons (pe_call G_choose hr3 (by rfl) d_choose.g d_choose.F.kp d_choose.b .nil passL (pa_cons (pe_un un_neg pe_int) (pa_cons pe_int pa_nil))) (pa_cons (pe_call G_choose hr3 (by rfl) d_choose.g d_choose.F.kp d_choose.b .nil passL (pa_cons pe_int (pa_cons pe_int pa_nil))) (pa_cons (pe_call G_choose hr3 (by rfl) d_choose.g d_choose.F.kp d_choose.b .nil passL (pa_cons (pe_un un_neg pe_int) (pa_cons pe_int pa_nil))) (pa_cons (pe_call G_choose hr3 (by rfl) d_choose.g d_choose.F.kp d_choose.b .nil passL (pa_cons pe_int (pa_cons pe_int pa_nil))) (pa_cons (pe_call G_choose hr3 (by rfl) d_choose.g d_choose.F.kp d_choose.b .nil passL (pa_cons pe_int (pa_cons pe_int pa_nil))) (pa_cons (pe_call G_choose hr3 (by rfl) d_choose.g d_choose.F.kp d_choose.b .nil passL (pa_cons (pe_un un_neg pe_int) (pa_cons pe_int pa_nil))) pa_nil)))))))))
      (pss_cons (ps_if (PW.pt (pw_or (pt_cmpR (op_neD hr.units) (pv 3) (pe_lst (pa_cons pe_int (pa_cons (pe_un un_neg pe_int) (pa_cons pe_int (pa_cons pe_int (pa_cons pe_int (pa_cons pe_int (pa_cons (pe_un un_neg pe_int) pa_nil)))))))) (nomark _)) (pw_or (pt_cmpR op_ne (pe_call G_common_divisor hr3 (by rfl) d_common_divisor.g d_common_divisor.F.kp d_common_divisor.b .nil passL (pa_cons pe_int (pa_cons pe_int pa_nil))) pe_int (nomark _)) (pw_or1 (pt_cmpR op_ne (pe_call G_common_divisor hr3 (by rfl) d_common_divisor.g d_common_divisor.F.kp d_common_divisor.b .nil passL (pa_cons (pe_un un_neg pe_int) (pa_cons pe_int pa_nil))) pe_int (nomark _)))))) (pss_one (ps_ret pe_bl)) pss_nil)
      (pss_one (ps_ret (pe_and (pe_cmpR (op_eqD hr.units) (pe_call G_divisors hr3 (by rfl) d_divisors.g d_divisors.F.kp d_divisors.b .nil passL (pa_cons pe_int pa_nil)) (pe_tup (pa_cons pe_int pa_nil)) (nomark _)) (pe_and (pe_cmpR (op_eqD hr.units) (pe_call G_divisors hr3 (by rfl) d_divisors.g d_divisors.F.kp d_divisors.b .nil passL (pa_cons pe_int pa_nil)) (pe_tup (pa_cons pe_int (pa_cons pe_int pa_nil))) (nomark _)) (pe_one (pe_cmpR (op_eqD hr.units) (pe_call G_divisors hr3 (by rfl) d_divisors.g d_divisors.F.kp d_divisors.b .nil passL (pa_cons pe_int pa_nil)) (pe_tup (pa_cons pe_int (pa_cons pe_int (pa_cons pe_int (pa_cons pe_int (pa_cons pe_int (pa_cons pe_int (pa_cons pe_int (pa_cons pe_int (pa_cons pe_int pa_nil)))))))))) (nomark _)))))))))), ?_⟩
    obtain ⟨j0, j1, j2⟩ := turns (((ns.map V.int).length : Nat) : Int)
    refine ⟨.ref a, rfl, a, _, rfl, .inl hS, _, _, rfl, _, _, rfl, _, rfl, j0, j1, ?_⟩
    refine for_range (fun i σ H' => (∃ y1 y2, σ = [some (.ref a), y1, y2, none]) ∧ Same H H') ⟨⟨none, none, rfl⟩, Same.refl H⟩ ?_ ?_
    · rintro i σ H' hi ⟨⟨y1, y2, rfl⟩, sm⟩
      refine ⟨.ref a, rfl, _, rfl, a, i, ns, (by simp), sm.seq hS, by omega, fun H1 p s1 n1 u1 => ?_⟩
      refine ⟨.ref p, rfl, p, rfl, u1, fun H2 u2 k2 => ⟨true, rfl, ite2 (fun z => absurd z (by decide)) (fun _ => ?_)⟩⟩
      refine ⟨.ref p, rfl, p, rfl, u2, fun H3 u3 k3 => ⟨true, rfl, ite2 (fun z => absurd z (by decide)) (fun _ => ?_)⟩⟩
      refine ⟨.ref p, rfl, p, rfl, u3, fun H4 u4 k4 => ⟨true, rfl, ite2 (fun z => absurd z (by decide)) (fun _ => ?_)⟩⟩
      exact ⟨⟨_, _, rfl⟩, sm.trans (past n1 s1 ((k2.trans k3).trans k4))⟩
    · rintro σ H' ⟨⟨y1, y2, rfl⟩, sm⟩
      refine choose_ok (k := 2) rfl (by decide) (by decide) ⟨_, rfl, choose_ok (k := 3) rfl (by decide) (by decide) (choose_ok (k := 5) rfl (by decide) (by decide) ⟨_, rfl, choose_ok (k := 60) rfl (by decide) (by decide) (choose_ok (k := 60) rfl (by decide) (by decide) (choose_ok (k := 0) rfl (by decide) (by decide) ⟨_, rfl, choose_ok (k := 1) rfl (by decide) (by decide) ⟨(by show 7 ≤ sizeLine; decide), fun p np => ?_⟩⟩))⟩)⟩
      have hL : (upd H' p (.lst ([bi 5 2, bi (-2) 3, bi 3 5, bi (-1) 60, bi 60 60, bi 0 0, bi (-7) 1].map V.int))) p = some (.lst ([bi 5 2, bi (-2) 3, bi 3 5, bi (-1) 60, bi 60 60, bi 0 0, bi (-7) 1].map V.int)) := upd_same
      rw [written] at hL
      refine ⟨_, rfl, _, rfl, _, rfl, (by show 7 ≤ sizeLine; decide), fun p2 np2 => ?_⟩
      have n2 : p2 ≠ p := fun z => by
        rw [z, upd_same] at np2
        cases np2
      refine ⟨.list ([10, -4, 0, 1, 1, 1, -7].map PyData.int), .list ([10, -4, 0, 1, 1, 1, -7].map PyData.int), .lst (xs := [10, -4, 0, 1, 1, 1, -7].map V.int) (.inl (.inl ?_)) (dp_ints _ _), .lst (xs := [10, -4, 0, 1, 1, 1, -7].map V.int) (.inl (.inl upd_same)) (dp_ints _ _), list_shaped _, list_shaped _, _, rfl, iteE (list_same _) ?_⟩
      · rw [upd_ne n2.symm]
        exact hL
      refine common_ok (by decide) (by decide) ⟨rfl, _, rfl, iteNS (congrArg V.int (by decide)) ?_⟩
      refine ⟨_, rfl, common_ok (by decide) (by decide) ⟨rfl, _, rfl, iteNS (congrArg V.int (by decide)) ?_⟩⟩
      -- divisors
      refine divisors_ok (by decide) (by decide) fun H3 p3 s3 n3 h3 => ⟨(by show 1 ≤ sizeLine; decide), fun p4 n4 => ?_⟩
      rw [divs_1] at h3
      refine ⟨.tuple ([1].map PyData.int), .tuple ([1].map PyData.int), .tup (xs := [1].map V.int) (.inl (.inl (sub_same n4 _ _ h3))) (dp_ints _ _), .tup (xs := [1].map V.int) (.inl (.inl upd_same)) (dp_ints _ _), tup_shaped _, tup_shaped _, true, congrArg V.bl (tup_same [1]), iteT ?_⟩
      refine divisors_ok (by decide) (by decide) fun H5 p5 s5 n5 h5 => ⟨(by show 2 ≤ sizeLine; decide), fun p6 n6 => ?_⟩
      rw [divs_p] at h5
      refine ⟨.tuple ([1, 999983].map PyData.int), .tuple ([1, 999983].map PyData.int), .tup (xs := [1, 999983].map V.int) (.inl (.inl (sub_same n6 _ _ h5))) (dp_ints _ _), .tup (xs := [1, 999983].map V.int) (.inl (.inl upd_same)) (dp_ints _ _), tup_shaped _, tup_shaped _, true, congrArg V.bl (tup_same [1, 999983]), iteT ?_⟩
      refine divisors_ok (by decide) (by decide) fun H7 p7 s7 n7 h7 => ⟨(by show 9 ≤ sizeLine; decide), fun p8 n8 => ?_⟩
      rw [divs_36] at h7
      refine ⟨.tuple ([1, 2, 3, 4, 6, 9, 12, 18, 36].map PyData.int), .tuple ([1, 2, 3, 4, 6, 9, 12, 18, 36].map PyData.int), .tup (xs := [1, 2, 3, 4, 6, 9, 12, 18, 36].map V.int) (.inl (.inl (sub_same n8 _ _ h7))) (dp_ints _ _), .tup (xs := [1, 2, 3, 4, 6, 9, 12, 18, 36].map V.int) (.inl (.inl upd_same)) (dp_ints _ _), tup_shaped _, tup_shaped _, ?_⟩
      rw [tup_same]
      exact q _
end
end K01

namespace K01
open PySem PySem.Spec PyProof.Rows L2
/-- an error of the class at S is what «except S» names -/
theorem exm_own {K : PySem.W.Frag} {S : Addr} (h1 : PySem.W.subIn K (.ref S) (.type "BaseException") = some true) (h2 : PySem.W.isClsIn K S = true) (h3 : PySem.W.typeIn K (.ref S) = some (.type "type")) (h4 : PySem.W.subIn K (.ref S) (.ref S) = some true) :
    PySem.W.exmOne K (.ref S) (.ref S) = some true := by
  have e1 : (PySem.W.subIn K (.ref S) (.type "BaseException") == some true) = true := by rw [h1] <;> rfl
  have e2 : ((PySem.W.clsIn K S).isSome && PySem.W.typeIn K (.ref S) == some (.type "type")) = true := by
    have h2' : (PySem.W.clsIn K S).isSome = true := h2
    rw [h2', h3] <;> rfl
  show (if (PySem.W.subIn K (.ref S) (.type "BaseException") == some true) = true then (if ((PySem.W.clsIn K S).isSome && PySem.W.typeIn K (.ref S) == some (.type "type")) = true then PySem.W.subIn K (.ref S) (.ref S) else none) else none) = some true
  rw [if_pos e1, if_pos e2]
  exact h4
theorem all_of {l : PySem.W.OpenLaw} {w : World} {K : PySem.W.Frag} {h : Heap} {mg : Str → Option Value} {fa : Addr} (X : K.In h) (G : h.Ns mainGlobals mg) (hfa : mg "law" = some (.ref fa))
    {C fI N : Addr} {nm q : Str} {bs : List Value} {sn : List Str} {sub : List Value} {ab : Bool} {col : Option Bool} {dd : Option Addr} {m0 m1 m2 m3 m5 : Option Value} {odI anI : Option Addr} {slI : Array (Option Value)} {ocI dcI pmI cdI ctI : Value}
    (aC : PySem.W.nsIn K mainGlobals "InvalidNumber" = some (some (.ref C)))
    (xL : K.lookup C = some (excClassObj nm q C N bs [.type "IndexError", .type "LookupError", .type "Exception", .type "BaseException", .type "object"] true sn sub ab col dd m0 m1 m2 m3 m5 "IndexError.__new__"))
    (ov : PySem.W.excOver K C PySem.NumX.tailIE = true) (tk : PySem.W.takerIn K C "given" = some none)
    (sa : PySem.W.findIn K (.ref C) "__setattr__" = some (some (.builtin "object.__setattr__"))) (ga : PySem.W.findIn K (.ref C) "__getattribute__" = some (some (.builtin "BaseException.__getattribute__"))) (gg : PySem.W.findIn K (.ref C) "__getattr__" = some none) (nb : PySem.W.findIn K (.ref C) "given" = some none)
    (aI : PySem.W.findIn K (.ref C) "__init__" = some (some (.ref fI))) (tI : PySem.W.typeIn K (.ref fI) = some (.type "function"))
    (lI : K.lookup fI = some ⟨ocI, odI, .func (PySem.W.fnOf "__init__" "InvalidNumber.__init__" (PySem.NumX.iA ⟨5, 17, 5, 21⟩ ⟨5, 23, 5, 28⟩) (PySem.NumX.iB ⟨6, 8, 6, 12⟩ ⟨6, 8, 6, 18⟩ ⟨6, 21, 6, 26⟩ ⟨6, 8, 6, 26⟩) PySem.NumX.iS .none .none dcI pmI anI cdI ctI), slI⟩) (cI : PySem.W.codeIn K cdI "InvalidNumber.__init__" = true)
    (kC : PySem.W.keepIn K (.ref C) = true) (eC : PySem.W.subIn K (.ref C) (.type "BaseException") = some true) (tC : PySem.W.typeIn K (.ref C) = some (.type "type")) (hC : PySem.W.hasDictIn K C = true) (iC : PySem.W.isClsIn K C = true) (sC : PySem.W.subIn K (.ref C) (.ref C) = some true)
    {t1 t2 t3 : Tok} (g1 : PySem.W.nsIn K mainGlobals "_LIMIT" = some (some (.int (10 ^ 60) t1))) (g2 : PySem.W.nsIn K mainGlobals "_MOST_CHOSEN" = some (some (.int 60 t2))) (g3 : PySem.W.nsIn K mainGlobals "_MOST_DIVIDED" = some (some (.int (10 ^ 6) t3))) (g4 : PySem.W.nsIn K mainGlobals "gcd" = some (some (.builtin "math.gcd")))
    (n_len : PySem.W.nsIn K mainGlobals "len" = some none)
    (n_abs : PySem.W.nsIn K mainGlobals "abs" = some none)
    (n_int : PySem.W.nsIn K mainGlobals "int" = some none)
    (n_bool : PySem.W.nsIn K mainGlobals "bool" = some none)
    (n_max : PySem.W.nsIn K mainGlobals "max" = some none)
    (n_min : PySem.W.nsIn K mainGlobals "min" = some none)
    (n_sum : PySem.W.nsIn K mainGlobals "sum" = some none)
    (n_tuple : PySem.W.nsIn K mainGlobals "tuple" = some none)
    (n_range : PySem.W.nsIn K mainGlobals "range" = some none)
    (n_repr : PySem.W.nsIn K mainGlobals "repr" = some none)
    (n_isinstance : PySem.W.nsIn K mainGlobals "isinstance" = some none)
    (n_reversed : PySem.W.nsIn K mainGlobals "reversed" = some none)
    {f0 : Addr} {od0 an0 : Option Addr} {sl0 : Array (Option Value)} {oc0 kV0 dc0 pm0 cd0 ct0 : Value}
    (a0 : PySem.W.nsIn K mainGlobals "is_whole" = some (some (.ref f0))) (l0 : K.lookup f0 = some ⟨oc0, od0, .func (PySem.W.fnOf "is_whole" "is_whole" (defArgs s_is_whole) (defBody s_is_whole) (defScope s_is_whole) .none kV0 dc0 pm0 an0 cd0 ct0), sl0⟩) (c0 : PySem.W.codeIn K cd0 "is_whole" = true) (k0 : PySem.W.keepIn K (.ref f0) = true)
    {f1 : Addr} {od1 an1 : Option Addr} {sl1 : Array (Option Value)} {oc1 kV1 dc1 pm1 cd1 ct1 : Value}
    (a1 : PySem.W.nsIn K mainGlobals "is_integer" = some (some (.ref f1))) (l1 : K.lookup f1 = some ⟨oc1, od1, .func (PySem.W.fnOf "is_integer" "is_integer" (defArgs s_is_integer) (defBody s_is_integer) (defScope s_is_integer) .none kV1 dc1 pm1 an1 cd1 ct1), sl1⟩) (c1 : PySem.W.codeIn K cd1 "is_integer" = true) (k1 : PySem.W.keepIn K (.ref f1) = true)
    {f2 : Addr} {od2 an2 : Option Addr} {sl2 : Array (Option Value)} {oc2 kV2 dc2 pm2 cd2 ct2 : Value}
    (a2 : PySem.W.nsIn K mainGlobals "is_between" = some (some (.ref f2))) (l2 : K.lookup f2 = some ⟨oc2, od2, .func (PySem.W.fnOf "is_between" "is_between" (defArgs s_is_between) (defBody s_is_between) (defScope s_is_between) .none kV2 dc2 pm2 an2 cd2 ct2), sl2⟩) (c2 : PySem.W.codeIn K cd2 "is_between" = true) (k2 : PySem.W.keepIn K (.ref f2) = true)
    {f3 : Addr} {od3 an3 : Option Addr} {sl3 : Array (Option Value)} {oc3 kV3 dc3 pm3 cd3 ct3 : Value}
    (a3 : PySem.W.nsIn K mainGlobals "binomial" = some (some (.ref f3))) (l3 : K.lookup f3 = some ⟨oc3, od3, .func (PySem.W.fnOf "binomial" "binomial" (defArgs s_binomial) (defBody s_binomial) (defScope s_binomial) .none kV3 dc3 pm3 an3 cd3 ct3), sl3⟩) (c3 : PySem.W.codeIn K cd3 "binomial" = true) (k3 : PySem.W.keepIn K (.ref f3) = true)
    {f4 : Addr} {od4 an4 : Option Addr} {sl4 : Array (Option Value)} {oc4 kV4 dc4 pm4 cd4 ct4 : Value}
    (a4 : PySem.W.nsIn K mainGlobals "choose" = some (some (.ref f4))) (l4 : K.lookup f4 = some ⟨oc4, od4, .func (PySem.W.fnOf "choose" "choose" (defArgs s_choose) (defBody s_choose) (defScope s_choose) .none kV4 dc4 pm4 an4 cd4 ct4), sl4⟩) (c4 : PySem.W.codeIn K cd4 "choose" = true) (k4 : PySem.W.keepIn K (.ref f4) = true)
    {f5 : Addr} {od5 an5 : Option Addr} {sl5 : Array (Option Value)} {oc5 kV5 dc5 pm5 cd5 ct5 : Value}
    (a5 : PySem.W.nsIn K mainGlobals "common_divisor" = some (some (.ref f5))) (l5 : K.lookup f5 = some ⟨oc5, od5, .func (PySem.W.fnOf "common_divisor" "common_divisor" (defArgs s_common_divisor) (defBody s_common_divisor) (defScope s_common_divisor) .none kV5 dc5 pm5 an5 cd5 ct5), sl5⟩) (c5 : PySem.W.codeIn K cd5 "common_divisor" = true) (k5 : PySem.W.keepIn K (.ref f5) = true)
    {f6 : Addr} {od6 an6 : Option Addr} {sl6 : Array (Option Value)} {oc6 kV6 dc6 pm6 cd6 ct6 : Value}
    (a6 : PySem.W.nsIn K mainGlobals "divisors" = some (some (.ref f6))) (l6 : K.lookup f6 = some ⟨oc6, od6, .func (PySem.W.fnOf "divisors" "divisors" (defArgs s_divisors) (defBody s_divisors) (defScope s_divisors) .none kV6 dc6 pm6 an6 cd6 ct6), sl6⟩) (c6 : PySem.W.codeIn K cd6 "divisors" = true) (k6 : PySem.W.keepIn K (.ref f6) = true)
    {f7 : Addr} {od7 an7 : Option Addr} {sl7 : Array (Option Value)} {oc7 kV7 dc7 pm7 cd7 ct7 : Value}
    (a7 : PySem.W.nsIn K mainGlobals "_law_urn" = some (some (.ref f7))) (l7 : K.lookup f7 = some ⟨oc7, od7, .func (PySem.W.fnOf "_law_urn" "_law_urn" (defArgs s_law_urn) (defBody s_law_urn) (defScope s_law_urn) .none kV7 dc7 pm7 an7 cd7 ct7), sl7⟩) (c7 : PySem.W.codeIn K cd7 "_law_urn" = true) (k7 : PySem.W.keepIn K (.ref f7) = true)
    {f8 : Addr} {od8 an8 : Option Addr} {sl8 : Array (Option Value)} {oc8 kV8 dc8 pm8 cd8 ct8 : Value}
    (a8 : PySem.W.nsIn K mainGlobals "_law_take" = some (some (.ref f8))) (l8 : K.lookup f8 = some ⟨oc8, od8, .func (PySem.W.fnOf "_law_take" "_law_take" (defArgs s_law_take) (defBody s_law_take) (defScope s_law_take) .none kV8 dc8 pm8 an8 cd8 ct8), sl8⟩) (c8 : PySem.W.codeIn K cd8 "_law_take" = true) (k8 : PySem.W.keepIn K (.ref f8) = true)
    {f9 : Addr} {od9 an9 : Option Addr} {sl9 : Array (Option Value)} {oc9 kV9 dc9 pm9 cd9 ct9 : Value}
    (a9 : PySem.W.nsIn K mainGlobals "_law_some" = some (some (.ref f9))) (l9 : K.lookup f9 = some ⟨oc9, od9, .func (PySem.W.fnOf "_law_some" "_law_some" (defArgs s_law_some) (defBody s_law_some) (defScope s_law_some) .none kV9 dc9 pm9 an9 cd9 ct9), sl9⟩) (c9 : PySem.W.codeIn K cd9 "_law_some" = true) (k9 : PySem.W.keepIn K (.ref f9) = true)
    {f10 : Addr} {od10 an10 : Option Addr} {sl10 : Array (Option Value)} {oc10 kV10 dc10 pm10 cd10 ct10 : Value}
    (a10 : PySem.W.nsIn K mainGlobals "_law_long" = some (some (.ref f10))) (l10 : K.lookup f10 = some ⟨oc10, od10, .func (PySem.W.fnOf "_law_long" "_law_long" (defArgs s_law_long) (defBody s_law_long) (defScope s_law_long) .none kV10 dc10 pm10 an10 cd10 ct10), sl10⟩) (c10 : PySem.W.codeIn K cd10 "_law_long" = true) (k10 : PySem.W.keepIn K (.ref f10) = true)
    {f11 : Addr} {od11 an11 : Option Addr} {sl11 : Array (Option Value)} {oc11 kV11 dc11 pm11 cd11 ct11 : Value}
    (a11 : PySem.W.nsIn K mainGlobals "_law_over" = some (some (.ref f11))) (l11 : K.lookup f11 = some ⟨oc11, od11, .func (PySem.W.fnOf "_law_over" "_law_over" (defArgs s_law_over) (defBody s_law_over) (defScope s_law_over) .none kV11 dc11 pm11 an11 cd11 ct11), sl11⟩) (c11 : PySem.W.codeIn K cd11 "_law_over" = true) (k11 : PySem.W.keepIn K (.ref f11) = true)
    {f12 : Addr} {od12 an12 : Option Addr} {sl12 : Array (Option Value)} {oc12 kV12 dc12 pm12 cd12 ct12 : Value}
    (a12 : PySem.W.nsIn K mainGlobals "_law_binomial" = some (some (.ref f12))) (l12 : K.lookup f12 = some ⟨oc12, od12, .func (PySem.W.fnOf "_law_binomial" "_law_binomial" (defArgs s_law_binomial) (defBody s_law_binomial) (defScope s_law_binomial) .none kV12 dc12 pm12 an12 cd12 ct12), sl12⟩) (c12 : PySem.W.codeIn K cd12 "_law_binomial" = true) (k12 : PySem.W.keepIn K (.ref f12) = true)
    {f13 : Addr} {od13 an13 : Option Addr} {sl13 : Array (Option Value)} {oc13 kV13 dc13 pm13 cd13 ct13 : Value}
    (a13 : PySem.W.nsIn K mainGlobals "_law_refused" = some (some (.ref f13))) (l13 : K.lookup f13 = some ⟨oc13, od13, .func (PySem.W.fnOf "_law_refused" "_law_refused" (defArgs s_law_refused) (defBody s_law_refused) (defScope s_law_refused) .none kV13 dc13 pm13 an13 cd13 ct13), sl13⟩) (c13 : PySem.W.codeIn K cd13 "_law_refused" = true) (k13 : PySem.W.keepIn K (.ref f13) = true)
    {f14 : Addr} {od14 an14 : Option Addr} {sl14 : Array (Option Value)} {oc14 kV14 dc14 pm14 cd14 ct14 : Value}
    (a14 : PySem.W.nsIn K mainGlobals "_law_shared" = some (some (.ref f14))) (l14 : K.lookup f14 = some ⟨oc14, od14, .func (PySem.W.fnOf "_law_shared" "_law_shared" (defArgs s_law_shared) (defBody s_law_shared) (defScope s_law_shared) .none kV14 dc14 pm14 an14 cd14 ct14), sl14⟩) (c14 : PySem.W.codeIn K cd14 "_law_shared" = true) (k14 : PySem.W.keepIn K (.ref f14) = true)
    {f15 : Addr} {od15 an15 : Option Addr} {sl15 : Array (Option Value)} {oc15 kV15 dc15 pm15 cd15 ct15 : Value}
    (a15 : PySem.W.nsIn K mainGlobals "_law_choices_right" = some (some (.ref f15))) (l15 : K.lookup f15 = some ⟨oc15, od15, .func (PySem.W.fnOf "_law_choices_right" "_law_choices_right" (defArgs s_law_choices_right) (defBody s_law_choices_right) (defScope s_law_choices_right) .none kV15 dc15 pm15 an15 cd15 ct15), sl15⟩) (c15 : PySem.W.codeIn K cd15 "_law_choices_right" = true) (k15 : PySem.W.keepIn K (.ref f15) = true)
    {f16 : Addr} {od16 an16 : Option Addr} {sl16 : Array (Option Value)} {oc16 kV16 dc16 pm16 cd16 ct16 : Value}
    (a16 : PySem.W.nsIn K mainGlobals "_law_divisors_right" = some (some (.ref f16))) (l16 : K.lookup f16 = some ⟨oc16, od16, .func (PySem.W.fnOf "_law_divisors_right" "_law_divisors_right" (defArgs s_law_divisors_right) (defBody s_law_divisors_right) (defScope s_law_divisors_right) .none kV16 dc16 pm16 an16 cd16 ct16), sl16⟩) (c16 : PySem.W.codeIn K cd16 "_law_divisors_right" = true) (k16 : PySem.W.keepIn K (.ref f16) = true)
    {f17 : Addr} {od17 an17 : Option Addr} {sl17 : Array (Option Value)} {oc17 kV17 dc17 pm17 cd17 ct17 : Value}
    (a17 : PySem.W.nsIn K mainGlobals "_law_wrong_right" = some (some (.ref f17))) (l17 : K.lookup f17 = some ⟨oc17, od17, .func (PySem.W.fnOf "_law_wrong_right" "_law_wrong_right" (defArgs s_law_wrong_right) (defBody s_law_wrong_right) (defScope s_law_wrong_right) .none kV17 dc17 pm17 an17 cd17 ct17), sl17⟩) (c17 : PySem.W.codeIn K cd17 "_law_wrong_right" = true) (k17 : PySem.W.keepIn K (.ref f17) = true)
    {f18 : Addr} {od18 an18 : Option Addr} {sl18 : Array (Option Value)} {oc18 kV18 dc18 pm18 cd18 ct18 : Value}
    (a18 : PySem.W.nsIn K mainGlobals "law" = some (some (.ref f18))) (l18 : K.lookup f18 = some ⟨oc18, od18, .func (PySem.W.fnOf "law" "law" (defArgs s_law) (defBody s_law) (defScope s_law) .none kV18 dc18 pm18 an18 cd18 ct18), sl18⟩) (c18 : PySem.W.codeIn K cd18 "law" = true) (k18 : PySem.W.keepIn K (.ref f18) = true) :
    ∃ fd : FuncData, (∀ (s : Shared) (u : Value), BindsTo s fd ⟨[u], []⟩ [("_law_script", u)]) ∧ ∀ base : Heap, K.In base → base.Ns mainGlobals mg → FnG l.prog w K mg base CX0 6 fa fd ["_law_script"] (spLaw K) := by
  have e := hfa.symm.trans (PySem.W.mg_of X G a18)
  cases e
  have num : PySem.NumX.NumTxt K mg C fI :=
    { gC := PySem.W.mg_of X G aC, cls := ⟨nm, q, N, bs, _, sn, sub, ab, col, dd, m0, m1, m2, m3, m5, xL, by decide +kernel⟩, over := ov, tk := tk, sa := sa, ga := ga, gg := gg, noN := nb, iC := aI, tC := tI, kC := kC, exC := eC, tyC := tC, hdC := hC, te := exm_own eC iC tC sC,
      fn := ⟨_, _, _, _, _, _, _, _, _, _, _, _, _, _, lI, cI⟩ }
  have U : Num K mg C fI := ⟨num, ⟨_, PySem.W.mg_of X G g1⟩, ⟨_, PySem.W.mg_of X G g2⟩, ⟨_, PySem.W.mg_of X G g3⟩, PySem.W.mg_of X G g4⟩
  have T : Txt mg := ⟨PySem.W.mg_none_of X G n_len, PySem.W.mg_none_of X G n_abs, PySem.W.mg_none_of X G n_int, PySem.W.mg_none_of X G n_bool, PySem.W.mg_none_of X G n_max, PySem.W.mg_none_of X G n_min, PySem.W.mg_none_of X G n_sum, PySem.W.mg_none_of X G n_tuple, PySem.W.mg_none_of X G n_range, PySem.W.mg_none_of X G n_repr, PySem.W.mg_none_of X G n_isinstance, PySem.W.mg_none_of X G n_reversed⟩
  have F0 := fun_mk (st := s_is_whole) l0 c0 k0
  have d_is_whole : D K mg "is_whole" s_is_whole ["value"] _ _ := ⟨F0, PySem.W.mg_of X G a0, F0.binds (ps := ["value"]) fun _ _ _ _ _ _ us hl => match us, hl with | [_], _ => rfl⟩
  have F1 := fun_mk (st := s_is_integer) l1 c1 k1
  have d_is_integer : D K mg "is_integer" s_is_integer ["value"] _ _ := ⟨F1, PySem.W.mg_of X G a1, F1.binds (ps := ["value"]) fun _ _ _ _ _ _ us hl => match us, hl with | [_], _ => rfl⟩
  have F2 := fun_mk (st := s_is_between) l2 c2 k2
  have d_is_between : D K mg "is_between" s_is_between ["value", "least", "most"] _ _ := ⟨F2, PySem.W.mg_of X G a2, F2.binds (ps := ["value", "least", "most"]) fun _ _ _ _ _ _ us hl => match us, hl with | [_, _, _], _ => rfl⟩
  have F3 := fun_mk (st := s_binomial) l3 c3 k3
  have d_binomial : D K mg "binomial" s_binomial ["number", "many"] _ _ := ⟨F3, PySem.W.mg_of X G a3, F3.binds (ps := ["number", "many"]) fun _ _ _ _ _ _ us hl => match us, hl with | [_, _], _ => rfl⟩
  have F4 := fun_mk (st := s_choose) l4 c4 k4
  have d_choose : D K mg "choose" s_choose ["number", "many"] _ _ := ⟨F4, PySem.W.mg_of X G a4, F4.binds (ps := ["number", "many"]) fun _ _ _ _ _ _ us hl => match us, hl with | [_, _], _ => rfl⟩
  have F5 := fun_mk (st := s_common_divisor) l5 c5 k5
  have d_common_divisor : D K mg "common_divisor" s_common_divisor ["one", "other"] _ _ := ⟨F5, PySem.W.mg_of X G a5, F5.binds (ps := ["one", "other"]) fun _ _ _ _ _ _ us hl => match us, hl with | [_, _], _ => rfl⟩
  have F6 := fun_mk (st := s_divisors) l6 c6 k6
  have d_divisors : D K mg "divisors" s_divisors ["number"] _ _ := ⟨F6, PySem.W.mg_of X G a6, F6.binds (ps := ["number"]) fun _ _ _ _ _ _ us hl => match us, hl with | [_], _ => rfl⟩
  have F7 := fun_mk (st := s_law_urn) l7 c7 k7
  have d_law_urn : D K mg "_law_urn" s_law_urn ["_law_script", "_law_at"] _ _ := ⟨F7, PySem.W.mg_of X G a7, F7.binds (ps := ["_law_script", "_law_at"]) fun _ _ _ _ _ _ us hl => match us, hl with | [_, _], _ => rfl⟩
  have F8 := fun_mk (st := s_law_take) l8 c8 k8
  have d_law_take : D K mg "_law_take" s_law_take ["_law_urn_here", "_law_total"] _ _ := ⟨F8, PySem.W.mg_of X G a8, F8.binds (ps := ["_law_urn_here", "_law_total"]) fun _ _ _ _ _ _ us hl => match us, hl with | [_, _], _ => rfl⟩
  have F9 := fun_mk (st := s_law_some) l9 c9 k9
  have d_law_some : D K mg "_law_some" s_law_some ["_law_urn_here", "_law_items"] _ _ := ⟨F9, PySem.W.mg_of X G a9, F9.binds (ps := ["_law_urn_here", "_law_items"]) fun _ _ _ _ _ _ us hl => match us, hl with | [_, _], _ => rfl⟩
  have F10 := fun_mk (st := s_law_long) l10 c10 k10
  have d_law_long : D K mg "_law_long" s_law_long ["_law_urn_here"] _ _ := ⟨F10, PySem.W.mg_of X G a10, F10.binds (ps := ["_law_urn_here"]) fun _ _ _ _ _ _ us hl => match us, hl with | [_], _ => rfl⟩
  have F11 := fun_mk (st := s_law_over) l11 c11 k11
  have d_law_over : D K mg "_law_over" s_law_over ["_law_top", "_law_bottom"] _ _ := ⟨F11, PySem.W.mg_of X G a11, F11.binds (ps := ["_law_top", "_law_bottom"]) fun _ _ _ _ _ _ us hl => match us, hl with | [_, _], _ => rfl⟩
  have F12 := fun_mk (st := s_law_binomial) l12 c12 k12
  have d_law_binomial : D K mg "_law_binomial" s_law_binomial ["_law_number", "_law_many"] _ _ := ⟨F12, PySem.W.mg_of X G a12, F12.binds (ps := ["_law_number", "_law_many"]) fun _ _ _ _ _ _ us hl => match us, hl with | [_, _], _ => rfl⟩
  have F13 := fun_mk (st := s_law_refused) l13 c13 k13
  have d_law_refused : D K mg "_law_refused" s_law_refused ["_law_way", "_law_value", "_law_other"] _ _ := ⟨F13, PySem.W.mg_of X G a13, F13.binds (ps := ["_law_way", "_law_value", "_law_other"]) fun _ _ _ _ _ _ us hl => match us, hl with | [_, _, _], _ => rfl⟩
  have F14 := fun_mk (st := s_law_shared) l14 c14 k14
  have d_law_shared : D K mg "_law_shared" s_law_shared ["_law_one", "_law_other"] _ _ := ⟨F14, PySem.W.mg_of X G a14, F14.binds (ps := ["_law_one", "_law_other"]) fun _ _ _ _ _ _ us hl => match us, hl with | [_, _], _ => rfl⟩
  have F15 := fun_mk (st := s_law_choices_right) l15 c15 k15
  have d_law_choices_right : D K mg "_law_choices_right" s_law_choices_right ["_law_urn_here"] _ _ := ⟨F15, PySem.W.mg_of X G a15, F15.binds (ps := ["_law_urn_here"]) fun _ _ _ _ _ _ us hl => match us, hl with | [_], _ => rfl⟩
  have F16 := fun_mk (st := s_law_divisors_right) l16 c16 k16
  have d_law_divisors_right : D K mg "_law_divisors_right" s_law_divisors_right ["_law_urn_here"] _ _ := ⟨F16, PySem.W.mg_of X G a16, F16.binds (ps := ["_law_urn_here"]) fun _ _ _ _ _ _ us hl => match us, hl with | [_], _ => rfl⟩
  have F17 := fun_mk (st := s_law_wrong_right) l17 c17 k17
  have d_law_wrong_right : D K mg "_law_wrong_right" s_law_wrong_right ["_law_urn_here"] _ _ := ⟨F17, PySem.W.mg_of X G a17, F17.binds (ps := ["_law_urn_here"]) fun _ _ _ _ _ _ us hl => match us, hl with | [_], _ => rfl⟩
  have F18 := fun_mk (st := s_law) l18 c18 k18
  have d_law : D K mg "law" s_law ["_law_script"] _ _ := ⟨F18, PySem.W.mg_of X G a18, F18.binds (ps := ["_law_script"]) fun _ _ _ _ _ _ us hl => match us, hl with | [_], _ => rfl⟩
  refine ⟨PySem.W.fnOf "law" "law" (defArgs s_law) (defBody s_law) (defScope s_law) .none kV18 dc18 pm18 an18 cd18 ct18, fun s u => .of_eq rfl, fun base _ _ => ?_⟩
  exact ok_law (C := C) T d_law d_choose d_common_divisor d_divisors d_law_urn d_law_choices_right d_law_divisors_right d_law_wrong_right
    ((ok_choose T U d_choose d_is_whole d_is_integer d_is_between d_binomial).imp fun _ _ _ _ z => ip_choose z)
    ((ok_common T U d_common_divisor d_is_whole d_is_integer).imp fun _ _ _ _ z => ip_common z)
    ((ok_divisors T U d_divisors d_is_whole d_is_between).imp fun _ _ _ _ z => ip_divisors z)
    (ok_urn T d_law_urn)
    (ok_choices T U d_law_choices_right d_is_whole d_is_integer d_is_between d_binomial d_choose d_law_take d_law_some d_law_long d_law_over d_law_binomial)
    (ok_ldiv T U d_law_divisors_right d_is_whole d_is_integer d_is_between d_common_divisor d_divisors d_law_take d_law_some d_law_long d_law_shared)
    (ok_wrong T U d_law_wrong_right d_is_whole d_is_integer d_is_between d_binomial d_choose d_common_divisor d_divisors d_law_take d_law_some d_law_long d_law_refused)
end K01

open PySem PySem.W PyProof.Rows
set_option maxRecDepth 100000 in
set_option maxHeartbeats 0 in
theorem PySem.Challenge.cw_stairlots_k01_whole_integers_and_binomia_holds : PySem.Challenge.rw_stairlots_k01_whole_integers_and_binomia.Holds := by
  w_on; o_law; k_head; (case hw => w_witness2)
  k_fill
  refine K01.walk_ofG (l := PySem.Challenge.rw_stairlots_k01_whole_integers_and_binomia) (n := 63) (k := 6) (x := "_law_script") (sp := K01.spLaw) rfl (by decide) rfl ⟨rfl, by decide, by decide⟩ (fun w h Y => PySem.W.kIn_of Y) ?F (fun _ _ a ns hl hS => ⟨a, ns, rfl, hS, hl, fun _ => rfl⟩)
  case F =>
    intro w mg fa h KX G hmg
    refine' K01.all_of KX G hmg ?aC ?xL ?ov ?tk ?sa ?ga ?gg ?nb ?aI ?tI ?lI ?cI ?kC ?eC ?tC ?hC ?iC ?sC ?g1 ?g2 ?g3 ?g4 ?n_len ?n_abs ?n_int ?n_bool ?n_max ?n_min ?n_sum ?n_tuple ?n_range ?n_repr ?n_isinstance ?n_reversed ?a0 ?l0 ?c0 ?k0 ?a1 ?l1 ?c1 ?k1 ?a2 ?l2 ?c2 ?k2 ?a3 ?l3 ?c3 ?k3 ?a4 ?l4 ?c4 ?k4 ?a5 ?l5 ?c5 ?k5 ?a6 ?l6 ?c6 ?k6 ?a7 ?l7 ?c7 ?k7 ?a8 ?l8 ?c8 ?k8 ?a9 ?l9 ?c9 ?k9 ?a10 ?l10 ?c10 ?k10 ?a11 ?l11 ?c11 ?k11 ?a12 ?l12 ?c12 ?k12 ?a13 ?l13 ?c13 ?k13 ?a14 ?l14 ?c14 ?k14 ?a15 ?l15 ?c15 ?k15 ?a16 ?l16 ?c16 ?k16 ?a17 ?l17 ?c17 ?k17 ?a18 ?l18 ?c18 ?k18
    (case aC => k_is)
    (case xL => k_is)
    (case ov => first | kx_is | k_is)
    (case tk => k_is)
    (case sa => k_is)
    (case ga => k_is)
    (case gg => k_is)
    (case nb => k_is)
    (case aI => k_is)
    (case tI => k_is)
    (case lI => k_is)
    (case cI => k_is)
    (case kC => k_is)
    (case eC => k_is)
    (case tC => k_is)
    (case hC => k_is)
    (case iC => k_is)
    (case sC => first | rfl | k_is)
    (case g1 => k_is)
    (case g2 => k_is)
    (case g3 => k_is)
    (case g4 => k_is)
    (case n_len => k_is)
    (case n_abs => k_is)
    (case n_int => k_is)
    (case n_bool => k_is)
    (case n_max => k_is)
    (case n_min => k_is)
    (case n_sum => k_is)
    (case n_tuple => k_is)
    (case n_range => k_is)
    (case n_repr => k_is)
    (case n_isinstance => k_is)
    (case n_reversed => k_is)
    (case a0 => k_is)
    (case l0 => k_is)
    (case c0 => k_is)
    (case k0 => k_is)
    (case a1 => k_is)
    (case l1 => k_is)
    (case c1 => k_is)
    (case k1 => k_is)
    (case a2 => k_is)
    (case l2 => k_is)
    (case c2 => k_is)
    (case k2 => k_is)
    (case a3 => k_is)
    (case l3 => k_is)
    (case c3 => k_is)
    (case k3 => k_is)
    (case a4 => k_is)
    (case l4 => k_is)
    (case c4 => k_is)
    (case k4 => k_is)
    (case a5 => k_is)
    (case l5 => k_is)
    (case c5 => k_is)
    (case k5 => k_is)
    (case a6 => k_is)
    (case l6 => k_is)
    (case c6 => k_is)
    (case k6 => k_is)
    (case a7 => k_is)
    (case l7 => k_is)
    (case c7 => k_is)
    (case k7 => k_is)
    (case a8 => k_is)
    (case l8 => k_is)
    (case c8 => k_is)
    (case k8 => k_is)
    (case a9 => k_is)
    (case l9 => k_is)
    (case c9 => k_is)
    (case k9 => k_is)
    (case a10 => k_is)
    (case l10 => k_is)
    (case c10 => k_is)
    (case k10 => k_is)
    (case a11 => k_is)
    (case l11 => k_is)
    (case c11 => k_is)
    (case k11 => k_is)
    (case a12 => k_is)
    (case l12 => k_is)
    (case c12 => k_is)
    (case k12 => k_is)
    (case a13 => k_is)
    (case l13 => k_is)
    (case c13 => k_is)
    (case k13 => k_is)
    (case a14 => k_is)
    (case l14 => k_is)
    (case c14 => k_is)
    (case k14 => k_is)
    (case a15 => k_is)
    (case l15 => k_is)
    (case c15 => k_is)
    (case k15 => k_is)
    (case a16 => k_is)
    (case l16 => k_is)
    (case c16 => k_is)
    (case k16 => k_is)
    (case a17 => k_is)
    (case l17 => k_is)
    (case c17 => k_is)
    (case k17 => k_is)
    (case a18 => k_is)
    (case l18 => k_is)
    (case c18 => k_is)
    (case k18 => k_is)

