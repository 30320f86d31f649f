import PyProof.Rows.All
import Wide.All
import OpenK.AllK
import Wide.FinOn
import PySem.Challenge.RW_stairlots_k09_errors_of_stairs
import HandS.ForMost
import HandS.Exc
import HandS.TryOnly
import HandS.ExcOwn
import HandS.WordsExc
import HandS.Wide
import HandS.WideMore
import HandS.IsInst
import HandS.Property
import HandS.SlotsOwn
import HandS.Codes
import HandS.Walk
import HandS.Style
import HandS.Comp
import HandS.More
import HandS.Conv
import HandS.Lambda
import HandS.EndTab
import KE.IntTextText
import KE.GoesEnum
import KE.KTupSum
import KE.DataMinMax
import HandS.TupSets
import HandS.Deep
import HandS.DictComp
import HandS.DictTup
import HandS.Iter
import KE.KDictPairs
import KE.KOpsOwn
import KE.KCallOwn
import KE.DataAny
import HandS.Zip
import KE.KDictZip
import KE.GoesMore
import HandS.Zip0
import KE.KDictWalk
import KE.KDictSum
import PyProof.Rows.TupDisplay
import KE.KExcInit
import HandS.Small
import HandS.TryMany
import HandS.ClsMeth
import KE.KeyNested
import HandS.Defaults
import HandS.ExcIs
import HandS.MakeKwOnly
import KE.KExcLine
set_option Elab.async false
set_option linter.all false
set_option maxRecDepth 100000
set_option maxHeartbeats 8000000
/-! # the pot -/
namespace K09
open PySem PySem.Spec PyProof.Rows L2
def topS (i : Nat) : Stmt := PySem.Challenge.pw_stairlots_k09_errors_of_stairs.main.body.getD i (.Pass ⟨0, 0, 0, 0⟩)
/-! ### rules of my own -/
/-- ** of a base of any size, the result below 2 ^ 27 bits -/
def CPowW (i j : Int) : Prop := 0 ≤ j ∧ (Builtin.Int.intBits i : Int) * j ≤ 2 ^ 27
theorem op_powW {X : Cx} : OpR X (binaryOp .Pow) (rI CPowW fun i j => .int (i ^ j.toNat)) := opI fun _ _ _ _ _ _ _ hc q => pow_int hc.1 hc.2 q
theorem sub_same {H : Hp} {p : Addr} {o : HO} (h : H p = none) : Same H (upd H p o) := fun b x e => by
  rw [upd_ne (ne_of_none e h)]
  exact e
/-- all but one address as before -/
def But (a : Addr) (H H' : Hp) : Prop := ∀ b, b ≠ a → H' b = H b
theorem But.refl (a : Addr) (H : Hp) : But a H H := fun _ _ => rfl
theorem But.trans {a : Addr} {H H1 H2 : Hp} (x : But a H H1) (y : But a H1 H2) : But a H H2 := fun b hb => (y b hb).trans (x b hb)
theorem but_upd (a : Addr) (H : Hp) (o : HO) : But a H (upd H a o) := fun b hb => upd_ne hb
/-! ### the urn: a list of three ints -/
def Urn (H : Hp) (a : Addr) : Prop := ∃ g m c : Int, H a = some (.lst [.int g, .int m, .int c])
theorem Urn.seq {K : PySem.W.Frag} {H : Hp} {a : Addr} {xs : List V} (h : H a = some (.lst xs)) : SqL K H a xs := .inl (.inl h)
abbrev s_pot : Stmt := topS 61
theorem sc_pot : FnScope ["_law_script", "_law_at", "_law_cell", "_law_great", "_law_mixed"] ["_law_script", "_law_at"] (defScope s_pot) := ⟨rfl, rfl, rfl, by decide +kernel, rfl, by decide +kernel, by decide +kernel⟩
abbrev s_dip : Stmt := topS 62
theorem sc_dip : FnScope ["_law_pot_here", "_law_total", "_law_found", "_law_one", "_law_two"] ["_law_pot_here", "_law_total"] (defScope s_dip) := ⟨rfl, rfl, rfl, by decide +kernel, rfl, by decide +kernel, by decide +kernel⟩
abbrev s_pick : Stmt := topS 63
theorem sc_pick : FnScope ["_law_pot_here", "_law_items"] ["_law_pot_here", "_law_items"] (defScope s_pick) := ⟨rfl, rfl, rfl, by decide +kernel, rfl, by decide +kernel, by decide +kernel⟩
section
variable {P : Program} {w : World} {K : PySem.W.Frag} {mg : Str → Option Value} {base : Heap}
structure Txt (mg : Str → Option Value) : Prop where
  n_len : mg "len" = none
  n_abs : mg "abs" = none
  n_int : mg "int" = none
  n_bool : mg "bool" = none
  n_max : mg "max" = none
  n_min : mg "min" = none
  n_sum : mg "sum" = none
  n_tuple : mg "tuple" = none
  n_range : mg "range" = none
  n_repr : mg "repr" = none
  n_isinstance : mg "isinstance" = none
  n_reversed : mg "reversed" = none
structure D (K : PySem.W.Frag) (mg : Str → Option Value) (x : Str) (st : Stmt) (ps : List Str) (f : Addr) (fd : FuncData) : Prop where
  F : Fun K x x st f fd
  g : mg x = some (.ref f)
  b : Binds K fd ps []
/-- a drawn number below the total -/
def spTake : Sp := fun vs H Q _ => ∃ (a : Addr) (t : Int), vs = [.ref a, .int t] ∧ Urn H a ∧ 0 < t ∧ t.natAbs.log2 < 9000 ∧
  ∀ (v : Int) (H' : Hp), 0 ≤ v → v < t → Urn H' a → But a H H' → Q (.int v) H'
theorem ok_take {f : Addr} {fd : FuncData} {k : Nat} (T : Txt mg) (d : D K mg "_law_dip" s_dip ["_law_pot_here", "_law_total"] f fd) :
    FnOk P w K mg base CX0 (k + 1) f fd ["_law_pot_here", "_law_total"] spTake := by
  refine d.F.ok sc_dip (fun vs H Q E h => ?_) (fun cdv A outer s H vs Q E hr h => ?_)
  · obtain ⟨a, t, rfl, _⟩ := h
    rfl
  · obtain ⟨a, t, rfl, ⟨g, m, c, hu⟩, ht, hl, q⟩ := h
    refine ⟨_, (pss_cons (ps_if (pt_cmpR op_gt (pe_ix ix_list (pv 0) pe_int (fun _ _ => rfl)) pe_int (nomark _)) (pss_cons (ps_set (i := 2) sc_dip.nd rfl (.inl rfl) (pe_op op_mod (pe_callTy call_int1 (by rfl) T.n_int (by decide +kernel) (pa_cons (pe_ix ix_list (pv 0) pe_int (fun _ _ => rfl)) pa_nil)) (pv 1)))
        (pss_cons (ps_asg (pe_op op_fdivW (pe_ix ix_list (pv 0) pe_int (fun _ _ => rfl)) (pv 1)) (pg_sub (pv 0) pe_int set_list))
        (pss_one (ps_ret (pv 2))))) pss_nil)
      (pss_cons (ps_asg (pe_op op_add (pe_ix ix_list (pv 0) pe_int (fun _ _ => rfl)) pe_int) (pg_sub (pv 0) pe_int set_list))
      (pss_cons (ps_set (i := 3) sc_dip.nd rfl (.inl rfl) (pe_op op_mod (pe_callTy call_int1 (by rfl) T.n_int (by decide +kernel) (pa_cons (pe_op op_add (pe_ix ix_list (pv 0) pe_int (fun _ _ => rfl)) (pe_op op_mul pe_int (pe_ix ix_list (pv 0) pe_int (fun _ _ => rfl)))) pa_nil)) pe_int))
      (pss_cons (ps_set (i := 4) sc_dip.nd rfl (.inl rfl) (pe_op op_add (pe_op op_mul (pe_op op_mod (pe_callTy call_int1 (by rfl) T.n_int (by decide +kernel) (pa_cons (pe_op op_mul (pv 3) (pv 3)) pa_nil)) pe_int) (pv 3)) (pe_op op_mul pe_int (pe_ix ix_list (pv 0) pe_int (fun _ _ => rfl)))))
      (pss_one (ps_ret (pe_op op_mod (pe_callTy call_int1 (by rfl) T.n_int (by decide +kernel) (pa_cons (pe_op op_fdivW (pe_op op_mod (pe_callTy call_int1 (by rfl) T.n_int (by decide +kernel) (pa_cons (pv 4) pa_nil)) pe_int) pe_int) pa_nil)) (pv 1)))))))), ?_⟩
    refine ⟨.ref a, rfl, a, _, 0, .int g, rfl, rfl, Urn.seq hu, atI_nat (j := 0) rfl, g, 0, rfl, rfl, _, rfl, ite2 (fun e => ?_) (fun e => ?_)⟩
    · refine ⟨.ref a, rfl, ⟨a, _, 0, .int g, rfl, rfl, Urn.seq hu, atI_nat (j := 0) rfl, .inl ⟨g, rfl, .int t, rfl, g, t, rfl, rfl, ht, ?_⟩⟩⟩
      refine ⟨.ref a, rfl, ⟨a, _, 0, .int g, rfl, rfl, Urn.seq hu, atI_nat (j := 0) rfl, .int t, rfl, g, t, rfl, rfl, ⟨ht, hl⟩, ?_⟩⟩
      refine ⟨.ref a, rfl, a, _, 0, 0, rfl, rfl, hu, rfl, ?_⟩
      exact ⟨_, rfl, q _ _ (Int.emod_nonneg _ (by omega)) (Int.emod_lt_of_pos _ ht) ⟨_, _, _, upd_same⟩ (but_upd _ _ _)⟩
    · refine ⟨.ref a, rfl, ⟨a, _, 2, .int c, rfl, rfl, Urn.seq hu, atI_nat (j := 2) rfl, c, 1, rfl, rfl, ?_⟩⟩
      refine ⟨.ref a, rfl, a, _, 2, 2, rfl, rfl, hu, rfl, ?_⟩
      have h1 : (upd H a (.lst ([.int g, .int m, .int c].set 2 (.int (c + 1))))) a = some (.lst [.int g, .int m, .int (c + 1)]) := upd_same
      have b1 := but_upd a H (.lst ([.int g, .int m, .int c].set 2 (.int (c + 1))))
      revert h1 b1
      generalize upd H a (.lst ([.int g, .int m, .int c].set 2 (.int (c + 1)))) = H1
      intro h1 b1
      refine ⟨.ref a, rfl, ⟨a, _, 1, .int m, rfl, rfl, Urn.seq h1, atI_nat (j := 1) rfl, ?_⟩⟩
      refine ⟨.ref a, rfl, ⟨a, _, 2, .int (c + 1), rfl, rfl, Urn.seq h1, atI_nat (j := 2) rfl, ?_⟩⟩
      refine ⟨_, _, rfl, rfl, .inl (by decide), _, _, rfl, rfl, .inl ⟨_, rfl, _, _, rfl, rfl, (by show (0 : Int) < _; decide), ?_⟩⟩
      generalize ho : (m + 1000117 * (c + 1)) % 2305843009213693951 = o
      have o0 : 0 ≤ o := by omega
      have o1 : o < 2305843009213693951 := by omega
      refine ⟨_, rfl, _, rfl, _, _, rfl, rfl, .inl (by omega), .inl ⟨_, rfl, _, _, rfl, rfl, (by show (0 : Int) < _; decide), ?_⟩⟩
      generalize ho2 : o * o % 2305843009213693907 = r
      have r0 : 0 ≤ r := by omega
      have r1 : r < 2305843009213693907 := by omega
      refine ⟨_, rfl, _, _, rfl, rfl, .inl (by omega), ?_⟩
      refine ⟨.ref a, rfl, ⟨a, _, 2, .int (c + 1), rfl, rfl, Urn.seq h1, atI_nat (j := 2) rfl, ?_⟩⟩
      refine ⟨_, _, rfl, rfl, .inl (by decide), _, _, rfl, rfl, ?_⟩
      generalize r * o + 9059 * (c + 1) = z
      refine ⟨_, rfl, .inl ⟨_, rfl, _, _, rfl, rfl, (by show (0 : Int) < _; decide), _, _, rfl, rfl, ⟨by decide, by decide⟩, .inl ⟨_, rfl, _, rfl, _, _, rfl, rfl, ht, ?_⟩⟩⟩
      exact q _ _ (Int.emod_nonneg _ (by omega)) (Int.emod_lt_of_pos _ ht) ⟨_, _, _, h1⟩ b1
/-- one of the items -/
def spSome : Sp := fun vs H Q _ => ∃ (a b : Addr) (xs : List V), vs = [.ref a, .ref b] ∧ Urn H a ∧ H b = some (.lst xs) ∧ b ≠ a ∧ xs ≠ [] ∧ xs.length ≤ 1000 ∧
  ∀ (i : Nat) (x : V) (H' : Hp), xs[i]? = some x → Urn H' a → But a H H' → Q x H'
theorem ok_some {f ft : Addr} {fd fdt : FuncData} {k : Nat} (T : Txt mg) (d : D K mg "_law_pick" s_pick ["_law_pot_here", "_law_items"] f fd) (dt : D K mg "_law_dip" s_dip ["_law_pot_here", "_law_total"] ft fdt) :
    FnOk P w K mg base CX0 (k + 2) f fd ["_law_pot_here", "_law_items"] spSome := by
  have G : FnOk P w K mg base CX0 (k + 1) ft fdt ["_law_pot_here", "_law_total"] spTake := ok_take T dt
  refine d.F.ok sc_pick (fun vs H Q E h => ?_) (fun cdv A outer s H vs Q E hr h => ?_)
  · obtain ⟨a, b, xs, rfl, _⟩ := h
    rfl
  · obtain ⟨a, b, xs, rfl, hu, hb, hne, hx, hz, q⟩ := h
    refine ⟨_, (pss_one (ps_ret (pe_ix ix_list (pv 1) (pe_call G hr (by rfl) dt.g dt.F.kp dt.b .nil pass0 (pa_cons (pv 0) (pa_cons (pe_callB call_len_seq (by rfl) T.n_len PySem.boot_len (pa_cons (pv 1) pa_nil)) pa_nil))) (fun _ _ => rfl)))), ?_⟩
    refine ⟨.ref b, rfl, .ref a, rfl, .ref b, rfl, b, xs, rfl, .inl (Urn.seq hb), a, _, rfl, hu, ?_, ?_, fun v H' v0 v1 hu' hk => ?_⟩
    · cases xs with
      | nil => exact absurd rfl hx
      | cons x r => rw [List.length_cons]; omega
    · have e : ((xs.length : Int)).natAbs = xs.length := Int.natAbs_natCast _
      rw [e]
      exact Nat.lt_of_le_of_lt (Nat.log2_le_self _) (by omega)
    · obtain ⟨j, rfl⟩ : ∃ j : Nat, v = (j : Int) := ⟨v.toNat, by omega⟩
      have hv : j < xs.length := by omega
      exact ⟨b, xs, j, xs[j], rfl, rfl, Urn.seq ((hk b hne).trans hb), atI_nat (List.getElem?_eq_getElem hv), q j _ H' (List.getElem?_eq_getElem hv) hu' hk⟩
/-- a new pot -/
def spUrn (K : PySem.W.Frag) : Sp := fun vs H Q _ => ∃ (a : Addr) (i : Nat) (ns : List Int), vs = [.ref a, .int i] ∧ SqL K H a (ns.map V.int) ∧ i ≤ 1000 ∧
  ∀ (H' : Hp) (p : Addr), Same H H' → H p = none → Urn H' p → Q (.ref p) H'
theorem ok_urn {f : Addr} {fd : FuncData} {k : Nat} (T : Txt mg) (d : D K mg "_law_pot" s_pot ["_law_script", "_law_at"] f fd) : FnOk P w K mg base CX0 (k + 1) f fd ["_law_script", "_law_at"] (spUrn K) := by
  refine d.F.ok sc_pot (fun vs H Q E h => ?_) (fun cdv A outer s H vs Q E hr h => ?_)
  · obtain ⟨a, i, ns, rfl, _⟩ := h
    rfl
  · obtain ⟨a, i, ns, rfl, hS, hi, q⟩ := h
    refine ⟨_, (pss_cons (ps_set (i := 2) sc_pot.nd rfl (.inl rfl) (pe_ifExp (pt_cmpR op_lt (pv 1) (pe_callB call_len_seq (by rfl) T.n_len PySem.boot_len (pa_cons (pv 0) pa_nil)) (nomark _)) (pe_ix ix_list (pv 0) (pv 1) (fun _ _ => rfl)) (pe_op op_add (pe_op op_mul pe_int (pv 1)) pe_int)))
      (pss_cons (ps_set (i := 3) sc_pot.nd rfl (.inl rfl) (pe_op op_mod (pe_callTy call_int1 (by rfl) T.n_int (by decide +kernel) (pa_cons (pe_callB call_abs (by rfl) T.n_abs (by decide +kernel) (pa_cons (pv 2) pa_nil)) pa_nil)) (pe_op op_powW (pe_op op_powW pe_int pe_int) pe_int)))
      (pss_cons (ps_set (i := 4) sc_pot.nd rfl (.inl rfl) (pe_op op_add (pe_op op_add (pe_op op_add (pe_op op_mul (pe_op op_mod (pe_callTy call_int1 (by rfl) T.n_int (by decide +kernel) (pa_cons (pv 3) pa_nil)) pe_int) pe_int) (pe_op op_mul pe_int (pv 1))) (pe_op op_mul pe_int (pe_callTy call_int1 (by rfl) T.n_int (by decide +kernel) (pa_cons (pe_cmpR op_lt (pv 2) pe_int (nomark _)) pa_nil)))) pe_int))
      (pss_one (ps_ret (pe_lst (pa_cons (pe_callB (call_max2 rfl) (by rfl) T.n_max (by decide +kernel) (pa_cons pe_int (pa_cons (pe_op op_add (pe_op op_sub (pv 3) (pe_op op_powW pe_int pe_int)) pe_int) pa_nil))) (pa_cons (pe_op op_mod (pe_callTy call_int1 (by rfl) T.n_int (by decide +kernel) (pa_cons (pv 4) pa_nil)) pe_int) (pa_cons pe_int pa_nil))))))))), ?_⟩
    have fin : ∀ (g m : Int) (p : Addr), H p = none → Q (.ref p) (upd H p (.lst [.int g, .int m, .int 0])) := fun g m p np => q _ p (sub_same np) np ⟨_, _, _, upd_same⟩
    refine ⟨_, rfl, .ref a, rfl, a, _, rfl, .inl hS, _, _, rfl, rfl, _, rfl, ite2 (fun e => ?_) (fun e => ?_)⟩
    · have hlt : i < ns.length := by
        have z := of_decide_eq_true e
        rw [List.length_map] at z
        omega
      refine ⟨.ref a, rfl, _, rfl, a, _, _, .int ns[i], rfl, rfl, hS, atI_nat (by rw [List.getElem?_map, List.getElem?_eq_getElem hlt]; rfl), ?_⟩
      generalize ns[i] = z
      refine ⟨_, rfl, _, rfl, .inl ⟨_, rfl, _, _, rfl, rfl, ⟨by decide, by decide +kernel⟩, _, _, rfl, rfl, ⟨by decide, by decide +kernel⟩, _, _, rfl, rfl, (by show (0 : Int) < _; decide), ?_⟩⟩
      refine ⟨_, rfl, .inl ⟨_, rfl, _, _, rfl, rfl, (by show (0 : Int) < _; decide), _, _, rfl, rfl, .inr (by decide), ?_⟩⟩
      refine ⟨_, rfl, _, _, rfl, rfl, .inl (by decide), _, _, rfl, rfl, _, rfl, _, _, rfl, rfl, .inr ⟨_, rfl, _, _, rfl, rfl, .inl (by decide), _, _, rfl, rfl, _, _, rfl, rfl, ?_⟩⟩
      refine ⟨_, rfl, _, _, rfl, rfl, ⟨by decide, by decide +kernel⟩, _, _, rfl, rfl, _, _, rfl, rfl, _, _, rfl, ?_⟩
      exact ⟨_, rfl, .inl ⟨_, rfl, _, _, rfl, rfl, (by show (0 : Int) < _; decide), (by show 3 ≤ sizeLine; decide), fun p np => fin _ _ p np⟩⟩
    · refine ⟨_, rfl, _, _, rfl, rfl, .inl (by decide), _, _, rfl, rfl, ?_⟩
      generalize 67 * (i : Int) + 43 = z
      refine ⟨_, rfl, _, rfl, .inl ⟨_, rfl, _, _, rfl, rfl, ⟨by decide, by decide +kernel⟩, _, _, rfl, rfl, ⟨by decide, by decide +kernel⟩, _, _, rfl, rfl, (by show (0 : Int) < _; decide), ?_⟩⟩
      refine ⟨_, rfl, .inl ⟨_, rfl, _, _, rfl, rfl, (by show (0 : Int) < _; decide), _, _, rfl, rfl, .inr (by decide), ?_⟩⟩
      refine ⟨_, rfl, _, _, rfl, rfl, .inl (by decide), _, _, rfl, rfl, _, rfl, _, _, rfl, rfl, .inr ⟨_, rfl, _, _, rfl, rfl, .inl (by decide), _, _, rfl, rfl, _, _, rfl, rfl, ?_⟩⟩
      refine ⟨_, rfl, _, _, rfl, rfl, ⟨by decide, by decide +kernel⟩, _, _, rfl, rfl, _, _, rfl, rfl, _, _, rfl, ?_⟩
      exact ⟨_, rfl, .inl ⟨_, rfl, _, _, rfl, rfl, (by show (0 : Int) < _; decide), (by show 3 ≤ sizeLine; decide), fun p np => fin _ _ p np⟩⟩
end
end K09

/-! # enumerate(tuple) -/
namespace K09W
open PySem PySem.Spec PyProof.Rows
set_option maxHeartbeats 1000000 in
theorem meets_enumerate_new1 {v : Value} {o : Obj} {H : Heap → Prop} (B : Begins v o H) :
    Meets (Builtin.«enumerate.__new__» ⟨[.type "enumerate", v], []⟩) (fun _ R s => H s.heap ∧
      R (.ok (.ret (.ref (s.heap.push o).objs.size))) { s with heap := (s.heap.push o).push { cls := .type "enumerate", data := .fields #[.none, .bool false, .ref s.heap.objs.size, rawInt 0, .none, .none] } }) :=
  .of_wp fun prog w A R s h => by
    obtain ⟨hp, g, d, tk, os⟩ := s; obtain ⟨h1, h⟩ := h
    have hsub := sub_enumerate
    have q1 : ∀ {A' : Around} {E : Value → Shared → Prop} {Q : Value → Shared → Prop}, Q (.ref hp.objs.size) ⟨hp.push o, g, d, tk, os⟩ → wpAny (model prog w) A' (pyIter v) Q E ⟨hp, g, d, tk, os⟩ :=
      fun q => B.iter prog w _ _ ⟨hp, g, d, tk, os⟩ _ h1 q
    wp_walk using q1
    refine wpAny_stack_any fun st => wpAny_pure ?_
    split
    · rename_i c _ _ _ _ _
      cases (c == Value.type "enumerate")
      · wp_walk using q1
        exact ⟨_, rfl, h⟩
      · wp_walk using q1
        exact ⟨_, rfl, h⟩
    · wp_walk using q1
      exact ⟨_, rfl, h⟩
section
variable {prog : Program} {w : World} {A : Around} {E : Value → Shared → Prop} {s : Shared}
theorem enum_begins1 {v : Value} {o : Obj} {H : Heap → Prop} {Q : Value → Shared → Prop} (B : Begins v o H) (h1 : H s.heap)
    (h : ∀ h', IsEnum h' (s.heap.objs.size + 1) s.heap.objs.size 0 .none → h'.get? s.heap.objs.size = some o → h'.objs.size = s.heap.objs.size + 2 →
      (∀ b o, s.heap.get? b = some o → h'.get? b = some o) → Q (.ref (s.heap.objs.size + 1)) { s with heap := h' }) :
    wpAny (model prog w) A (call (.type "enumerate") [v]) Q E s := by
  refine callType_new F.called_enumerate (by decide) (F.typeCall_enumerate_1 _) (F.newCall_enumerate_1 _) (fun obj => F.args_object_init_2 obj _) F.entry_enumerate_new
    (meets_enumerate_new1 B) ⟨h1, ?_⟩
  have hz : (s.heap.push o).objs.size = s.heap.objs.size + 1 := Heap.size_push ..
  show _ ∧ _
  rw [hz]
  have he : IsEnum ((s.heap.push o).push { cls := .type "enumerate", data := .fields #[.none, .bool false, .ref s.heap.objs.size, rawInt 0, .none, .none] }) (s.heap.objs.size + 1) s.heap.objs.size 0 .none := by
    have := Heap.get?_push_size (s.heap.push o) (o := { cls := .type "enumerate", data := .fields #[.none, .bool false, .ref s.heap.objs.size, rawInt 0, .none, .none] }) rfl
    rw [hz] at this; exact this
  refine ⟨⟨_, he, rfl⟩, h _ he (Heap.get?_push_of_some _ (Heap.get?_push_size _ B.free)) (by rw [Heap.size_push, hz]) fun b o x => Heap.get?_push_of_some _ (Heap.get?_push_of_some _ x)⟩
theorem enum_end_tuple {e it a : Addr} {i : Nat} {items : Array Value} {c : Int} {old : Value} {Q : Option Value → Shared → Prop} (hh : A.handled = none)
    (he : IsEnum s.heap e it c old) (hit : s.heap.IsTupleIter it a i) (ht : s.heap.IsTuple a items) (hx : items[i]? = none)
    (hQ : ∀ h', Heap.ExtBut it s.heap h' → Q none { s with heap := h' }) : wpAny (model prog w) A (pyNext (.ref e)) Q E s := by
  have hT : s.TypeIs (.ref e) "enumerate" := ⟨_, he, rfl⟩
  unfold pyNext
  refine wpAny_bind (wpAny_attempt (wpAny_callSpecial?_slot (name := Str.ofString "__next__") hT F.slot_enumerate_next
    (wpAny_call_entry F.slot_enumerate_next hT F.entry_enumerate_next ?_ (F.args_enumerate_next_1 _))))
  show wpAny _ _ (field (.ref e) 2 >>= _) _ _ _
  refine wpAny_bind (wpAny_field he rfl (x := .ref it) rfl ?_)
  refine wpAny_bind (wpAny_nextOf_tuple_end (A := A.in1) hh hit ht hx fun h' x he' hx' => ?_)
  obtain ⟨o, ho, hc⟩ := hx'
  refine wpAny_bind (wpAny_isInstance (T := "StopIteration") (b := true) ⟨o, ho, hc⟩ isSubtype_stop ?_)
  exact wpAny_pure (hQ _ he')
end
end K09W
namespace K09
open PySem PySem.Spec PyProof.Rows L2
/-- the tuple at a, each item in a new pair -/
def IteT (K : PySem.W.Frag) (a : Addr) : It :=
  ⟨fun i H => ∃ (xs : List V) (x : V), SqT K H a xs ∧ xs[i]? = some x, fun i H v H' => ∃ T x, v = .ref T ∧ H T = none ∧ H' = upd H T (.tup [.int (i : Nat), x]) ∧ ∀ xs, SqT K H a xs → xs[i]? = some x, fun i H => ∃ xs : List V, SqT K H a xs ∧ xs.length ≤ i⟩
theorem turn_enumT {P : Program} {w : World} {K : PySem.W.Frag} {elts : List Expr} {kk : Nat} {tpos : Pos} (a e it : Addr) :
    Turn P w K (.Tuple elts kk tpos) (IteT K a) [e, it] e (fun i h => (∃ old, IsEnum h e it ((i : Nat) : Int) old) ∧ h.IsTupleIter it a i ∧ e ≠ it) where
  mem := by simp
  obj := fun i h st b hb => by
    obtain ⟨⟨old, he⟩, ⟨o, ho, hc, hd⟩, _⟩ := st
    have e' : b = e ∨ b = it := by simpa using hb
    rcases e' with z | z
    · rw [z]; exact ⟨_, he, fun v q => nomatch q⟩
    · rw [z]; exact ⟨o, ho, fun v q => by rw [hd] at q; cases q⟩
  keep := fun i h h' st k => let ⟨⟨old, he⟩, hi, hne⟩ := st; ⟨⟨old, k e (by simp) _ he⟩, hi.at fun o q => k it (by simp) o q, hne⟩
  item := by
    intro X hP hw hK hc i pins s σ H E I hf st hg
    subst hP hw hK
    obtain ⟨⟨old, he⟩, hit, hne⟩ := st
    obtain ⟨xs, x, hq, hx⟩ := hg
    obtain ⟨its, rv, p, hz⟩ := I.tuple hq
    obtain ⟨u, hu, ru⟩ := rv.get hx
    have p' : s.heap.IsTuple a its.toArray := p
    have ai : a ≠ it := fun z => by
      obtain ⟨o, ho, ho2, _⟩ := id hit
      obtain ⟨o', ho', hc', _⟩ := id p'
      rw [z, ho] at ho'
      rw [Option.some.inj ho', hc'] at ho2
      exact absurd ho2 (by decide)
    have ae : a ≠ e := fun z => by
      obtain ⟨o', ho', hc', _⟩ := id p'
      rw [z, he] at ho'
      rw [← Option.some.inj ho'] at hc'
      exact absurd (show Value.type "enumerate" = Value.type "tuple" from hc') (by decide)
    have hel : e < s.heap.objs.size := Heap.lt_size he
    have hil : it < s.heap.objs.size := by obtain ⟨_, q, _⟩ := hit; exact Heap.lt_size q
    have il : i < its.toArray.size := by
      have z := (List.getElem?_eq_some_iff.mp hu).1
      simpa using z
    have DD : Draws X.prog X.w X.A.in1 it [it, a] its.toArray.size (fun i v => its.toArray[i]? = some v) (fun i h => h.IsTupleIter it a i ∧ h.IsTuple a its.toArray) := Draws.tuple (A := X.A.in1) (I.ok.hd hc) it a ai its.toArray
    refine wpAny_pyNext_enum_itemC DD he ⟨hit, p'⟩ il hne (fun z => by
      rcases List.mem_cons.mp z with z | z
      · exact hne z
      · exact ae (List.mem_singleton.mp z).symm) fun u' h' tk hP ho hit' hT hsz hk => ?_
    have eu : u' = u := by
      have z : its[i]? = some u' := by simpa using hP
      rw [hu] at z
      exact (Option.some.inj z).symm
    subst eu
    refine ⟨_, rfl, wpAny_letOwnedTupleGo_enum (s := { s with heap := h', toks := tk + 1 }) ho fun h'' he' sb => ?_⟩
    have hT2 : h''.get? s.heap.objs.size = some { cls := .type "tuple", data := .seq #[.int i tk, u'] } := (sb.2 _ (Nat.ne_of_gt hel)).trans hT
    have new : ObjOk X.prog X.w (upd H s.heap.objs.size (.tup [.int (i : Nat), x])) h'' s.heap.objs.size (.tup [.int (i : Nat), x]) :=
      ⟨by show 2 ≤ sizeLine; decide, [.int i tk, u'], .cons ⟨_, rfl⟩ (.cons ru .nil), ⟨_, hT2, rfl, _, rfl⟩⟩
    have I1 : Inv X pins σ (upd H s.heap.objs.size (.tup [.int (i : Nat), x])) { s with heap := h'', toks := tk + 1 } :=
      I.turnedNew (ch := [e, it]) (fun b ob hb q => (sb.2 b (fun z => hb (by simp [z]))).trans (hk b ob (fun z => hb (by simp [z])) (fun z => hb (by simp [z])) q)) hf (Nat.le_refl _) new
    refine ⟨.ref s.heap.objs.size, _, I1, rfl, ⟨_, x, rfl, I.hok.fresh (Nat.le_refl _), rfl, fun ys hy => by rw [I.tuple_inj hy hq]; exact hx⟩, ⟨⟨u', ?_⟩, hit'.1.at fun o q => (sb.2 it (Ne.symm hne)).trans q, hne⟩, fun b hb => ?_⟩
    · have e1 : ((i + 1 : Nat) : Int) = (i : Int) + 1 := by omega
      rw [e1]; exact he'
    · have hb' : b < s.heap.objs.size := by
        have e' : b = e ∨ b = it := by simpa using hb
        rcases e' with z | z
        · rw [z]; exact hel
        · rw [z]; exact hil
      rw [upd_ne (Nat.ne_of_lt hb')]
      exact (hf b hb).1
  done := by
    intro X hP hw hK hc i pins s σ H E I hf st hg
    subst hP hw hK
    obtain ⟨⟨old, he⟩, hit, hne⟩ := st
    obtain ⟨xs, hq, hx⟩ := hg
    obtain ⟨its, rv, p, hz⟩ := I.tuple hq
    have p' : s.heap.IsTuple a its.toArray := p
    obtain ⟨f0, f1, f2, f3, f4, f5⟩ := hf it (by simp)
    have hl := rv.length
    exact K09W.enum_end_tuple (I.ok.hd hc) he hit p' (by simp; omega) fun h' eb => ⟨rfl, I.turned (t' := s.toks) (fun b o hb e => eb b o hb e) f0 f1 f3 f4 f5⟩
  self := fun A i s Q E st h => let ⟨⟨_, he⟩, _⟩ := st; wpAny_pyIter_enum he h
def iEnumT (K : PySem.W.Frag) (ta : TA) : TI := fun σ H R => ta σ H fun vs H1 => ∃ a xs, vs = [.ref a] ∧ SqT K H1 a xs ∧ R (IteT K a) H1
theorem pi_enumT {X : Cx} {e : Expr} {ta : TA} {p pos tpos : Pos} {elts : List Expr} {kk : Nat} (hg : Gl X "enumerate") (hm : X.mg "enumerate" = none) (ha : PA X [e] ta) (hs : starEach [e] X.env = [(false, eval e X.env)] := by rfl) :
    PI X (.Tuple elts kk tpos) (.Call (.Name "enumerate" p) [e] [] pos) (iEnumT X.K ta) := by
  refine ⟨fun pins s σ H R I h => ?_⟩
  refine Call_ (ld_blt I hg hm boot_enumerate (PyProof.Rows.callWith_type1 (thn (ha.run pos pins s σ H _ I h) fun us s1 ⟨vs, H1, I1, r1, q1⟩ => ?_) hs rfl))
  obtain ⟨a, xs, ex, hq, q⟩ := q1
  subst ex
  cases r1 with
  | cons r rr =>
    cases rr
    cases r
    obtain ⟨its, rv, p', hz⟩ := I1.tuple hq
    refine K09W.enum_begins1 (begins_tuple a its.toArray) (show s1.heap.IsTuple a its.toArray from p') fun h' he hit hsz hk => wpAny_pyIter_enum he ?_
    have I2 : Inv X pins σ H1 { s1 with heap := h' } := I1.kept (t' := s1.toks) hk
    refine ⟨s1.heap.objs.size + 1, [s1.heap.objs.size + 1, s1.heap.objs.size], _, _, H1, rfl, I2, turn_enumT a (s1.heap.objs.size + 1) s1.heap.objs.size, ⟨⟨.none, he⟩, ⟨_, hit, rfl, rfl⟩, Nat.succ_ne_self _⟩, fun b hb => ?_, q⟩
    have e' : b = s1.heap.objs.size + 1 ∨ b = s1.heap.objs.size := by simpa using hb
    have hle : s1.heap.objs.size ≤ b := by
      rcases e' with z | z
      · rw [z]; exact Nat.le_add_right _ _
      · rw [z]; exact Nat.le_refl _
    exact I1.fpOk hle (I1.hok.fresh hle)
end K09
namespace K09
open PySem PySem.Spec PyProof.Rows L2
theorem walk_enumT {K : PySem.W.Frag} {a : Addr} {xs : List V} : Walk (IteT K a) xs.length (fun H => SqT K H a xs) (YPair (fun i => some (.int (i : Nat))) (fun i => xs[i]?)) := by
  refine ⟨fun i _ hi q => ⟨xs, xs[i], q, by simp [hi]⟩, fun _ q => ⟨xs, q, Nat.le_refl _⟩, fun i H v H' _ q y => ?_⟩
  obtain ⟨T, x, h1, h2, h3, h4⟩ := y
  exact ⟨T, .int (i : Nat), x, h1, h2, h3, rfl, h4 xs q⟩
end K09

/-! # sums and greatest of tuples; kinds of values; shapes -/
namespace K09
open PySem PySem.Spec PyProof.Rows L2
section
variable {X : Cx}
theorem cr_sumT (hc : X.calm = true) : CallR X (.builtin "sum") (fun vs H Q => ∃ (a : Addr) (ns : List Int), vs = [V.ref a] ∧ SqT X.K H a (ns.map V.int) ∧ Q (.int ns.sum) H) := by
  intro pins s σ H vs us Q I r h
  obtain ⟨a, ns, rfl, hs, q⟩ := h
  obtain ⟨its, rv, hl, _⟩ := I.tuple hs
  rw [Vals.ref1 r]
  have hi := rv.ints
  obtain ⟨xs, e⟩ := hi.allInts.items
  have hn : numsOf (PySem.intItems xs).toList = ns := by rw [← e]; exact hi.numsOf
  rw [nums_intItems] at hn
  have hl' : s.heap.IsTuple a its.toArray := hl
  rw [e] at hl'
  refine PySem.W.ktm_sumG (I.ok.hd hc) hl' fun h' tk t' hk => ?_
  have z : EP X pins σ Q (.int ns.sum t') { s with heap := h', toks := tk } := ⟨.int _, H, I.kept hk, ⟨_, rfl⟩, q⟩
  rw [preSum_eq, List.take_of_length_le (by simp), hn]
  exact z
theorem alike_int (ns : List Int) : PySem.W.AlikeAll (ns.map PyData.int) := by
  refine ⟨fun x hx y hy => ?_, fun x hx => ?_⟩
  · obtain ⟨i, _, rfl⟩ := List.mem_map.mp hx
    obtain ⟨j, _, rfl⟩ := List.mem_map.mp hy
    rfl
  · obtain ⟨i, _, rfl⟩ := List.mem_map.mp hx
    exact fun z => by cases z
theorem dp_ints (K : PySem.W.Frag) (H : Hp) : ∀ ns : List Int, DpAll K H (ns.map V.int) (ns.map PyData.int)
  | [] => .nil
  | n :: r => .cons (.int n) (dp_ints K H r)
theorem dep_ints : ∀ ns : List Int, PyData.depthAll (ns.map PyData.int) = 0
  | [] => rfl
  | n :: r => by
    show max 0 (PyData.depthAll (r.map PyData.int)) = 0
    rw [dep_ints r]
    rfl
theorem cr_maxT (hc : X.calm = true) (hu : X.A.units + 8 < cLine) : CallR X (.builtin "max") (fun vs H Q => ∃ (a : Addr) (n : Int) (ns : List Int), vs = [V.ref a] ∧ SqT X.K H a ((n :: ns).map V.int) ∧ Q (.int (ns.foldl max n)) H) := by
  intro pins s σ H vs us Q I r h
  obtain ⟨a, n, ns, rfl, hs, q⟩ := h
  obtain ⟨its, rv, hl, _⟩ := I.tuple hs
  rw [Vals.ref1 r]
  obtain ⟨as, ra⟩ := Dp.readsAll I ((n :: ns).map PyData.int) _ its (dp_ints X.K H (n :: ns)) rv
  refine PySem.W.max_tuple_data (x := .int n) (xs := ns.map PyData.int) (I.ok.hd hc) (show s.heap.IsTuple a its.toArray from hl) (show ReadsAll s.heap its.toArray.toList _ _ from ra) (alike_int (n :: ns)) (by rw [show PyData.int n :: ns.map PyData.int = (n :: ns).map PyData.int from rfl, dep_ints]; omega) fun i v h' tk bs _ hr hk => ?_
  rw [PySem.W.maxD_ints] at hr
  obtain ⟨t, rfl⟩ : ∃ t, v = .int (ns.foldl max n) t := by
    cases hr
    exact ⟨_, rfl⟩
  exact ⟨.int _, H, I.kept hk, ⟨_, rfl⟩, q⟩
end
/-! ### kinds of values -/
mutual
/-- a value without lists and dicts -/
inductive Tv (K : PySem.W.Frag) (H : Hp) : V → PyData → Prop
  | non : Tv K H .non .none
  | bl (b : Bool) : Tv K H (.bl b) (.bool b)
  | int (i : Int) : Tv K H (.int i) (.int i)
  | str (z : Str) : Tv K H (.str z) (.str z)
  | tup {a : Addr} {xs : List V} {ds : List PyData} : SqT K H a xs → TvL K H xs ds → Tv K H (.ref a) (.tuple ds)
inductive TvL (K : PySem.W.Frag) (H : Hp) : List V → List PyData → Prop
  | nil : TvL K H [] []
  | cons {x : V} {d : PyData} {xs : List V} {ds : List PyData} : Tv K H x d → TvL K H xs ds → TvL K H (x :: xs) (d :: ds)
end
/-- all objects but the one at a as before, new ones may be there -/
def Old (a : Addr) (H H' : Hp) : Prop := ∀ b o, b ≠ a → H b = some o → H' b = some o
theorem Old.of_same {a : Addr} {H H' : Hp} (s : Same H H') : Old a H H' := fun b o _ h => s b o h
theorem Old.of_but {a : Addr} {H H' : Hp} (s : But a H H') : Old a H H' := fun b o n h => (s b n).trans h
theorem Old.trans {a : Addr} {H H1 H2 : Hp} (x : Old a H H1) (y : Old a H1 H2) : Old a H H2 := fun b o n h => y b o n (x b o n h)
theorem Urn.same {H H' : Hp} {a : Addr} (u : Urn H a) (s : Same H H') : Urn H' a := let ⟨g, m, c, h⟩ := u; ⟨g, m, c, s _ _ h⟩
theorem urn_ne {H : Hp} {a p : Addr} (u : Urn H a) (h : H p = none) : p ≠ a := fun e => by
  obtain ⟨g, m, c, hu⟩ := u
  rw [e, hu] at h
  cases h
theorem sqt_new {K : PySem.W.Frag} {H : Hp} {a : Addr} {xs : List V} (e : H a = some (.tup xs)) : SqT K H a xs := .inl (.inl e)
theorem sqt_same {K : PySem.W.Frag} {H H' : Hp} {a : Addr} {xs : List V} (h : SqT K H a xs) (s : Same H H') : SqT K H' a xs := by
  rcases h with (e | ⟨od, e⟩) | h
  · exact .inl (.inl (s _ _ e))
  · exact .inl (.inr ⟨od, s _ _ e⟩)
  · exact .inr h
theorem sqt_ne {K : PySem.W.Frag} {H H' : Hp} {a : Addr} {xs : List V} (h : SqT K H a xs) (k : ∀ o, H a = some o → (o = .tup xs ∨ ∃ od, o = .frz od (.tup xs)) → H' a = some o) : SqT K H' a xs := by
  rcases h with (e | ⟨od, e⟩) | h
  · exact .inl (.inl (k _ e (.inl rfl)))
  · exact .inl (.inr ⟨od, k _ e (.inr ⟨od, rfl⟩)⟩)
  · exact .inr h
theorem sqt_old {K : PySem.W.Frag} {H H' : Hp} {a u : Addr} {xs : List V} (hu : Urn H u) (o : Old u H H') (h : SqT K H a xs) : SqT K H' a xs := sqt_ne h fun ob e k => o a _ (fun z => by
  obtain ⟨g, m, c, eu⟩ := hu
  rw [z, eu] at e
  cases e
  rcases k with k | ⟨_, k⟩ <;> cases k) e
theorem sqt_upd {K : PySem.W.Frag} {H : Hp} {a b : Addr} {xs : List V} {y : HO} (h : SqT K H a xs) (k : ∀ o, H b = some o → o ≠ .tup xs ∧ ∀ od, o ≠ .frz od (.tup xs)) : SqT K (upd H b y) a xs := sqt_ne h fun ob e w => by
  rw [upd_ne (fun z => by
    rw [z] at e
    rcases w with w | ⟨od, w⟩
    · exact (k _ e).1 w
    · exact (k _ e).2 od w)]
  exact e
mutual
theorem Tv.old {K : PySem.W.Frag} {H H' : Hp} {u : Addr} (hu : Urn H u) (o : Old u H H') : ∀ {x : V} {d : PyData}, Tv K H x d → Tv K H' x d
  | _, _, .non => .non
  | _, _, .bl b => .bl b
  | _, _, .int i => .int i
  | _, _, .str z => .str z
  | _, _, .tup e l => .tup (sqt_old hu o e) (l.old hu o)
theorem TvL.old {K : PySem.W.Frag} {H H' : Hp} {u : Addr} (hu : Urn H u) (o : Old u H H') : ∀ {xs : List V} {ds : List PyData}, TvL K H xs ds → TvL K H' xs ds
  | _, _, .nil => .nil
  | _, _, .cons h t => .cons (h.old hu o) (t.old hu o)
end
mutual
theorem Tv.same {K : PySem.W.Frag} {H H' : Hp} (o : Same H H') : ∀ {x : V} {d : PyData}, Tv K H x d → Tv K H' x d
  | _, _, .non => .non
  | _, _, .bl b => .bl b
  | _, _, .int i => .int i
  | _, _, .str z => .str z
  | _, _, .tup e l => .tup (sqt_same e o) (l.same o)
theorem TvL.same {K : PySem.W.Frag} {H H' : Hp} (o : Same H H') : ∀ {xs : List V} {ds : List PyData}, TvL K H xs ds → TvL K H' xs ds
  | _, _, .nil => .nil
  | _, _, .cons h t => .cons (h.same o) (t.same o)
end
mutual
theorem Tv.put {K : PySem.W.Frag} {H : Hp} {D : Addr} {xs ys : List V} (hd : H D = some (.lst xs)) : ∀ {x : V} {d : PyData}, Tv K H x d → Tv K (upd H D (.lst ys)) x d
  | _, _, .non => .non
  | _, _, .bl b => .bl b
  | _, _, .int i => .int i
  | _, _, .str z => .str z
  | _, _, .tup e l => .tup (sqt_upd e fun o h => by
      rw [hd] at h
      cases h
      exact ⟨fun z => (by cases z), fun _ z => (by cases z)⟩) (l.put hd)
theorem TvL.put {K : PySem.W.Frag} {H : Hp} {D : Addr} {xs ys : List V} (hd : H D = some (.lst xs)) : ∀ {zs : List V} {ds : List PyData}, TvL K H zs ds → TvL K (upd H D (.lst ys)) zs ds
  | _, _, .nil => .nil
  | _, _, .cons h t => .cons (h.put hd) (t.put hd)
end
theorem TvL.snoc {K : PySem.W.Frag} {H : Hp} : ∀ {xs : List V} {ds : List PyData} {x : V} {d : PyData}, TvL K H xs ds → Tv K H x d → TvL K H (xs ++ [x]) (ds ++ [d])
  | _, _, _, _, .nil, h => .cons h .nil
  | _, _, _, _, .cons a t, h => .cons a (t.snoc h)
theorem TvL.len {K : PySem.W.Frag} {H : Hp} : ∀ {xs : List V} {ds : List PyData}, TvL K H xs ds → xs.length = ds.length
  | _, _, .nil => rfl
  | _, _, .cons _ t => congrArg (· + 1) t.len
theorem TvL.get {K : PySem.W.Frag} {H : Hp} : ∀ {xs : List V} {ds : List PyData} {i : Nat} {x : V}, TvL K H xs ds → xs[i]? = some x → ∃ d, ds[i]? = some d ∧ Tv K H x d
  | _, _, _, _, .nil, h => by simp at h
  | _, _, 0, _, .cons a _, h => by
    rw [List.getElem?_cons_zero] at h
    obtain rfl := Option.some.inj h
    exact ⟨_, rfl, a⟩
  | _, _, i + 1, _, .cons _ t, h => by
    rw [List.getElem?_cons_succ] at h
    exact t.get h
/-- such a value, a list of ints, a dict of one int to one int -/
inductive Dw (K : PySem.W.Frag) (H : Hp) : V → PyData → Prop
  | tv {x : V} {d : PyData} : Tv K H x d → Dw K H x d
  | lst {a : Addr} {ns : List Int} : H a = some (.lst (ns.map V.int)) → Dw K H (.ref a) (.list (ns.map .int))
  | dic {a : Addr} {m n : Int} : H a = some (.dK [(.inl m, .int n)]) → Dw K H (.ref a) (.dict [(.int m, .int n)])
theorem Dw.same {K : PySem.W.Frag} {H H' : Hp} (o : Same H H') {x : V} {d : PyData} (h : Dw K H x d) : Dw K H' x d := by
  cases h with
  | tv t => exact .tv (t.same o)
  | lst e => exact .lst (o _ _ e)
  | dic e => exact .dic (o _ _ e)
abbrev kit (K : PySem.W.Frag) (t c : Value) (b : Bool) : Prop := PySem.W.kitOne K t c = some b
/-- the name of the type -/
def tyN : PyData → String
  | .none => "NoneType"
  | .bool _ => "bool"
  | .int _ => "int"
  | .str _ => "str"
  | .list _ => "list"
  | .tuple _ => "tuple"
  | .dict _ => "dict"
theorem Tv.ty {K : PySem.W.Frag} {H : Hp} {x : V} {d : PyData} (h : Tv K H x d) : TyX K H x (.type (tyN d)) := by
  cases h with
  | non => exact .base .non
  | bl b => exact .base (.bl b)
  | int i => exact .base (.int i)
  | str z => exact .base (.str z)
  | tup e _ =>
    rcases e with (e | ⟨od, e⟩) | ⟨o, its, n, e, c, _⟩
    · exact .base (.tup e)
    · exact .fTuple e
    · exact .kTuple e c
theorem Dw.ty {K : PySem.W.Frag} {H : Hp} {x : V} {d : PyData} (h : Dw K H x d) : TyX K H x (.type (tyN d)) := by
  cases h with
  | tv t => exact t.ty
  | lst e => exact .base (.lst e)
  | dic e => exact .base (.dK e)
def isT : PyData → Bool
  | .tuple _ => true
  | _ => false
def isB : PyData → Bool
  | .bool _ => true
  | _ => false
def isI : PyData → Bool
  | .bool _ => true
  | .int _ => true
  | _ => false
theorem kitT {K : PySem.W.Frag} : ∀ d : PyData, kit K (.type (tyN d)) (.type "tuple") (isT d)
  | .none => kit_ty (show kitB "NoneType" "tuple" = some false by decide +kernel)
  | .bool _ => kit_ty (show kitB "bool" "tuple" = some false by decide +kernel)
  | .int _ => kit_ty (show kitB "int" "tuple" = some false by decide +kernel)
  | .str _ => kit_ty (show kitB "str" "tuple" = some false by decide +kernel)
  | .list _ => kit_ty (show kitB "list" "tuple" = some false by decide +kernel)
  | .tuple _ => kit_ty (show kitB "tuple" "tuple" = some true by decide +kernel)
  | .dict _ => kit_ty (show kitB "dict" "tuple" = some false by decide +kernel)
theorem kitB' {K : PySem.W.Frag} : ∀ d : PyData, kit K (.type (tyN d)) (.type "bool") (isB d)
  | .none => kit_ty (show kitB "NoneType" "bool" = some false by decide +kernel)
  | .bool _ => kit_ty (show kitB "bool" "bool" = some true by decide +kernel)
  | .int _ => kit_ty (show kitB "int" "bool" = some false by decide +kernel)
  | .str _ => kit_ty (show kitB "str" "bool" = some false by decide +kernel)
  | .list _ => kit_ty (show kitB "list" "bool" = some false by decide +kernel)
  | .tuple _ => kit_ty (show kitB "tuple" "bool" = some false by decide +kernel)
  | .dict _ => kit_ty (show kitB "dict" "bool" = some false by decide +kernel)
theorem kitI {K : PySem.W.Frag} : ∀ d : PyData, kit K (.type (tyN d)) (.type "int") (isI d)
  | .none => kit_ty (show kitB "NoneType" "int" = some false by decide +kernel)
  | .bool _ => kit_ty (show kitB "bool" "int" = some true by decide +kernel)
  | .int _ => kit_ty (show kitB "int" "int" = some true by decide +kernel)
  | .str _ => kit_ty (show kitB "str" "int" = some false by decide +kernel)
  | .list _ => kit_ty (show kitB "list" "int" = some false by decide +kernel)
  | .tuple _ => kit_ty (show kitB "tuple" "int" = some false by decide +kernel)
  | .dict _ => kit_ty (show kitB "dict" "int" = some false by decide +kernel)
theorem iteP {p A B : Prop} [Decidable p] (h : p) (a : A) : if decide p = true then A else B := by
  rw [if_pos (decide_eq_true h)]
  exact a
theorem iteQ {p A B : Prop} [Decidable p] (h : ¬ p) (b : B) : if decide p = true then A else B := by
  rw [if_neg (fun z => h (of_decide_eq_true z))]
  exact b
/-- an int from lo to hi -/
def btw (d : PyData) (lo hi : Int) : Bool := match d with
  | .int n => decide (lo ≤ n) && decide (n ≤ hi)
  | _ => false
def isW : PyData → Bool
  | .int _ => true
  | _ => false
theorem isW_eq (d : PyData) : (isI d && !isB d) = isW d := by cases d <;> rfl
section
variable {P : Program} {w : World} {K : PySem.W.Frag} {mg : Str → Option Value} {base : Heap}
abbrev s_is_whole : Stmt := topS 12
theorem sc_is_whole : FnScope ["value"] ["value"] (defScope s_is_whole) := ⟨rfl, rfl, rfl, by decide +kernel, rfl, by decide +kernel, by decide +kernel⟩
abbrev s_is_integer : Stmt := topS 13
theorem sc_is_integer : FnScope ["value"] ["value"] (defScope s_is_integer) := ⟨rfl, rfl, rfl, by decide +kernel, rfl, by decide +kernel, by decide +kernel⟩
abbrev s_is_between : Stmt := topS 14
theorem sc_is_between : FnScope ["value", "least", "most"] ["value", "least", "most"] (defScope s_is_between) := ⟨rfl, rfl, rfl, by decide +kernel, rfl, by decide +kernel, by decide +kernel⟩
abbrev s_is_index : Stmt := topS 15
theorem sc_is_index : FnScope ["value", "many"] ["value", "many"] (defScope s_is_index) := ⟨rfl, rfl, rfl, by decide +kernel, rfl, by decide +kernel, by decide +kernel⟩
def spWhole (K : PySem.W.Frag) : Sp := fun vs H Q _ => ∃ (x : V) (d : PyData), vs = [x] ∧ Dw K H x d ∧ Q (.bl (isW d)) H
theorem ok_whole {f : Addr} {fd : FuncData} {k : Nat} (T : Txt mg) (d : D K mg "is_whole" s_is_whole ["value"] f fd) : FnOk P w K mg base CX0 (k + 1) f fd ["value"] (spWhole K) := by
  refine d.F.ok sc_is_whole (fun vs H Q E h => ?_) (fun cdv A outer s H vs Q E hr h => ?_)
  · obtain ⟨x, d, rfl, _⟩ := h
    rfl
  · obtain ⟨x, d, rfl, hd, q⟩ := h
    refine ⟨_, (pss_one (ps_ret (pe_and (pe_callB call_isi (by rfl) T.n_isinstance (by decide +kernel) (pa_cons (pv 0) (pa_cons (pe_bltn (v := .ty "int") (by rfl) T.n_int (by decide +kernel) rfl) pa_nil)))
      (pe_one (pe_not (pe_callB call_isi (by rfl) T.n_isinstance (by decide +kernel) (pa_cons (pv 0) (pa_cons (pe_bltn (v := .ty "bool") (by rfl) T.n_bool (by decide +kernel) rfl) pa_nil)))))))), ?_⟩
    refine ⟨_, rfl, _, _, _, _, _, rfl, .ty _, hd.ty, kitI d, _, rfl, ?_⟩
    rw [← isW_eq] at q
    cases e : isI d with
    | false =>
      rw [e] at q
      exact iteF q
    | true =>
      rw [e] at q
      exact iteT ⟨_, rfl, _, _, _, _, _, rfl, .ty _, hd.ty, kitB' d, _, rfl, q⟩
def spBtw (K : PySem.W.Frag) : Sp := fun vs H Q _ => ∃ (x : V) (d : PyData) (lo hi : Int), vs = [x, .int lo, .int hi] ∧ Dw K H x d ∧ Q (.bl (btw d lo hi)) H
theorem ok_between {f f1 : Addr} {fd fd1 : FuncData} {k : Nat} (T : Txt mg) (d : D K mg "is_between" s_is_between ["value", "least", "most"] f fd) (d1 : D K mg "is_whole" s_is_whole ["value"] f1 fd1) : FnOk P w K mg base CX0 (k + 2) f fd ["value", "least", "most"] (spBtw K) := by
  have G1 : FnOk P w K mg base CX0 (k + 1) f1 fd1 ["value"] (spWhole K) := ok_whole T d1
  refine d.F.ok sc_is_between (fun vs H Q E h => ?_) (fun cdv A outer s H vs Q E hr h => ?_)
  · obtain ⟨x, d, lo, hi, rfl, _⟩ := h
    rfl
  · obtain ⟨x, d, lo, hi, rfl, hd, q⟩ := h
    refine ⟨_, (pss_one (ps_ret (pe_and (pe_call G1 hr (by rfl) d1.g d1.F.kp d1.b .nil pass0 (pa_cons (pv 0) pa_nil)) (pe_one (pe_chain op_le op_le (pv 1) (pv 0) (pv 2)))))), ?_⟩
    refine ⟨_, rfl, x, d, rfl, hd, _, rfl, ?_⟩
    cases d with
    | int n =>
      cases hd with
      | tv t =>
        cases t
        refine iteT ⟨_, rfl, _, rfl, _, _, rfl, rfl, _, rfl, ?_⟩
        show if decide (lo ≤ n) = true then _ else _
        have q' : Q (.bl (decide (lo ≤ n) && decide (n ≤ hi))) H := q
        by_cases l : lo ≤ n
        · rw [decide_eq_true l] at q'
          exact iteP l ⟨_, rfl, _, _, rfl, rfl, q'⟩
        · rw [decide_eq_false l] at q'
          exact iteQ l q'
    | _ => exact iteF q
def spIdx (K : PySem.W.Frag) : Sp := fun vs H Q _ => ∃ (x : V) (d : PyData) (n : Int), vs = [x, .int n] ∧ Dw K H x d ∧ Q (.bl (btw d 0 (n - 1))) H
theorem ok_index {f f1 f2 : Addr} {fd fd1 fd2 : FuncData} {k : Nat} (T : Txt mg) (d : D K mg "is_index" s_is_index ["value", "many"] f fd) (d1 : D K mg "is_between" s_is_between ["value", "least", "most"] f1 fd1) (d2 : D K mg "is_whole" s_is_whole ["value"] f2 fd2) : FnOk P w K mg base CX0 (k + 3) f fd ["value", "many"] (spIdx K) := by
  have G1 : FnOk P w K mg base CX0 (k + 2) f1 fd1 ["value", "least", "most"] (spBtw K) := ok_between T d1 d2
  refine d.F.ok sc_is_index (fun vs H Q E h => ?_) (fun cdv A outer s H vs Q E hr h => ?_)
  · obtain ⟨x, d, n, rfl, _⟩ := h
    rfl
  · obtain ⟨x, d, n, rfl, hd, q⟩ := h
    refine ⟨_, (pss_one (ps_ret (pe_call G1 hr (by rfl) d1.g d1.F.kp d1.b .nil pass0 (pa_cons (pv 0) (pa_cons pe_int (pa_cons (pe_op op_sub (pv 1) pe_int) pa_nil)))))), ?_⟩
    exact ⟨_, rfl, _, rfl, _, _, rfl, rfl, x, d, 0, n - 1, rfl, hd, q⟩
end
end K09

/-! # shapes -/
namespace K09
open PySem PySem.Spec PyProof.Rows L2
/-- names of the module, and its numbers -/
structure Nam (mg : Str → Option Value) : Prop where
  n_all : mg "all" = none
  n_any : mg "any" = none
  n_list : mg "list" = none
  n_dict : mg "dict" = none
  n_enumerate : mg "enumerate" = none
  n_sorted : mg "sorted" = none
  n_str : mg "str" = none
  cB : ∃ t, mg "_MOST_BLOCKS" = some (.int 3 t)
  cL : ∃ t, mg "_LEAST_SIZE" = some (.int 2 t)
  cS : ∃ t, mg "_MOST_SIZE" = some (.int 6 t)
  cM : ∃ t, mg "MAX_BOXES" = some (.int 8 t)
  cI : ∃ t, mg "_LIMIT" = some (.int (10 ^ 60) t)
def sumD : List PyData → Int
  | [] => 0
  | .int n :: r => n + sumD r
  | _ :: r => sumD r
def isSh : PyData → Bool
  | .tuple ds => (decide (1 ≤ (ds.length : Int)) && decide ((ds.length : Int) ≤ 3)) && (ds.all (fun d => btw d 2 6) && decide (sumD ds ≤ 8))
  | _ => false
theorem all_ints : ∀ {ds : List PyData}, ds.all (fun d => btw d 2 6) = true → ∃ ns : List Int, ds = ns.map .int ∧ ∀ n ∈ ns, 2 ≤ n ∧ n ≤ 6
  | [], _ => ⟨[], rfl, fun n h => by cases h⟩
  | d :: r, h => by
    rw [List.all_cons, Bool.and_eq_true] at h
    obtain ⟨ns, e, b⟩ := all_ints h.2
    cases d with
    | int n =>
      have z : (decide (2 ≤ n) && decide (n ≤ 6)) = true := h.1
      rw [Bool.and_eq_true] at z
      refine ⟨n :: ns, by rw [e]; rfl, fun m hm => ?_⟩
      rcases List.mem_cons.mp hm with rfl | hm
      · exact ⟨of_decide_eq_true z.1, of_decide_eq_true z.2⟩
      · exact b m hm
    | _ => exact absurd h.1 Bool.false_ne_true
theorem sum_ints : ∀ ns : List Int, sumD (ns.map .int) = ns.sum
  | [] => rfl
  | n :: r => by
    show n + sumD (r.map .int) = (n :: r).sum
    rw [sum_ints r, List.sum_cons]
theorem TvL.ints {K : PySem.W.Frag} {H : Hp} : ∀ {xs : List V} {ns : List Int}, TvL K H xs (ns.map .int) → xs = ns.map V.int
  | [], [], _ => rfl
  | _ :: _, [], h => by cases h
  | [], _ :: _, h => by cases h
  | x :: xs, n :: ns, h => by
    cases h with
    | cons a t =>
      cases a
      rw [t.ints]
      rfl
/-- a shape -/
def Shp (ns : List Int) : Prop := (1 ≤ ns.length ∧ ns.length ≤ 3) ∧ (∀ n ∈ ns, 2 ≤ n ∧ n ≤ 6) ∧ ns.sum ≤ 8
theorem shp_of {d : PyData} (h : isSh d = true) : ∃ ns, d = .tuple (ns.map .int) ∧ Shp ns := by
  cases d with
  | tuple ds =>
    have z : ((decide (1 ≤ (ds.length : Int)) && decide ((ds.length : Int) ≤ 3)) && (ds.all (fun d => btw d 2 6) && decide (sumD ds ≤ 8))) = true := h
    simp only [Bool.and_eq_true] at z
    obtain ⟨⟨h1, h2⟩, h3, h4⟩ := z
    obtain ⟨ns, e, b⟩ := all_ints h3
    subst e
    have h1 := of_decide_eq_true h1
    have h2 := of_decide_eq_true h2
    have h4 := of_decide_eq_true h4
    rw [List.length_map] at h1 h2
    rw [sum_ints] at h4
    exact ⟨ns, rfl, ⟨by omega, by omega⟩, b, h4⟩
  | _ => exact absurd h Bool.false_ne_true
theorem shp_is {ns : List Int} (h : Shp ns) : isSh (.tuple (ns.map .int)) = true := by
  obtain ⟨⟨h1, h2⟩, b, h4⟩ := h
  show ((decide (1 ≤ ((ns.map PyData.int).length : Int)) && decide (((ns.map PyData.int).length : Int) ≤ 3)) && ((ns.map PyData.int).all (fun d => btw d 2 6) && decide (sumD (ns.map .int) ≤ 8))) = true
  rw [List.length_map, sum_ints, decide_eq_true h4, decide_eq_true (show 1 ≤ (ns.length : Int) by omega), decide_eq_true (show (ns.length : Int) ≤ 3 by omega)]
  have z : (ns.map PyData.int).all (fun d => btw d 2 6) = true := by
    rw [List.all_eq_true]
    intro d hd
    obtain ⟨n, hn, rfl⟩ := List.mem_map.mp hd
    obtain ⟨c1, c2⟩ := b n hn
    show (decide (2 ≤ n) && decide (n ≤ 6)) = true
    rw [decide_eq_true c1, decide_eq_true c2]
    rfl
  rw [z]
  rfl
section
variable {P : Program} {w : World} {K : PySem.W.Frag} {mg : Str → Option Value} {base : Heap}
abbrev s_is_shape : Stmt := topS 22
theorem sc_is_shape : FnScope ["value", "size"] ["value"] (defScope s_is_shape) := ⟨rfl, rfl, rfl, by decide +kernel, rfl, by decide +kernel, by decide +kernel⟩
def spShape (K : PySem.W.Frag) : Sp := fun vs H Q _ => ∃ (x : V) (d : PyData), vs = [x] ∧ Dw K H x d ∧ ∀ H', Same H H' → Q (.bl (isSh d)) H'
theorem ok_shape {f f1 f2 : Addr} {fd fd1 fd2 : FuncData} {k : Nat} (T : Txt mg) (N : Nam mg) (d : D K mg "is_shape" s_is_shape ["value"] f fd) (d1 : D K mg "is_between" s_is_between ["value", "least", "most"] f1 fd1) (d2 : D K mg "is_whole" s_is_whole ["value"] f2 fd2) : FnOk P w K mg base CX0 (k + 3) f fd ["value"] (spShape K) := by
  have G1 : FnOk P w K mg base CX0 (k + 2) f1 fd1 ["value", "least", "most"] (spBtw K) := ok_between T d1 d2
  obtain ⟨tB, cB⟩ := N.cB
  obtain ⟨tL, cL⟩ := N.cL
  obtain ⟨tS, cS⟩ := N.cS
  obtain ⟨tM, cM⟩ := N.cM
  refine d.F.ok sc_is_shape (fun vs H Q E h => ?_) (fun cdv A outer s H vs Q E hr h => ?_)
  · obtain ⟨x, d, rfl, _⟩ := h
    rfl
  · obtain ⟨x, d, rfl, hd, q⟩ := h
    refine ⟨_, (pss_cons (ps_if (PW.pt (pw_or (pt_not (pt_val (pe_callB call_isi (by rfl) T.n_isinstance (by decide +kernel) (pa_cons (pv 0) (pa_cons (pe_bltn (v := .ty "tuple") (by rfl) T.n_tuple (by decide +kernel) rfl) pa_nil)))))
        (pw_or1 (pt_not (pt_chain op_le op_le pe_int (pe_callB call_len_seq (by rfl) T.n_len PySem.boot_len (pa_cons (pv 0) pa_nil)) (pe_glob (v := .int 3) rfl cB ⟨_, rfl⟩)))))) (pss_one (ps_ret pe_bl)) pss_nil)
      (pss_cons (ps_if (pt_not (pt_val (pe_callB (cr_all rfl) (by rfl) N.n_all (by decide +kernel) (pa_cons (pe_lc (own := [("size", 1)]) (g := gName 1) (tt := tYes) rfl sc_is_shape.nd (pi_tup (pv 0)) (blkOk_by (own := [("size", 1)]) (N := ["value", "size"]) (sc := defScope s_is_shape) (by decide +kernel))
            (fun _ _ _ _ _ => pg_name (i := 1) sc_is_shape.nd rfl (Or.inl rfl)) (fun _ _ _ _ _ => pts_nil) (fun _ _ _ _ _ => pe_call G1 hr (by rfl) d1.g d1.F.kp d1.b .nil pass0 (pa_cons (pv 1) (pa_cons (pe_glob (v := .int 2) rfl cL ⟨_, rfl⟩) (pa_cons (pe_glob (v := .int 6) rfl cS ⟨_, rfl⟩) pa_nil))))) pa_nil)))) (pss_one (ps_ret pe_bl)) pss_nil)
      (pss_one (ps_ret (pe_cmpR op_le (pe_callB (cr_sumT rfl) (by rfl) T.n_sum (by decide +kernel) (pa_cons (pv 0) pa_nil)) (pe_glob (v := .int 8) rfl cM ⟨_, rfl⟩) (nomark _)))))), ?_⟩
    refine ⟨_, rfl, _, _, _, _, _, rfl, .ty _, hd.ty, kitT d, _, rfl, ?_⟩
    cases d with
    | tuple ds =>
      obtain ⟨a, xs, rfl, e, l⟩ : ∃ a xs, x = .ref a ∧ SqT K H a xs ∧ TvL K H xs ds := by
        cases hd with
        | tv t =>
          cases t with
          | tup e l => exact ⟨_, _, rfl, e, l⟩
      have ll := l.len
      refine ite2 (fun z => absurd z Bool.false_ne_true) (fun _ => ?_)
      refine ⟨.ref a, rfl, a, xs, rfl, .inr e, _, _, rfl, rfl, _, rfl, ?_⟩
      rw [ll]
      by_cases c1 : 1 ≤ (ds.length : Int)
      · refine iteP c1 ⟨_, _, rfl, rfl, _, rfl, ?_⟩
        by_cases c2 : (ds.length : Int) ≤ 3
        · rw [decide_eq_true c2]
          refine ite2 (fun z => absurd z Bool.false_ne_true) (fun _ => ?_)
          refine ⟨_, rfl, a, rfl, ⟨_, e⟩, fun D hD => ?_⟩
          have off : ∀ {Z : Hp} {o : HO}, Same H Z → Same H (upd Z D o) := fun sz b o h => by
            rw [upd_ne (ne_of_none h hD)]
            exact sz b o h
          refine lc_tup (K := K) (a := a) (xs := xs) (fun i H' => Same H H' ∧ H' D = some (.lst (((ds.take i).map fun d => btw d 2 6).map V.bl))) ⟨off (Same.refl H), upd_same⟩ (fun i H' _ h => sqt_same e h.1) ?_ ?_
          · rintro i x H' hx ⟨sm, hl⟩
            obtain ⟨d0, hd0, tv⟩ := l.get hx
            have il : i < ds.length := (List.getElem?_eq_some_iff.mp hd0).1
            refine ⟨rfl, ?_⟩
            unfold tYes
            refine ite2 (fun _ => ?_) (fun q => absurd rfl q)
            refine ⟨_, rfl, x, d0, 2, 6, rfl, .tv (tv.same sm), ?_⟩
            refine ⟨_, hl, Nat.lt_of_lt_of_le (show _ < 4 by rw [List.length_map, List.length_map, List.length_take]; omega) (by decide), off sm, ?_⟩
            have tk : ds.take (i + 1) = ds.take i ++ [d0] := by rw [List.take_succ, hd0]; rfl
            rw [upd_same, tk, List.map_append, List.map_append]
            rfl
          · rintro H' ⟨sm, hl⟩
            rw [ll, List.take_length] at hl
            refine ⟨D, ds.map fun d => btw d 2 6, rfl, .inl (.inl hl), _, rfl, ?_⟩
            have e1 : (ds.map fun d => btw d 2 6).all id = ds.all fun d => btw d 2 6 := by rw [List.all_map]; rfl
            rw [e1]
            have q' := q H' sm
            have z0 : isSh (.tuple ds) = ((decide (1 ≤ (ds.length : Int)) && decide ((ds.length : Int) ≤ 3)) && (ds.all (fun d => btw d 2 6) && decide (sumD ds ≤ 8))) := rfl
            rw [z0, decide_eq_true c1, decide_eq_true c2, Bool.true_and, Bool.true_and] at q'
            cases c3 : ds.all fun d => btw d 2 6 with
            | false =>
              rw [c3] at q'
              exact ite2 (fun _ => q') (fun z => absurd rfl z)
            | true =>
              rw [c3, Bool.true_and] at q'
              refine ite2 (fun z => absurd z Bool.false_ne_true) (fun _ => ?_)
              obtain ⟨ns, en, _⟩ := all_ints c3
              subst en
              rw [sum_ints] at q'
              have ex := l.ints
              exact ⟨_, rfl, a, ns, rfl, (by rw [← ex]; exact sqt_same e sm), _, _, rfl, rfl, q'⟩
        · rw [decide_eq_false c2]
          refine ite2 (fun _ => ?_) (fun z => absurd rfl z)
          have z : isSh (.tuple ds) = false := by
            show ((decide (1 ≤ (ds.length : Int)) && decide ((ds.length : Int) ≤ 3)) && _) = false
            rw [decide_eq_false c2, Bool.and_false, Bool.false_and]
          have q' := q H (Same.refl H)
          rw [z] at q'
          exact q'
      · refine iteQ c1 ⟨_, rfl, ite2 (fun _ => ?_) (fun z => absurd rfl z)⟩
        have z : isSh (.tuple ds) = false := by
          show ((decide (1 ≤ (ds.length : Int)) && decide ((ds.length : Int) ≤ 3)) && _) = false
          rw [decide_eq_false c1, Bool.false_and, Bool.false_and]
        have q' := q H (Same.refl H)
        rw [z] at q'
        exact q'
    | _ => exact ite2 (fun _ => ite2 (fun _ => q H (Same.refl H)) (fun z => absurd rfl z)) (fun z => absurd rfl z)
end
end K09

/-! # shapes, by the law -/
namespace K09
open PySem PySem.Spec PyProof.Rows L2
theorem btw_no {d : PyData} {lo hi : Int} (h : isW d = false) : btw d lo hi = false := by cases d <;> first | rfl | exact absurd (show true = false from h) (by decide)
theorem not_all {ds : List PyData} {i : Nat} {d : PyData} (h : ds[i]? = some d) (b : btw d 2 6 = false) : isSh (.tuple ds) = false := by
  have z : ds.all (fun d => btw d 2 6) = false := by
    cases e : ds.all (fun d => btw d 2 6) with
    | false => rfl
    | true =>
      have y := List.all_eq_true.mp e d (List.mem_of_getElem? h)
      rw [b] at y
      cases y
  show (_ && (ds.all (fun d => btw d 2 6) && _)) = false
  rw [z, Bool.false_and, Bool.and_false]
section
variable {P : Program} {w : World} {K : PySem.W.Frag} {mg : Str → Option Value} {base : Heap}
end
end K09

/-! # a value is drawn -/
namespace K09
open PySem PySem.Spec PyProof.Rows L2
inductive DwL (K : PySem.W.Frag) (H : Hp) : List V → List PyData → Prop
  | nil : DwL K H [] []
  | cons {x : V} {d : PyData} {xs : List V} {ds : List PyData} : Dw K H x d → DwL K H xs ds → DwL K H (x :: xs) (d :: ds)
theorem DwL.same {K : PySem.W.Frag} {H H' : Hp} (o : Same H H') : ∀ {xs : List V} {ds : List PyData}, DwL K H xs ds → DwL K H' xs ds
  | _, _, .nil => .nil
  | _, _, .cons h t => .cons (h.same o) (t.same o)
theorem DwL.get {K : PySem.W.Frag} {H : Hp} : ∀ {xs : List V} {ds : List PyData} {i : Nat} {x : V}, DwL K H xs ds → xs[i]? = some x → ∃ d, d ∈ ds ∧ Dw K H x d
  | _, _, _, _, .nil, h => by simp at h
  | _, _, 0, _, .cons a _, h => by
    rw [List.getElem?_cons_zero] at h
    obtain rfl := Option.some.inj h
    exact ⟨_, List.mem_cons_self .., a⟩
  | _, _, i + 1, _, .cons _ t, h => by
    rw [List.getElem?_cons_succ] at h
    obtain ⟨d, m, z⟩ := t.get h
    exact ⟨d, List.mem_cons_of_mem _ m, z⟩
theorem DwL.len {K : PySem.W.Frag} {H : Hp} : ∀ {xs : List V} {ds : List PyData}, DwL K H xs ds → xs.length = ds.length
  | _, _, .nil => rfl
  | _, _, .cons _ t => congrArg (· + 1) t.len
theorem Dw.old {K : PySem.W.Frag} {H H' : Hp} {u : Addr} {x : V} {d : PyData} (hu : Urn H u) (o : Old u H H') (h : Dw K H x d) (n : ∀ a b c : Int, d ≠ .list ([a, b, c].map .int)) : Dw K H' x d := by
  have off : ∀ {a : Addr} {v : HO}, H a = some v → (∀ g m c : Int, v ≠ .lst [.int g, .int m, .int c]) → a ≠ u := fun e n z => by
    obtain ⟨g, m, c, eu⟩ := hu
    rw [z, eu] at e
    exact n g m c (Option.some.inj e).symm
  cases h with
  | tv t => exact .tv (t.old hu o)
  | @lst a ns e =>
    refine .lst (o _ _ (off e fun g m c z => ?_) e)
    have z2 : ns.map V.int = [g, m, c].map V.int := HO.lst.inj z
    have inj : ∀ {l r : List Int}, l.map V.int = r.map V.int → l = r := fun {l r} h => by
      induction l generalizing r with
      | nil => cases r with
        | nil => rfl
        | cons _ _ => cases h
      | cons x l ih => cases r with
        | nil => cases h
        | cons y r =>
          rw [List.map_cons, List.map_cons] at h
          obtain ⟨h1, h2⟩ := List.cons.inj h
          rw [V.int.inj h1, ih h2]
    exact n g m c (by rw [inj z2])
  | dic e => exact .dic (o _ _ (off e fun g m c z => by cases z) e)
def noL3 : PyData → Bool
  | .list [_, _, _] => false
  | _ => true
theorem noL3_ok {d : PyData} (h : noL3 d = true) (a b c : Int) : d ≠ .list ([a, b, c].map .int) := fun z => by
  rw [z] at h
  cases h
/-! ### what an expression lays -/
def Lays (K : PySem.W.Frag) (σ : L2.St) (t : TE) (d : PyData) : Prop := ∀ (H : Hp) (Q : VK), (∀ x H', Same H H' → Tv K H' x d → Q x H') → t σ H Q
def LaysA (K : PySem.W.Frag) (σ : L2.St) (t : TA) (ds : List PyData) : Prop := ∀ (H : Hp) (Q : List V → Hp → Prop), (∀ xs H', Same H H' → TvL K H' xs ds → Q xs H') → t σ H Q
def LaysD (K : PySem.W.Frag) (σ : L2.St) (t : TE) (d : PyData) : Prop := ∀ (H : Hp) (Q : VK), (∀ x H', Same H H' → Dw K H' x d → Q x H') → t σ H Q
def LaysDA (K : PySem.W.Frag) (σ : L2.St) (t : TA) (ds : List PyData) : Prop := ∀ (H : Hp) (Q : List V → Hp → Prop), (∀ xs H', Same H H' → DwL K H' xs ds → Q xs H') → t σ H Q
section
variable {σ : L2.St}
theorem Lays.int {K : PySem.W.Frag} (n : Int) : Lays K σ (tC (.int n)) (.int n) := fun H Q q => q _ _ (Same.refl H) (.int n)
theorem Lays.str {K : PySem.W.Frag} (z : Str) : Lays K σ (tC (.str z)) (.str z) := fun H Q q => q _ _ (Same.refl H) (.str z)
theorem Lays.bl {K : PySem.W.Frag} (b : Bool) : Lays K σ (tC (.bl b)) (.bool b) := fun H Q q => q _ _ (Same.refl H) (.bl b)
theorem Lays.non {K : PySem.W.Frag} : Lays K σ (tC .non) .none := fun H Q q => q _ _ (Same.refl H) .non
theorem LaysA.nil {K : PySem.W.Frag} : LaysA K σ tNil [] := fun H Q q => q _ _ (Same.refl H) .nil
theorem LaysA.cons {K : PySem.W.Frag} {t : TE} {ts : TA} {d : PyData} {ds : List PyData} (h : Lays K σ t d) (hs : LaysA K σ ts ds) : LaysA K σ (tCons t ts) (d :: ds) := fun H Q q =>
  h H _ fun x H1 s1 t1 => hs H1 _ fun xs H2 s2 t2 => q (x :: xs) H2 (s1.trans s2) (.cons (t1.same s2) t2)
theorem Lays.tup {K : PySem.W.Frag} {ts : TA} {ds : List PyData} (hs : LaysA K σ ts ds) (l : ds.length ≤ 100) : Lays K σ (tTup ts) (.tuple ds) := fun H Q q =>
  hs H _ fun xs H1 s1 t1 => ⟨by rw [t1.len]; exact Nat.le_trans l (by decide), fun p np => q _ _ (s1.trans (sub_same np)) (.tup (sqt_new upd_same) (t1.same (sub_same np)))⟩
theorem Lays.d {K : PySem.W.Frag} {t : TE} {d : PyData} (h : Lays K σ t d) : LaysD K σ t d := fun H Q q => h H Q fun x H' s t => q x H' s (.tv t)
theorem LaysDA.nil {K : PySem.W.Frag} : LaysDA K σ tNil [] := fun H Q q => q _ _ (Same.refl H) .nil
theorem LaysDA.cons {K : PySem.W.Frag} {t : TE} {ts : TA} {d : PyData} {ds : List PyData} (h : LaysD K σ t d) (hs : LaysDA K σ ts ds) : LaysDA K σ (tCons t ts) (d :: ds) := fun H Q q =>
  h H _ fun x H1 s1 t1 => hs H1 _ fun xs H2 s2 t2 => q (x :: xs) H2 (s1.trans s2) (.cons (t1.same s2) t2)
theorem LaysD.lst {K : PySem.W.Frag} {ts : TA} {ns : List Int} (hs : LaysA K σ ts (ns.map .int)) (l : ns.length ≤ 100) : LaysD K σ (tLst ts) (.list (ns.map .int)) := fun H Q q =>
  hs H _ fun xs H1 s1 t1 => ⟨by rw [t1.len, List.length_map]; exact Nat.le_trans l (by decide), fun p np => q _ _ (s1.trans (sub_same np)) (.lst (by rw [upd_same, t1.ints]))⟩
theorem LaysD.dic {K : PySem.W.Frag} (m n : Int) : LaysD K σ (tDisp [(tC (.int m), tC (.int n))]) (.dict [(.int m, .int n)]) := fun H Q q p np => by
  refine ⟨upd_same, [(.inl m, .int n)], rfl, (by decide : 1 ≤ 15), q _ _ (fun b o e => ?_) (.dic upd_same)⟩
  rw [upd_ne (ne_of_none e np), upd_ne (ne_of_none e np)]
  exact e
theorem Lays.pow {K : PySem.W.Frag} (i j : Int) (h : CPowW i j) : Lays K σ (tOp (rI CPowW fun i j => .int (i ^ j.toNat)) (tC (.int i)) (tC (.int j))) (.int (i ^ j.toNat)) := fun H Q q => ⟨_, _, rfl, rfl, h, q _ _ (Same.refl H) (.int _)⟩
theorem lay_lst {K : PySem.W.Frag} {ts : TA} {ds : List PyData} (hs : LaysDA K σ ts ds) (l : ds.length ≤ 100) {H : Hp} {Q : VK} (q : ∀ xs H1 b, Same H H1 → H1 b = none → DwL K H1 xs ds → Q (.ref b) (upd H1 b (.lst xs))) : tLst ts σ H Q :=
  hs H _ fun xs H1 s1 t1 => ⟨by rw [t1.len]; exact Nat.le_trans l (by decide), fun b nb => q xs H1 b s1 nb t1⟩
end
section
variable {P : Program} {w : World} {K : PySem.W.Frag} {mg : Str → Option Value} {base : Heap}
end
end K09

/-! # places -/
namespace K09
open PySem PySem.Spec PyProof.Rows L2
abbrev Tri := Int × Int × Int
def triV (t : Tri) : List V := [.int t.1, .int t.2.1, .int t.2.2]
def triD (t : Tri) : PyData := .tuple [.int t.1, .int t.2.1, .int t.2.2]
/-- the places of the block b at the distance d, those of the first k rows -/
def rowsP (b d : Int) (k : Nat) : List Tri := (List.range k).map fun (r : Nat) => (b, (r : Int), (r : Int) + d)
/-- those of the first j blocks -/
def blkP (ns : List Int) (d : Int) (j : Nat) : List Tri := (List.range j).flatMap fun (b : Nat) => rowsP b d (ns.getD b 0 - d).toNat
/-- those at the first i distances -/
def disP (ns : List Int) (i : Nat) : List Tri := (List.range i).flatMap fun (e : Nat) => blkP ns (1 + (e : Int)) ns.length
def mx : List Int → Int
  | [] => 0
  | n :: r => r.foldl max n
/-- the places in their order -/
def pl (ns : List Int) : List Tri := disP ns (mx ns - 1).toNat
theorem rowsP_succ (b d : Int) (k : Nat) : rowsP b d (k + 1) = rowsP b d k ++ [(b, (k : Int), (k : Int) + d)] := by
  unfold rowsP
  rw [List.range_succ, List.map_append]
  rfl
theorem blkP_succ (ns : List Int) (d : Int) (j : Nat) : blkP ns d (j + 1) = blkP ns d j ++ rowsP j d (ns.getD j 0 - d).toNat := by
  unfold blkP
  rw [List.range_succ, List.flatMap_append, List.flatMap_singleton]
theorem disP_succ (ns : List Int) (i : Nat) : disP ns (i + 1) = disP ns i ++ blkP ns (1 + (i : Int)) ns.length := by
  unfold disP
  rw [List.range_succ, List.flatMap_append, List.flatMap_singleton]
theorem rowsP_len (b d : Int) (k : Nat) : (rowsP b d k).length = k := by
  unfold rowsP
  rw [List.length_map, List.length_range]
theorem blkP_len {ns : List Int} {d : Int} (b : ∀ n ∈ ns, 2 ≤ n ∧ n ≤ 6) (h : 0 ≤ d) : ∀ j, (blkP ns d j).length ≤ 6 * j
  | 0 => Nat.le_refl _
  | j + 1 => by
    rw [blkP_succ, List.length_append, rowsP_len]
    have z := blkP_len b h j
    have y : (ns.getD j 0 - d).toNat ≤ 6 := by
      have x : ns.getD j 0 ≤ 6 := by
        rw [List.getD_eq_getElem?_getD]
        cases e : ns[j]? with
        | none => show (0 : Int) ≤ 6; decide
        | some n => exact (b n (List.mem_of_getElem? e)).2
      omega
    omega
theorem disP_len {ns : List Int} (h : Shp ns) : ∀ i, (disP ns i).length ≤ 18 * i
  | 0 => Nat.le_refl _
  | i + 1 => by
    rw [disP_succ, List.length_append]
    have z := disP_len h i
    have y := blkP_len (d := 1 + (i : Int)) h.2.1 (by omega) ns.length
    have x := h.1.2
    omega
theorem mx_le {ns : List Int} (h : ∀ n ∈ ns, n ≤ 6) : mx ns ≤ 6 := by
  cases ns with
  | nil => show (0 : Int) ≤ 6; decide
  | cons n r =>
    show r.foldl max n ≤ 6
    have go : ∀ (r : List Int) (n : Int), n ≤ 6 → (∀ m ∈ r, m ≤ 6) → r.foldl max n ≤ 6 := fun r => by
      induction r with
      | nil => exact fun n h _ => h
      | cons m r ih =>
        intro n hn hr
        rw [List.foldl_cons]
        exact ih _ (Int.max_le.mpr ⟨hn, hr m (List.mem_cons_self ..)⟩) fun k hk => hr k (List.mem_cons_of_mem _ hk)
    exact go r n (h n (List.mem_cons_self ..)) fun m hm => h m (List.mem_cons_of_mem _ hm)
theorem fold_ge : ∀ (r : List Int) (n : Int), n ≤ r.foldl max n
  | [], n => Int.le_refl n
  | m :: r, n => Int.le_trans (Int.le_max_left n m) (fold_ge r (max n m))
/-- tracked triples -/
inductive TrL (H : Hp) : List V → List Tri → Prop
  | nil : TrL H [] []
  | cons {c : Addr} {t : Tri} {xs : List V} {ts : List Tri} : H c = some (.tup (triV t)) → TrL H xs ts → TrL H (.ref c :: xs) (t :: ts)
theorem TrL.same {H H' : Hp} (o : Same H H') : ∀ {xs : List V} {ts : List Tri}, TrL H xs ts → TrL H' xs ts
  | _, _, .nil => .nil
  | _, _, .cons e l => .cons (o _ _ e) (l.same o)
theorem TrL.old {H H' : Hp} {u : Addr} (hu : Urn H u) (o : Old u H H') : ∀ {xs : List V} {ts : List Tri}, TrL H xs ts → TrL H' xs ts
  | _, _, .nil => .nil
  | _, _, .cons (c := c) e l => .cons (o c _ (fun z => by
      obtain ⟨g, m, k, eu⟩ := hu
      rw [z, eu] at e
      cases e) e) (l.old hu o)
theorem TrL.put {H : Hp} {D : Addr} {ws ys : List V} (hd : H D = some (.lst ws)) : ∀ {xs : List V} {ts : List Tri}, TrL H xs ts → TrL (upd H D (.lst ys)) xs ts
  | _, _, .nil => .nil
  | _, _, .cons (c := c) e l => .cons ((upd_ne (fun z => by rw [z, hd] at e; cases e)).trans e) (l.put hd)
theorem TrL.snoc {H : Hp} {c : Addr} {t : Tri} (e : H c = some (.tup (triV t))) : ∀ {xs : List V} {ts : List Tri}, TrL H xs ts → TrL H (xs ++ [.ref c]) (ts ++ [t])
  | _, _, .nil => .cons e .nil
  | _, _, .cons a l => .cons a (l.snoc e)
theorem TrL.len {H : Hp} : ∀ {xs : List V} {ts : List Tri}, TrL H xs ts → xs.length = ts.length
  | _, _, .nil => rfl
  | _, _, .cons _ l => congrArg (· + 1) l.len
theorem TrL.tri {H : Hp} : ∀ {xs : List V} {ts : List Tri} {i : Nat} {x : V}, TrL H xs ts → xs[i]? = some x → ∃ t c, ts[i]? = some t ∧ x = .ref c ∧ H c = some (.tup (triV t))
  | _, _, _, _, .nil, h => by simp at h
  | _, _, 0, _, .cons e _, h => by
    rw [List.getElem?_cons_zero] at h
    obtain rfl := Option.some.inj h
    exact ⟨_, _, rfl, rfl, e⟩
  | _, _, i + 1, _, .cons _ l, h => by
    rw [List.getElem?_cons_succ] at h
    exact l.tri h
/-- an error class of the package that keeps nothing -/
structure OpX (K : PySem.W.Frag) (mg : Str → Option Value) (nm : Str) (C : Addr) : Prop where
  x : PySem.W.excIn K C [.type "ValueError", .type "Exception", .type "BaseException", .type "object"] "ValueError.__new__" = true
  g : mg nm = some (.ref C)
  k : PySem.W.keepIn K (.ref C) = true
  b : PySem.W.subIn K (.ref C) (.type "BaseException") = some true
  t : PySem.W.typeIn K (.ref C) = some (.type "type")
theorem tvl_ints {K : PySem.W.Frag} {Z : Hp} : ∀ l : List Int, TvL K Z (l.map V.int) (l.map .int)
  | [] => .nil
  | x :: r => .cons (.int x) (tvl_ints r)
theorem int_at {ns : List Int} {i : Nat} {x : V} (h : (ns.map V.int)[i]? = some x) : ∃ z : Int, ns[i]? = some z ∧ x = .int z := by
  rw [List.getElem?_map] at h
  cases e : ns[i]? with
  | none =>
    rw [e] at h
    cases h
  | some z =>
    rw [e] at h
    exact ⟨z, rfl, (Option.some.inj h).symm⟩
section
variable {P : Program} {w : World} {K : PySem.W.Frag} {mg : Str → Option Value} {base : Heap} {CS : Addr}
abbrev s_check : Stmt := topS 23
theorem sc_check : FnScope ["shape"] ["shape"] (defScope s_check) := ⟨rfl, rfl, rfl, by decide +kernel, rfl, by decide +kernel, by decide +kernel⟩
abbrev s_places : Stmt := topS 24
theorem sc_places : FnScope ["shape", "found", "distance", "block", "size", "row"] ["shape"] (defScope s_places) := ⟨rfl, rfl, rfl, by decide +kernel, rfl, by decide +kernel, by decide +kernel⟩
def spCheck (K : PySem.W.Frag) (CS : Addr) : Sp := fun vs H Q E => ∃ (x : V) (d : PyData), vs = [x] ∧ Dw K H x d ∧ (isSh d = true → ∀ H', Same H H' → Q .non H') ∧ (isSh d = false → ∀ H', Same H H' → E (.ref CS) none H')
theorem ok_check {f f1 : Addr} {fd fd1 : FuncData} {k : Nat} (T : Txt mg) (O : OpX K mg "InvalidShape" CS) (d : D K mg "check_shape" s_check ["shape"] f fd) (d1 : D K mg "is_shape" s_is_shape ["value"] f1 fd1) (G1 : FnOk P w K mg base CX0 3 f1 fd1 ["value"] (spShape K)) : FnOk P w K mg base (L2.CX P w) 4 f fd ["shape"] (spCheck K CS) := by
  refine d.F.okX sc_check (fun vs H Q E h => ?_) (fun cdv A outer s H vs Q E hr h => ?_)
  · obtain ⟨x, d, rfl, _⟩ := h
    rfl
  · obtain ⟨x, d, rfl, hd, q, qe⟩ := h
    refine ⟨_, (pss_one (ps_if (pt_not (pt_val (pe_call G1 (hr.mono (by decide)) (by rfl) d1.g d1.F.kp d1.b .nil pass0 (pa_cons (pv 0) pa_nil)))) (pss_one (ps_raise rfl (takes_of rfl rfl rfl rfl) (by exact (pmk_own PySem.F.excBase_ValueError O.x O.g O.k (raises_own O.b O.t) rfl)))) pss_nil)), ?_⟩
    refine ⟨_, rfl, x, d, rfl, hd, fun H' sm => ⟨_, rfl, ?_⟩⟩
    cases e : isSh d with
    | true => exact ite2 (fun z => absurd z Bool.false_ne_true) (fun _ => q e H' sm)
    | false => exact ite2 (fun _ => qe e H' sm) (fun z => absurd rfl z)
/-- the tuple of the places of a shape -/
def spPlaces (K : PySem.W.Frag) (CS : Addr) : Sp := fun vs H Q E => ∃ (x : V) (d : PyData), vs = [x] ∧ Dw K H x d ∧ (∀ ns, d = .tuple (ns.map .int) → Shp ns → ∀ H' y, Same H H' → (∃ o xs, y = .ref o ∧ H' o = some (.tup xs) ∧ TrL H' xs (pl ns)) → Q y H') ∧ (isSh d = false → ∀ H', Same H H' → E (.ref CS) none H')
theorem ok_places {f f1 : Addr} {fd fd1 : FuncData} (T : Txt mg) (N : Nam mg) (d : D K mg "places" s_places ["shape"] f fd) (d1 : D K mg "check_shape" s_check ["shape"] f1 fd1) (G1 : FnOk P w K mg base (L2.CX P w) 4 f1 fd1 ["shape"] (spCheck K CS)) : FnOk P w K mg base (L2.CX P w) 5 f fd ["shape"] (spPlaces K CS) := by
  refine d.F.okX sc_places (fun vs H Q E h => ?_) (fun cdv A outer s H vs Q E hr h => ?_)
  · obtain ⟨x, d, rfl, _⟩ := h
    rfl
  · obtain ⟨x, d, rfl, hd, q, qe⟩ := h
    have un : (A.deeper (envOfC "places" (defScope s_places) s.heap.objs.size f cdv)).units + 8 < cLine := by have := hr.un; omega
    refine ⟨_, (pss_cons (ps_expr (pe_call (E := E) G1 (hr.mono (by decide)) (by rfl) d1.g d1.F.kp d1.b .nil (passes_call (takes_of rfl rfl rfl rfl) (fun _ _ _ _ h => h)) (pa_cons (pv 0) pa_nil)))
      (pss_cons (ps_set (i := 1) sc_places.nd rfl (.inl rfl) (pe_lst pa_nil))
      (pss_cons (ps_for (passes_of rfl) rfl (pi_range2 (by rfl) T.n_range (pa_cons pe_int (pa_cons (pe_callB (cr_maxT rfl un) (by rfl) T.n_max (by decide +kernel) (pa_cons (pv 0) pa_nil)) pa_nil))) (pg_name (i := 2) sc_places.nd rfl (.inl rfl))
        (pss_one (ps_for (passes_of rfl) rfl (pi_enumT (by rfl) N.n_enumerate (pa_cons (pv 0) pa_nil)) (pg_tup rfl (pgs_cons (pg_name (i := 3) sc_places.nd rfl (.inl rfl)) (pgs_cons (pg_name (i := 4) sc_places.nd rfl (.inl rfl)) pgs_nil)))
        (pss_one (ps_for (passes_of rfl) rfl (pi_range1 (by rfl) T.n_range (pa_cons (pe_op op_sub (pv 4) (pv 2)) pa_nil)) (pg_name (i := 5) sc_places.nd rfl (.inl rfl))
        (pss_one (ps_expr (pe_bm PySem.F.plainAttrs_list PySem.F.slot_list_append PySem.F.type_list_append mt_append (pv 1) (pa_cons (pe_tup (pa_cons (pv 3) (pa_cons (pv 5) (pa_cons (pe_op op_add (pv 5) (pv 2)) pa_nil)))) pa_nil)))))))))
      (pss_one (ps_ret (pe_tupleOf (by rfl) T.n_tuple (pv 1))))))), ?_⟩
    refine ⟨_, rfl, x, d, rfl, hd, fun sh H1 s1 => ?_, fun sh H1 s1 => qe sh H1 s1⟩
    obtain ⟨ns, rfl, S⟩ := shp_of sh
    obtain ⟨a, rfl, e⟩ : ∃ a, x = .ref a ∧ SqT K H a (ns.map V.int) := by
      cases hd with
      | tv t =>
        cases t with
        | tup e l =>
          rw [l.ints] at e
          exact ⟨_, rfl, e⟩
    have q' := q ns rfl S
    have e1 := sqt_same e s1
    clear hd q qe e sh d
    refine ⟨(by show 0 ≤ sizeLine; decide), fun D nD => ?_⟩
    have off : ∀ {Z : Hp} {o : HO}, Same H1 Z → Same H1 (upd Z D o) := fun sz b o h => by
      rw [upd_ne (ne_of_none h nD)]
      exact sz b o h
    have sq : ∀ {Z : Hp}, Same H1 Z → SqT K Z a (ns.map V.int) := fun sz => sqt_same e1 sz
    obtain ⟨n0, nr, en⟩ : ∃ n0 nr, ns = n0 :: nr := by
      cases ns with
      | nil => exact absurd S.1.1 (by decide)
      | cons n r => exact ⟨n, r, rfl⟩
    have m6 := mx_le fun n hn => (S.2.1 n hn).2
    have em : mx ns = nr.foldl max n0 := by rw [en]; rfl
    have m2 : 0 ≤ mx ns := by
      have z := fold_ge nr n0
      have y := (S.2.1 n0 (by rw [en]; exact List.mem_cons_self ..)).1
      omega
    refine ⟨_, rfl, a, n0, nr, rfl, by rw [← en]; exact sq (sub_same nD), 1, nr.foldl max n0, rfl, ⟨by decide, by decide, by omega, by omega⟩, ?_⟩
    rw [← em]
    refine for_range (lo := 1) (n := (mx ns - 1).toNat) (fun i σ H' => (∃ y2 y3 y4 y5, σ = [some (.ref a), some (.ref D), y2, y3, y4, y5]) ∧ Same H1 H' ∧ ∃ xs, H' D = some (.lst xs) ∧ TrL H' xs (disP ns i)) ⟨⟨_, _, _, _, rfl⟩, sub_same nD, [], upd_same, .nil⟩ ?_ ?_
    · rintro i σ H2 hi ⟨⟨y2, y3, y4, y5, rfl⟩, s2, xs, hv, tv⟩
      refine ⟨_, rfl, a, _, rfl, sq s2, ?_⟩
      refine for_it (walk_enumT (K := K) (a := a) (xs := ns.map V.int)) (fun j σ H' => (∃ y3 y4 y5, σ = [some (.ref a), some (.ref D), some (.int (1 + (i : Int))), y3, y4, y5]) ∧ Same H1 H' ∧ ∃ xs, H' D = some (.lst xs) ∧ TrL H' xs (disP ns i ++ blkP ns (1 + (i : Int)) j)) ⟨⟨_, _, _, rfl⟩, s2, xs, hv, by rw [show blkP ns (1 + (i : Int)) 0 = [] from rfl, List.append_nil]; exact tv⟩ (fun j σ H' _ h => sq h.2.1) ?_ ?_
      · rintro j v σ H2' H3 hj ⟨⟨y3, y4, y5, rfl⟩, s3, xs, hv, tv⟩ ⟨T, x0, y0, rfl, nT, rfl, ex, ey⟩
        obtain rfl := Option.some.inj ex
        obtain ⟨z, ez, rfl⟩ := int_at ey
        have nTD : D ≠ T := fun z => by rw [← z, hv] at nT; cases nT
        have s4 := s3.trans (sub_same (o := .tup [V.int (j : Nat), V.int z]) nT)
        have hv4 := sub_same (o := .tup [V.int (j : Nat), V.int z]) nT _ _ hv
        have tv4 := tv.same (sub_same (o := .tup [V.int (j : Nat), V.int z]) nT)
        have hT : upd H2' T (.tup [V.int (j : Nat), V.int z]) T = some (.tup [V.int (j : Nat), V.int z]) := upd_same
        revert s4 hv4 tv4 hT
        generalize upd H2' T (.tup [V.int (j : Nat), V.int z]) = H4
        intro s4 hv4 tv4 hT
        have z6 := S.2.1 z (List.mem_of_getElem? ez)
        refine ⟨T, _, rfl, .inl (.inl hT), rfl, _, _, rfl, _, _, rfl, rfl, ?_⟩
        refine ⟨_, rfl, _, rfl, _, _, rfl, rfl, _, rfl, by omega, by omega, ?_⟩
        have ez2 : ns.getD j 0 = z := by rw [List.getD_eq_getElem?_getD, ez]; rfl
        refine for_range (lo := 0) (n := (z - (1 + (i : Int))).toNat) (fun k σ H' => (∃ y5, σ = [some (.ref a), some (.ref D), some (.int (1 + (i : Int))), some (.int (j : Nat)), some (.int z), y5]) ∧ Same H1 H' ∧ ∃ xs, H' D = some (.lst xs) ∧ TrL H' xs (disP ns i ++ blkP ns (1 + (i : Int)) j ++ rowsP (j : Nat) (1 + (i : Int)) k)) ⟨⟨_, rfl⟩, s4, xs, hv4, by rw [show rowsP (j : Nat) (1 + (i : Int)) 0 = [] from rfl, List.append_nil]; exact tv4⟩ ?_ ?_
        · rintro k σ H5 hk ⟨⟨y5, rfl⟩, s5, xs5, hv5, tv5⟩
          have sz : xs5.length < sizeLine := by
            rw [tv5.len, List.length_append, List.length_append, rowsP_len]
            have b1 := disP_len S i
            have b2 := blkP_len (d := 1 + (i : Int)) S.2.1 (by omega) j
            have b3 := S.1.2
            rw [List.length_map] at hj
            exact Nat.lt_of_lt_of_le (show _ < 1000 by omega) (by decide)
          refine ⟨_, rfl, .inl ⟨rfl, _, .inl (.inl hv5)⟩, _, rfl, _, rfl, _, rfl, _, rfl, _, _, rfl, rfl, (by show 3 ≤ sizeLine; decide), fun p np => ?_⟩
          have s6 := sub_same (o := .tup [V.int (j : Nat), V.int (0 + (k : Int)), V.int (0 + (k : Int) + (1 + (i : Int)))]) np
          refine ⟨D, xs5, _, rfl, rfl, s6 _ _ hv5, sz, ⟨_, rfl⟩, off (s5.trans s6), _, upd_same, ?_⟩
          have k0 : (0 : Int) + (k : Int) = k := by omega
          have one : (upd H5 p (.tup [V.int (j : Nat), V.int (0 + (k : Int)), V.int (0 + (k : Int) + (1 + (i : Int)))])) p = some (.tup (triV ((j : Int), (k : Int), (k : Int) + (1 + (i : Int))))) := by
            rw [k0]
            exact upd_same
          rw [rowsP_succ, ← List.append_assoc]
          exact ((tv5.same s6).snoc one).put (s6 _ _ hv5)
        · rintro σ H5 ⟨⟨y5, rfl⟩, s5, xs5, hv5, tv5⟩
          refine ⟨⟨_, _, _, rfl⟩, s5, xs5, hv5, ?_⟩
          rw [blkP_succ, ez2, ← List.append_assoc]
          exact tv5
      · rintro σ H3 ⟨⟨y3, y4, y5, rfl⟩, s3, xs, hv, tv⟩
        rw [List.length_map] at tv
        exact ⟨⟨_, _, _, _, rfl⟩, s3, xs, hv, by rw [disP_succ]; exact tv⟩
    · rintro σ H2 ⟨⟨y2, y3, y4, y5, rfl⟩, s2, xs, hv, tv⟩
      refine ⟨_, rfl, .inl ⟨D, xs, rfl, .inl (.inl hv), fun p np => ?_⟩⟩
      have s3 := sub_same (o := .tup xs) np
      exact q' _ _ (s1.trans (s2.trans s3)) ⟨_, _, rfl, upd_same, tv.same s3⟩
end
end K09

/-! # is_place -/
namespace K09
open PySem PySem.Spec PyProof.Rows L2
/-- whether three things are a place -/
def isP2 (s : Int) (i : PyData) : PyData → Bool
  | .int m => btw (.int m) 0 (s - 1) && btw i 0 (m - 1)
  | _ => false
def isP3 (ns : List Int) (b i j : PyData) : Bool := match b with
  | .int n => btw (.int n) 0 ((ns.length : Int) - 1) && isP2 (ns.getD n.toNat 0) i j
  | _ => false
def isPl (ns : List Int) : PyData → Bool
  | .tuple [b, i, j] => isP3 ns b i j
  | _ => false
theorem isPl_len {ns : List Int} {ds : List PyData} (h : ds.length ≠ 3) : isPl ns (.tuple ds) = false := by
  unfold isPl
  split
  · rename_i e
    cases e
    exact absurd rfl h
  · rfl
theorem btw_int {d : PyData} {lo hi : Int} (h : btw d lo hi = true) : ∃ n, d = .int n ∧ lo ≤ n ∧ n ≤ hi := by
  cases d with
  | int n =>
    have z : (decide (lo ≤ n) && decide (n ≤ hi)) = true := h
    rw [Bool.and_eq_true] at z
    exact ⟨n, rfl, of_decide_eq_true z.1, of_decide_eq_true z.2⟩
  | _ => exact absurd h Bool.false_ne_true
section
variable {P : Program} {w : World} {K : PySem.W.Frag} {mg : Str → Option Value} {base : Heap} {CS : Addr}
abbrev s_place : Stmt := topS 25
theorem sc_place : FnScope ["shape", "value", "block", "row", "column"] ["shape", "value"] (defScope s_place) := ⟨rfl, rfl, rfl, by decide +kernel, rfl, by decide +kernel, by decide +kernel⟩
def spPlace (K : PySem.W.Frag) (CS : Addr) : Sp := fun vs H Q E => ∃ (x y : V) (d e : PyData), vs = [x, y] ∧ Dw K H x d ∧ Dw K H y e ∧ (∀ ns, d = .tuple (ns.map .int) → Shp ns → ∀ H', Same H H' → Q (.bl (isPl ns e)) H') ∧ (isSh d = false → ∀ H', Same H H' → E (.ref CS) none H')
theorem ok_place {f f1 f2 : Addr} {fd fd1 fd2 : FuncData} (T : Txt mg) (d : D K mg "is_place" s_place ["shape", "value"] f fd) (d1 : D K mg "check_shape" s_check ["shape"] f1 fd1) (d2 : D K mg "is_index" s_is_index ["value", "many"] f2 fd2)
    (G1 : FnOk P w K mg base (L2.CX P w) 4 f1 fd1 ["shape"] (spCheck K CS)) (G2 : FnOk P w K mg base CX0 3 f2 fd2 ["value", "many"] (spIdx K)) : FnOk P w K mg base (L2.CX P w) 5 f fd ["shape", "value"] (spPlace K CS) := by
  refine d.F.okX sc_place (fun vs H Q E h => ?_) (fun cdv A outer s H vs Q E hr h => ?_)
  · obtain ⟨x, y, d, e, rfl, _⟩ := h
    rfl
  · obtain ⟨x, y, d, e, rfl, hd, he, q, qe⟩ := h
    refine ⟨_, (pss_cons (ps_expr (pe_call (E := E) G1 (hr.mono (by decide)) (by rfl) d1.g d1.F.kp d1.b .nil (passes_call (takes_of rfl rfl rfl rfl) (fun _ _ _ _ h => h)) (pa_cons (pv 0) pa_nil)))
      (pss_cons (ps_if (PW.pt (pw_or (pt_not (pt_val (pe_callB call_isi (by rfl) T.n_isinstance (by decide +kernel) (pa_cons (pv 1) (pa_cons (pe_bltn (v := .ty "tuple") (by rfl) T.n_tuple (by decide +kernel) rfl) pa_nil))))) (pw_or1 (pt_cmpR op_ne (pe_callB call_len_seq (by rfl) T.n_len PySem.boot_len (pa_cons (pv 1) pa_nil)) pe_int (nomark _))))) (pss_one (ps_ret pe_bl)) pss_nil)
      (pss_cons (ps_asg (pv 1) (pg_tup rfl (pgs_cons (pg_name (i := 2) sc_place.nd rfl (.inl rfl)) (pgs_cons (pg_name (i := 3) sc_place.nd rfl (.inl rfl)) (pgs_cons (pg_name (i := 4) sc_place.nd rfl (.inl rfl)) pgs_nil)))))
      (pss_cons (ps_if (pt_not (pt_val (pe_call G2 (hr.mono (by decide)) (by rfl) d2.g d2.F.kp d2.b .nil pass0 (pa_cons (pv 2) (pa_cons (pe_callB call_len_seq (by rfl) T.n_len PySem.boot_len (pa_cons (pv 0) pa_nil)) pa_nil))))) (pss_one (ps_ret pe_bl)) pss_nil)
      (pss_one (ps_ret (pe_and (pe_call G2 (hr.mono (by decide)) (by rfl) d2.g d2.F.kp d2.b .nil pass0 (pa_cons (pv 4) (pa_cons (pe_ix ix_tup (pv 0) (pv 2) (fun _ _ => rfl)) pa_nil))) (pe_one (pe_call G2 (hr.mono (by decide)) (by rfl) d2.g d2.F.kp d2.b .nil pass0 (pa_cons (pv 3) (pa_cons (pv 4) pa_nil))))))))))), ?_⟩
    refine ⟨_, rfl, x, d, rfl, hd, fun sh H1 s1 => ?_, fun sh H1 s1 => qe sh H1 s1⟩
    obtain ⟨ns, rfl, S⟩ := shp_of sh
    obtain ⟨a, rfl, ea⟩ : ∃ a, x = .ref a ∧ SqT K H a (ns.map V.int) := by
      cases hd with
      | tv t =>
        cases t with
        | tup e l =>
          rw [l.ints] at e
          exact ⟨_, rfl, e⟩
    have q' := q ns rfl S H1 s1
    have e1 := sqt_same ea s1
    have he1 := he.same s1
    clear hd q qe ea sh he
    refine ⟨_, rfl, _, _, _, _, _, rfl, .ty _, he1.ty, kitT e, _, rfl, ?_⟩
    cases e with
    | tuple ds =>
      obtain ⟨c, xs, rfl, ec, l⟩ : ∃ c xs, y = .ref c ∧ SqT K H1 c xs ∧ TvL K H1 xs ds := by
        cases he1 with
        | tv t =>
          cases t with
          | tup e l => exact ⟨_, _, rfl, e, l⟩
      have ll := l.len
      refine ite2 (fun z => absurd z Bool.false_ne_true) (fun _ => ?_)
      refine ⟨_, rfl, c, xs, rfl, .inr ec, rfl, _, rfl, ?_⟩
      by_cases l3 : ds.length = 3
      · have e3 : (!decide (V.int (xs.length : Nat) = V.int 3)) = false := by
          rw [ll, l3]
          rfl
        rw [e3]
        refine ite2 (fun z => absurd z Bool.false_ne_true) (fun _ => ?_)
        obtain ⟨b, i, j, rfl⟩ : ∃ b i j, ds = [b, i, j] := by
          match ds, l3 with
          | [b, i, j], _ => exact ⟨b, i, j, rfl⟩
        obtain ⟨x1, x2, x3, rfl, t1, t2, t3⟩ : ∃ x1 x2 x3, xs = [x1, x2, x3] ∧ Tv K H1 x1 b ∧ Tv K H1 x2 i ∧ Tv K H1 x3 j := by
          cases l with
          | cons a l => cases l with
            | cons b l => cases l with
              | cons c l =>
                cases l
                exact ⟨_, _, _, rfl, a, b, c⟩
        refine ⟨_, rfl, c, _, rfl, ec, rfl, _, _, rfl, _, _, rfl, _, _, rfl, rfl, ?_⟩
        have qf : Q (.bl (isP3 ns b i j)) H1 := q'
        refine ⟨_, rfl, _, rfl, a, _, rfl, .inr e1, x1, b, _, rfl, .tv t1, _, rfl, ?_⟩
        rw [List.length_map]
        cases cb : btw b 0 ((ns.length : Int) - 1) with
        | false =>
          have z : isP3 ns b i j = false := by
            unfold isP3
            cases b with
            | int n =>
              show (btw (.int n) 0 ((ns.length : Int) - 1) && _) = false
              rw [cb, Bool.false_and]
            | _ => rfl
          rw [z] at qf
          exact ite2 (fun _ => qf) (fun z => absurd rfl z)
        | true =>
          refine ite2 (fun z => absurd z Bool.false_ne_true) (fun _ => ?_)
          obtain ⟨n, rfl, n0, n1⟩ := btw_int cb
          cases t1
          obtain ⟨n, rfl⟩ : ∃ k : Nat, n = (k : Int) := ⟨n.toNat, by omega⟩
          have nl : n < ns.length := by omega
          have gd : ns.getD n 0 = ns[n] := by rw [List.getD_eq_getElem?_getD, List.getElem?_eq_getElem nl]; rfl
          have z : isP3 ns (.int (n : Int)) i j = isP2 ns[n] i j := by
            show (btw (.int (n : Int)) 0 ((ns.length : Int) - 1) && isP2 (ns.getD n 0) i j) = _
            rw [cb, Bool.true_and, gd]
          rw [z] at qf
          refine ⟨_, rfl, _, rfl, _, rfl, a, _, n, .int ns[n], rfl, rfl, e1, atI_nat (by rw [List.getElem?_map, List.getElem?_eq_getElem nl]; rfl), x3, j, ns[n], rfl, .tv t3, _, rfl, ?_⟩
          cases cj : btw j 0 (ns[n] - 1) with
          | false =>
            have z2 : isP2 ns[n] i j = false := by
              cases j with
              | int m =>
                show (btw (.int m) 0 (ns[n] - 1) && _) = false
                rw [cj, Bool.false_and]
              | _ => rfl
            rw [z2] at qf
            exact iteF qf
          | true =>
            obtain ⟨m, rfl, m0, m1⟩ := btw_int cj
            cases t3
            have qg : Q (.bl (btw (.int m) 0 (ns[n] - 1) && btw i 0 (m - 1))) H1 := qf
            rw [cj, Bool.true_and] at qg
            exact iteT ⟨_, rfl, _, rfl, x2, i, m, rfl, .tv t2, qg⟩
      · have e3 : (!decide (V.int (xs.length : Nat) = V.int 3)) = true := by
          rw [ll, decide_eq_false (fun z => l3 (by have := V.int.inj z; omega))]
          rfl
        rw [e3]
        rw [isPl_len l3] at q'
        exact ite2 (fun _ => q') (fun z => absurd rfl z)
    | _ => exact ite2 (fun _ => ite2 (fun _ => q') (fun z => absurd rfl z)) (fun z => absurd rfl z)
end
end K09

/-! # places, by the law -/
namespace K09
open PySem PySem.Spec PyProof.Rows L2
abbrev Quad := Int × Int × Int × Int
def quadI (t : Quad) : List Int := [t.1, t.2.1, t.2.2.1, t.2.2.2]
def quadD (t : Quad) : PyData := .tuple ((quadI t).map .int)
def rowQ (b s : Int) (r : Nat) : Nat → List Quad := fun k => (List.range k).map fun (c : Nat) => ((r : Int) + 1 + (c : Int) - (r : Int), b, (r : Int), (r : Int) + 1 + (c : Int))
def blkQ (b s : Int) (k : Nat) : List Quad := (List.range k).flatMap fun (r : Nat) => rowQ b s r (s - ((r : Int) + 1)).toNat
def allQ (ns : List Int) (j : Nat) : List Quad := (List.range j).flatMap fun (b : Nat) => blkQ b (ns.getD b 0) (ns.getD b 0).toNat
theorem rowQ_succ (b s : Int) (r k : Nat) : rowQ b s r (k + 1) = rowQ b s r k ++ [((r : Int) + 1 + (k : Int) - (r : Int), b, (r : Int), (r : Int) + 1 + (k : Int))] := by
  unfold rowQ
  rw [List.range_succ, List.map_append]
  rfl
theorem blkQ_succ (b s : Int) (k : Nat) : blkQ b s (k + 1) = blkQ b s k ++ rowQ b s k (s - ((k : Int) + 1)).toNat := by
  unfold blkQ
  rw [List.range_succ, List.flatMap_append, List.flatMap_singleton]
theorem allQ_succ (ns : List Int) (j : Nat) : allQ ns (j + 1) = allQ ns j ++ blkQ j (ns.getD j 0) (ns.getD j 0).toNat := by
  unfold allQ
  rw [List.range_succ, List.flatMap_append, List.flatMap_singleton]
/-- the places with their distances -/
def plQ (ns : List Int) : List Quad := (pl ns).map fun t => (t.2.2 - t.2.1, t.1, t.2.1, t.2.2)
/-! ### the thirty shapes -/
def r5 : List Int := [2, 3, 4, 5, 6]
theorem r5_mem {n : Int} (h : 2 ≤ n ∧ n ≤ 6) : n ∈ r5 := by
  have z : n = 2 ∨ n = 3 ∨ n = 4 ∨ n = 5 ∨ n = 6 := by omega
  rcases z with rfl | rfl | rfl | rfl | rfl <;> decide
def shapesL : List (List Int) := ((r5.map fun a => [a]) ++ (r5.flatMap fun a => r5.map fun b => [a, b]) ++ (r5.flatMap fun a => r5.flatMap fun b => r5.map fun c => [a, b, c])).filter fun l => decide (l.sum ≤ 8)
theorem shp_mem {ns : List Int} (S : Shp ns) : ns ∈ shapesL := by
  obtain ⟨⟨h1, h2⟩, b, s⟩ := S
  refine List.mem_filter.mpr ⟨?_, decide_eq_true s⟩
  match ns, h1, h2, b with
  | [a], _, _, b => exact List.mem_append_left _ (List.mem_append_left _ (List.mem_map.mpr ⟨a, r5_mem (b a (by simp)), rfl⟩))
  | [a, c], _, _, b => exact List.mem_append_left _ (List.mem_append_right _ (List.mem_flatMap.mpr ⟨a, r5_mem (b a (by simp)), List.mem_map.mpr ⟨c, r5_mem (b c (by simp)), rfl⟩⟩))
  | [a, c, d], _, _, b => exact List.mem_append_right _ (List.mem_flatMap.mpr ⟨a, r5_mem (b a (by simp)), List.mem_flatMap.mpr ⟨c, r5_mem (b c (by simp)), List.mem_map.mpr ⟨d, r5_mem (b d (by simp)), rfl⟩⟩⟩)
  | _ :: _ :: _ :: _ :: _, _, h2, _ => exact absurd h2 (by simp)
  | [], h1, _, _ => exact absurd h1 (by simp)
theorem tables : ∀ ns ∈ shapesL, (plQ ns).Perm (allQ ns ns.length) ∧ (plQ ns).Pairwise (fun p q => TS.code 8 (quadI p) ≤ TS.code 8 (quadI q)) ∧ (∀ p ∈ plQ ns, ∀ q ∈ plQ ns, TS.code 8 (quadI p) = TS.code 8 (quadI q) → p = q) ∧ (∀ p ∈ plQ ns, ∀ m ∈ quadI p, 0 ≤ m ∧ m < 8) ∧ (plQ ns).length < 64 ∧ 0 < (pl ns).length := by decide +kernel
theorem uniq {α : Type} (k : α → Int) : ∀ {l r : List α}, l.Perm r → l.Pairwise (fun x y => k x ≤ k y) → r.Pairwise (fun x y => k x ≤ k y) → (∀ x ∈ l, ∀ y ∈ l, k x = k y → x = y) → l = r
  | [], r, h, _, _, _ => (List.Perm.nil_eq h)
  | x :: l, [], h, _, _, _ => absurd h.length_eq (by simp)
  | x :: l, y :: r, h, hl, hr, inj => by
    have mx : x ∈ y :: r := h.mem_iff.mp (List.mem_cons_self ..)
    have my : y ∈ x :: l := h.mem_iff.mpr (List.mem_cons_self ..)
    have a1 : k y ≤ k x := by
      rcases List.mem_cons.mp mx with rfl | m
      · exact Int.le_refl _
      · exact (List.pairwise_cons.mp hr).1 x m
    have a2 : k x ≤ k y := by
      rcases List.mem_cons.mp my with rfl | m
      · exact Int.le_refl _
      · exact (List.pairwise_cons.mp hl).1 y m
    have e := inj x (List.mem_cons_self ..) y my (by omega)
    subst e
    rw [uniq k (List.Perm.cons_inv h) (List.pairwise_cons.mp hl).2 (List.pairwise_cons.mp hr).2 fun p hp q hq => inj p (List.mem_cons_of_mem _ hp) q (List.mem_cons_of_mem _ hq)]
theorem TvL.perm {K : PySem.W.Frag} {H : Hp} {α : Type} (f : α → PyData) {xs ys : List V} (h : xs.Perm ys) : ∀ {ts : List α}, TvL K H xs (ts.map f) → ∃ qs : List α, qs.Perm ts ∧ TvL K H ys (qs.map f) := by
  induction h with
  | nil =>
    intro ts t
    cases ts with
    | nil => exact ⟨[], .nil, .nil⟩
    | cons _ _ => cases t
  | cons x _ ih =>
    intro ts t
    cases ts with
    | nil => cases t
    | cons q ts =>
      cases t with
      | cons a t =>
        obtain ⟨qs, p, z⟩ := ih t
        exact ⟨q :: qs, p.cons q, .cons a z⟩
  | swap x y l =>
    intro ts t
    match ts, t with
    | [], t => cases t
    | [_], t =>
      cases t with
      | cons _ t => cases t
    | p :: q :: ts, t =>
      cases t with
      | cons a t => cases t with
        | cons b t => exact ⟨q :: p :: ts, .swap _ _ _, .cons b (.cons a t)⟩
  | trans _ _ ih1 ih2 =>
    intro ts t
    obtain ⟨qs, p, z⟩ := ih1 t
    obtain ⟨rs, p2, z2⟩ := ih2 z
    exact ⟨rs, p2.trans p, z2⟩
theorem quad_tup {K : PySem.W.Frag} {H : Hp} {x : V} {q : Quad} (h : Tv K H x (quadD q)) : TupI K H x (quadI q) := by
  cases h with
  | tup e l =>
    have z : TvL K H _ ((quadI q).map .int) := l
    rw [z.ints] at e
    exact ⟨_, rfl, e⟩
theorem quads_pair {K : PySem.W.Frag} {H : Hp} : ∀ {ys : List V} {qs : List Quad}, TvL K H ys (qs.map quadD) → ys.Pairwise (fun x y => ∀ n m, TupI K H x n → TupI K H y m → TS.code 8 n ≤ TS.code 8 m) → qs.Pairwise fun p q => TS.code 8 (quadI p) ≤ TS.code 8 (quadI q)
  | [], [], _, _ => .nil
  | [], _ :: _, h, _ => by cases h
  | _ :: _, [], h, _ => by cases h
  | y :: ys, q :: qs, h, p => by
    cases h with
    | cons a t =>
      rw [List.pairwise_cons] at p
      refine List.pairwise_cons.mpr ⟨fun r hr => ?_, quads_pair t p.2⟩
      obtain ⟨i, hi⟩ := List.getElem?_of_mem hr
      have li : i < ys.length := by
        have z := t.len
        rw [List.length_map] at z
        have := (List.getElem?_eq_some_iff.mp hi).1
        omega
      obtain ⟨d, ed, td⟩ := t.get (List.getElem?_eq_getElem li)
      rw [List.getElem?_map, hi] at ed
      obtain rfl := Option.some.inj ed
      exact p.1 _ (List.getElem_mem li) _ _ (quad_tup a) (quad_tup td)
theorem rowQ_len (b s : Int) (r k : Nat) : (rowQ b s r k).length = k := by
  unfold rowQ
  rw [List.length_map, List.length_range]
theorem blkQ_len {s : Int} (h : s ≤ 6) (b : Int) : ∀ k, (blkQ b s k).length ≤ 6 * k
  | 0 => Nat.le_refl _
  | k + 1 => by
    rw [blkQ_succ, List.length_append, rowQ_len]
    have z := blkQ_len h b k
    omega
theorem allQ_len {ns : List Int} (b : ∀ n ∈ ns, 2 ≤ n ∧ n ≤ 6) : ∀ j, (allQ ns j).length ≤ 36 * j
  | 0 => Nat.le_refl _
  | j + 1 => by
    rw [allQ_succ, List.length_append]
    have z := allQ_len b j
    have x : ns.getD j 0 ≤ 6 := by
      rw [List.getD_eq_getElem?_getD]
      cases e : ns[j]? with
      | none => show (0 : Int) ≤ 6; decide
      | some n => exact (b n (List.mem_of_getElem? e)).2
    have y := blkQ_len x j (ns.getD j 0).toNat
    omega
section
variable {P : Program} {w : World} {K : PySem.W.Frag} {mg : Str → Option Value} {base : Heap}
def spLPlaces (K : PySem.W.Frag) : Sp := fun vs H Q _ => ∃ (a : Addr) (ns : List Int), vs = [.ref a] ∧ SqT K H a (ns.map V.int) ∧ Shp ns ∧ ∀ H' p xs, Same H H' → H p = none → H' p = some (.lst xs) → TrL H' xs (pl ns) → Q (.ref p) H'
end
end K09

/-! # whether a value is a place, by the law -/
namespace K09
open PySem PySem.Spec PyProof.Rows L2
mutual
theorem Tv.dp (K : PySem.W.Frag) {H : Hp} : ∀ {x : V} {d : PyData}, Tv K H x d → Dp K H x d
  | _, _, .non => .non
  | _, _, .bl b => .bl b
  | _, _, .int i => .int i
  | _, _, .str z => .str z
  | _, _, .tup e l => .tup e (l.dp K)
theorem TvL.dp (K : PySem.W.Frag) {H : Hp} : ∀ {xs : List V} {ds : List PyData}, TvL K H xs ds → DpAll K H xs ds
  | _, _, .nil => .nil
  | _, _, .cons h t => .cons (h.dp K) (t.dp K)
end
theorem tables2 : ∀ ns ∈ shapesL, SeqAt.shaped (.list ((pl ns).map triD)) = true ∧ (∀ t ∈ pl ns, isPl ns (triD t) = true) ∧ ((List.range 3).all fun b => (List.range 6).all fun i => (List.range 6).all fun j => !isPl ns (triD ((b : Nat), (i : Nat), (j : Nat))) || decide ((((b : Nat) : Int), ((i : Nat) : Int), ((j : Nat) : Int)) ∈ pl ns)) = true := by decide +kernel
theorem all_whole : ∀ {ds : List PyData}, ds.all isW = true → ∃ ms : List Int, ds = ms.map .int
  | [], _ => ⟨[], rfl⟩
  | d :: r, h => by
    rw [List.all_cons, Bool.and_eq_true] at h
    obtain ⟨ms, e⟩ := all_whole h.2
    cases d with
    | int n => exact ⟨n :: ms, by rw [e]; rfl⟩
    | _ => exact absurd h.1 Bool.false_ne_true
theorem isP3_ints {ns : List Int} {b i j : PyData} (h : isP3 ns b i j = true) : ∃ n k m : Int, b = .int n ∧ i = .int k ∧ j = .int m ∧ 0 ≤ n ∧ n < ns.length ∧ 0 ≤ k ∧ k < m ∧ 0 ≤ m ∧ m < ns.getD n.toNat 0 := by
  cases b with
  | int n =>
    have z : (btw (.int n) 0 ((ns.length : Int) - 1) && isP2 (ns.getD n.toNat 0) i j) = true := h
    rw [Bool.and_eq_true] at z
    obtain ⟨_, e, n0, n1⟩ := btw_int z.1
    cases e
    cases j with
    | int m =>
      have y : (btw (.int m) 0 (ns.getD n.toNat 0 - 1) && btw i 0 (m - 1)) = true := z.2
      rw [Bool.and_eq_true] at y
      obtain ⟨_, e, m0, m1⟩ := btw_int y.1
      cases e
      obtain ⟨k, rfl, k0, k1⟩ := btw_int y.2
      exact ⟨n, k, m, rfl, rfl, rfl, n0, by omega, k0, by omega, m0, by omega⟩
    | _ => exact absurd z.2 Bool.false_ne_true
  | _ => exact absurd h Bool.false_ne_true
theorem isPl_whole {ns : List Int} {ds : List PyData} (h : isPl ns (.tuple ds) = true) : ds.all isW = true := by
  match ds, h with
  | [b, i, j], h =>
    obtain ⟨n, k, m, rfl, rfl, rfl, _⟩ := isP3_ints (show isP3 ns b i j = true from h)
    rfl
  | [], h => exact absurd h Bool.false_ne_true
  | [_], h => exact absurd h Bool.false_ne_true
  | [_, _], h => exact absurd h Bool.false_ne_true
  | _ :: _ :: _ :: _ :: _, h => exact absurd h Bool.false_ne_true
theorem eqv_ints : ∀ {ms ks : List Int}, PyData.eqvAll (ms.map .int) (ks.map .int) = decide (ms = ks)
  | [], [] => rfl
  | [], _ :: _ => rfl
  | _ :: _, [] => rfl
  | m :: ms, k :: ks => by
    show ((m == k) && PyData.eqvAll (ms.map .int) (ks.map .int)) = decide (m :: ms = k :: ks)
    rw [eqv_ints, Bool.eq_iff_iff]
    simp
def triI (t : Tri) : List Int := [t.1, t.2.1, t.2.2]
theorem triI_inj {t u : Tri} (h : triI t = triI u) : t = u := by
  obtain ⟨a, b, c⟩ := t
  obtain ⟨d, e, f⟩ := u
  cases h
  rfl
theorem any_pl {ns : List Int} (S : Shp ns) (ms : List Int) : (((pl ns).map triD).any fun z => PyData.eqv z (.tuple (ms.map .int))) = isPl ns (.tuple (ms.map .int)) := by
  obtain ⟨_, t2, t3⟩ := tables2 ns (shp_mem S)
  have ev : ∀ t : Tri, PyData.eqv (triD t) (.tuple (ms.map .int)) = decide (triI t = ms) := fun t => by
    show PyData.eqvAll ((triI t).map .int) (ms.map .int) = _
    rw [eqv_ints]
  rw [Bool.eq_iff_iff, List.any_eq_true]
  constructor
  · rintro ⟨z, hz, e⟩
    obtain ⟨t, ht, rfl⟩ := List.mem_map.mp hz
    rw [ev] at e
    have e' := of_decide_eq_true e
    have y := t2 t ht
    rw [← e']
    exact y
  · intro h
    obtain ⟨n, k, m, e⟩ : ∃ n k m, ms = [n, k, m] := by
      match ms, h with
      | [n, k, m], _ => exact ⟨n, k, m, rfl⟩
      | [], h => exact absurd h Bool.false_ne_true
      | [_], h => exact absurd h Bool.false_ne_true
      | [_, _], h => exact absurd h Bool.false_ne_true
      | _ :: _ :: _ :: _ :: _, h => exact absurd h Bool.false_ne_true
    subst e
    obtain ⟨_, _, _, e1, e2, e3, n0, n1, k0, k1, m0, m1⟩ := isP3_ints (show isP3 ns (.int n) (.int k) (.int m) = true from h)
    cases e1
    cases e2
    cases e3
    have l3 := S.1.2
    have g6 : ns.getD n.toNat 0 ≤ 6 := by
      rw [List.getD_eq_getElem?_getD]
      cases e : ns[n.toNat]? with
      | none => show (0 : Int) ≤ 6; decide
      | some n => exact (S.2.1 n (List.mem_of_getElem? e)).2
    obtain ⟨n, rfl⟩ : ∃ c : Nat, n = (c : Int) := ⟨n.toNat, by omega⟩
    obtain ⟨k, rfl⟩ : ∃ c : Nat, k = (c : Int) := ⟨k.toNat, by omega⟩
    obtain ⟨m, rfl⟩ : ∃ c : Nat, m = (c : Int) := ⟨m.toNat, by omega⟩
    have y0 := List.all_eq_true.mp (List.all_eq_true.mp (List.all_eq_true.mp t3 n (List.mem_range.mpr (by omega))) k (List.mem_range.mpr (by omega))) m (List.mem_range.mpr (by omega))
    have hh : isPl ns (triD ((n : Nat), (k : Nat), (m : Nat))) = true := h
    rw [hh, Bool.not_true, Bool.false_or] at y0
    have y := of_decide_eq_true y0
    exact ⟨_, List.mem_map.mpr ⟨_, y, rfl⟩, by rw [ev]; exact decide_eq_true rfl⟩
theorem call_isiK {X : Cx} {K : PySem.W.Frag} (h : X.K = K) : CallR X (.builtin "isinstance") (rIsi K) := by
  subst h
  exact call_isi
section
variable {P : Program} {w : World} {K : PySem.W.Frag} {mg : Str → Option Value} {base : Heap}
end
end K09

/-! # a value near a place -/
namespace K09
open PySem PySem.Spec PyProof.Rows L2
/-- fit for the comparison -/
def Fit (d : PyData) : Prop := ∀ ds, d = .tuple ds → PyData.canLayAll0 ds = true ∧ PyData.depthAll ds ≤ 2 ∧ ds.length ≤ 10
theorem Dw.oldR {K : PySem.W.Frag} {H H' : Hp} {u : Addr} {x : V} {d : PyData} (hu : Urn H u) (o : Old u H H') (h : Dw K H x d) (n : x ≠ .ref u) : Dw K H' x d := by
  cases h with
  | tv t => exact .tv (t.old hu o)
  | lst e => exact .lst (o _ _ (fun z => n (by rw [z])) e)
  | dic e => exact .dic (o _ _ (fun z => n (by rw [z])) e)
/-! ### what an expression lays where J stands -/
structure DnL (K : PySem.W.Frag) (u : Addr) (H : Hp) (xs : List V) (ds : List PyData) : Prop where
  d : DwL K H xs ds
  n : ∀ x ∈ xs, x ≠ .ref u
def LJ (K : PySem.W.Frag) (J : Hp → Prop) (u : Addr) (σ : L2.St) (t : TE) (d : PyData) : Prop := ∀ (H : Hp) (Q : VK), J H → (∀ x H', Same H H' → Dw K H' x d → x ≠ .ref u → Q x H') → t σ H Q
def LJA (K : PySem.W.Frag) (J : Hp → Prop) (u : Addr) (σ : L2.St) (t : TA) (ds : List PyData) : Prop := ∀ (H : Hp) (Q : List V → Hp → Prop), J H → (∀ xs H', Same H H' → DnL K u H' xs ds → Q xs H') → t σ H Q
theorem LJA.nil {K : PySem.W.Frag} {J : Hp → Prop} {u : Addr} {σ : L2.St} : LJA K J u σ tNil [] := fun H Q _ q => q _ _ (Same.refl H) ⟨.nil, fun x h => by cases h⟩
theorem LJA.cons {K : PySem.W.Frag} {J : Hp → Prop} (st : ∀ {H H' : Hp}, Same H H' → J H → J H') {u : Addr} {σ : L2.St} {t : TE} {ts : TA} {d : PyData} {ds : List PyData} (h : LJ K J u σ t d) (hs : LJA K J u σ ts ds) : LJA K J u σ (tCons t ts) (d :: ds) := fun H Q j q =>
  h H _ j fun x H1 s1 t1 n1 => hs H1 _ (st s1 j) fun xs H2 s2 t2 => q (x :: xs) H2 (s1.trans s2) ⟨.cons (t1.same s2) t2.d, fun y hy => (List.mem_cons.mp hy).elim (fun e => by rw [e]; exact n1) (t2.n y)⟩
theorem lay_lstJ {K : PySem.W.Frag} {J : Hp → Prop} {u : Addr} {σ : L2.St} {ts : TA} {ds : List PyData} (hs : LJA K J u σ ts ds) (l : ds.length ≤ 100) {H : Hp} {Q : VK} (j : J H) (q : ∀ xs H1 b, Same H H1 → H1 b = none → DnL K u H1 xs ds → Q (.ref b) (upd H1 b (.lst xs))) : tLst ts σ H Q :=
  hs H _ j fun xs H1 s1 t1 => ⟨by rw [t1.d.len]; exact Nat.le_trans l (by decide), fun b nb => q xs H1 b s1 nb t1⟩
theorem DwL.at {K : PySem.W.Frag} {H : Hp} : ∀ {xs : List V} {ds : List PyData} {i : Nat} {x : V}, DwL K H xs ds → xs[i]? = some x → ∃ d, ds[i]? = some d ∧ Dw K H x d
  | _, _, _, _, .nil, h => by simp at h
  | _, _, 0, _, .cons a _, h => by
    rw [List.getElem?_cons_zero] at h
    obtain rfl := Option.some.inj h
    exact ⟨_, rfl, a⟩
  | _, _, i + 1, _, .cons _ t, h => by
    rw [List.getElem?_cons_succ] at h
    exact t.at h
theorem TvL.set {K : PySem.W.Frag} {H : Hp} : ∀ {xs : List V} {ds : List PyData} {x : V} {d : PyData} (k : Nat), TvL K H xs ds → Tv K H x d → TvL K H (xs.set k x) (ds.set k d)
  | _, _, _, _, _, .nil, _ => .nil
  | _, _, _, _, 0, .cons _ t, h => .cons h t
  | _, _, _, _, k + 1, .cons a t, h => .cons a (t.set k h)
end K09

/-! # dict comprehensions whose keys are tuples -/
namespace K09
open PySem PySem.Spec PyProof.Rows L2
variable {X : Cx}
theorem dset_tup {pins : List (Addr × Obj)} {σ : L2.St} {H : Hp} {s : Shared} {E : Value → Shared → Prop} {D b : Addr} {ps : List (List L2.Key × V)} {k : List L2.Key} {v : V} {r : Value} {Q : Unit → Shared → Prop} (hu : X.A.units + 1 < cLine) (I : Inv X pins σ H s) (eD : H D = some (.dT ps))
    (eb : H b = some (.tup (k.map kV))) (l : ps.length < sizeLine) (rv : RelV v r) (q : ∀ s', Inv X pins σ (upd H D (.dT (putK ps k v))) s' → Q () s') : wpAny (model X.prog X.w) X.A (dictSet D (.ref b) r) Q E s := by
  obtain ⟨z, sm, xs, pr, dd⟩ := dt_of I.hok eD
  have zx : xs.length ≤ sizeLine := by rw [← Paired.length pr]; exact z
  refine wpAny_dictSet_heap (by show X.A.units < cLine; omega) (key_of I.hok eb) dd (fun h' new sb => ?_) zx
  obtain ⟨o, es, ep, n1, n2, n3, n4, n5, n6⟩ := new
  have zl := length_putK ps k v
  have pk : KT (upd H D (.dT (putK ps k v))) (putK ps k v) _ := (pr.put k eb rv).keeps fun c ys ec => by
    rw [upd_ne (fun e => by rw [e, eD] at ec; cases ec)]
    exact ec
  exact q _ (d_write I (by rw [eD]; trivial) sb ⟨o, n1⟩ ⟨by omega, sm, _, pk, o, es, ep, n1, n2, n3, n4, n6⟩)
/-- {k: v for target in iter if ..}, the keys tuples: D the new dict -/
def tDcT (wi : TI) (g : TG) (tt : TT) (tk tv : TE) (vs : List Nat) : TE := fun σ H Q => wi σ H fun J H1 => ∀ D, H1 D = none → ∃ W : Nat → Nat → Hp → Prop, (∃ m, W 0 m (upd H1 D (.dT []))) ∧ ∀ i m G, W i m G →
  (J.stop i G ∧ Q (.ref D) G) ∨ (J.go i G ∧ ∃ Nx : Hp → Prop, (∀ G', Nx G' → ∃ m', m' < m ∧ W (i + 1) m' G') ∧ ∀ x G', J.yld i G x G' → g x (wipe σ vs) G' fun σ2 G2 => wipe σ2 vs = wipe σ vs ∧ tt σ2 G2 fun c G3 =>
    if c = true then tk σ2 G3 fun y G4 => tv σ2 G4 fun z G5 => ∃ ps k b, y = .ref b ∧ G5 b = some (.tup (k.map kV)) ∧ G5 D = some (.dT ps) ∧ ps.length < sizeLine ∧ Nx (upd G5 D (.dT (putK ps k z))) else Nx G3)
theorem pe_dcT {kx vx tg l : Expr} {ifs : List Expr} {scope : Scope} {own : List (Str × Nat)} {pos : Pos} {wi : TI} {g : TG} {tt : TT} {tk tv : TE} (calm : X.calm = true) (un : X.A.units + 1 < cLine) (nd : X.N.Nodup) (src : PI X tg l wi) (bo : BlkOk X.N X.env.scope scope own)
    (tgt : ∀ (s : Shared) (H : Hp) (C : Addr) (cl : List (Str × Addr)) (fp : List Addr), PG (X.blk s H scope (compEnvC scope cl C X.env) fp) tg g)
    (tst : ∀ (s : Shared) (H : Hp) (C : Addr) (cl : List (Str × Addr)) (fp : List Addr), PTs (X.blk s H scope (compEnvC scope cl C X.env) fp) ifs tt)
    (key : ∀ (s : Shared) (H : Hp) (C : Addr) (cl : List (Str × Addr)) (fp : List Addr), PE (X.blk s H scope (compEnvC scope cl C X.env) fp) kx tk)
    (itm : ∀ (s : Shared) (H : Hp) (C : Addr) (cl : List (Str × Addr)) (fp : List Addr), PE (X.blk s H scope (compEnvC scope cl C X.env) fp) vx tv) (fs : ∀ x, foldedSetIterable l X.env x = pure x := by intro _; rfl) :
    PE X (.DictComp kx vx [⟨tg, l, ifs, 0⟩] scope pos) (tDcT wi g tt tk tv (own.map (·.2))) := by
  constructor
  intro pins s σ H Q I h
  rw [arm_eval_DictComp]
  have clo : ∀ y ∈ scope.names, y.2 = .free → ∃ c, X.env.cells.lookup y.1 = some c := fun y m e => (bo.free y m e).elim (fun k => I.ok.has _ (.inl k)) fun k => I.ok.has _ (.inr k)
  refine wpAny_comprehension_free (use := none) rfl fs (closure_ok clo) bo.kind (fun y m e => by rw [bo.uniq y m, e]) ?_
  refine thn (src.run pins s σ H _ I h) fun v1 s1 hv => thn hv fun v2 s2 w2 => ?_
  obtain ⟨it, fp, tn, J, H1, rfl, I2, T, ton, off, more⟩ := w2
  -- the new dict
  generalize hD : s2.heap.objs.size = D
  have freeD : H1 D = none := I2.hok.fresh (Nat.le_of_eq hD)
  obtain ⟨W, ⟨m0, w0⟩, turn⟩ := more D freeD
  have J0 : Inv X pins σ (upd H1 D (.dT [])) { s2 with heap := s2.heap.push { cls := .type "dict", data := .dict #[] } } :=
    I2.laid (t' := s2.toks) (fun b o e => Heap.get?_push_of_some _ e) (Nat.le_of_eq hD) (by rw [← hD]; exact dt_empty s2.heap I2.big)
  have low : ∀ b ∈ fp, b < s2.heap.objs.size := fun b m => by
    obtain ⟨_, e, _⟩ := T.obj _ _ ton b m
    exact Heap.lt_size e
  have ton0 : tn 0 ({ s2 with heap := s2.heap.push { cls := .type "dict", data := .dict #[] } } : Shared).heap := T.keep _ _ _ ton fun b _ o e => Heap.get?_push_of_some _ e
  have okB : ∀ b ∈ fp, FpOk X pins (upd H1 D (.dT [])) b ∧ b < ({ s2 with heap := s2.heap.push { cls := .type "dict", data := .dict #[] } } : Shared).heap.objs.size := fun b m =>
    ⟨⟨(upd_ne (by rw [← hD]; exact Nat.ne_of_lt (low b m))).trans (off b m).1, (off b m).2⟩, Nat.lt_of_lt_of_le (low b m) (by show _ ≤ (s2.heap.push _).objs.size; rw [Heap.size_push]; exact Nat.le_succ _)⟩
  refine wpAny_newObj_type (newEnv_comp ?_)
  rw [hD]
  generalize hs3 : ({ s2 with heap := s2.heap.push { cls := .type "dict", data := .dict #[] } } : Shared) = s3 at J0 ton0 okB
  have B0 := block_start J0 bo nd okB
  have gT := tgt s3 (upd H1 D (.dT [])) s3.heap.objs.size (cellsFrom (s3.heap.objs.size + 1) scope.names (cloFrom X.env.cells scope.names [])) fp
  have gC := tst s3 (upd H1 D (.dT [])) s3.heap.objs.size (cellsFrom (s3.heap.objs.size + 1) scope.names (cloFrom X.env.cells scope.names [])) fp
  have gK := key s3 (upd H1 D (.dT [])) s3.heap.objs.size (cellsFrom (s3.heap.objs.size + 1) scope.names (cloFrom X.env.cells scope.names [])) fp
  have gI := itm s3 (upd H1 D (.dT [])) s3.heap.objs.size (cellsFrom (s3.heap.objs.size + 1) scope.names (cloFrom X.env.cells scope.names [])) fp
  change codeAny _ _ (.compStart (.DictComp kx vx [⟨tg, l, ifs, 0⟩] scope pos) 0 (.ref it) (.ref D) (compEnvC scope (cellsFrom (s3.heap.objs.size + 1) scope.names (cloFrom X.env.cells scope.names [])) s3.heap.objs.size X.env)) (compPost (model X.prog X.w) X.A X.xe none (EP X pins σ Q) (.ref D) s3.heap.objs.size) { s3 with heap := pushCells (s3.heap.push { cls := .type "dict", data := .dict #[] }) scope.names }
  have loc0 : (compEnvC scope (cellsFrom (s3.heap.objs.size + 1) scope.names (cloFrom X.env.cells scope.names [])) s3.heap.objs.size X.env).locals = s3.heap.objs.size := rfl
  generalize compEnvC scope (cellsFrom (s3.heap.objs.size + 1) scope.names (cloFrom X.env.cells scope.names [])) s3.heap.objs.size X.env = ce at B0 gT gC gK gI loc0 ⊢
  have ton4 : tn 0 (pushCells (s3.heap.push { cls := .type "dict", data := .dict #[] }) scope.names) := T.keep _ _ _ ton0 fun b _ o e => pushCells_keeps _ _ _ _ (Heap.get?_push_of_some _ e)
  generalize hs4 : ({ s3 with heap := pushCells (s3.heap.push { cls := .type "dict", data := .dict #[] }) scope.names } : Shared) = s4 at B0 ⊢
  have ton4' : tn 0 s4.heap := by rw [← hs4]; exact ton4
  have out : ∀ b ∈ fp, upd H1 D (.dT []) b = none := fun b m => (okB b m).1.1
  generalize upd H1 D (.dT []) = H3 at *
  have stays : ∀ {τ : L2.St} {G : Hp} {t : Shared}, Inv (X.blk s3 H3 scope ce fp) [] τ G t → (∀ b ∈ fp, G b = none) → ∀ b ∈ fp, FpOk (X.blk s3 H3 scope ce fp) [] G b := fun {τ G t} J e b m =>
    ⟨e b m, (J.ok.exf b m).1, J.ok.exfs b m, .inl m, (J.ok.exf b m).2, fun p hp => by cases hp⟩
  have loop : codeAny (model X.prog X.w) X.A (.compLoop (.DictComp kx vx [⟨tg, l, ifs, 0⟩] scope pos) 0 (.ref it) (.ref D) ce) (compPost (model X.prog X.w) X.A X.xe none (EP X pins σ Q) (.ref D) s3.heap.objs.size) s4 := by
    refine compLoop_anyD (fun n t => ∃ i G, Inv (X.blk s3 H3 scope ce fp) [] (wipe σ (own.map (·.2))) G t ∧ tn i t.heap ∧ (∀ b ∈ fp, G b = none) ∧ W i n G) ?_ m0 ⟨0, H3, B0, ton4', out, w0⟩
    rintro n t ⟨i, G, K, kt, kn, kw⟩
    rcases turn i n G kw with ⟨stop, done⟩ | ⟨go, Nx, nx, step⟩
    · refine thnF (T.done (X.blk s3 H3 scope ce fp) rfl rfl rfl calm i [] t _ G (fun _ _ => False) K (stays K kn) kt stop) fun r t1 ⟨er, K1⟩ => ?_
      subst er
      have J2 : Inv X pins σ G t1 := J0.call' (ch := fp) K1.os K1.base K1.hok K1.bare fun b m => by
        obtain ⟨⟨_, o1, o2, o3, o4, o5⟩, _⟩ := okB b m
        exact ⟨o3, o1, o4, o5⟩
      have nC : G s3.heap.objs.size = none := by
        rw [← loc0]
        exact K1.free
      obtain ⟨mm, ns, _⟩ := K1.loc
      refine ⟨mm, by rw [← loc0]; exact ns, fun h2 sb => ?_⟩
      obtain ⟨d0, d1, d2, d3, d4, d5⟩ := J0.fpOk (Nat.le_refl _) nC
      exact ⟨.ref D, G, J2.turned (t' := t1.toks) (fun b o ne e => (sb.2 b ne).trans e) d0 d1 d3 d4 d5, rfl, done⟩
    · refine thnF (T.item (X.blk s3 H3 scope ce fp) rfl rfl rfl calm i [] t _ G (fun _ _ => False) K (stays K kn) kt go) fun r t1 ⟨u, er, w1⟩ => ?_
      subst er
      refine thnF w1 fun _ t2 ⟨x, G2, K2, ru, yl, kt2, kn2⟩ => ?_
      have st := step x G2 yl
      refine thnF (gT.run _ t2 _ G2 x u _ (K2.pinned (stays K2 kn2) (T.obj _ _ kt2)) ru st) fun _ t3 ⟨σ3, G3, K3, hw, q3⟩ => ?_
      refine thnF (gC.run _ t3 σ3 G3 _ K3 q3) fun c t4 ⟨G4, K4, q4⟩ => ?_
      have again : ∀ {r : Shared} {G' : Hp}, Inv (X.blk s3 H3 scope ce fp) ([] ++ pinsAt fp t2.heap) σ3 G' r → Nx G' → ∃ m, m < n ∧ ∃ i G, Inv (X.blk s3 H3 scope ce fp) [] (wipe σ (own.map (·.2))) G r ∧ tn i r.heap ∧ (∀ b ∈ fp, G b = none) ∧ W i m G := fun {r G'} R x => by
        obtain ⟨m', lt, w'⟩ := nx G' x
        have pi : ∀ b ∈ fp, ∀ o, t2.heap.get? b = some o → r.heap.get? b = some o ∧ G' b = none := fun b m o e => by
          have y := R.pin (b, o) (List.mem_append_right _ (List.mem_append_right _ (mem_pinsAt m e)))
          exact ⟨y.1, y.2.1⟩
        have same : (wipe σ (own.map (·.2))).length = σ3.length := by rw [← hw, wipe_length]
        refine ⟨m', lt, i + 1, G', (R.unpinned (pins := [])).weak same (fun j v e => ?_), T.keep _ _ _ kt2 fun b m o e => (pi b m o e).1, fun b m => ?_, w'⟩
        · rw [← hw] at e
          exact (wipe_some e).1
        · obtain ⟨o, e, _⟩ := T.obj _ _ kt2 b m
          exact (pi b m o e).2
      cases c with
      | false =>
        rw [if_neg (by decide)] at q4 ⊢
        exact again K4 q4
      | true =>
        rw [if_pos rfl] at q4 ⊢
        refine thnF (gK.run _ t4 σ3 G4 _ K4 q4) fun y t5 ⟨yk, G5, K5, rk, q5⟩ => ?_
        refine thnF (gI.run _ t5 σ3 G5 _ K5 q5) fun z t6 ⟨zv, G6, K6, rz, ps, k, b, a1, a2, a3, a4, a5⟩ => ?_
        subst a1
        obtain rfl : y = Value.ref b := rk
        exact dset_tup (X := X.blk s3 H3 scope ce fp) un K6 a3 a2 a4 rz fun t7 K7 => again K7 a5
  exact codeAny_compStart_dict loop (T.self X.A 0 _ _ _ ton4' loop)
end K09

/-! # the pairs of a dict whose keys are tuples -/
namespace K09
open PySem PySem.Spec PyProof.Rows L2
variable {X : Cx} {pins : List (Addr × Obj)} {σ : L2.St} {H : Hp} {s : Shared}
theorem frz_pairs {d : Addr} {o : Obj} {ps : List (List L2.Key × V)} (I : Inv X pins σ H s) (e : H d = some (.frz o (.dT ps))) :
    (d == sysModules) = false ∧ s.heap.get? d = some o ∧ o.ExactDict ∧ ∃ (es : Array DictEntry) (ep : Nat), o.data = .dict es ep ∧ es.size = ps.length ∧
      ∀ (i : Nat) (k : List L2.Key) (v : V) (li : i < es.size), ps[i]? = some (k, v) → ∃ q : Addr, es[i].key = .ref q ∧ H q = some (.tup (k.map kV)) ∧ RelV v es[i].val := by
  obtain ⟨ob, z, sm, xs, pr, o2, es, ep, h1, h2, h3, h4, _⟩ := I.hok d _ e
  obtain rfl : o2 = o := Option.some.inj (h1.symm.trans ob)
  have n1 : es.size = xs.length := size_of_entries h4
  have n2 : ps.length = xs.length := Paired.length pr
  refine ⟨sm, ob, h2, es, ep, h3, by omega, fun i k v li ek => ?_⟩
  obtain ⟨b, hb, e1, e2, e3⟩ := paired_get pr ek
  have y := entry_at h4 i
  rw [hb, Array.getElem?_eq_getElem li] at y
  have w := Option.some.inj y
  exact ⟨b.2.1, by rw [w]; rfl, e2, by rw [w]; exact e3⟩
/-- the pairs, each a new tuple -/
def ItiT (d : Addr) (o : Obj) (ps : List (List L2.Key × V)) : It :=
  ⟨fun i H => H d = some (.frz o (.dT ps)) ∧ i < ps.length, fun i H x H' => ∃ (T q : Addr) (k : List L2.Key) (v : V), ps[i]? = some (k, v) ∧ H q = some (.tup (k.map kV)) ∧ x = .ref T ∧ H T = none ∧ H' = upd H T (.tup [.ref q, v]), fun i H => H d = some (.frz o (.dT ps)) ∧ ps.length ≤ i⟩
theorem turn_itemsT {P : Program} {w : World} {K : PySem.W.Frag} {ps : List (List L2.Key × V)} {elts : List Expr} {kk : Nat} {tpos : Pos} {d : Addr} {o : Obj} {es : Array DictEntry} {ep : Nat} (it : Addr) (od : o.data = .dict es ep) :
    Turn P w K (.Tuple elts kk tpos) (ItiT d o ps) [it] it (fun i h => ∃ a b, IsItemIter h it d i ps.length ep a b) where
  mem := List.mem_singleton.mpr rfl
  obj := fun i h st b m => by
    rw [List.mem_singleton.mp m]
    obtain ⟨_, _, e⟩ := st
    exact ⟨_, e, fun v z => nomatch z⟩
  keep := fun i h h' st k => by
    obtain ⟨a, b, e⟩ := st
    exact ⟨a, b, k it (List.mem_singleton.mpr rfl) _ e⟩
  item := by
    intro X e1 e2 e3 hc i pins s σ H E I hf st go
    subst e1 e2 e3
    obtain ⟨hd, li⟩ := go
    obtain ⟨sm, ob, ox, es2, ep2, dat, n, all⟩ := frz_pairs I hd
    obtain ⟨rfl, rfl⟩ := dict_ep od dat
    obtain ⟨a, b, hi⟩ := st
    rw [← n] at hi li
    obtain ⟨⟨k, v⟩, ek⟩ : ∃ p, ps[i]? = some p := ⟨ps[i], List.getElem?_eq_getElem (by omega)⟩
    obtain ⟨q, k1, k2, k3⟩ := all i k v li ek
    have low : it < s.heap.objs.size := Heap.lt_size hi
    refine DT.nextI hi ⟨o, ob, ox, od⟩ li fun h' out hT _ hk => ?_
    refine ⟨_, rfl, wpAny_letOwnedTupleGo_items (s := { s with heap := h' }) out fun h2 in2 sb => ?_⟩
    have T2 : h2.get? s.heap.objs.size = some { cls := .type "tuple", data := .seq #[es2[i].key, es2[i].val] } := (sb.2 _ (Nat.ne_of_gt low)).trans hT
    have new : ObjOk X.prog X.w (upd H s.heap.objs.size (.tup [.ref q, v])) h2 s.heap.objs.size (.tup [.ref q, v]) :=
      ⟨by show 2 ≤ sizeLine; decide, [es2[i].key, es2[i].val], .cons k1 (.cons k3 .nil), ⟨_, T2, rfl, _, rfl⟩⟩
    have J : Inv X pins σ (upd H s.heap.objs.size (.tup [.ref q, v])) { s with heap := h2 } :=
      I.turnedNew (t' := s.toks) (ch := [it]) (fun c ob hb e => (sb.2 c (fun z => hb (by rw [z]; exact List.mem_singleton.mpr rfl))).trans (hk c ob (fun z => hb (by rw [z]; exact List.mem_singleton.mpr rfl)) e)) hf (Nat.le_refl _) new
    refine ⟨.ref s.heap.objs.size, _, J, rfl, ⟨_, q, k, v, ek, k2, rfl, I.hok.fresh (Nat.le_refl _), rfl⟩, ⟨es2[i].key, es2[i].val, ?_⟩, fun c m => ?_⟩
    · rw [← n]; exact in2
    · rw [List.mem_singleton.mp m, upd_ne (Nat.ne_of_lt low)]
      exact (hf it (List.mem_singleton.mpr rfl)).1
  done := by
    intro X e1 e2 e3 hc i pins s σ H E I hf st go
    subst e1 e2 e3
    obtain ⟨hd, li⟩ := go
    obtain ⟨sm, ob, ox, es2, ep2, dat, n, _⟩ := frz_pairs I hd
    obtain ⟨rfl, rfl⟩ := dict_ep od dat
    obtain ⟨f0, f1, f2, f3, f4, f5⟩ := hf it (List.mem_singleton.mpr rfl)
    obtain ⟨a, b, hi⟩ := st
    rw [← n] at hi li
    exact DT.endI (I.ok.hd hc) hi ⟨o, ob, ox, od⟩ li fun h' eb => ⟨rfl, I.turned (t' := s.toks) (fun c o2 ne e => eb c o2 ne e) f0 f1 f3 f4 f5⟩
  self := fun A i s Q E st h => by
    obtain ⟨_, _, e⟩ := st
    exact PySem.W.kcp_self e h
/-- d.items(), d locked -/
def iItemsT (td : TE) : TI := fun σ H R => td σ H fun x H1 => ∃ d o ps, x = .ref d ∧ H1 d = some (.frz o (.dT ps)) ∧ R (ItiT d o ps) H1
theorem pi_itemsT {e : Expr} {td : TE} {apos cpos tpos : Pos} {elts : List Expr} {kk : Nat} (src : PE X e td) (base : attributeBase e "items" X.env (eval e X.env) = eval e X.env := by rfl) (line : (apos.endLine == cpos.line) = true := by rfl) :
    PI X (.Tuple elts kk tpos) (.Call (.Attribute e "items" apos) [] [] cpos) (iItemsT td) := by
  constructor
  intro pins s σ H R I h
  refine wpAny_Call_method (T := "dict") (id := "dict.items") base rfl line F.plainAttrs_dict F.slot_dict_items F.type_dict_items (thn (src.run pins s σ H _ I h) fun u s1 w1 => ?_)
  obtain ⟨x, H1, I1, rx, d, o, ps, rfl, hd, q⟩ := w1
  obtain rfl : u = Value.ref d := rx
  obtain ⟨sm, ob, ox, es, ep, dat, n, _⟩ := frz_pairs I1 hd
  have raw : DT.Raw s1.heap d es ep := ⟨o, ob, ox, dat⟩
  refine ⟨raw.typeIs, fun b z => ?_, ?_⟩
  · cases z
    exact ⟨o, ob, ox.2.1⟩
  · have I2 : Inv X pins σ H1 { s1 with heap := s1.heap.push { cls := .type "dict_items", data := .fields #[.ref d] } } := I1.kept (t' := s1.toks) fun b ob q => Heap.get?_push_of_some _ q
    show wpAny _ _ (callWith cpos (.builtin "dict.items") [.ref d] [] []) _ X.xe s1
    refine method_meetsIn F.slot_dict_items F.entry_dict_items rfl (PySem.evalArgs_none ⟨rfl, raw.typeIs, F.args_dict_items_1 _, _, DT.meetsItems (es := es) (ep := ep) sm, raw, ?_⟩)
    refine DT.iterI (d := d) (es := es) (ep := ep) ⟨_, Heap.get?_push_size _ rfl, rfl, rfl⟩ (raw.push _) (pi_one (tk := s1.toks) I2 _ (turn_itemsT _ dat) ⟨.none, .none, ?_⟩ q)
    rw [← n]
    exact Heap.get?_push_size _ rfl
/-- all of them -/
theorem walk_itemsT {K : PySem.W.Frag} {d : Addr} {o : Obj} {ps : List (List L2.Key × V)} {J : Nat → Hp → Prop} {i : Nat} {H : Hp} (e : H d = some (.frz o (.dT ps))) (l : i < ps.length) : (ItiT d o ps).go i H := ⟨e, l⟩
end K09

/-! # dict(pairs), the keys tuples -/
namespace K09
open PySem PySem.Spec PyProof.Rows L2
def putAll (acc : List (List L2.Key × V)) (ps : List (List L2.Key × V)) : List (List L2.Key × V) := ps.foldl (fun a p => putK a p.1 p.2) acc
theorem putAll_len : ∀ (ps acc : List (List L2.Key × V)), (putAll acc ps).length ≤ acc.length + ps.length
  | [], acc => Nat.le_refl _
  | p :: ps, acc => by
    have h1 := putAll_len ps (putK acc p.1 p.2)
    have h2 := length_putK acc p.1 p.2
    show (putAll (putK acc p.1 p.2) ps).length ≤ acc.length + (ps.length + 1)
    omega
theorem putAll_new : ∀ (ps acc : List (List L2.Key × V)), ((acc ++ ps).map (·.1)).Nodup → putAll acc ps = acc ++ ps
  | [], acc, _ => (List.append_nil acc).symm
  | p :: ps, acc, n => by
    have e : valV acc p.1 = none := by
      cases q : valV acc p.1 with
      | none => rfl
      | some v =>
        exfalso
        have m : p.1 ∈ acc.map (·.1) := by
          have y := valV_any p.1 acc
          rw [q] at y
          obtain ⟨z, z1, z2⟩ := List.any_eq_true.mp y
          exact List.mem_map.mpr ⟨z, z1, of_decide_eq_true z2⟩
        rw [List.map_append, List.nodup_append] at n
        exact n.2.2 p.1 m p.1 (List.mem_map.mpr ⟨p, List.mem_cons_self, rfl⟩) rfl
    have r : acc ++ p :: ps = (acc ++ [(p.1, p.2)]) ++ ps := by rw [List.append_assoc]; rfl
    show putAll (putK acc p.1 p.2) ps = _
    rw [putK_new p.2 e, r]
    exact putAll_new ps _ (by rw [← r]; exact n)
theorem kt_all {H : Hp} : ∀ {ps : List (List L2.Key × V)} {zs : List (List L2.Key × Addr × Value)} {acc : List (List L2.Key × V)} {ys : List (List L2.Key × Addr × Value)}, KT H ps zs → KT H acc ys → KT H (putAll acc ps) (storedAllH ys zs)
  | _, _, _, _, .nil, k => k
  | _, _, _, _, .cons (a := p) (b := z) h t, k => by
    obtain ⟨h1, h2, h3⟩ := h
    refine kt_all t (acc := putK _ p.1 p.2) (ys := storedH _ z.1 z.2.1 z.2.2) ?_
    rw [← h1]
    exact k.put p.1 h2 h3
section
variable {X : Cx} {pins : List (Addr × Obj)} {σ : L2.St} {H : Hp} {s : Shared}
/-- the pair at t: a key's tuple and a value -/
def PrT (H : Hp) (t : Addr) (p : List L2.Key × V) : Prop := ∃ q, H t = some (.tup [.ref q, p.2]) ∧ H q = some (.tup (p.1.map kV))
theorem pairs_tup (I : Inv X pins σ H s) : ∀ {ts : List Addr} {ps : List (List L2.Key × V)}, Paired (PrT H) ts ps → ∃ zs : List (List L2.Key × Addr × Value), KT H ps zs ∧ ts.length = zs.length ∧
    ∀ (j : Nat) (z : List L2.Key × Addr × Value), zs[j]? = some z → ∃ t, ts[j]? = some t ∧ s.heap.IsTuple t #[.ref z.2.1, z.2.2]
  | _, _, .nil => ⟨[], .nil, rfl, fun j z e => by simp at e⟩
  | _, _, .cons (a := t) (b := p) h r => by
    obtain ⟨zs, k, n, all⟩ := pairs_tup I r
    obtain ⟨q, h1, h2⟩ := h
    obtain ⟨its, rv, p', _⟩ := I.tuple (.inl (.inl h1))
    obtain ⟨u1, u2, rfl, r1, r2⟩ := vals2 rv
    obtain rfl : u1 = Value.ref q := r1
    refine ⟨(p.1, q, u2) :: zs, .cons ⟨rfl, h2, r2⟩ k, by simp [n], fun j z e => ?_⟩
    cases j with
    | zero =>
      obtain rfl := Option.some.inj e
      exact ⟨t, rfl, p'⟩
    | succ j => exact all j z e
def rDictT (K : PySem.W.Frag) : List V → Hp → VK → Prop := fun vs H Q => ∃ (a : Addr) (ts : List Addr) (ps : List (List L2.Key × V)), vs = [.ref a] ∧ SqL K H a (ts.map V.ref) ∧ Paired (PrT H) ts ps ∧
  ∀ p, H p = none → Q (.ref p) (upd H p (.dT (putAll [] ps)))
theorem call_dictTup (calm : X.calm = true) (un : X.A.units + 2 < cLine) : CallR X (.type "dict") (rDictT X.K) := by
  intro pins s σ H xs us Q I r h
  obtain ⟨a, ts, ps, rfl, hq, pr, q⟩ := h
  obtain ⟨u, rfl, rx⟩ := vals1 r
  cases rx
  obtain ⟨its, rv, pl, hz⟩ := I.list hq
  obtain rfl := refs_at rv
  obtain ⟨zs, k, n, all⟩ := pairs_tup I pr
  obtain ⟨o, c, ho, hc, hd, dat⟩ := pl
  rw [List.length_map] at hz
  have PA := PairArg.list (prog := X.prog) (w := X.w) a (ts.map Value.ref).toArray (fun j => (ts[j]?).getD 0) (zs.map fun z => (Value.ref z.2.1, z.2.2))
  have lp : ps.length = zs.length := Paired.length k
  refine call_dict_pairsH (knd := tupleKind (mixKind X.prog X.w)) (ps := zs) PA (I.ok.hd calm) (by show X.A.units + 2 < cLine; exact un) ⟨⟨o, c, ho, hc, hd, dat⟩, by simp [n], fun j kv v e => ?_⟩ ⟨by simp, fun i kv v e => ?_⟩ (fun h' ke z m => ?_) (by simp; omega) fun h' tk hd' ke => ?_
  · rw [List.getElem?_map] at e
    obtain ⟨z, e1, e2⟩ := Option.map_eq_some_iff.mp e
    obtain ⟨t, t1, t2⟩ := all j z e1
    cases e2
    exact ⟨by simp [t1], .inl (by show s.heap.IsTuple ((ts[j]?).getD 0) _; rw [t1]; exact t2)⟩
  · have e' : (zs.map fun z => (Value.ref z.2.1, z.2.2))[i]? = some (kv, v) := e
    rw [List.getElem?_map] at e'
    obtain ⟨z, e1, e2⟩ := Option.map_eq_some_iff.mp e'
    cases e2
    exact ⟨z.1, z.2.1, e1, rfl⟩
  · obtain ⟨j, e⟩ := List.mem_iff_getElem?.mp m
    obtain ⟨p, _, p1, p2, _⟩ := L2.DX.pget k e
    have ky := key_of I.hok p2
    rw [p1] at ky
    obtain ⟨ob, iv, nv, g1, g2, g3, g4⟩ := ky
    exact ⟨ob, iv, nv, ke _ _ (Nat.ne_of_lt (Heap.lt_size g1)) (by simp) g1, g2, g3, g4⟩
  · have sm : (s.heap.objs.size == sysModules) = false := beq_eq_false_iff_ne.mpr (Nat.ne_of_gt I.big)
    have le := putAll_len ps []
    have free : H s.heap.objs.size = none := I.hok.fresh (Nat.le_refl _)
    obtain ⟨od, es, ep, g1, g2, g3, g4, g5, g6⟩ := hd'
    refine ⟨.ref s.heap.objs.size, upd H s.heap.objs.size (.dT (putAll [] ps)), I.laid (t' := tk) (fun b o e => ke b o (by simp) e) (Nat.le_refl _) ⟨by simp at le; omega, sm, _, (kt_all k .nil).keeps fun c ys ec => ?_, od, es, ep, g1, g2, g3, g4, g6⟩, rfl, q _ free⟩
    rw [upd_ne (ne_of_none ec free)]
    exact ec
end
end K09

/-! # plans -/
namespace K09
open PySem PySem.Spec PyProof.Rows L2
/-- a dict comprehension over a walk -/
theorem dcT_it {J : It} {n : Nat} {G : Hp → Prop} {Y : Nat → Hp → V → Hp → Prop} (w : Walk J n G Y) {g : TG} {tt : TT} {tk tv : TE} {vs : List Nat} {σ : L2.St} {H1 : Hp} {D : Addr} {Qd : Hp → Prop} (Pv : Nat → Hp → Prop) (h0 : Pv 0 (upd H1 D (.dT []))) (hG : ∀ i Z, i ≤ n → Pv i Z → G Z)
    (hs : ∀ i x Z Z', i < n → Pv i Z → Y i Z x Z' → g x (wipe σ vs) Z' fun σ2 G2 => wipe σ2 vs = wipe σ vs ∧ tt σ2 G2 fun c G3 =>
      if c = true then tk σ2 G3 fun y G4 => tv σ2 G4 fun z G5 => ∃ ps k b, y = .ref b ∧ G5 b = some (.tup (k.map kV)) ∧ G5 D = some (.dT ps) ∧ ps.length < sizeLine ∧ Pv (i + 1) (upd G5 D (.dT (putK ps k z))) else Pv (i + 1) G3) (hd : ∀ Z, Pv n Z → Qd Z) :
    ∃ W : Nat → Nat → Hp → Prop, (∃ m, W 0 m (upd H1 D (.dT []))) ∧ ∀ i m Z, W i m Z →
      (J.stop i Z ∧ Qd Z) ∨ (J.go i Z ∧ ∃ Nx : Hp → Prop, (∀ Z', Nx Z' → ∃ m', m' < m ∧ W (i + 1) m' Z') ∧ ∀ x Z', J.yld i Z x Z' → g x (wipe σ vs) Z' fun σ2 G2 => wipe σ2 vs = wipe σ vs ∧ tt σ2 G2 fun c G3 =>
        if c = true then tk σ2 G3 fun y G4 => tv σ2 G4 fun z G5 => ∃ ps k b, y = .ref b ∧ G5 b = some (.tup (k.map kV)) ∧ G5 D = some (.dT ps) ∧ ps.length < sizeLine ∧ Nx (upd G5 D (.dT (putK ps k z))) else Nx G3) := by
  refine ⟨fun i m Z => m + i = n ∧ Pv i Z, ⟨n, rfl, h0⟩, ?_⟩
  intro i m Z ⟨e, p⟩
  have q := hG i Z (by omega) p
  by_cases l : i < n
  · exact .inr ⟨w.goes i Z l q, Pv (i + 1), fun Z' p' => ⟨m - 1, by omega, by omega, p'⟩, fun x Z' y => hs i x Z Z' l p (w.yields i Z x Z' l q y)⟩
  · obtain rfl : i = n := by omega
    exact .inl ⟨w.stops Z q, hd Z p⟩
theorem yesT {σ : L2.St} {H : Hp} {A B : Hp → Prop} (h : A H) : tYes σ H (fun b Z => if b = true then A Z else B Z) := by
  show if true = true then A H else B H
  rw [if_pos rfl]
  exact h
/-- a call that raises nothing -/
theorem passF {P : Program} {w : World} {X : Cx} : Passes (L2.CX P w) X (fun _ _ _ => False) := fun _ _ _ _ _ _ _ h => by
  obtain ⟨_, _, _, _, _, _, _, _, _, _, _, _, h⟩ := h
  exact h.elim
def triK (t : Tri) : List L2.Key := [.inl t.1, .inl t.2.1, .inl t.2.2]
theorem triK_v (t : Tri) : (triK t).map kV = triV t := rfl
theorem triK_inj {t u : Tri} (h : triK t = triK u) : t = u := by
  obtain ⟨a, b, c⟩ := t
  obtain ⟨d, e, f⟩ := u
  injection h with h1 h2
  injection h2 with h2 h3
  injection h3 with h3 _
  injection h1 with h1
  injection h2 with h2
  injection h3 with h3
  have h1 : a = d := h1
  have h2 : b = e := h2
  have h3 : c = f := h3
  rw [h1, h2, h3]
/-- two rules, the written part by name -/
theorem pe_tupleOfK {X : Cx} {K : PySem.W.Frag} {a : Expr} {ta : TE} {p pos : Pos} (h : X.K = K) (hg : Gl X "tuple") (hm : X.mg "tuple" = none) (ha : PE X a ta) (na : starEach [a] X.env = (false, eval a X.env) :: starEach [] X.env := by rfl) : PE X (.Call (.Name "tuple" p) [a] [] pos) (tThen ta (kTup K)) := by
  rw [← h]
  exact pe_tupleOf hg hm ha na
theorem ix_tupK {X : Cx} {K : PySem.W.Frag} (h : X.K = K) : IxR X (rIxT K) := by
  rw [← h]
  exact ix_tup
theorem tables3 : ∀ ns ∈ shapesL, (pl ns).Nodup ∧ (pl ns).length ≤ 30 ∧ ∀ t ∈ pl ns, (0 ≤ t.1 ∧ t.1.toNat < ns.length) ∧ (0 ≤ t.2.1 ∧ t.2.1 < t.2.2 ∧ t.2.2 < 6) ∧ ns.getD t.1.toNat 0 ≤ 6 ∧
    ((List.range 6).all fun j => !decide ((j : Int) < ns.getD t.1.toNat 0 - (t.2.2 + 1)) || (decide ((t.1, t.2.1, t.2.2 + 1 + (j : Int)) ∈ pl ns) && decide ((t.1, t.2.2, t.2.2 + 1 + (j : Int)) ∈ pl ns))) = true := by decide +kernel
/-- the index of a place -/
def ix (ns : List Int) (t : Tri) : Int := (((pl ns).idxOf t : Nat) : Int)
theorem idx_of {l : List Tri} (n : l.Nodup) : ∀ {i : Nat} {t : Tri}, l[i]? = some t → l.idxOf t = i := by
  induction l with
  | nil => intro i t h; cases h
  | cons a r ih =>
    intro i t h
    rw [List.nodup_cons] at n
    cases i with
    | zero =>
      obtain rfl := Option.some.inj h
      exact List.idxOf_cons_self
    | succ i =>
      have m : r[i]? = some t := h
      have ne : a ≠ t := fun z => n.1 (by rw [z]; exact List.mem_of_getElem? m)
      rw [List.idxOf_cons, beq_false_of_ne ne, cond_false, ih n.2 m]
def useP (ns : List Int) (t : Tri) (k : Nat) : List (Int × Int) := (List.range k).map fun (c : Nat) => (ix ns (t.1, t.2.1, t.2.2 + 1 + (c : Int)), ix ns (t.1, t.2.2, t.2.2 + 1 + (c : Int)))
theorem useP_succ (ns : List Int) (t : Tri) (k : Nat) : useP ns t (k + 1) = useP ns t k ++ [(ix ns (t.1, t.2.1, t.2.2 + 1 + (k : Int)), ix ns (t.1, t.2.2, t.2.2 + 1 + (k : Int)))] := by
  unfold useP
  rw [List.range_succ, List.map_append]
  rfl
def useN (ns : List Int) (t : Tri) : Nat := (ns.getD t.1.toNat 0 - (t.2.2 + 1)).toNat
def prD (p : Int × Int) : PyData := .tuple [.int p.1, .int p.2]
/-- for each place the pairs of indices that its number is multiplied by -/
def useD (ns : List Int) (t : Tri) : PyData := .tuple ((useP ns t (useN ns t)).map prD)
def planD (ns : List Int) : PyData := .tuple ((pl ns).map (useD ns))
theorem ints_inj : ∀ {ns ms : List Int}, ns.map PyData.int = ms.map PyData.int → ns = ms
  | [], [], _ => rfl
  | [], _ :: _, h => nomatch h
  | _ :: _, [], h => nomatch h
  | n :: ns, m :: ms, h => by
    rw [List.map_cons, List.map_cons] at h
    injection h with h1 h2
    rw [PyData.int.inj h1, ints_inj h2]
section
variable {P : Program} {w : World} {K : PySem.W.Frag} {mg : Str → Option Value} {base : Heap} {CS : Addr}
abbrev s_plan : Stmt := topS 27
theorem sc_plan : FnScope ["shape", "order", "at", "index", "place", "b", "i", "k", "j"] ["shape"] (defScope s_plan) := ⟨rfl, rfl, rfl, by decide +kernel, rfl, by decide +kernel, by decide +kernel⟩
def spPlan (K : PySem.W.Frag) : Sp := fun vs H Q _ => ∃ (a : Addr) (ns : List Int), vs = [.ref a] ∧ SqT K H a (ns.map V.int) ∧ Shp ns ∧ ∀ H' y, Same H H' → Tv K H' y (planD ns) → Q y H'
theorem ok_plan {f f1 : Addr} {fd fd1 : FuncData} (T : Txt mg) (N : Nam mg) (d : D K mg "plan_of" s_plan ["shape"] f fd) (d1 : D K mg "places" s_places ["shape"] f1 fd1) (G1 : FnOk P w K mg base (L2.CX P w) 5 f1 fd1 ["shape"] (spPlaces K CS)) : FnOk P w K mg base (L2.CX P w) 6 f fd ["shape"] (spPlan K) := by
  refine d.F.okX sc_plan (fun vs H Q E h => ?_) (fun cdv A outer s H vs Q E hr h => ?_)
  · obtain ⟨a, ns, rfl, _⟩ := h
    rfl
  · obtain ⟨a, ns, rfl, e, S, q⟩ := h
    have un : (A.deeper (envOfC "plan_of" (defScope s_plan) s.heap.objs.size f cdv)).units + 1 < cLine := by have := hr.un; omega
    refine ⟨_, (pss_cons (ps_set (i := 1) sc_plan.nd rfl (.inl rfl) (pe_call (E := E) G1 (hr.mono (by decide)) (by rfl) d1.g d1.F.kp d1.b .nil (passes_call (takes_of rfl rfl rfl rfl) (fun _ _ _ _ h => h)) (pa_cons (pv 0) pa_nil)))
      (pss_cons (ps_set (i := 2) sc_plan.nd rfl (.inr rfl) (pe_dcT (own := [("index", 3), ("place", 4)]) (g := gTup K 2 (gCons (gName 3) (gCons (gName 4) gNil))) (tt := tYes) rfl un sc_plan.nd (pi_enumT (by rfl) N.n_enumerate (pa_cons (pv 1) pa_nil)) (blkOk_by (own := [("index", 3), ("place", 4)]) (N := ["shape", "order", "at", "index", "place", "b", "i", "k", "j"]) (sc := defScope s_plan) (by decide +kernel))
            (fun _ _ _ _ _ => (pg_tup rfl (pgs_cons (pg_name (i := 3) sc_plan.nd rfl (Or.inl rfl)) (pgs_cons (pg_name (i := 4) sc_plan.nd rfl (Or.inl rfl)) pgs_nil)))) (fun _ _ _ _ _ => pts_nil) (fun _ _ _ _ _ => (pv 4)) (fun _ _ _ _ _ => (pv 3))))
      (pss_one (ps_ret (pe_tupleOf (by rfl) T.n_tuple (pe_lc (own := [("b", 5), ("i", 6), ("k", 7)]) (g := gTup K 3 (gCons (gName 5) (gCons (gName 6) (gCons (gName 7) gNil)))) (tt := tYes) rfl sc_plan.nd (pi_tup (pv 1)) (blkOk_by (own := [("b", 5), ("i", 6), ("k", 7)]) (N := ["shape", "order", "at", "index", "place", "b", "i", "k", "j"]) (sc := defScope s_plan) (by decide +kernel))
            (fun _ _ _ _ _ => (pg_tup rfl (pgs_cons (pg_name (i := 5) sc_plan.nd rfl (Or.inr rfl)) (pgs_cons (pg_name (i := 6) sc_plan.nd rfl (Or.inr rfl)) (pgs_cons (pg_name (i := 7) sc_plan.nd rfl (Or.inr rfl)) pgs_nil))))) (fun _ _ _ _ _ => pts_nil) (fun _ _ _ _ _ => (pe_tupleOfK (K := K) rfl (by rfl) T.n_tuple (pe_lc (own := [("j", 8)]) (g := gName 8) (tt := tYes) rfl sc_plan.nd (pi_range2 (by rfl) T.n_range (pa_cons (pe_op op_add (pv 7) pe_int) (pa_cons (pe_ix (ix_tupK (K := K) rfl) (pv 0) (pv 5) (fun _ _ => rfl)) pa_nil))) (blkOk_by (own := [("j", 8)]) (N := ["shape", "order", "at", "index", "place", "b", "i", "k", "j"]) (sc := relS _ (defScope s_plan)) (by decide +kernel))
            (fun _ _ _ _ _ => (pg_name (i := 8) sc_plan.nd rfl (Or.inl rfl))) (fun _ _ _ _ _ => pts_nil) (fun _ _ _ _ _ => (pe_tup (pa_cons (pe_dget un (pv 2) (pe_tup (pa_cons (pv 5) (pa_cons (pv 6) (pa_cons (pv 8) pa_nil)))) (fun _ _ => rfl)) (pa_cons (pe_dget un (pv 2) (pe_tup (pa_cons (pv 5) (pa_cons (pv 7) (pa_cons (pv 8) pa_nil)))) (fun _ _ => rfl)) pa_nil))))))))))))), ?_⟩
    refine ⟨_, rfl, _, .tuple (ns.map .int), rfl, .tv (.tup e (tvl_ints ns)), fun ns' en S' H1 y s1 t1 => ?_, fun z => absurd (shp_is S) (by rw [z]; decide)⟩
    obtain rfl : ns' = ns := by
      have z := PyData.tuple.inj en
      exact (ints_inj z).symm
    obtain ⟨o, xs, rfl, eo, tl⟩ := t1
    have e1 := sqt_same e s1
    have M := tables3 ns' (shp_mem S)
    have lx : xs.length = (pl ns').length := tl.len
    have q' : ∀ Z y, Same H1 Z → Tv K Z y (planD ns') → Q y Z := fun Z y z => q Z y (s1.trans z)
    clear q e s1 en S'
    refine ⟨_, rfl, o, xs, rfl, .inl (.inl eo), fun D nD => ?_⟩
    refine dcT_it (walk_enumT (K := K) (a := o) (xs := xs)) (fun i Z => Same H1 Z ∧ ∃ kvs, Z D = some (.dT kvs) ∧ kvs.length ≤ i ∧ ∀ t ∈ (pl ns').take i, valV kvs (triK t) = some (.int (ix ns' t))) ⟨sub_same nD, [], upd_same, Nat.le_refl _, fun t m => by simp at m⟩ (fun i Z _ h => .inl (.inl (h.1 _ _ eo))) ?_ ?_
    · rintro i v Z Z' hi ⟨sm, kvs, hk, lk, all⟩ ⟨Tp, x0, y0, rfl, nT, rfl, ex, ey⟩
      obtain rfl := Option.some.inj ex
      obtain ⟨t, c, et, rfl, ec⟩ := tl.tri ey
      have s2 := sub_same (o := .tup [V.int (i : Nat), V.ref c]) nT
      have hk2 := s2 _ _ hk
      have ec2 := s2 _ _ (sm _ _ ec)
      have sm2 := sm.trans s2
      have hT : upd Z Tp (.tup [V.int (i : Nat), V.ref c]) Tp = some (.tup [V.int (i : Nat), V.ref c]) := upd_same
      revert hk2 ec2 sm2 hT
      generalize upd Z Tp (.tup [V.int (i : Nat), V.ref c]) = Z2
      intro hk2 ec2 sm2 hT
      refine ⟨Tp, _, rfl, .inl (.inl hT), rfl, _, _, rfl, _, _, rfl, rfl, rfl, ?_⟩
      refine yesT ?_
      refine ⟨_, rfl, _, rfl, kvs, triK t, c, rfl, ec2, hk2, ?_, fun b ob eb => ?_, _, upd_same, ?_, fun u m => ?_⟩
      · rw [lx] at hi
        have := M.2.1
        rw [sizeLine_eq]
        omega
      · rw [upd_ne (fun z => by rw [z, nD] at eb; cases eb)]
        exact sm2 _ _ eb
      · have := length_putK kvs (triK t) (.int (i : Nat))
        omega
      · rw [valV_put]
        by_cases z : triK u = triK t
        · rw [if_pos z, triK_inj z]
          show some (V.int (i : Nat)) = some (V.int (((pl ns').idxOf t : Nat) : Int))
          rw [idx_of M.1 et]
        · rw [if_neg z]
          refine all u ?_
          rw [List.take_succ, et] at m
          rcases List.mem_append.mp m with m | m
          · exact m
          · exact absurd (by rw [show u = t by simpa using m]) z
    · rintro Z ⟨sm, kvs, hk, lk, all⟩
      rw [lx, List.take_length] at all
      have eo2 := sm _ _ eo
      have ea2 := sqt_same e1 sm
      have tl2 := tl.same sm
      have q2 : ∀ Y y, Same Z Y → Tv K Y y (planD ns') → Q y Y := fun Y y z => q' Y y (sm.trans z)
      clear q' tl
      refine ⟨_, rfl, o, rfl, ⟨xs, .inl (.inl eo2)⟩, fun L nL => ?_⟩
      refine lc_tup (K := K) (a := o) (xs := xs) (fun i Y => Same Z Y ∧ ∃ acc, Y L = some (.lst acc) ∧ TvL K Y acc (((pl ns').take i).map (useD ns'))) ⟨sub_same nL, [], upd_same, .nil⟩ (fun i Y _ h => .inl (.inl (h.1 _ _ eo2))) ?_ ?_
      · rintro i x Y hx ⟨sy, acc, ha, la⟩
        obtain ⟨⟨tb, ti, tk⟩, c, et, rfl, ec⟩ := tl2.tri hx
        have mt : (tb, ti, tk) ∈ pl ns' := List.mem_of_getElem? et
        obtain ⟨⟨b0, b1⟩, ⟨i0, i1, i2⟩, b6, far⟩ := M.2.2 _ mt
        have b0 : 0 ≤ tb := b0
        obtain ⟨bn, rfl⟩ : ∃ n : Nat, tb = (n : Int) := ⟨tb.toNat, by omega⟩
        have b1 : bn < ns'.length := b1
        have i0 : 0 ≤ ti := i0
        have i1 : ti < tk := i1
        have i2 : tk < 6 := i2
        have gd : ns'.getD bn 0 = ns'[bn] := by rw [List.getD_eq_getElem?_getD, List.getElem?_eq_getElem b1]; rfl
        have b6 : ns'.getD bn 0 ≤ 6 := b6
        rw [gd] at b6
        refine ⟨c, triV ((bn : Int), ti, tk), rfl, .inl (.inl (sy _ _ ec)), rfl, _, _, rfl, _, _, rfl, _, _, rfl, rfl, rfl, ?_⟩
        refine yesT ?_
        have b2 := (S.2.1 _ (List.getElem_mem b1)).1
        refine ⟨_, rfl, _, _, rfl, rfl, _, rfl, _, rfl, a, _, bn, .int ns'[bn], rfl, rfl, sqt_same ea2 sy, atI_nat (by rw [List.getElem?_map, List.getElem?_eq_getElem b1]; rfl), tk + 1, ns'[bn], rfl, ⟨by omega, by omega, by omega, by omega⟩, fun L2 nL2 => ?_⟩
        have lL : L ≠ L2 := fun z => by rw [z, nL2] at ha; cases ha
        refine lc_range (lo := tk + 1) (n := (ns'[bn] - (tk + 1)).toNat) (fun j U => Same Y U ∧ ∃ acc, U L2 = some (.lst acc) ∧ TvL K U acc ((useP ns' ((bn : Int), ti, tk) j).map prD)) ⟨sub_same nL2, [], upd_same, .nil⟩ ?_ ?_
        · rintro j U hj ⟨su, acc2, ha2, la2⟩
          have mem : ((bn : Int), ti, tk + 1 + (j : Int)) ∈ pl ns' ∧ ((bn : Int), tk, tk + 1 + (j : Int)) ∈ pl ns' := by
            have f := List.all_eq_true.mp far j (List.mem_range.mpr (by omega))
            have f2 : (!decide ((j : Int) < ns'.getD bn 0 - (tk + 1)) || (decide (((bn : Int), ti, tk + 1 + (j : Int)) ∈ pl ns') && decide (((bn : Int), tk, tk + 1 + (j : Int)) ∈ pl ns'))) = true := f
            rw [decide_eq_true (show (j : Int) < ns'.getD bn 0 - (tk + 1) by rw [gd]; omega)] at f2
            simp only [Bool.not_true, Bool.false_or, Bool.and_eq_true] at f2
            exact ⟨of_decide_eq_true f2.1, of_decide_eq_true f2.2⟩
          refine ⟨rfl, ?_⟩
          refine yesT ?_
          obtain ⟨v1, hv1, ev1⟩ : ∃ v1, valV kvs (triK ((bn : Int), ti, tk + 1 + (j : Int))) = some v1 ∧ v1 = .int (ix ns' ((bn : Int), ti, tk + 1 + (j : Int))) := ⟨_, all _ mem.1, rfl⟩
          obtain ⟨v2, hv2, ev2⟩ : ∃ v2, valV kvs (triK ((bn : Int), tk, tk + 1 + (j : Int))) = some v2 ∧ v2 = .int (ix ns' ((bn : Int), tk, tk + 1 + (j : Int))) := ⟨_, all _ mem.2, rfl⟩
          have hkU := su _ _ (sy _ _ hk)
          refine ⟨_, rfl, _, rfl, _, rfl, _, rfl, (by show 3 ≤ sizeLine; decide), fun p1 n1 => ⟨D, v1, rfl, ?_, ?_⟩⟩
          · rw [← hv1]
            exact DGet.t (sub_same n1 _ _ hkU) upd_same
          have s5 := su.trans (sub_same (o := .tup [V.int (bn : Int), V.int ti, V.int (tk + 1 + (j : Int))]) n1)
          have ha5 := sub_same (o := .tup [V.int (bn : Int), V.int ti, V.int (tk + 1 + (j : Int))]) n1 _ _ ha2
          refine ⟨_, rfl, _, rfl, _, rfl, _, rfl, (by show 3 ≤ sizeLine; decide), fun p2 n2 => ⟨D, v2, rfl, ?_, ?_⟩⟩
          · rw [← hv2]
            exact DGet.t (sub_same n2 _ _ (sub_same n1 _ _ hkU)) upd_same
          refine ⟨(by show 2 ≤ sizeLine; decide), fun p3 n3 => ?_⟩
          have s6 := (s5.trans (sub_same (o := .tup [V.int (bn : Int), V.int tk, V.int (tk + 1 + (j : Int))]) n2)).trans (sub_same (o := .tup [v1, v2]) n3)
          have l2 := la2.len
          rw [List.length_map] at l2
          unfold useP at l2
          rw [List.length_map, List.length_range] at l2
          have t6 := la2.same ((sub_same (o := .tup [V.int (bn : Int), V.int ti, V.int (tk + 1 + (j : Int))]) n1).trans ((sub_same (o := .tup [V.int (bn : Int), V.int tk, V.int (tk + 1 + (j : Int))]) n2).trans (sub_same (o := .tup [v1, v2]) n3)))
          have h6 := sub_same (o := .tup [v1, v2]) n3 _ _ (sub_same (o := .tup [V.int (bn : Int), V.int tk, V.int (tk + 1 + (j : Int))]) n2 _ _ ha5)
          refine ⟨acc2, h6, ?_, fun b ob eb => ?_, _, upd_same, ?_⟩
          · rw [sizeLine_eq]
            omega
          · rw [upd_ne (fun z => by rw [z, nL2] at eb; cases eb)]
            exact s6 _ _ eb
          · rw [useP_succ, List.map_append]
            refine (t6.snoc (.tup (sqt_new upd_same) ?_)).put h6
            rw [ev1, ev2]
            exact .cons (.int _) (.cons (.int _) .nil)
        · rintro U ⟨su, acc2, ha2, la2⟩
          refine .inl ⟨L2, acc2, rfl, .inl (.inl ha2), fun p np => ?_⟩
          have s4 := su.trans (sub_same (o := .tup acc2) np)
          have l1 := la.len
          rw [List.length_map, List.length_take] at l1
          refine ⟨acc, s4 _ _ ha, ?_, fun b ob eb => ?_, _, upd_same, ?_⟩
          · have := M.2.1
            rw [sizeLine_eq]
            omega
          · rw [upd_ne (fun z => by rw [z, nL] at eb; cases eb)]
            exact s4 _ _ (sy _ _ eb)
          · rw [List.take_succ, et, List.map_append]
            have un' : useN ns' ((bn : Int), ti, tk) = (ns'[bn] - (tk + 1)).toNat := by
              show (ns'.getD bn 0 - (tk + 1)).toNat = _
              rw [gd]
            refine ((la.same s4).snoc (.tup (sqt_new upd_same) ?_)).put (s4 _ _ ha)
            rw [un']
            exact la2.same (sub_same np)
      · rintro Y ⟨sy, acc, ha, la⟩
        rw [lx, List.take_length] at la
        exact .inl ⟨L, acc, rfl, .inl (.inl ha), fun p np => q2 _ _ (sy.trans (sub_same np)) (.tup (sqt_new upd_same) (la.same (sub_same np)))⟩
end
end K09

/-! # leads; what are entries -/
namespace K09
open PySem PySem.Spec PyProof.Rows L2
/-- the first number that is not 0, counted from i -/
def firstNZ : Nat → List Int → Option Nat
  | _, [] => none
  | i, n :: r => if n = 0 then firstNZ (i + 1) r else some i
def optV : Option Nat → V
  | none => .non
  | some i => .int (i : Nat)
section
variable {P : Program} {w : World} {K : PySem.W.Frag} {mg : Str → Option Value} {base : Heap} {CS : Addr}
def spLead : Sp := fun vs H Q _ => ∃ (a : Addr) (ns : List Int), vs = [.ref a] ∧ H a = some (.tup (ns.map V.int)) ∧ ∀ H', Same H H' → Q (optV (firstNZ 0 ns)) H'
theorem firstNZ_take {ns : List Int} : ∀ {i : Nat}, (∀ n ∈ ns.take i, n = 0) → firstNZ 0 ns = firstNZ i (ns.drop i) := by
  intro i
  induction i with
  | zero => intro _; rfl
  | succ i ih =>
    intro h
    rw [ih fun n m => h n (List.take_subset_take_left ns (Nat.le_succ i) m)]
    by_cases l : i < ns.length
    · rw [List.drop_eq_getElem_cons l]
      have z : ns[i] = 0 := h _ (by rw [List.mem_take_iff_getElem]; exact ⟨i, by omega, rfl⟩)
      show (if ns[i] = 0 then firstNZ (i + 1) (ns.drop (i + 1)) else some i) = _
      rw [if_pos z]
    · rw [List.drop_eq_nil_of_le (by omega), List.drop_eq_nil_of_le (by omega)]
      rfl
theorem abs_lt {n L : Int} (h : -L < n) (h2 : n < L) : (if n < 0 then -n else n) < L := by
  split <;> omega
/-- an integer that is not too long -/
def spInt : Sp := fun vs H Q _ => ∃ n : Int, vs = [.int n] ∧ -(10 ^ 60) < n ∧ n < 10 ^ 60 ∧ Q (.bl true) H
theorem ok_integer {f f1 : Addr} {fd fd1 : FuncData} {k : Nat} (T : Txt mg) (N : Nam mg) (d : D K mg "is_integer" s_is_integer ["value"] f fd) (d1 : D K mg "is_whole" s_is_whole ["value"] f1 fd1) : FnOk P w K mg base CX0 (k + 2) f fd ["value"] spInt := by
  have G1 : FnOk P w K mg base CX0 (k + 1) f1 fd1 ["value"] (spWhole K) := ok_whole T d1
  obtain ⟨tI, cI⟩ := N.cI
  refine d.F.ok sc_is_integer (fun vs H Q E h => ?_) (fun cdv A outer s H vs Q E hr h => ?_)
  · obtain ⟨n, rfl, _⟩ := h
    rfl
  · obtain ⟨n, rfl, n0, n1, q⟩ := h
    refine ⟨_, (pss_one (ps_ret (pe_and (pe_call G1 hr (by rfl) d1.g d1.F.kp d1.b .nil pass0 (pa_cons (pv 0) pa_nil)) (pe_one (pe_cmpR op_lt (pe_callB call_abs (by rfl) T.n_abs (by decide +kernel) (pa_cons (pv 0) pa_nil)) (pe_glob (v := .int (10 ^ 60)) rfl cI ⟨_, rfl⟩) (nomark _)))))), ?_⟩
    refine ⟨_, rfl, _, .int n, rfl, .tv (.int n), true, rfl, iteT ⟨_, rfl, _, rfl, _, _, rfl, rfl, ?_⟩⟩
    show Q (.bl (decide ((if n < 0 then -n else n) < (10 ^ 60 : Int)))) H
    rw [decide_eq_true (abs_lt n0 n1)]
    exact q
theorem same_unlock {H H' : Hp} {D : Addr} {x y : HO} (e : H D = some y) (s : Same (upd H D x) H') : Same H (upd H' D y) := fun b o h => by
  by_cases z : b = D
  · rw [z, upd_same, ← e, ← z]
    exact h
  · rw [upd_ne z]
    exact s b o (by rw [upd_ne z]; exact h)
abbrev s_ents : Stmt := topS 46
theorem sc_ents : FnScope ["shape", "value", "place", "number"] ["shape", "value"] (defScope s_ents) := ⟨rfl, rfl, rfl, by decide +kernel, rfl, by decide +kernel, by decide +kernel⟩
/-- what a dict of entries holds -/
def Ent (ns : List Int) (ps : List (List L2.Key × V)) : Prop := ps.length ≤ 100 ∧ ∀ p ∈ ps, ∃ t ∈ pl ns, p.1 = triK t ∧ ∃ n : Int, p.2 = .int n ∧ -(10 ^ 60) < n ∧ n < 10 ^ 60
def spEnts (K : PySem.W.Frag) : Sp := fun vs H Q _ => ∃ (a D : Addr) (ns : List Int) (ps : List (List L2.Key × V)), vs = [.ref a, .ref D] ∧ SqT K H a (ns.map V.int) ∧ Shp ns ∧ H D = some (.dT ps) ∧ Ent ns ps ∧ ∀ H', Same H H' → Q (.bl true) H'
theorem kit_dict {K : PySem.W.Frag} : kit K (.type "dict") (.type "dict") true := by rfl
theorem ok_ents {f f1 f2 : Addr} {fd fd1 fd2 : FuncData} (T : Txt mg) (N : Nam mg) (d : D K mg "are_entries" s_ents ["shape", "value"] f fd) (d1 : D K mg "is_place" s_place ["shape", "value"] f1 fd1) (d2 : D K mg "is_integer" s_is_integer ["value"] f2 fd2)
    (G1 : FnOk P w K mg base (L2.CX P w) 5 f1 fd1 ["shape", "value"] (spPlace K CS)) (G2 : FnOk P w K mg base CX0 2 f2 fd2 ["value"] spInt) : FnOk P w K mg base (L2.CX P w) 6 f fd ["shape", "value"] (spEnts K) := by
  refine d.F.okX sc_ents (fun vs H Q E h => ?_) (fun cdv A outer s H vs Q E hr h => ?_)
  · obtain ⟨a, D, ns, ps, rfl, _⟩ := h
    rfl
  · obtain ⟨a, D, ns, ps, rfl, e, S, eD, ⟨lp, all⟩, q⟩ := h
    refine ⟨_, (pss_cons (ps_if (pt_not (pt_val (pe_callB call_isi (by rfl) T.n_isinstance (by decide +kernel) (pa_cons (pv 1) (pa_cons (pe_bltn (v := .ty "dict") (by rfl) N.n_dict (by decide +kernel) rfl) pa_nil))))) (pss_one (ps_ret pe_bl)) pss_nil)
      (pss_one (ps_ret (pe_callB (cr_all rfl) (by rfl) N.n_all (by decide +kernel) (pa_cons (pe_lock (pe_lc (own := [("place", 2), ("number", 3)]) (g := gTup K 2 (gCons (gName 2) (gCons (gName 3) gNil))) (tt := tYes) rfl sc_ents.nd (pi_itemsT (pv 1)) (blkOk_by (own := [("place", 2), ("number", 3)]) (N := ["shape", "value", "place", "number"]) (sc := defScope s_ents) (by decide +kernel))
            (fun _ _ _ _ _ => (pg_tup rfl (pgs_cons (pg_name (i := 2) sc_ents.nd rfl (Or.inl rfl)) (pgs_cons (pg_name (i := 3) sc_ents.nd rfl (Or.inl rfl)) pgs_nil)))) (fun _ _ _ _ _ => pts_nil) (fun _ _ _ _ _ => (pe_and (pe_call (E := fun _ _ _ => False) G1 (hr.mono (by decide)) (by rfl) d1.g d1.F.kp d1.b .nil passF (pa_cons (pv 0) (pa_cons (pv 2) pa_nil))) (pe_one (pe_call G2 (hr.mono (by decide)) (by rfl) d2.g d2.F.kp d2.b .nil pass0 (pa_cons (pv 3) pa_nil))))))) pa_nil))))), ?_⟩
    refine ⟨_, rfl, _, _, _, _, _, rfl, .ty _, .base (.dT eD), kit_dict, _, rfl, ite2 (fun z => absurd z Bool.false_ne_true) (fun _ => ?_)⟩
    refine ⟨D, _, eD, True.intro, fun od => ?_⟩
    have unl : ∀ {Z : Hp}, Same (upd H D (.frz od (.dT ps))) Z → Same H (upd Z D (.dT ps)) := fun sz => same_unlock eD sz
    have e2 : SqT K (upd H D (.frz od (.dT ps))) a (ns.map V.int) := sqt_upd e fun o h => by
      rw [eD] at h
      cases h
      exact ⟨fun z => (by cases z), fun _ z => (by cases z)⟩
    have f2 : upd H D (.frz od (.dT ps)) D = some (.frz od (.dT ps)) := upd_same
    revert unl e2 f2
    generalize upd H D (.frz od (.dT ps)) = HL
    intro unl e2 f2
    refine ⟨_, rfl, D, od, ps, rfl, f2, fun L nL => ?_⟩
    have wk : Walk (ItiT D od ps) ps.length (fun Z => Z D = some (.frz od (.dT ps))) (ItiT D od ps).yld := ⟨fun i Z l h => ⟨h, l⟩, fun Z h => ⟨h, Nat.le_refl _⟩, fun i Z x Z' l h y => y⟩
    refine lc_it wk (fun i Z => Same HL Z ∧ Z L = some (.lst ((List.replicate i true).map V.bl))) ⟨sub_same nL, upd_same⟩ (fun i Z _ h => h.1 _ _ f2) ?_ ?_
    · rintro i x Z Z' hi ⟨sm, hl⟩ ⟨Tp, qa, k, v, ek, eq, rfl, nT, rfl⟩
      obtain ⟨t, mt, ek2, n, ev, n0, n1⟩ := all (k, v) (List.mem_of_getElem? ek)
      have ek2 : k = triK t := ek2
      have ev : v = .int n := ev
      subst ek2 ev
      have s2 := sub_same (o := .tup [V.ref qa, V.int n]) nT
      have hl2 := s2 _ _ hl
      have eq2 := s2 _ _ eq
      have sm2 := sm.trans s2
      have hT : upd Z Tp (.tup [V.ref qa, V.int n]) Tp = some (.tup [V.ref qa, V.int n]) := upd_same
      revert hl2 eq2 sm2 hT
      generalize upd Z Tp (.tup [V.ref qa, V.int n]) = Z2
      intro hl2 eq2 sm2 hT
      refine ⟨Tp, _, rfl, .inl (.inl hT), rfl, _, _, rfl, _, _, rfl, rfl, rfl, yesT ?_⟩
      refine ⟨_, rfl, _, rfl, _, _, .tuple (ns.map .int), triD t, rfl, .tv (.tup (sqt_same e2 sm2) (tvl_ints ns)), .tv (.tup (sqt_new eq2) (tvl_ints (triI t))), fun ns' en S' Z3 s3 => ?_, fun z => absurd (shp_is S) (by rw [z]; decide)⟩
      obtain rfl : ns' = ns := (ints_inj (PyData.tuple.inj en)).symm
      rw [(tables2 ns' (shp_mem S)).2.1 t mt]
      refine ⟨true, rfl, iteT ⟨_, rfl, n, rfl, n0, n1, ?_⟩⟩
      refine ⟨_, s3 _ _ hl2, ?_, fun b ob eb => ?_, ?_⟩
      · rw [List.length_map, List.length_replicate, sizeLine_eq]
        omega
      · rw [upd_ne (fun z => by rw [z, nL] at eb; cases eb)]
        exact s3 _ _ (sm2 _ _ eb)
      · rw [upd_same, List.replicate_succ', List.map_append]
        rfl
    · rintro Z ⟨sm, hl⟩
      refine ⟨sm _ _ f2, L, List.replicate ps.length true, rfl, .inl (.inl ?_), ?_⟩
      · rw [upd_ne (fun z => by rw [z, f2] at nL; cases nL)]
        exact hl
      · have z : (List.replicate ps.length true).all id = true := List.all_eq_true.mpr fun b m => (List.mem_replicate.mp m).2
        rw [z]
        exact q _ (unl sm)
end
end K09

/-! # bool(x), len(x) of an own class; a class called by a local name -/
namespace K09W
open PySem PySem.Spec PyProof.Rows PySem.W PySem.Calls
section
variable {prog : Program} {w : World} {A : Around} {E : PySem.Value → Shared → Prop} {s : Shared} {K : Frag} {x C f : Addr} {ox : Obj} {od : Option Obj}
theorem bool_own {Q : PySem.Value → Shared → Prop} (X : K.In s.heap) (I : InstAt s.heap x ox C od) (hs : findIn K (.ref C) "__bool__" = some (some (.ref f))) (hf : isFn K (.ref f) = true)
    (h : wpAny (model prog w) A.in1.in1 (call (.ref f) [.ref x]) (fun v s' => ∃ k, v = .bool k ∧ Q (.bool k) s') E s) : wpAny (model prog w) A (call (.type "bool") [.ref x]) Q E s := by
  refine callType_codes (T := "bool") (Bi := Builtin.«object.__init__») (Q₁ := fun r s₁ => ∃ k, r = PySem.Value.bool k ∧ Q r s₁) PySem.F.called_bool (PySem.F.typeCall_bool_1 _) PySem.F.entry_object_init ?_ ?_
  · refine codeAny_of_tree ?_
    show wpAny _ A.in1.in1 (do checkBuiltinCall "bool.__new__" ⟨[.type "bool", .ref x], []⟩; again (.builtin "bool.__new__" ⟨[.type "bool", .ref x], []⟩)) _ _ s
    refine wpAny_bind (wpAny_of_eq (PySem.F.newCall_bool_1 _) (wpAny_pure ⟨plainId_quiet (by decide +kernel) _, codeAny_builtin PySem.F.entry_bool_new ?_⟩))
    rw [Around.under_plainId (by decide +kernel) _]
    unfold Builtin.«bool.__new__»
    have tr : ∀ {Q' : Bool → Shared → Prop}, (∀ k s', Q (.bool k) s' → Q' k s') → wpAny (model prog w) A.in1.in1 (truthy (.ref x)) Q' E s := fun {Q'} g => by
      unfold truthy
      refine wpAny_bind (m := callSpecial? (.ref x) (Str.ofString "__bool__")) (special_fn X I hs (beq_iff_eq.mp hf) (wpAny_mono h (fun r s' ⟨k, e, z⟩ => ?_) fun _ _ y => y))
      subst e
      exact wpAny_pure (g k s' z)
    repeat (first | (refine wpAny_bind (m := truthy (.ref x)) (tr fun k s' z => ?_)) | wp_step)
    all_goals first | exact ⟨_, rfl, z⟩ | exact wpAny_pure ⟨_, rfl, z⟩ | skip
  · rintro obj s₁ ⟨k, rfl, hq⟩
    exact ⟨PySem.typeIs_bool _ _, PySem.F.args_object_init_2 _ _, object_init_meets PySem.F.called_bool.init.lookup PySem.F.called_bool.made (by decide) prog w A.in1 _ s₁ ⟨PySem.typeIs_bool _ _, rfl, hq⟩⟩
theorem len_mine {Q : PySem.Value → Shared → Prop} (X : K.In s.heap) (I : InstAt s.heap x ox C od) (hs : findIn K (.ref C) "__len__" = some (some (.ref f))) (hf : isFn K (.ref f) = true)
    (h : wpAny (model prog w) A.in1 (call (.ref f) [.ref x]) (fun v s' => ∃ n u, v = .int n u ∧ 0 ≤ n ∧ n < 2 ^ 63 ∧ ∀ tk, Q (.int n tk) { s' with toks := tk + 1 }) E s) : wpAny (model prog w) A (call (.builtin "len") [.ref x]) Q E s := by
  refine Calls.call_function_entry PySem.kind_len PySem.plain_len PySem.entry_len (PySem.args_len1 _) ?_
  unfold Builtin.«len»
  refine wpAny_bind (m := oneArg "len" _) (wpAny_pure ?_)
  refine wpAny_bind (m := callSpecial? (.ref x) (Str.ofString "__len__")) (special_fn X I hs (beq_iff_eq.mp hf) (wpAny_mono h (fun v s' ⟨n, u, e, n0, n1, z⟩ => ?_) fun _ _ y => y))
  subst e
  refine wpAny_bind (wpAny_holding (wpAny_pure (wpAny_bind (wpAny_letGo ?_))))
  have a1 : ¬ n < 0 := by omega
  have a2 : ¬ n ≥ 2 ^ 63 := by omega
  show wpAny _ _ (if n < 0 then _ else _) _ _ _
  rw [if_neg a1]
  show wpAny _ _ (if n ≥ 2 ^ 63 then _ else _) _ _ _
  rw [if_neg a2]
  exact wpAny_bind (wpAny_mkInt (wpAny_pure ⟨_, rfl, z _⟩))
end
end K09W
namespace K09
open PySem PySem.Spec PyProof.Rows L2
def Ins (H : Hp) (a C : Addr) : Prop := ∃ dx fs, H a = some (.ins C dx fs)
section
variable {X : Cx} {C g : Addr} {n : Nat} {fd : FuncData} {ps : List Str} {sp : Sp} {pins : List (Addr × Obj)} {σ : L2.St} {H : Hp} {s : Shared} {a : Addr}
theorem ins_look (I : Inv X pins σ H s) (h : Ins H a C) : ∃ (ox od : Obj), PySem.W.InstAt s.heap a ox C (some od) := by
  obtain ⟨dx, fs, e⟩ := h
  obtain ⟨mA, O, _⟩ := ins_get I.hok e
  obtain ⟨od, J, _⟩ := O.look
  exact ⟨_, od, J⟩
theorem run_below {A : Around} {Q : VK} {us : List Value} {vs : List V} {E' : Value → Shared → Prop} (F : FnOk X.prog X.w X.K X.mg X.base CX0 n g fd ps sp) (hr : Room n A) (e0 : Env0 X.prog X.w X.K X.mg X.base A X.stack s H) (hb : Binds X.K fd ps [])
    (I : Inv X pins σ H s) (r : Vals vs us) (h : sp vs H Q E0) : wpAny (model X.prog X.w) A (call (.ref g) us) (EP X pins σ Q) E' s := by
  have hl : (us ++ []).length = ps.length := by
    rw [List.append_nil, ← r.length]
    exact F.len _ _ _ _ h
  have b := hb s us I.kIn hl
  rw [List.append_nil] at b
  refine wpAny_call (codeAny_mono (F.run A X.stack s H ⟨us, []⟩ us vs Q E0 hr e0 b r h) fun r s' hq => ?_)
  cases r with
  | error e => exact False.elim hq
  | ok fl =>
    cases fl with
    | ret u => exact I.after hq
    | next => exact False.elim hq
    | brk => exact False.elim hq
    | cont => exact False.elim hq
/-- bool(x) -/
theorem call_boolMine (hs : PySem.W.findIn X.K (.ref C) "__bool__" = some (some (.ref g))) (hf : PySem.W.isFn X.K (.ref g) = true) (F : FnOk X.prog X.w X.K X.mg X.base CX0 n g fd ps sp) (hr : Room (n + 2) X.A) (hb : Binds X.K fd ps []) :
    CallR X (.type "bool") (fun xs H Q => ∃ a, xs = [.ref a] ∧ Ins H a C ∧ sp xs H (fun v H' => ∃ k, v = .bl k ∧ Q v H') E0) := by
  intro pins s σ H xs us Q I r h
  obtain ⟨a, rfl, ha, q⟩ := h
  obtain ⟨u, rfl, ru⟩ := r.one
  cases (show u = Value.ref a from ru)
  obtain ⟨ox, od, J⟩ := ins_look I ha
  have hr2 : Room n X.A.in1.in1 := (show Room (n + 1) X.A.in1 from Room.in1 hr).in1
  refine K09W.bool_own I.kIn J hs hf (wpAny_mono (run_below (us := [.ref a]) (vs := [.ref a]) F hr2 I.env0.in1.in1 hb I (.cons rfl .nil) q) (fun w s' z => ?_) fun _ _ x => x)
  obtain ⟨z', H', I', rz, k, ek, qz⟩ := z
  subst ek
  cases (show w = Value.bool k from rz)
  exact ⟨k, rfl, .bl k, H', I', rfl, qz⟩
/-- len(x) -/
theorem call_lenMine (hs : PySem.W.findIn X.K (.ref C) "__len__" = some (some (.ref g))) (hf : PySem.W.isFn X.K (.ref g) = true) (F : FnOk X.prog X.w X.K X.mg X.base CX0 n g fd ps sp) (hr : Room (n + 2) X.A) (hb : Binds X.K fd ps []) :
    CallR X (.builtin "len") (fun xs H Q => ∃ a, xs = [.ref a] ∧ Ins H a C ∧ sp xs H (fun v H' => ∃ k : Nat, v = .int k ∧ k < 1000 ∧ Q v H') E0) := by
  intro pins s σ H xs us Q I r h
  obtain ⟨a, rfl, ha, q⟩ := h
  obtain ⟨u, rfl, ru⟩ := r.one
  cases (show u = Value.ref a from ru)
  obtain ⟨ox, od, J⟩ := ins_look I ha
  have hr1 : Room n X.A.in1 := Room.in1 (show Room (n + 1) X.A from hr.mono (by omega))
  refine K09W.len_mine I.kIn J hs hf (wpAny_mono (run_below (us := [.ref a]) (vs := [.ref a]) F hr1 I.env0.in1 hb I (.cons rfl .nil) q) (fun w s' z => ?_) fun _ _ x => x)
  obtain ⟨z', H', I', rz, k, ek, kl, qz⟩ := z
  subst ek
  obtain ⟨t, rfl⟩ := (show ∃ t, w = Value.int (k : Int) t from rz)
  exact ⟨_, _, rfl, by omega, by omega, fun tk => ⟨.int (k : Int), H', I'.tok _, ⟨_, rfl⟩, qz⟩⟩
end
section
variable {X : Cx} {CX : CXT} {k : Nat} {f C : Addr} {fd : FuncData} {ps : List Str} {sp : Sp} {dvs : List V} {ds : List Value} {E : XK} {x : Str} {np pos : Pos} {e : Expr} {es : List Expr} {tf : TE} {t : TA}
/-- c(e, ..), c a name whose value is the class -/
theorem pe_makeL (M : Mk X.K C f) (F : FnOk X.prog X.w X.K X.mg X.base CX k f fd ps sp) (hr : Room (k + 1) X.A) (hb : Binds X.K fd ps ds) (hd : Vals dvs ds) (hx : Passes CX X E) (nm : PE X (.Name x np) tf)
    (ha : PA X (e :: es) t) (he : starEach (e :: es) X.env = (false, eval e X.env) :: starEach es X.env := by rfl) (hpl : (backTo pos (starEach es X.env)).any (·.1) = false := by rfl) :
    PE X (.Call (.Name x np) (e :: es) [] pos) (fun σ H Q => tf σ H fun c H1 => c = .ref C ∧ tMake C sp dvs E t σ H1 Q) := by
  constructor
  intro pins s σ H Q I h
  refine wpAny_Call_Name_kw (thn (nm.run pins s σ H _ I h) fun u s1 w1 => ?_)
  obtain ⟨c, H1, I1, rc, rfl, q1⟩ := w1
  obtain rfl : u = Value.ref C := rc
  refine PySem.W.callWith_K (h₀ := X.base) I.ok.mod.kin M.kp (thn (ha.run pos pins s1 σ H1 _ I1 q1) fun us s2 w2 => ?_) he hpl
  obtain ⟨vs, H2, I2, r, q⟩ := w2
  exact ⟨I2.kIn, run_make M F hr hb hd hx I2 r q⟩
end
end K09

/-! # the class Stair -/
namespace K09
open PySem PySem.Spec PyProof.Rows L2
section
variable {X : Cx}
theorem plain_ints : ∀ ns : List Int, PyData.plainAll (ns.map PyData.int) = true
  | [] => rfl
  | n :: r => by
    show (true && PyData.plainAll (r.map PyData.int)) = true
    rw [plain_ints r]
    rfl
theorem cr_anyT (hc : X.calm = true) : CallR X (.builtin "any") (fun vs H Q => ∃ (a : Addr) (ns : List Int), vs = [V.ref a] ∧ SqT X.K H a (ns.map V.int) ∧ Q (.bl (ns.any fun n => n != 0)) H) := by
  intro pins s σ H vs us Q I r h
  obtain ⟨a, ns, rfl, hs, q⟩ := h
  obtain ⟨its, rv, hl, _⟩ := I.tuple hs
  rw [Vals.ref1 r]
  obtain ⟨as, ra⟩ := Dp.readsAll I (ns.map PyData.int) _ its (dp_ints X.K H ns) rv
  refine PySem.W.any_tuple_data (I.ok.hd hc) (show s.heap.IsTuple a its.toArray from hl) (show ReadsAll s.heap its.toArray.toList _ _ from ra) (plain_ints ns) (fun x m => ?_) fun h' tk hk => ?_
  · obtain ⟨n, _, rfl⟩ := List.mem_map.mp m
    exact True.intro
  · refine ⟨.bl _, H, I.kept hk, ?_, q⟩
    show Value.bool _ = Value.bool _
    rw [List.any_map]
    rfl
end
/-! ### its fields -/
def stF (s p n : V) : List (Str × V) := putF "_numbers" n (putF "_plan" p (putF "_shape" s []))
theorem sp_ : ¬ (("_shape" : Str) = "_plan") := by decide +kernel
theorem sn_ : ¬ (("_shape" : Str) = "_numbers") := by decide +kernel
theorem pn_ : ¬ (("_plan" : Str) = "_numbers") := by decide +kernel
theorem stF_shape (s p n : V) : (stF s p n).lookup ("_shape" : Str) = some s := by
  unfold stF
  rw [lookup_putF, if_neg sn_, lookup_putF, if_neg sp_, lookup_putF, if_pos rfl]
theorem stF_numbers (s p n : V) : (stF s p n).lookup ("_numbers" : Str) = some n := by
  unfold stF
  rw [lookup_putF, if_pos rfl]
/-- a method of the class -/
structure M (K : PySem.W.Frag) (x q : Str) (st : Stmt) (ps : List Str) (f : Addr) (fd : FuncData) : Prop where
  F : Fun K x q st f fd
  b : Binds K fd ps []
structure SC (K : PySem.W.Frag) (mg : Str → Option Value) (C : Addr) : Prop where
  cl : Cls K C
  nS : NoAttr K C "_shape"
  nP : NoAttr K C "_plan"
  nN : NoAttr K C "_numbers"
  mC : mg "Stair" = some (.ref C)
/-- a stair: its shape's tuple, its numbers -/
def StairO (K : PySem.W.Frag) (H : Hp) (a C : Addr) (ns ms : List Int) : Prop := ∃ dx sh pln nm, H a = some (.ins C dx (stF (.ref sh) pln (.ref nm))) ∧ SqT K H sh (ns.map V.int) ∧ H nm = some (.tup (ms.map V.int)) ∧ Tv K H pln (planD ns)
theorem StairO.same {K : PySem.W.Frag} {H H' : Hp} {a C : Addr} {ns ms : List Int} (h : StairO K H a C ns ms) (s : Same H H') : StairO K H' a C ns ms := let ⟨dx, sh, pln, nm, e1, e2, e3, e4⟩ := h; ⟨dx, sh, pln, nm, s _ _ e1, sqt_same e2 s, s _ _ e3, e4.same s⟩
theorem dead {X : Cx} {b : List Stmt} : PSs X b (fun _ _ _ => False) := ⟨fun _ _ _ _ _ _ h => h.elim⟩
section
variable {P : Program} {w : World} {K : PySem.W.Frag} {mg : Str → Option Value} {base : Heap} {C CS : Addr}
abbrev s_init : Stmt := inClass (topS 42) 0
theorem sc_init : FnScope ["self", "shape", "entries", "place"] ["self", "shape", "entries"] (defScope s_init) := ⟨rfl, rfl, rfl, by decide +kernel, rfl, by decide +kernel, by decide +kernel⟩
abbrev s_nums : Stmt := inClass (topS 42) 7
theorem sc_nums : FnScope ["self"] ["self"] (defScope s_nums) := ⟨rfl, rfl, rfl, by decide +kernel, rfl, by decide +kernel, by decide +kernel⟩
abbrev s_slead : Stmt := inClass (topS 42) 9
theorem sc_slead : FnScope ["self", "at"] ["self"] (defScope s_slead) := ⟨rfl, rfl, rfl, by decide +kernel, rfl, by decide +kernel, by decide +kernel⟩
abbrev s_sbool : Stmt := inClass (topS 42) 18
theorem sc_sbool : FnScope ["self"] ["self"] (defScope s_sbool) := ⟨rfl, rfl, rfl, by decide +kernel, rfl, by decide +kernel, by decide +kernel⟩
abbrev s_slen : Stmt := inClass (topS 42) 19
theorem sc_slen : FnScope ["self"] ["self"] (defScope s_slen) := ⟨rfl, rfl, rfl, by decide +kernel, rfl, by decide +kernel, by decide +kernel⟩
/-! ### what asks it -/
def spNums (K : PySem.W.Frag) (C : Addr) : Sp := fun vs H Q _ => ∃ a ns ms, vs = [.ref a] ∧ StairO K H a C ns ms ∧ ∀ nm, H nm = some (.tup (ms.map V.int)) → Q (.ref nm) H
theorem ok_nums {f : Addr} {fd : FuncData} {k : Nat} (R : SC K mg C) (d : M K "numbers" "Stair.numbers" s_nums ["self"] f fd) : FnOk P w K mg base CX0 (k + 1) f fd ["self"] (spNums K C) := by
  refine d.F.ok sc_nums (fun vs H Q E h => ?_) (fun cdv A outer s H vs Q E hr h => ?_)
  · obtain ⟨a, ns, ms, rfl, _⟩ := h
    rfl
  · obtain ⟨a, ns, ms, rfl, ⟨dx, sh, pln, nm, e1, e2, e3, e4⟩, g⟩ := h
    exact ⟨_, pss_one (ps_ret (pe_fld (pv 0) rfl)), _, rfl, a, C, dx, _, _, rfl, e1, R.cl, R.nN, stF_numbers _ _ _, g nm e3⟩
def spLen (K : PySem.W.Frag) (C : Addr) : Sp := fun vs H Q _ => ∃ a ns ms, vs = [.ref a] ∧ StairO K H a C ns ms ∧ Q (.int (ms.length : Nat)) H
theorem ok_slen {f : Addr} {fd : FuncData} {k : Nat} (T : Txt mg) (R : SC K mg C) (d : M K "__len__" "Stair.__len__" s_slen ["self"] f fd) : FnOk P w K mg base CX0 (k + 1) f fd ["self"] (spLen K C) := by
  refine d.F.ok sc_slen (fun vs H Q E h => ?_) (fun cdv A outer s H vs Q E hr h => ?_)
  · obtain ⟨a, ns, ms, rfl, _⟩ := h
    rfl
  · obtain ⟨a, ns, ms, rfl, ⟨dx, sh, pln, nm, e1, e2, e3, e4⟩, g⟩ := h
    refine ⟨_, (pss_one (ps_ret (pe_callB call_len_seq (by rfl) T.n_len PySem.boot_len (pa_cons (pe_fld (pv 0) rfl) pa_nil)))), ?_⟩
    refine ⟨_, rfl, a, C, dx, _, _, rfl, e1, R.cl, R.nN, stF_numbers _ _ _, nm, _, rfl, .inr (.inl (.inl e3)), ?_⟩
    rw [List.length_map]
    exact g
def spSBool (K : PySem.W.Frag) (C : Addr) : Sp := fun vs H Q _ => ∃ a ns ms, vs = [.ref a] ∧ StairO K H a C ns ms ∧ Q (.bl (ms.any fun n => n != 0)) H
theorem ok_sbool {f : Addr} {fd : FuncData} {k : Nat} (N : Nam mg) (R : SC K mg C) (d : M K "__bool__" "Stair.__bool__" s_sbool ["self"] f fd) : FnOk P w K mg base CX0 (k + 1) f fd ["self"] (spSBool K C) := by
  refine d.F.ok sc_sbool (fun vs H Q E h => ?_) (fun cdv A outer s H vs Q E hr h => ?_)
  · obtain ⟨a, ns, ms, rfl, _⟩ := h
    rfl
  · obtain ⟨a, ns, ms, rfl, ⟨dx, sh, pln, nm, e1, e2, e3, e4⟩, g⟩ := h
    refine ⟨_, (pss_one (ps_ret (pe_callB (cr_anyT rfl) (by rfl) N.n_any (by decide +kernel) (pa_cons (pe_fld (pv 0) rfl) pa_nil)))), ?_⟩
    exact ⟨_, rfl, a, C, dx, _, _, rfl, e1, R.cl, R.nN, stF_numbers _ _ _, nm, _, rfl, .inl (.inl e3), g⟩
/-- the place at which it leads -/
def spSLead (K : PySem.W.Frag) (C : Addr) : Sp := fun vs H Q _ => ∃ a ns ms, vs = [.ref a] ∧ StairO K H a C ns ms ∧ Shp ns ∧ ms.length = (pl ns).length ∧
  (∀ H', Same H H' → firstNZ 0 ms = none → Q .non H') ∧ (∀ H' i t c, Same H H' → firstNZ 0 ms = some i → (pl ns)[i]? = some t → H' c = some (.tup (triV t)) → Q (.ref c) H')
theorem firstNZ_lt : ∀ {ms : List Int} {k i : Nat}, firstNZ k ms = some i → k ≤ i ∧ i < k + ms.length
  | [], k, i, h => nomatch h
  | m :: r, k, i, h => by
    unfold firstNZ at h
    split at h
    · have z := firstNZ_lt h
      rw [List.length_cons]
      omega
    · obtain rfl := Option.some.inj h
      rw [List.length_cons]
      omega
end
end K09

/-! # stairs made -/
namespace K09
open PySem PySem.Spec PyProof.Rows L2
/-- the number at a place -/
def numAt (ps : List (List L2.Key × V)) (t : Tri) : Int := match valV ps (triK t) with
  | some (.int n) => n
  | _ => 0
theorem numAt_v {ns : List Int} {ps : List (List L2.Key × V)} (E : Ent ns ps) (t : Tri) : (valV ps (triK t)).getD (.int 0) = .int (numAt ps t) := by
  unfold numAt
  cases e : valV ps (triK t) with
  | none => rfl
  | some v =>
    obtain ⟨p, m, rfl⟩ : ∃ p, p ∈ ps ∧ p.2 = v := by
      clear E
      induction ps with
      | nil => cases e
      | cons q r ih =>
        by_cases z : q.1 = triK t
        · have y : valV (q :: r) (triK t) = some q.2 := by
            unfold valV
            rw [List.find?_cons_of_pos (by simpa using z)]
            rfl
          rw [y] at e
          exact ⟨q, List.mem_cons_self, Option.some.inj e⟩
        · have y : valV (q :: r) (triK t) = valV r (triK t) := by
            unfold valV
            rw [List.find?_cons_of_neg (by simpa using z)]
          rw [y] at e
          obtain ⟨p, m, h⟩ := ih e
          exact ⟨p, List.mem_cons_of_mem _ m, h⟩
    obtain ⟨_, _, _, n, en, _, _⟩ := E.2 p m
    rw [en]
    rfl
section
variable {P : Program} {w : World} {K : PySem.W.Frag} {mg : Str → Option Value} {base : Heap} {C CS : Addr}
mutual
theorem Tv.putI {K : PySem.W.Frag} {H : Hp} {a C dx : Addr} {fs : List (Str × V)} {y : HO} (ha : H a = some (.ins C dx fs)) : ∀ {x : V} {d : PyData}, Tv K H x d → Tv K (upd H a y) x d
  | _, _, .non => .non
  | _, _, .bl b => .bl b
  | _, _, .int i => .int i
  | _, _, .str z => .str z
  | _, _, .tup e l => .tup (sqt_upd e fun o h => by
      rw [ha] at h
      cases h
      exact ⟨fun z => (by cases z), fun _ z => (by cases z)⟩) (TvL.putI ha l)
theorem TvL.putI {K : PySem.W.Frag} {H : Hp} {a C dx : Addr} {fs : List (Str × V)} {y : HO} (ha : H a = some (.ins C dx fs)) : ∀ {zs : List V} {ds : List PyData}, TvL K H zs ds → TvL K (upd H a y) zs ds
  | _, _, .nil => .nil
  | _, _, .cons h t => .cons (Tv.putI ha h) (TvL.putI ha t)
end
/-- the instance at a is filled -/
def spInit (K : PySem.W.Frag) (C : Addr) : Sp := fun vs H Q _ => ∃ (a sh D dx : Addr) (ns : List Int) (ps : List (List L2.Key × V)), vs = [.ref a, .ref sh, .ref D] ∧ H a = some (.ins C dx []) ∧ SqT K H sh (ns.map V.int) ∧ Shp ns ∧ H D = some (.dT ps) ∧ Ent ns ps ∧
  ∀ H', Old a H H' → StairO K H' a C ns ((pl ns).map (numAt ps)) → Q .non H'
theorem ok_init {f f1 f2 f3 f4 : Addr} {fd fd1 fd2 fd3 fd4 : FuncData} (T : Txt mg) (N : Nam mg) (R : SC K mg C) (d : M K "__init__" "Stair.__init__" s_init ["self", "shape", "entries"] f fd)
    (d1 : D K mg "check_shape" s_check ["shape"] f1 fd1) (d2 : D K mg "are_entries" s_ents ["shape", "value"] f2 fd2) (d3 : D K mg "plan_of" s_plan ["shape"] f3 fd3) (d4 : D K mg "places" s_places ["shape"] f4 fd4)
    (G1 : FnOk P w K mg base (L2.CX P w) 4 f1 fd1 ["shape"] (spCheck K CS)) (G2 : FnOk P w K mg base (L2.CX P w) 6 f2 fd2 ["shape", "value"] (spEnts K)) (G3 : FnOk P w K mg base (L2.CX P w) 6 f3 fd3 ["shape"] (spPlan K)) (G4 : FnOk P w K mg base (L2.CX P w) 5 f4 fd4 ["shape"] (spPlaces K CS)) :
    FnOk P w K mg base CX0 7 f fd ["self", "shape", "entries"] (spInit K C) := by
  refine d.F.ok sc_init (fun vs H Q E h => ?_) (fun cdv A outer s H vs Q E hr h => ?_)
  · obtain ⟨a, sh, D, dx, ns, ps, rfl, _⟩ := h
    rfl
  · obtain ⟨a, sh, D, dx, ns, ps, rfl, ea, es, S, eD, EN, q⟩ := h
    have un : (A.deeper (envOfC "Stair.__init__" (defScope s_init) s.heap.objs.size f cdv)).units + 1 < cLine := by have := hr.un; omega
    refine ⟨_, (pss_cons (ps_expr (pe_call (E := fun _ _ _ => False) G1 (hr.mono (by decide)) (by rfl) d1.g d1.F.kp d1.b .nil passF (pa_cons (pv 1) pa_nil)))
      (pss_cons (ps_if (pt_not (pt_val (pe_call (E := fun _ _ _ => False) G2 (hr.mono (by decide)) (by rfl) d2.g d2.F.kp d2.b .nil passF (pa_cons (pv 1) (pa_cons (pv 2) pa_nil))))) dead pss_nil)
      (pss_cons (ps_fld (pv 0) (pv 1) rfl)
      (pss_cons (ps_fld (pv 0) (pe_call (E := fun _ _ _ => False) G3 (hr.mono (by decide)) (by rfl) d3.g d3.F.kp d3.b .nil passF (pa_cons (pv 1) pa_nil)) rfl)
      (pss_one (ps_fld (pv 0) (pe_tupleOf (by rfl) T.n_tuple (pe_lc (own := [("place", 3)]) (g := gName 3) (tt := tYes) rfl sc_init.nd (pi_tup (pe_call (E := fun _ _ _ => False) G4 (hr.mono (by decide)) (by rfl) d4.g d4.F.kp d4.b .nil passF (pa_cons (pv 1) pa_nil))) (blkOk_by (own := [("place", 3)]) (N := ["self", "shape", "entries", "place"]) (sc := defScope s_init) (by decide +kernel))
            (fun _ _ _ _ _ => (pg_name (i := 3) sc_init.nd rfl (Or.inl rfl))) (fun _ _ _ _ _ => pts_nil) (fun _ _ _ _ _ => (pe_dget2 un (pv 2) (pv 3) pe_int ⟨rfl, rfl, rfl, rfl⟩)))) rfl)))))), ?_⟩
    refine ⟨_, rfl, _, .tuple (ns.map .int), rfl, .tv (.tup es (tvl_ints ns)), fun _ H1 s1 => ?_, fun z => absurd (shp_is S) (by rw [z]; decide)⟩
    refine ⟨_, rfl, _, rfl, sh, D, ns, ps, rfl, sqt_same es s1, S, s1 _ _ eD, EN, fun H2 s2 => ⟨true, rfl, ite2 (fun z => absurd z Bool.false_ne_true) (fun _ => ?_)⟩⟩
    have s12 := s1.trans s2
    have ea2 := s12 _ _ ea
    have es2 := sqt_same es s12
    have eD2 := s12 _ _ eD
    have fa : ∀ {y : HO}, SqT K (upd H2 a y) sh (ns.map V.int) := fun {y} => sqt_upd es2 fun o h => by
      rw [ea2] at h
      cases h
      exact ⟨fun z => (by cases z), fun _ z => (by cases z)⟩
    have Da : D ≠ a := fun z => by rw [z, ea] at eD; cases eD
    refine ⟨_, rfl, _, rfl, a, C, dx, [], rfl, ea2, R.cl, R.nS, (by show 0 < 1000; decide), ?_⟩
    have o3 : Old a H (upd H2 a (.ins C dx (putF "_shape" (.ref sh) []))) := fun b o n e => by rw [upd_ne n]; exact s12 _ _ e
    have ea3 : upd H2 a (.ins C dx (putF "_shape" (.ref sh) [])) a = some (.ins C dx (putF "_shape" (.ref sh) [])) := upd_same
    have es3 : SqT K (upd H2 a (.ins C dx (putF "_shape" (.ref sh) []))) sh (ns.map V.int) := fa
    have eD3 := o3 _ _ Da eD
    revert o3 ea3 es3 eD3
    generalize upd H2 a (.ins C dx (putF "_shape" (.ref sh) [])) = H3
    intro o3 ea3 es3 eD3
    refine ⟨_, rfl, sh, ns, rfl, es3, S, fun H4 pln s4 tp4 => ?_⟩
    refine ⟨_, rfl, a, C, dx, _, rfl, s4 _ _ ea3, R.cl, R.nP, (by show 1 < 1000; decide), ?_⟩
    have ea4 := s4 _ _ ea3
    have o5 : Old a H (upd H4 a (.ins C dx (putF "_plan" pln (putF "_shape" (.ref sh) [])))) := fun b o n e => by rw [upd_ne n]; exact s4 _ _ (o3 _ _ n e)
    have ea5 : upd H4 a (.ins C dx (putF "_plan" pln (putF "_shape" (.ref sh) []))) a = some (.ins C dx (putF "_plan" pln (putF "_shape" (.ref sh) []))) := upd_same
    have es5 : SqT K (upd H4 a (.ins C dx (putF "_plan" pln (putF "_shape" (.ref sh) [])))) sh (ns.map V.int) := sqt_upd (sqt_same es3 s4) fun o h => by
      rw [ea4] at h
      cases h
      exact ⟨fun z => (by cases z), fun _ z => (by cases z)⟩
    have eD5 := o5 _ _ Da eD
    have tp5 := tp4.putI (y := .ins C dx (putF "_plan" pln (putF "_shape" (.ref sh) []))) ea4
    revert o5 ea5 es5 eD5 tp5
    generalize upd H4 a (.ins C dx (putF "_plan" pln (putF "_shape" (.ref sh) []))) = H5
    intro o5 ea5 es5 eD5 tp5
    refine ⟨_, rfl, _, .tuple (ns.map .int), rfl, .tv (.tup es5 (tvl_ints ns)), fun ns' en S' H6 y s6 ty => ?_, fun z => absurd (shp_is S) (by rw [z]; decide)⟩
    obtain rfl : ns' = ns := (ints_inj (PyData.tuple.inj en)).symm
    obtain ⟨o, xs, rfl, eo, tl⟩ := ty
    have lx : xs.length = (pl ns').length := tl.len
    have lz := (tables3 ns' (shp_mem S)).2.1
    have o6 : Old a H H6 := fun b ob n e => s6 _ _ (o5 _ _ n e)
    refine ⟨o, rfl, ⟨xs, .inl (.inl eo)⟩, fun L nL => ?_⟩
    refine lc_tup (K := K) (a := o) (xs := xs) (fun i Z => Same H6 Z ∧ Z L = some (.lst ((((pl ns').take i).map (numAt ps)).map V.int))) ⟨sub_same nL, upd_same⟩ (fun i Z _ h => .inl (.inl (h.1 _ _ eo))) ?_ ?_
    · rintro i x Z hx ⟨sm, hl⟩
      obtain ⟨t, c, et, rfl, ec⟩ := tl.tri hx
      refine ⟨rfl, yesT ⟨_, rfl, D, rfl, .inr ⟨ps, .inl (sm _ _ (s6 _ _ eD5))⟩, _, rfl, _, DGet.t (k := triK t) (sm _ _ (s6 _ _ eD5)) (sm _ _ ec), ?_⟩⟩
      have il := (List.getElem?_eq_some_iff.mp et).1
      refine ⟨_, hl, ?_, fun b ob eb => ?_, ?_⟩
      · rw [List.length_map, List.length_map, List.length_take, sizeLine_eq]
        omega
      · rw [upd_ne (fun z => by rw [z, nL] at eb; cases eb)]
        exact sm _ _ eb
      · rw [upd_same, numAt_v EN t, List.take_succ, et, List.map_append, List.map_append]
        rfl
    · rintro Z ⟨sm, hl⟩
      rw [lx, List.take_length] at hl
      refine .inl ⟨L, _, rfl, .inl (.inl hl), fun nm nn => ?_⟩
      have s7 := sub_same (o := .tup (((pl ns').map (numAt ps)).map V.int)) nn
      have ea7 := s7 _ _ (sm _ _ (s6 _ _ ea5))
      have na : nm ≠ a := fun z => by rw [z, sm _ _ (s6 _ _ ea5)] at nn; cases nn
      refine ⟨_, rfl, a, C, dx, _, rfl, ea7, R.cl, R.nN, (by show 2 < 1000; decide), ?_⟩
      refine q _ (fun b ob n e => ?_) ⟨dx, sh, pln, nm, upd_same, ?_, ?_, ?_⟩
      · rw [upd_ne n]
        exact s7 _ _ (sm _ _ (o6 _ _ n e))
      · exact sqt_upd (sqt_same (sqt_same (sqt_same es5 s6) sm) s7) fun o h => by
          rw [ea7] at h
          cases h
          exact ⟨fun z => (by cases z), fun _ z => (by cases z)⟩
      · rw [upd_ne na]
        exact upd_same
      · exact (((tp5.same s6).same sm).same s7).putI ea7
/-- none is made of what is no shape -/
def spInitX (K : PySem.W.Frag) (CS : Addr) : Sp := fun vs H Q E => ∃ (a x y : V) (d : PyData), vs = [a, x, y] ∧ Dw K H x d ∧ isSh d = false ∧ ∀ H', Same H H' → E (.ref CS) none H'
theorem ok_initX {f f1 : Addr} {fd fd1 : FuncData} (T : Txt mg) (d : M K "__init__" "Stair.__init__" s_init ["self", "shape", "entries"] f fd)
    (d1 : D K mg "check_shape" s_check ["shape"] f1 fd1) (G1 : FnOk P w K mg base (L2.CX P w) 4 f1 fd1 ["shape"] (spCheck K CS)) : FnOk P w K mg base (L2.CX P w) 5 f fd ["self", "shape", "entries"] (spInitX K CS) := by
  refine d.F.okX sc_init (fun vs H Q E h => ?_) (fun cdv A outer s H vs Q E hr h => ?_)
  · obtain ⟨a, x, y, d, rfl, _⟩ := h
    rfl
  · obtain ⟨a, x, y, d, rfl, dx, ns, q⟩ := h
    refine ⟨_, pss_cons (ps_expr (pe_call (E := E) G1 (hr.mono (by decide)) (by rfl) d1.g d1.F.kp d1.b .nil (passes_call (takes_of rfl rfl rfl rfl) (fun _ _ _ _ h => h)) (pa_cons (pv 1) pa_nil))) dead, ?_⟩
    exact ⟨_, rfl, x, d, rfl, dx, (fun z => by rw [ns] at z; cases z), fun _ H' s => q H' s⟩
abbrev s_one1 : Stmt := inClass (topS 42) 1
theorem sc_one1 : FnScope ["cls", "shape"] ["cls", "shape"] (defScope s_one1) := ⟨rfl, rfl, rfl, by decide +kernel, rfl, by decide +kernel, by decide +kernel⟩
def spOne1 (K : PySem.W.Frag) (C CS : Addr) : Sp := fun vs H Q E => ∃ (x : V) (d : PyData), vs = [.ref C, x] ∧ Dw K H x d ∧ isSh d = false ∧ ∀ H', Same H H' → E (.ref CS) none H'
theorem ok_one1 {f fI : Addr} {fd fdI : FuncData} (mk : Mk K C fI) (bI : Binds K fdI ["self", "shape", "entries"] []) (d : M K "one" "Stair.one" s_one1 ["cls", "shape"] f fd)
    (GI : FnOk P w K mg base (L2.CX P w) 5 fI fdI ["self", "shape", "entries"] (spInitX K CS)) : FnOk P w K mg base (L2.CX P w) 7 f fd ["cls", "shape"] (spOne1 K C CS) := by
  refine d.F.okX sc_one1 (fun vs H Q E h => ?_) (fun cdv A outer s H vs Q E hr h => ?_)
  · obtain ⟨x, d, rfl, _⟩ := h
    rfl
  · obtain ⟨x, d, rfl, dx, ns, q⟩ := h
    refine ⟨_, (pss_one (ps_ret (pe_makeL mk GI hr bI .nil (passes_call (takes_of rfl rfl rfl rfl) (fun _ _ _ _ h => h)) (pv 0) (pa_cons (pv 1) (pa_cons pe_dnewT pa_nil))))), ?_⟩
    refine ⟨_, rfl, rfl, _, rfl, fun D nD a dd na nd ne => ?_⟩
    have s1 := sub_same (o := .dT []) nD
    have s2 : Same H (upd (upd (upd H D (.dT [])) dd (.own a)) a (.ins C dd [])) := s1.trans ((sub_same nd).trans (sub_same (by rw [upd_ne (Ne.symm ne)]; exact na)))
    exact ⟨_, x, _, d, rfl, dx.same s2, ns, fun H' s3 => q H' (s2.trans s3)⟩
end
end K09

/-! # stairs with given numbers; tables -/
namespace K09
open PySem PySem.Spec PyProof.Rows L2
theorem stF_eq (s p n : V) : stF s p n = [(("_shape" : Str), s), (("_plan" : Str), p), (("_numbers" : Str), n)] := by
  have e1 : putF "_plan" p [(("_shape" : Str), s)] = [(("_shape" : Str), s), (("_plan" : Str), p)] := by
    show (if ("_shape" : Str) = "_plan" then _ else (("_shape" : Str), s) :: [(("_plan" : Str), p)]) = _
    rw [if_neg sp_]
  show putF "_numbers" n (putF "_plan" p [(("_shape" : Str), s)]) = _
  rw [e1]
  show (if ("_shape" : Str) = "_numbers" then _ else (("_shape" : Str), s) :: (if ("_plan" : Str) = "_numbers" then _ else (("_plan" : Str), p) :: [(("_numbers" : Str), n)])) = _
  rw [if_neg sn_, if_neg pn_]
section
variable {P : Program} {w : World} {K : PySem.W.Frag} {mg : Str → Option Value} {base : Heap} {C CS TL : Addr}
abbrev s_with : Stmt := topS 43
theorem sc_with : FnScope ["shape", "plan", "numbers", "made"] ["shape", "plan", "numbers"] (defScope s_with) := ⟨rfl, rfl, rfl, by decide +kernel, rfl, by decide +kernel, by decide +kernel⟩
def spWith (K : PySem.W.Frag) (C : Addr) : Sp := fun vs H Q _ => ∃ (sh nm : Addr) (pln : V) (ns ms : List Int), vs = [.ref sh, pln, .ref nm] ∧ SqT K H sh (ns.map V.int) ∧ Tv K H pln (planD ns) ∧ H nm = some (.tup (ms.map V.int)) ∧
  ∀ H' b, Same H H' → H b = none → StairO K H' b C ns ms → Q (.ref b) H'
theorem ok_with {f fI : Addr} {fd fdI : FuncData} (R : SC K mg C) (gL : mg "_LEAST_SHAPE" = some (.ref TL)) (least : ∀ H : Hp, SqT K H TL ([2].map V.int)) (d : D K mg "stair_with" s_with ["shape", "plan", "numbers"] f fd)
    (mk : Mk K C fI) (GI : FnOk P w K mg base CX0 7 fI fdI ["self", "shape", "entries"] (spInit K C)) (bI : Binds K fdI ["self", "shape", "entries"] []) : FnOk P w K mg base CX0 9 f fd ["shape", "plan", "numbers"] (spWith K C) := by
  refine d.F.ok sc_with (fun vs H Q E h => ?_) (fun cdv A outer s H vs Q E hr h => ?_)
  · obtain ⟨sh, nm, pln, ns, ms, rfl, _⟩ := h
    rfl
  · obtain ⟨sh, nm, pln, ns, ms, rfl, es, tp, en, q⟩ := h
    refine ⟨_, (pss_cons (ps_set (i := 3) sc_with.nd rfl (.inl rfl) (pe_make mk GI (hr.mono (by decide)) (by rfl) R.mC bI .nil pass0 (pa_cons (pe_glob (v := .ref TL) rfl gL rfl) (pa_cons pe_dnewT pa_nil))))
      (pss_cons (ps_fld (pv 3) (pv 0) rfl)
      (pss_cons (ps_fld (pv 3) (pv 1) rfl)
      (pss_cons (ps_fld (pv 3) (pv 2) rfl)
      (pss_one (ps_ret (pv 3))))))), ?_⟩
    refine fun D nD x dx nx ndx nex => ?_
    have s1 := sub_same (o := .dT []) nD
    have eD : upd H D (.dT []) D = some (.dT []) := upd_same
    revert s1 eD nx ndx
    generalize upd H D (.dT []) = H1
    intro nx ndx s1 eD
    have s2 : Same H1 (upd (upd H1 dx (.own x)) x (.ins C dx [])) := (sub_same ndx).trans (sub_same (by rw [upd_ne (Ne.symm nex)]; exact nx))
    have ent : Ent [2] [] := ⟨by decide, fun p m => by cases m⟩
    have shp : Shp [2] := ⟨⟨by decide, by decide⟩, fun n m => by obtain rfl : n = 2 := List.mem_singleton.mp m; decide, by decide⟩
    refine ⟨x, TL, D, dx, [2], [], rfl, upd_same, least _, shp, s2 _ _ eD, ent, fun H2 o2 st => ⟨rfl, ?_⟩⟩
    obtain ⟨dx2, sh0, p0, n0, ex, _, _, _⟩ := st
    have s3 : Same H1 H2 := fun b o e => o2 _ _ (ne_of_none e nx) (s2 _ _ e)
    have sH := s1.trans s3
    have nH : H x = none := s1.free nx
    refine ⟨_, rfl, _, rfl, x, C, dx2, _, rfl, ex, R.cl, R.nS, (by rw [stF_eq]; show 3 < 1000; decide), ?_⟩
    have l1 : (putF "_shape" (.ref sh) (stF (.ref sh0) p0 (.ref n0))) = stF (.ref sh) p0 (.ref n0) := by
      rw [stF_eq, stF_eq]
      show (if ("_shape" : Str) = "_shape" then _ else _) = _
      rw [if_pos rfl]
    rw [l1]
    refine ⟨_, rfl, _, rfl, x, C, dx2, _, rfl, upd_same, R.cl, R.nP, (by rw [stF_eq]; show 3 < 1000; decide), ?_⟩
    have l2 : (putF "_plan" pln (stF (.ref sh) p0 (.ref n0))) = stF (.ref sh) pln (.ref n0) := by
      rw [stF_eq, stF_eq]
      show (if ("_shape" : Str) = "_plan" then _ else (("_shape" : Str), V.ref sh) :: (if ("_plan" : Str) = "_plan" then _ else _)) = _
      rw [if_neg sp_, if_pos rfl]
    rw [l2]
    refine ⟨_, rfl, _, rfl, x, C, dx2, _, rfl, upd_same, R.cl, R.nN, (by rw [stF_eq]; show 3 < 1000; decide), ?_⟩
    have l3 : (putF "_numbers" (.ref nm) (stF (.ref sh) pln (.ref n0))) = stF (.ref sh) pln (.ref nm) := by
      rw [stF_eq, stF_eq]
      show (if ("_shape" : Str) = "_numbers" then _ else (("_shape" : Str), V.ref sh) :: (if ("_plan" : Str) = "_numbers" then _ else (("_plan" : Str), pln) :: (if ("_numbers" : Str) = "_numbers" then _ else _))) = _
      rw [if_neg sn_, if_neg pn_, if_pos rfl]
    rw [l3]
    have off : ∀ {o1 o2 o3 : HO}, Same H (upd (upd (upd H2 x o1) x o2) x o3) := fun {o1 o2 o3} b o e => by
      have bx : b ≠ x := fun z => by rw [z, nH] at e; cases e
      rw [upd_ne bx, upd_ne bx, upd_ne bx]
      exact sH _ _ e
    exact ⟨_, rfl, q _ x off nH ⟨dx2, sh, pln, nm, upd_same, sqt_same es off, off _ _ en, tp.same off⟩⟩
/-! ### tables -/
/-- the entry of a table, ones from corner to corner -/
def tabE (num : Tri → Int) (b i j : Int) : Int := if i < j then num (b, i, j) else if i = j then 1 else 0
/-- a dict that holds the numbers of the places -/
def Hold (ns : List Int) (num : Tri → Int) (ps : List (List L2.Key × V)) : Prop := ∀ t ∈ pl ns, valV ps (triK t) = some (.int (num t))
abbrev s_tent : Stmt := topS 53
theorem sc_tent : FnScope ["entries", "block", "row", "column"] ["entries", "block", "row", "column"] (defScope s_tent) := ⟨rfl, rfl, rfl, by decide +kernel, rfl, by decide +kernel, by decide +kernel⟩
def spTent : Sp := fun vs H Q _ => ∃ (De : Addr) (ps : List (List L2.Key × V)) (ns : List Int) (num : Tri → Int) (b i j : Int), vs = [.ref De, .int b, .int i, .int j] ∧ H De = some (.dT ps) ∧ Hold ns num ps ∧ (i < j → (b, i, j) ∈ pl ns) ∧ ∀ H', Same H H' → Q (.int (tabE num b i j)) H'
theorem ok_tent {f : Addr} {fd : FuncData} {k : Nat} (d : D K mg "table_entry" s_tent ["entries", "block", "row", "column"] f fd) : FnOk P w K mg base CX0 (k + 1) f fd ["entries", "block", "row", "column"] spTent := by
  refine d.F.ok sc_tent (fun vs H Q E h => ?_) (fun cdv A outer s H vs Q E hr h => ?_)
  · obtain ⟨De, ps, ns, num, b, i, j, rfl, _⟩ := h
    rfl
  · obtain ⟨De, ps, ns, num, b, i, j, rfl, eD, hold, mem, q⟩ := h
    have un : (A.deeper (envOfC "table_entry" (defScope s_tent) s.heap.objs.size f cdv)).units + 1 < cLine := by have := hr.un; omega
    refine ⟨_, (pss_cons (ps_if (pt_cmpR op_lt (pv 2) (pv 3) (nomark _)) (pss_one (ps_ret (pe_dget un (pv 0) (pe_tup (pa_cons (pv 1) (pa_cons (pv 2) (pa_cons (pv 3) pa_nil)))) (fun _ _ => rfl)))) pss_nil)
      (pss_one (ps_ret (pe_ifExp (pt_cmpR op_eq (pv 2) (pv 3) (nomark _)) pe_int pe_int)))), ?_⟩
    unfold tabE at q
    refine ⟨_, rfl, _, rfl, _, _, rfl, rfl, _, rfl, ?_⟩
    by_cases lt : i < j
    · rw [if_pos lt] at q
      refine iteP lt ⟨_, rfl, _, rfl, _, rfl, _, rfl, (by show 3 ≤ sizeLine; decide), fun p np => ⟨De, _, rfl, ?_, q _ (sub_same np)⟩⟩
      rw [← hold _ (mem lt)]
      exact DGet.t (k := triK (b, i, j)) (sub_same np _ _ eD) upd_same
    · rw [if_neg lt] at q
      refine iteQ lt ⟨_, rfl, _, rfl, rfl, _, rfl, ?_⟩
      by_cases eq : i = j
      · rw [if_pos eq] at q
        exact ite2 (fun _ => q H (Same.refl H)) (fun z => absurd (decide_eq_true (by rw [eq])) z)
      · rw [if_neg eq] at q
        exact ite2 (fun z => absurd (V.int.inj (of_decide_eq_true z)) eq) (fun _ => q H (Same.refl H))
end
end K09

/-! # whole tables -/
namespace K09
open PySem PySem.Spec PyProof.Rows L2
def rowT (num : Tri → Int) (b i : Int) (k : Nat) : List Int := (List.range k).map fun (j : Nat) => tabE num b i (j : Int)
theorem rowT_succ (num : Tri → Int) (b i : Int) (k : Nat) : rowT num b i (k + 1) = rowT num b i k ++ [tabE num b i (k : Int)] := by
  unfold rowT
  rw [List.range_succ, List.map_append]
  rfl
theorem rowT_len (num : Tri → Int) (b i : Int) (k : Nat) : (rowT num b i k).length = k := by
  unfold rowT
  rw [List.length_map, List.length_range]
def rowD (num : Tri → Int) (b : Int) (s : Nat) (i : Nat) : PyData := .tuple ((rowT num b (i : Int) s).map .int)
/-- the table of the block b, of s rows -/
def tabD (num : Tri → Int) (b : Int) (s : Nat) : PyData := .tuple ((List.range s).map (rowD num b s))
section
variable {P : Program} {w : World} {K : PySem.W.Frag} {mg : Str → Option Value} {base : Heap} {C CS TL : Addr}
abbrev s_tof : Stmt := topS 52
theorem sc_tof : FnScope ["entries", "block", "size", "i", "j"] ["entries", "block", "size"] (defScope s_tof) := ⟨rfl, rfl, rfl, by decide +kernel, rfl, by decide +kernel, by decide +kernel⟩
def spTof (K : PySem.W.Frag) : Sp := fun vs H Q _ => ∃ (De : Addr) (ps : List (List L2.Key × V)) (ns : List Int) (num : Tri → Int) (b : Int) (s : Nat), vs = [.ref De, .int b, .int (s : Int)] ∧ H De = some (.dT ps) ∧ Hold ns num ps ∧ s ≤ 6 ∧
  (∀ i j : Nat, i < j → j < s → (b, (i : Int), (j : Int)) ∈ pl ns) ∧ ∀ H' y, Same H H' → Tv K H' y (tabD num b s) → Q y H'
theorem ok_tof {f f1 : Addr} {fd fd1 : FuncData} (T : Txt mg) (d : D K mg "table_of" s_tof ["entries", "block", "size"] f fd) (d1 : D K mg "table_entry" s_tent ["entries", "block", "row", "column"] f1 fd1)
    (G1 : FnOk P w K mg base CX0 1 f1 fd1 ["entries", "block", "row", "column"] spTent) : FnOk P w K mg base CX0 2 f fd ["entries", "block", "size"] (spTof K) := by
  refine d.F.ok sc_tof (fun vs H Q E h => ?_) (fun cdv A outer s H vs Q E hr h => ?_)
  · obtain ⟨De, ps, ns, num, b, z, rfl, _⟩ := h
    rfl
  · obtain ⟨De, ps, ns, num, b, z, rfl, eD, hold, z6, mem, q⟩ := h
    refine ⟨_, (pss_one (ps_ret (pe_tupleOf (by rfl) T.n_tuple (pe_lc (own := [("i", 3)]) (g := gName 3) (tt := tYes) rfl sc_tof.nd (pi_range1 (by rfl) T.n_range (pa_cons (pv 2) pa_nil)) (blkOk_by (own := [("i", 3)]) (N := ["entries", "block", "size", "i", "j"]) (sc := defScope s_tof) (by decide +kernel))
            (fun _ _ _ _ _ => (pg_name (i := 3) sc_tof.nd rfl (Or.inr rfl))) (fun _ _ _ _ _ => pts_nil) (fun _ _ _ _ _ => (pe_tupleOfK (K := K) rfl (by rfl) T.n_tuple (pe_lc (own := [("j", 4)]) (g := gName 4) (tt := tYes) rfl sc_tof.nd (pi_range1 (by rfl) T.n_range (pa_cons (pv 2) pa_nil)) (blkOk_by (own := [("j", 4)]) (N := ["entries", "block", "size", "i", "j"]) (sc := relS _ (defScope s_tof)) (by decide +kernel))
            (fun _ _ _ _ _ => (pg_name (i := 4) sc_tof.nd rfl (Or.inl rfl))) (fun _ _ _ _ _ => pts_nil) (fun _ _ _ _ _ => (pe_call G1 hr (by rfl) d1.g d1.F.kp d1.b .nil pass0 (pa_cons (pv 0) (pa_cons (pv 1) (pa_cons (pv 3) (pa_cons (pv 4) pa_nil))))))))))))), ?_⟩
    refine ⟨_, rfl, (z : Int), rfl, by omega, by omega, fun L nL => ?_⟩
    have e0 : ((z : Int)).toNat = z := Int.toNat_natCast z
    rw [e0]
    refine lc_range (lo := 0) (n := z) (fun i Y => Same H Y ∧ ∃ acc, Y L = some (.lst acc) ∧ TvL K Y acc ((List.range i).map (rowD num b z))) ⟨sub_same nL, [], upd_same, .nil⟩ ?_ ?_
    · rintro i Y hi ⟨sy, acc, ha, la⟩
      refine ⟨rfl, yesT ?_⟩
      refine ⟨_, rfl, (z : Int), rfl, by omega, by omega, fun L2 nL2 => ?_⟩
      rw [e0]
      refine lc_range (lo := 0) (n := z) (fun j U => Same Y U ∧ U L2 = some (.lst ((rowT num b (i : Int) j).map V.int))) ⟨sub_same nL2, upd_same⟩ ?_ ?_
      · rintro j U hj ⟨su, ha2⟩
        refine ⟨rfl, yesT ?_⟩
        refine ⟨_, rfl, _, rfl, _, rfl, _, rfl, De, ps, ns, num, b, _, _, rfl, su _ _ (sy _ _ eD), hold, fun lt => ?_, fun U2 s2 => ?_⟩
        · have m := mem i j (by omega) hj
          rw [Int.zero_add, Int.zero_add]
          exact m
        · rw [Int.zero_add, Int.zero_add]
          refine ⟨_, s2 _ _ ha2, ?_, fun k o e => ?_, ?_⟩
          · rw [List.length_map, rowT_len, sizeLine_eq]
            omega
          · rw [upd_ne (fun z => by rw [z, nL2] at e; cases e)]
            exact s2 _ _ (su _ _ e)
          · rw [upd_same, rowT_succ, List.map_append]
            rfl
      · rintro U ⟨su, ha2⟩
        refine .inl ⟨L2, _, rfl, .inl (.inl ha2), fun p np => ?_⟩
        have s4 := su.trans (sub_same (o := .tup ((rowT num b (i : Int) z).map V.int)) np)
        have l1 := la.len
        rw [List.length_map, List.length_range] at l1
        refine ⟨acc, s4 _ _ ha, ?_, fun k o e => ?_, _, upd_same, ?_⟩
        · rw [sizeLine_eq]
          omega
        · rw [upd_ne (fun z => by rw [z, nL] at e; cases e)]
          exact s4 _ _ (sy _ _ e)
        · rw [List.range_succ, List.map_append]
          exact ((la.same s4).snoc (.tup (sqt_new upd_same) (tvl_ints _))).put (s4 _ _ ha)
    · rintro Y ⟨sy, acc, ha, la⟩
      exact .inl ⟨L, acc, rfl, .inl (.inl ha), fun p np => q _ _ (sy.trans (sub_same np)) (.tup (sqt_new upd_same) (la.same (sub_same np)))⟩
end
end K09

/-! # stairs compared -/
namespace K09
open PySem PySem.Spec PyProof.Rows L2
theorem canLay_ints : ∀ l : List Int, PyData.canLayAll0 (l.map .int) = true
  | [] => rfl
  | n :: r => by
    show (true && PyData.canLayAll0 (r.map .int)) = true
    rw [canLay_ints r]
    rfl
theorem shaped_ints (ns : List Int) : SeqAt.shaped (.tuple (ns.map .int)) = true := by
  show (PyData.canLayAll0 (ns.map .int) && decide (PyData.depthAll (ns.map .int) + 1 ≤ 64)) = true
  rw [canLay_ints, dep_ints]
  rfl
theorem eqv_tups (ns ms : List Int) : PyData.eqv (.tuple (ns.map .int)) (.tuple (ms.map .int)) = decide (ns = ms) := by
  show PyData.eqvAll (ns.map .int) (ms.map .int) = _
  exact eqv_ints
section
variable {P : Program} {w : World} {K : PySem.W.Frag} {mg : Str → Option Value} {base : Heap} {C CS TL : Addr}
theorem StairO.ty {H : Hp} {a : Addr} {ns ms : List Int} (IC : C8.InsC K C) (h : StairO K H a C ns ms) : TyX K H (.ref a) (.ref C) := let ⟨_, _, _, _, e, _⟩ := h; .base (.ins e IC.cl IC.ha IC.hn IC.htk IC.hm)
abbrev s_shp : Stmt := inClass (topS 42) 5
theorem sc_shp : FnScope ["self"] ["self"] (defScope s_shp) := ⟨rfl, rfl, rfl, by decide +kernel, rfl, by decide +kernel, by decide +kernel⟩
def spShp (K : PySem.W.Frag) (C : Addr) : Sp := fun vs H Q _ => ∃ a ns ms, vs = [.ref a] ∧ StairO K H a C ns ms ∧ ∀ sh, SqT K H sh (ns.map V.int) → Q (.ref sh) H
theorem ok_shp {f : Addr} {fd : FuncData} {k : Nat} (R : SC K mg C) (d : M K "shape" "Stair.shape" s_shp ["self"] f fd) : FnOk P w K mg base CX0 (k + 1) f fd ["self"] (spShp K C) := by
  refine d.F.ok sc_shp (fun vs H Q E h => ?_) (fun cdv A outer s H vs Q E hr h => ?_)
  · obtain ⟨a, ns, ms, rfl, _⟩ := h
    rfl
  · obtain ⟨a, ns, ms, rfl, ⟨dx, sh, pln, nm, e1, e2, e3, e4⟩, g⟩ := h
    exact ⟨_, pss_one (ps_ret (pe_fld (pv 0) rfl)), _, rfl, a, C, dx, _, _, rfl, e1, R.cl, R.nS, stF_shape _ _ _, g sh e2⟩
abbrev s_isst : Stmt := topS 44
theorem sc_isst : FnScope ["shape", "value"] ["shape", "value"] (defScope s_isst) := ⟨rfl, rfl, rfl, by decide +kernel, rfl, by decide +kernel, by decide +kernel⟩
/-- a stair, perhaps of another shape -/
def spIsSt (K : PySem.W.Frag) (C : Addr) : Sp := fun vs H Q _ => ∃ (sh a : Addr) (ks ns ms : List Int), vs = [.ref sh, .ref a] ∧ SqT K H sh (ks.map V.int) ∧ StairO K H a C ns ms ∧ Q (.bl (decide (ns = ks))) H
theorem ok_isst {f : Addr} {fd : FuncData} {k : Nat} (T : Txt mg) (R : SC K mg C) (IC : C8.InsC K C) (own : kit K (.ref C) (.ref C) true) (d : D K mg "is_stair" s_isst ["shape", "value"] f fd) : FnOk P w K mg base CX0 (k + 1) f fd ["shape", "value"] (spIsSt K C) := by
  refine d.F.ok sc_isst (fun vs H Q E h => ?_) (fun cdv A outer s H vs Q E hr h => ?_)
  · obtain ⟨sh, a, ks, ns, ms, rfl, _⟩ := h
    rfl
  · obtain ⟨sh, a, ks, ns, ms, rfl, es, st, q⟩ := h
    have un : (A.deeper (envOfC "is_stair" (defScope s_isst) s.heap.objs.size f cdv)).units + 64 < cLine := by have := hr.un; omega
    refine ⟨_, (pss_one (ps_ret (pe_and (pe_callB call_isi (by rfl) T.n_isinstance (by decide +kernel) (pa_cons (pv 1) (pa_cons (pe_glob (v := .ref C) rfl R.mC rfl) pa_nil))) (pe_one (pe_cmpR (op_eqD un) (pe_fld (pv 1) rfl) (pv 0) (nomark _)))))), ?_⟩
    have ty := st.ty IC
    obtain ⟨dx, sh2, pln, nm, e1, e2, e3, e4⟩ := st
    refine ⟨_, rfl, _, _, _, _, _, rfl, .own C, ty, own, _, rfl, iteT ?_⟩
    refine ⟨_, rfl, a, C, dx, _, _, rfl, e1, R.cl, R.nS, stF_shape _ _ _, _, rfl, _, _, .tup e2 (dp_ints K H ns), .tup es (dp_ints K H ks), shaped_ints _, shaped_ints _, ?_⟩
    rw [eqv_tups]
    exact q
abbrev s_seq : Stmt := inClass (topS 42) 17
theorem sc_seq : FnScope ["self", "other"] ["self", "other"] (defScope s_seq) := ⟨rfl, rfl, rfl, by decide +kernel, rfl, by decide +kernel, by decide +kernel⟩
def spSEq (K : PySem.W.Frag) (C : Addr) : Sp := fun vs H Q _ => ∃ (a : Addr) (x : V) (ns ms : List Int), vs = [.ref a, x] ∧ StairO K H a C ns ms ∧
  ((∃ (b : Addr) (ks ls : List Int), x = .ref b ∧ StairO K H b C ks ls ∧ Q (.bl (decide (ns = ks) && decide (ms = ls))) H) ∨ ∃ t, TyX K H x t ∧ kit K t (.ref C) false ∧ Q (.bl false) H)
theorem ok_seq {f : Addr} {fd : FuncData} {k : Nat} (T : Txt mg) (R : SC K mg C) (IC : C8.InsC K C) (own : kit K (.ref C) (.ref C) true) (d : M K "__eq__" "Stair.__eq__" s_seq ["self", "other"] f fd) : FnOk P w K mg base CX0 (k + 1) f fd ["self", "other"] (spSEq K C) := by
  refine d.F.ok sc_seq (fun vs H Q E h => ?_) (fun cdv A outer s H vs Q E hr h => ?_)
  · obtain ⟨a, x, ns, ms, rfl, _⟩ := h
    rfl
  · obtain ⟨a, x, ns, ms, rfl, st, q⟩ := h
    have un : (A.deeper (envOfC "Stair.__eq__" (defScope s_seq) s.heap.objs.size f cdv)).units + 64 < cLine := by have := hr.un; omega
    refine ⟨_, (pss_one (ps_ret (pe_and (pe_callB call_isi (by rfl) T.n_isinstance (by decide +kernel) (pa_cons (pv 1) (pa_cons (pe_glob (v := .ref C) rfl R.mC rfl) pa_nil))) (pe_and (pe_cmpR (op_eqD un) (pe_fld (pv 0) rfl) (pe_fld (pv 1) rfl) (nomark _)) (pe_one (pe_cmpR (op_eqD un) (pe_fld (pv 0) rfl) (pe_fld (pv 1) rfl) (nomark _))))))), ?_⟩
    obtain ⟨dx, sh, pln, nm, e1, e2, e3, e4⟩ := st
    rcases q with ⟨b, ks, ls, rfl, sb, q⟩ | ⟨t, ty, no, q⟩
    · have ty := sb.ty IC
      obtain ⟨dx2, sh2, pln2, nm2, b1, b2, b3, b4⟩ := sb
      refine ⟨_, rfl, _, _, _, _, _, rfl, .own C, ty, own, _, rfl, iteT ?_⟩
      refine ⟨_, rfl, a, C, dx, _, _, rfl, e1, R.cl, R.nS, stF_shape _ _ _, _, rfl, b, C, dx2, _, _, rfl, b1, R.cl, R.nS, stF_shape _ _ _, _, _, .tup e2 (dp_ints K H ns), .tup b2 (dp_ints K H ks), shaped_ints _, shaped_ints _, ?_⟩
      rw [eqv_tups]
      by_cases z : ns = ks
      · rw [decide_eq_true z] at q ⊢
        rw [Bool.true_and] at q
        refine ⟨_, rfl, iteT ⟨_, rfl, a, C, dx, _, _, rfl, e1, R.cl, R.nN, stF_numbers _ _ _, _, rfl, b, C, dx2, _, _, rfl, b1, R.cl, R.nN, stF_numbers _ _ _, _, _, .tup (sqt_new e3) (dp_ints K H ms), .tup (sqt_new b3) (dp_ints K H ls), shaped_ints _, shaped_ints _, ?_⟩⟩
        rw [eqv_tups]
        exact q
      · rw [decide_eq_false z] at q ⊢
        rw [Bool.false_and] at q
        exact ⟨_, rfl, iteF q⟩
    · exact ⟨_, rfl, _, _, _, _, _, rfl, .own C, ty, no, _, rfl, iteF q⟩
end
end K09

/-! # products of numbers -/
namespace K09
open PySem PySem.Spec PyProof.Rows L2 RZ
theorem walk_zipT {K : PySem.W.Frag} {a b : Addr} {xs ys : List V} (e : xs.length = ys.length) : Walk (ItzT K a b) xs.length (fun H => SqT K H a xs ∧ SqT K H b ys) (YPair (fun i => xs[i]?) (fun i => ys[i]?)) := by
  refine ⟨fun i H l q => ⟨xs, ys, xs[i], ys[i], q.1, q.2, List.getElem?_eq_getElem l, List.getElem?_eq_getElem (by omega)⟩, fun H q => ⟨xs, ys, q.1, q.2, .inl (Nat.le_refl _)⟩, fun i H v H' _ q y => ?_⟩
  obtain ⟨T, x, z, h1, h2, h3, h4, h5⟩ := y
  exact ⟨T, x, z, h1, h2, h3, h4 xs q.1, h5 ys q.2⟩
theorem ixN_at {n j : Nat} (h : j < n) : ixN n (j : Int) = some j := by
  unfold ixN
  rw [if_pos (by omega), if_pos (by omega), Int.toNat_natCast]
/-- one use of a number -/
def stepU (ys : List Int) (m : Int) (f : List Int) (p : Int × Int) : List Int := f.set p.1.toNat (f.getD p.1.toNat 0 + m * ys.getD p.2.toNat 0)
def stepP (ys : List Int) (f : List Int) (q : Int × List (Int × Int)) : List Int := if q.1 = 0 then f else q.2.foldl (stepU ys q.1) f
/-- the numbers of a product -/
def prodL (xs ys : List Int) (us : List (List (Int × Int))) : List Int := (xs.zip us).foldl (stepP ys) (List.zipWith (· + ·) xs ys)
theorem stepU_len (ys : List Int) (m : Int) : ∀ (ps : List (Int × Int)) (f : List Int), (ps.foldl (stepU ys m) f).length = f.length
  | [], f => rfl
  | p :: r, f => by
    rw [List.foldl_cons, stepU_len ys m r]
    unfold stepU
    rw [List.length_set]
theorem stepP_len (ys : List Int) : ∀ (qs : List (Int × List (Int × Int))) (f : List Int), (qs.foldl (stepP ys) f).length = f.length
  | [], f => rfl
  | q :: r, f => by
    rw [List.foldl_cons, stepP_len ys r]
    unfold stepP
    split
    · rfl
    · exact stepU_len ys q.1 q.2 f
section
variable {P : Program} {w : World} {K : PySem.W.Frag} {mg : Str → Option Value} {base : Heap} {C CS TL : Addr}
abbrev s_rest : Stmt := topS 28
theorem sc_rest : FnScope ["numbers", "modulus", "number"] ["numbers", "modulus"] (defScope s_rest) := ⟨rfl, rfl, rfl, by decide +kernel, rfl, by decide +kernel, by decide +kernel⟩
/-- without a modulus -/
def spRest : Sp := fun vs H Q _ => ∃ (l : Addr) (xs : List V), vs = [.ref l, .int 0] ∧ H l = some (.lst xs) ∧ ∀ p, H p = none → Q (.ref p) (upd H p (.tup xs))
theorem ok_rest {f : Addr} {fd : FuncData} {k : Nat} (T : Txt mg) (d : D K mg "rest" s_rest ["numbers", "modulus"] f fd) : FnOk P w K mg base CX0 (k + 1) f fd ["numbers", "modulus"] spRest := by
  refine d.F.ok sc_rest (fun vs H Q E h => ?_) (fun cdv A outer s H vs Q E hr h => ?_)
  · obtain ⟨l, xs, rfl, _⟩ := h
    rfl
  · obtain ⟨l, xs, rfl, hl, q⟩ := h
    refine ⟨_, pss_cons (ps_if (pt_cmpR op_eq (pv 1) pe_int (nomark _)) (pss_one (ps_ret (pe_tupleOf (by rfl) T.n_tuple (pv 0)))) pss_nil) dead, ?_⟩
    exact ⟨_, rfl, rfl, _, rfl, ite2 (fun _ => ⟨_, rfl, .inl ⟨l, xs, rfl, .inl (.inl hl), fun p np => q p np⟩⟩) (fun z => absurd (decide_eq_true rfl) z)⟩
abbrev s_times : Stmt := topS 31
theorem sc_times : FnScope ["plan", "one", "other", "modulus", "found", "number", "uses", "at", "high", "a", "b"] ["plan", "one", "other", "modulus"] (defScope s_times) := ⟨rfl, rfl, rfl, by decide +kernel, rfl, by decide +kernel, by decide +kernel⟩
/-- the pairs are within the numbers -/
def InR (n : Nat) (us : List (List (Int × Int))) : Prop := ∀ u ∈ us, ∀ p ∈ u, (0 ≤ p.1 ∧ p.1 < n) ∧ 0 ≤ p.2 ∧ p.2 < n
def usD (us : List (List (Int × Int))) : PyData := .tuple (us.map fun u => .tuple (u.map prD))
def spTimes (K : PySem.W.Frag) : Sp := fun vs H Q _ => ∃ (pln : V) (a b : Addr) (xs ys : List Int) (us : List (List (Int × Int))), vs = [pln, .ref a, .ref b, .int 0] ∧ Tv K H pln (usD us) ∧ H a = some (.tup (xs.map V.int)) ∧ H b = some (.tup (ys.map V.int)) ∧
  xs.length = us.length ∧ ys.length = xs.length ∧ xs.length ≤ 100 ∧ InR xs.length us ∧ (∀ x ∈ xs, x.natAbs < 2 ^ 400) ∧ (∀ y ∈ ys, y.natAbs < 2 ^ 400) ∧
  ∀ H' p, Same H H' → H p = none → H' p = some (.tup ((prodL xs ys us).map V.int)) → Q (.ref p) H'
/-- the rule for a def of four parameters with a default -/
def BodyT (P : Program) (w : World) (K : PySem.W.Frag) (mg : Str → Option Value) (base : Heap) (f : Addr) (fd : FuncData) : Prop := ∀ (sp : Sp) (j : Nat), (∀ vs H Q E, sp vs H Q E → vs.length = 4) →
  (∀ (cdv : Value) (A : Around) (outer : List Env) (s : Shared) (H : Hp) (vs : List V) (Q : VK) (E : XK), Room j (A.deeper (envOfC "times" (defScope s_times) s.heap.objs.size f cdv)) → sp vs H Q E →
    ∃ t, PSs (cxOf CX0 P w K mg base ["plan", "one", "other", "modulus", "found", "number", "uses", "at", "high", "a", "b"] "times" (defScope s_times) f cdv A outer s H E).nox (defBody s_times) t ∧ t { nx := fun _ H' => Q .non H', rt := Q } (L2.start ["plan", "one", "other", "modulus", "found", "number", "uses", "at", "high", "a", "b"] vs) H) →
  FnOk P w K mg base CX0 (j + 1) f fd ["plan", "one", "other", "modulus"] sp
theorem ok_times {f f1 : Addr} {fd fd1 : FuncData} {k : Nat} (T : Txt mg) (nz : mg "zip" = none) (body : BodyT P w K mg base f fd) (d1 : D K mg "rest" s_rest ["numbers", "modulus"] f1 fd1) : FnOk P w K mg base CX0 (k + 2) f fd ["plan", "one", "other", "modulus"] (spTimes K) := by
  have G1 : FnOk P w K mg base CX0 (k + 1) f1 fd1 ["numbers", "modulus"] spRest := ok_rest T d1
  refine body (spTimes K) (k + 1) (fun vs H Q E h => ?_) (fun cdv A outer s H vs Q E hr h => ?_)
  · obtain ⟨pln, a, b, xs, ys, us, rfl, _⟩ := h
    rfl
  · obtain ⟨pln, a, b, xs, ys, us, rfl, tp, ea, eb, lu, ly, l100, inr, bx, by_, q⟩ := h
    refine ⟨_, (pss_cons (ps_setLc (i := 4) (own := [("a", 9), ("b", 10)]) (g := gTup K 2 (gCons (gName 9) (gCons (gName 10) gNil))) (tt := tYes) rfl sc_times.nd rfl rfl rfl (pi_zipA (by rfl) nz (pa_cons (pv 1) (pa_cons (pv 2) pa_nil))) (blkOk_by (own := [("a", 9), ("b", 10)]) (N := ["plan", "one", "other", "modulus", "found", "number", "uses", "at", "high", "a", "b"]) (sc := defScope s_times) (by decide +kernel))
            (fun _ _ _ _ _ => (pg_tup rfl (pgs_cons (pg_name (i := 9) sc_times.nd rfl (Or.inl rfl)) (pgs_cons (pg_name (i := 10) sc_times.nd rfl (Or.inl rfl)) pgs_nil)))) (fun _ _ _ _ _ => pts_nil) (fun _ _ _ _ _ => (pe_op op_add (pv 9) (pv 10))))
      (pss_cons (ps_for PassesOwn.never rfl (pi_zipA (by rfl) nz (pa_cons (pv 1) (pa_cons (pv 0) pa_nil))) (pg_tup rfl (pgs_cons (pg_name (i := 5) sc_times.nd rfl (.inl rfl)) (pgs_cons (pg_name (i := 6) sc_times.nd rfl (.inl rfl)) pgs_nil)))
        (pss_one (ps_if (pt_truth (pv 5) (fun _ => rfl)) (pss_one (ps_for PassesOwn.never rfl (pi_tup (pv 6)) (pg_tup rfl (pgs_cons (pg_name (i := 7) sc_times.nd rfl (.inl rfl)) (pgs_cons (pg_name (i := 8) sc_times.nd rfl (.inl rfl)) pgs_nil)))
        (pss_one (ps_asg (pe_op op_add (pe_ix ix_list (pv 4) (pv 7) (fun _ _ => rfl)) (pe_op op_mulW (pv 5) (pe_ix ix_tup (pv 2) (pv 8) (fun _ _ => rfl)))) (pg_sub (pv 4) (pv 7) set_list))))) pss_nil)))
      (pss_one (ps_ret (pe_call G1 hr (by rfl) d1.g d1.F.kp d1.b .nil pass0 (pa_cons (pv 4) (pa_cons (pv 3) pa_nil))))))), ?_⟩
    obtain ⟨o, ws, rfl, eo, tl⟩ : ∃ o ws, pln = .ref o ∧ SqT K H o ws ∧ TvL K H ws (us.map fun u => .tuple (u.map prD)) := by
      cases tp with
      | tup e l => exact ⟨_, _, rfl, e, l⟩
    have lw : ws.length = us.length := by rw [tl.len, List.length_map]
    refine ⟨_, rfl, _, rfl, a, b, _, _, rfl, .inr ⟨sqt_new ea, sqt_new eb, fun L nL => ?_⟩⟩
    have lxy : (xs.map V.int).length = (ys.map V.int).length := by rw [List.length_map, List.length_map, ly]
    refine lc_it (walk_zipT (K := K) (a := a) (b := b) lxy) (fun i Z => Same H Z ∧ Z L = some (.lst (((List.zipWith (· + ·) xs ys).take i).map V.int))) ⟨sub_same nL, upd_same⟩ (fun i Z _ h => ⟨sqt_same (sqt_new ea) h.1, sqt_same (sqt_new eb) h.1⟩) ?_ ?_
    · rintro i v Z Z' hi ⟨sm, hl⟩ ⟨Tp, x0, y0, rfl, nT, rfl, ex, ey⟩
      obtain ⟨x, ex2, rfl⟩ := int_at ex
      obtain ⟨y, ey2, rfl⟩ := int_at ey
      have s2 := sub_same (o := .tup [V.int x, V.int y]) nT
      have hl2 := s2 _ _ hl
      have sm2 := sm.trans s2
      have hT : upd Z Tp (.tup [V.int x, V.int y]) Tp = some (.tup [V.int x, V.int y]) := upd_same
      revert hl2 sm2 hT
      generalize upd Z Tp (.tup [V.int x, V.int y]) = Z2
      intro hl2 sm2 hT
      refine ⟨Tp, _, rfl, .inl (.inl hT), rfl, _, _, rfl, _, _, rfl, rfl, rfl, yesT ?_⟩
      refine ⟨_, rfl, _, rfl, _, _, rfl, rfl, _, hl2, ?_, fun k ob e => ?_, ?_⟩
      · rw [List.length_map, List.length_take, sizeLine_eq]
        rw [List.length_map] at hi
        omega
      · rw [upd_ne (fun z => by rw [z, nL] at e; cases e)]
        exact sm2 _ _ e
      · have ez : (List.zipWith (· + ·) xs ys)[i]? = some (x + y) := by rw [List.getElem?_zipWith, ex2, ey2]
        rw [upd_same, List.take_succ, ez, List.map_append]
        rfl
    · rintro Z ⟨sm, hl⟩
      have lz : (List.zipWith (· + ·) xs ys).length = xs.length := by rw [List.length_zipWith, ly, Nat.min_self]
      rw [List.length_map, ← lz, List.take_length] at hl
      have lxw : (xs.map V.int).length = ws.length := by rw [List.length_map, lw, lu]
      refine ⟨_, rfl, _, rfl, a, o, _, _, rfl, .inr ⟨sqt_same (sqt_new ea) sm, sqt_same eo sm, ?_⟩⟩
      refine for_it (walk_zipT (K := K) (a := a) (b := o) lxw) (fun i σ Y => (∃ y5 y6 y7 y8, σ = [some (.ref o), some (.ref a), some (.ref b), some (.int 0), some (.ref L), y5, y6, y7, y8, none, none]) ∧ Same H Y ∧ Y L = some (.lst ((((xs.zip us).take i).foldl (stepP ys) (List.zipWith (· + ·) xs ys)).map V.int)))
        ⟨⟨_, _, _, _, rfl⟩, sm, hl⟩ (fun i σ Y _ h => ⟨sqt_same (sqt_new ea) h.2.1, sqt_same eo h.2.1⟩) ?_ ?_
      · rintro i v σ Y Y' hi ⟨⟨y5, y6, y7, y8, rfl⟩, sy, hy⟩ ⟨Tp, x0, y0, rfl, nT, rfl, ex, ey⟩
        obtain ⟨x, ex2, rfl⟩ := int_at ex
        obtain ⟨d, ed, td⟩ := tl.get ey
        rw [List.getElem?_map] at ed
        obtain ⟨u, eu, rfl⟩ := Option.map_eq_some_iff.mp ed
        have eq : (xs.zip us)[i]? = some (x, u) := by rw [List.getElem?_zip_eq_some]; exact ⟨ex2, eu⟩
        have s2 := sub_same (o := .tup [V.int x, y0]) nT
        have hy2 := s2 _ _ hy
        have sy2 := sy.trans s2
        have hT : upd Y Tp (.tup [V.int x, y0]) Tp = some (.tup [V.int x, y0]) := upd_same
        revert hy2 sy2 hT
        generalize upd Y Tp (.tup [V.int x, y0]) = Y2
        intro hy2 sy2 hT
        refine ⟨Tp, _, rfl, .inl (.inl hT), rfl, _, _, rfl, _, _, rfl, rfl, _, rfl, _, rfl, ?_⟩
        have next : ((xs.zip us).take (i + 1)).foldl (stepP ys) (List.zipWith (· + ·) xs ys) = stepP ys (((xs.zip us).take i).foldl (stepP ys) (List.zipWith (· + ·) xs ys)) (x, u) := by
          rw [List.take_succ, eq, List.foldl_append]
          rfl
        have lF : (((xs.zip us).take i).foldl (stepP ys) (List.zipWith (· + ·) xs ys)).length = xs.length := by rw [stepP_len, lz]
        rw [next]
        revert hy2 lF
        generalize ((xs.zip us).take i).foldl (stepP ys) (List.zipWith (· + ·) xs ys) = F
        intro hy2 lF
        have bx1 := bx x (List.mem_of_getElem? ex2)
        refine ite2 (fun e => ?_) (fun e => ?_)
        · have hx : x ≠ 0 := fun z => by rw [z] at e; exact absurd e (by decide)
          obtain ⟨ou, zs, rfl, eou, tlu⟩ : ∃ ou zs, y0 = .ref ou ∧ SqT K H ou zs ∧ TvL K H zs (u.map prD) := by
            cases td with
            | tup e l => exact ⟨_, _, rfl, e, l⟩
          have lzu : zs.length = u.length := by rw [tlu.len, List.length_map]
          have hF : stepP ys F (x, u) = u.foldl (stepU ys x) F := if_neg hx
          rw [hF]
          refine ⟨_, rfl, ou, rfl, ⟨zs, sqt_same eou sy2⟩, ?_⟩
          refine for_it (walk_tup (K := K) (a := ou) (xs := zs)) (fun j σ Z => (∃ y7 y8, σ = [some (.ref o), some (.ref a), some (.ref b), some (.int 0), some (.ref L), some (.int x), some (.ref ou), y7, y8, none, none]) ∧ Same H Z ∧ Z L = some (.lst (((u.take j).foldl (stepU ys x) F).map V.int)))
            ⟨⟨_, _, rfl⟩, sy2, hy2⟩ (fun j σ Z _ h => sqt_same eou h.2.1) ?_ ?_
          · rintro j v σ Z Z' hj ⟨⟨y7, y8, rfl⟩, sz, hz⟩ ⟨rfl, ev⟩
            obtain ⟨d, ed2, tdv⟩ := tlu.get ev
            rw [List.getElem?_map] at ed2
            obtain ⟨⟨p1, p2⟩, ep, rfl⟩ := Option.map_eq_some_iff.mp ed2
            obtain ⟨pa, rfl, spa⟩ : ∃ pa, v = .ref pa ∧ SqT K H pa [.int p1, .int p2] := by
              unfold prD at tdv
              cases tdv with
              | tup e l =>
                cases l with
                | cons h1 l =>
                  cases l with
                  | cons h2 l =>
                    cases l
                    cases h1
                    cases h2
                    exact ⟨_, rfl, e⟩
            obtain ⟨⟨a0, a1⟩, b0, b1⟩ := inr u (List.mem_of_getElem? eu) _ (List.mem_of_getElem? ep)
            dsimp only at a0 a1 b0 b1
            obtain ⟨n1, rfl⟩ := Int.eq_ofNat_of_zero_le a0
            obtain ⟨n2, rfl⟩ := Int.eq_ofNat_of_zero_le b0
            have nx2 : (u.take (j + 1)).foldl (stepU ys x) F = stepU ys x ((u.take j).foldl (stepU ys x) F) ((n1 : Int), (n2 : Int)) := by
              rw [List.take_succ, ep, List.foldl_append]
              rfl
            have lG : ((u.take j).foldl (stepU ys x) F).length = xs.length := by rw [stepU_len, lF]
            rw [nx2]
            revert hz lG
            generalize (u.take j).foldl (stepU ys x) F = G
            intro hz lG
            have i1 : n1 < G.length := by omega
            have i2 : n2 < ys.length := by omega
            have g1 : (G.map V.int)[n1]? = some (V.int (G.getD n1 0)) := by
              rw [List.getElem?_map, List.getD_eq_getElem?_getD, List.getElem?_eq_getElem i1]
              rfl
            have g2 : (ys.map V.int)[n2]? = some (V.int (ys.getD n2 0)) := by
              rw [List.getElem?_map, List.getD_eq_getElem?_getD, List.getElem?_eq_getElem i2]
              rfl
            have by1 : (ys.getD n2 0).natAbs < 2 ^ 400 := by
              rw [List.getD_eq_getElem?_getD, List.getElem?_eq_getElem i2]
              exact by_ _ (List.getElem_mem i2)
            have hst : (G.set n1 (G.getD n1 0 + x * ys.getD n2 0)).map V.int = (G.map V.int).set n1 (V.int (G.getD n1 0 + x * ys.getD n2 0)) := by rw [List.map_set]
            refine ⟨pa, _, rfl, sqt_same spa sz, rfl, _, _, rfl, _, _, rfl, rfl, ?_⟩
            refine ⟨_, rfl, _, rfl, L, _, (n1 : Int), _, rfl, rfl, .inl (.inl hz), atI_nat g1, ?_⟩
            refine ⟨_, rfl, _, rfl, _, rfl, b, _, (n2 : Int), _, rfl, rfl, sqt_same (sqt_new eb) sz, atI_nat g2, ?_⟩
            refine ⟨_, _, rfl, rfl, wide_mul bx1 by1 (by decide) (by decide) (by decide), _, _, rfl, rfl, ?_⟩
            refine ⟨_, rfl, _, rfl, L, _, (n1 : Int), n1, rfl, rfl, hz, ixN_at (by rw [List.length_map]; exact i1), ⟨_, _, rfl⟩, fun k ob e => ?_, ?_⟩
            · rw [upd_ne (fun z => by rw [z, nL] at e; cases e)]
              exact sz _ _ e
            · rw [upd_same, ← hst]
              rfl
          · rintro σ Z ⟨⟨y7, y8, rfl⟩, sz, hz⟩
            rw [lzu, List.take_length] at hz
            exact ⟨⟨_, _, _, _, rfl⟩, sz, hz⟩
        · have hx : x = 0 := Decidable.byContradiction fun z => e (bne_iff_ne.mpr z)
          have hF : stepP ys F (x, u) = F := if_pos hx
          rw [hF]
          exact ⟨⟨_, _, _, _, rfl⟩, sy2, hy2⟩
      · rintro σ Y ⟨⟨y5, y6, y7, y8, rfl⟩, sy, hy⟩
        have lt : (xs.map V.int).length = (xs.zip us).length := by rw [List.length_map, List.length_zip, lu, Nat.min_self]
        rw [lt, List.take_length] at hy
        exact ⟨_, rfl, _, rfl, L, _, rfl, hy, fun p np => q _ p (sy.trans (sub_same np)) (sy.free np) upd_same⟩
end
end K09

/-! # stairs multiplied -/
namespace K09
open PySem PySem.Spec PyProof.Rows L2
/-- the pairs of a plan -/
def usL (ns : List Int) : List (List (Int × Int)) := (pl ns).map fun t => useP ns t (useN ns t)
theorem planD_us (ns : List Int) : planD ns = usD (usL ns) := by
  unfold planD usD usL
  rw [List.map_map]
  rfl
theorem usL_len (ns : List Int) : (usL ns).length = (pl ns).length := List.length_map _
theorem inR_plan {ns : List Int} (S : Shp ns) : InR (pl ns).length (usL ns) := by
  intro u hu p hp
  obtain ⟨t, ht, rfl⟩ := List.mem_map.mp hu
  unfold useP at hp
  obtain ⟨c, hc, rfl⟩ := List.mem_map.mp hp
  rw [List.mem_range] at hc
  obtain ⟨_, _, h3⟩ := tables3 ns (shp_mem S)
  obtain ⟨_, ⟨a0, a1, a2⟩, h6, hall⟩ := h3 t ht
  unfold useN at hc
  have c6 : c < 6 := by omega
  have hx := List.all_eq_true.mp hall c (List.mem_range.mpr c6)
  have dc : decide ((c : Int) < ns.getD t.1.toNat 0 - (t.2.2 + 1)) = true := decide_eq_true (by omega)
  rw [dc, Bool.not_true, Bool.false_or, Bool.and_eq_true, decide_eq_true_eq, decide_eq_true_eq] at hx
  exact ⟨⟨Int.natCast_nonneg _, Int.ofNat_lt.mpr (List.idxOf_lt_length_of_mem hx.1)⟩, Int.natCast_nonneg _, Int.ofNat_lt.mpr (List.idxOf_lt_length_of_mem hx.2)⟩
theorem stF_plan (s p n : V) : (stF s p n).lookup ("_plan" : Str) = some p := by
  rw [stF_eq]
  rfl
section
variable {P : Program} {w : World} {K : PySem.W.Frag} {mg : Str → Option Value} {base : Heap} {C CS TL : Addr}
abbrev s_ckst : Stmt := topS 45
theorem sc_ckst : FnScope ["shape", "value"] ["shape", "value"] (defScope s_ckst) := ⟨rfl, rfl, rfl, by decide +kernel, rfl, by decide +kernel, by decide +kernel⟩
/-- a stair of the shape -/
def spCkSt (K : PySem.W.Frag) (C : Addr) : Sp := fun vs H Q _ => ∃ (sh a : Addr) (ns ms : List Int), vs = [.ref sh, .ref a] ∧ SqT K H sh (ns.map V.int) ∧ StairO K H a C ns ms ∧ Q .non H
theorem ok_ckst {f f1 : Addr} {fd fd1 : FuncData} {k : Nat} (d : D K mg "check_stair" s_ckst ["shape", "value"] f fd) (d1 : D K mg "is_stair" s_isst ["shape", "value"] f1 fd1) (G1 : FnOk P w K mg base CX0 (k + 1) f1 fd1 ["shape", "value"] (spIsSt K C)) :
    FnOk P w K mg base CX0 (k + 2) f fd ["shape", "value"] (spCkSt K C) := by
  refine d.F.ok sc_ckst (fun vs H Q E h => ?_) (fun cdv A outer s H vs Q E hr h => ?_)
  · obtain ⟨sh, a, ns, ms, rfl, _⟩ := h
    rfl
  · obtain ⟨sh, a, ns, ms, rfl, es, st, q⟩ := h
    refine ⟨_, pss_one (ps_if (pt_not (pt_val (pe_call G1 hr (by rfl) d1.g d1.F.kp d1.b .nil pass0 (pa_cons (pv 0) (pa_cons (pv 1) pa_nil))))) dead pss_nil), ?_⟩
    exact ⟨_, rfl, _, rfl, sh, a, ns, ns, ms, rfl, es, st, _, rfl, ite2 (fun z => by rw [decide_eq_true rfl] at z; exact absurd z Bool.false_ne_true) (fun _ => q)⟩
abbrev s_mul : Stmt := inClass (topS 42) 10
theorem sc_mul : FnScope ["self", "other"] ["self", "other"] (defScope s_mul) := ⟨rfl, rfl, rfl, by decide +kernel, rfl, by decide +kernel, by decide +kernel⟩
def spMul (K : PySem.W.Frag) (C : Addr) : Sp := fun vs H Q _ => ∃ (a b : Addr) (ns xs ys : List Int), vs = [.ref a, .ref b] ∧ StairO K H a C ns xs ∧ StairO K H b C ns ys ∧ Shp ns ∧ xs.length = (pl ns).length ∧ ys.length = (pl ns).length ∧
  (∀ x ∈ xs, x.natAbs < 2 ^ 400) ∧ (∀ y ∈ ys, y.natAbs < 2 ^ 400) ∧ ∀ H' c, Same H H' → StairO K H' c C ns (prodL xs ys (usL ns)) → Q (.ref c) H'
theorem ok_mul {f f1 f2 fT : Addr} {fd fd1 fd2 fdT : FuncData} {ds : List Value} (T : Txt mg) (R : SC K mg C) (IC : C8.InsC K C) (own : kit K (.ref C) (.ref C) true) (d : M K "__mul__" "Stair.__mul__" s_mul ["self", "other"] f fd)
    (d1 : D K mg "check_stair" s_ckst ["shape", "value"] f1 fd1) (G1 : FnOk P w K mg base CX0 2 f1 fd1 ["shape", "value"] (spCkSt K C))
    (d2 : D K mg "stair_with" s_with ["shape", "plan", "numbers"] f2 fd2) (G2 : FnOk P w K mg base CX0 9 f2 fd2 ["shape", "plan", "numbers"] (spWith K C))
    (gT : mg "times" = some (.ref fT)) (kT : PySem.W.keepIn K (.ref fT) = true) (bT : Binds K fdT ["plan", "one", "other", "modulus"] ds) (vT : Vals [.int 0] ds) (G3 : FnOk P w K mg base CX0 2 fT fdT ["plan", "one", "other", "modulus"] (spTimes K)) :
    FnOk P w K mg base CX0 10 f fd ["self", "other"] (spMul K C) := by
  refine d.F.ok sc_mul (fun vs H Q E h => ?_) (fun cdv A outer s H vs Q E hr h => ?_)
  · obtain ⟨a, b, ns, xs, ys, rfl, _⟩ := h
    rfl
  · obtain ⟨a, b, ns, xs, ys, rfl, sa, sb, S, lx, ly, bx, by_, q⟩ := h
    refine ⟨_, (pss_cons (ps_if (pt_not (pt_val (pe_callB call_isi (by rfl) T.n_isinstance (by decide +kernel) (pa_cons (pv 1) (pa_cons (pe_glob (v := .ref C) rfl R.mC rfl) pa_nil))))) dead pss_nil)
      (pss_cons (ps_expr (pe_call G1 (hr.mono (by decide)) (by rfl) d1.g d1.F.kp d1.b .nil pass0 (pa_cons (pe_fld (pv 0) rfl) (pa_cons (pv 1) pa_nil))))
      (pss_one (ps_ret (pe_call G2 hr (by rfl) d2.g d2.F.kp d2.b .nil pass0 (pa_cons (pe_fld (pv 0) rfl) (pa_cons (pe_fld (pv 0) rfl) (pa_cons (pe_call G3 (hr.mono (by decide)) (by rfl) gT kT bT vT pass0 (pa_cons (pe_fld (pv 0) rfl) (pa_cons (pe_fld (pv 0) rfl) (pa_cons (pe_fld (pv 1) rfl) pa_nil)))) pa_nil)))))))), ?_⟩
    have ty := sb.ty IC
    have sb0 := sb
    obtain ⟨dx, sh, pln, nm, e1, e2, e3, e4⟩ := sa
    obtain ⟨dx2, sh2, pln2, nm2, b1, b2, b3, b4⟩ := sb
    have t30 : (pl ns).length ≤ 30 := (tables3 ns (shp_mem S)).2.1
    refine ⟨_, rfl, _, _, _, _, _, rfl, .own C, ty, own, _, rfl, ite2 (fun z => absurd z Bool.false_ne_true) (fun _ => ?_)⟩
    refine ⟨_, rfl, a, C, dx, _, _, rfl, e1, R.cl, R.nS, stF_shape _ _ _, _, rfl, sh, b, ns, ys, rfl, e2, sb0, ?_⟩
    refine ⟨_, rfl, a, C, dx, _, _, rfl, e1, R.cl, R.nS, stF_shape _ _ _, _, rfl, a, C, dx, _, _, rfl, e1, R.cl, R.nP, stF_plan _ _ _, ?_⟩
    refine ⟨_, rfl, a, C, dx, _, _, rfl, e1, R.cl, R.nP, stF_plan _ _ _, _, rfl, a, C, dx, _, _, rfl, e1, R.cl, R.nN, stF_numbers _ _ _, _, rfl, b, C, dx2, _, _, rfl, b1, R.cl, R.nN, stF_numbers _ _ _, ?_⟩
    have e4' := e4
    rw [planD_us] at e4'
    refine ⟨pln, nm, nm2, xs, ys, usL ns, rfl, e4', e3, b3, by rw [usL_len, lx], by rw [lx, ly], by omega, by rw [lx]; exact inR_plan S, bx, by_, fun H2 p sm np ep => ?_⟩
    exact ⟨sh, p, pln, ns, _, rfl, sqt_same e2 sm, e4.same sm, ep, fun H3 c s3 _ st => q H3 c (sm.trans s3) st⟩
end
end K09

/-! # tables that are given -/
namespace K09
open PySem PySem.Spec PyProof.Rows L2
theorem call_len_seqK {X : Cx} {K : PySem.W.Frag} (h : X.K = K) : CallR X (.builtin "len") (fun vs H Q => ∃ (a : Addr) (xs : List V), vs = [V.ref a] ∧ (SqL K H a xs ∨ SqT K H a xs) ∧ Q (.int (xs.length : Nat)) H) := by
  rw [← h]
  exact call_len_seq
/-- a good row of a table -/
def RowOk (i n : Nat) (r : List Int) : Prop := r.length = n ∧ i < n ∧ (∀ x ∈ r, -(10 ^ 60) < x ∧ x < 10 ^ 60) ∧ r[i]? = some 1 ∧ ∀ x ∈ r.take i, x = 0
theorem sIx_nat {n d i : Nat} (h : i ≤ n) : HT.sIx n d (some (i : Int)) = i := by
  show (if ((i : Int) < 0) then ((i : Int) + (n : Int)).toNat else min ((i : Int)).toNat n) = i
  rw [if_neg (by omega), Int.toNat_natCast, Nat.min_eq_left h]
section
variable {P : Program} {w : World} {K : PySem.W.Frag} {mg : Str → Option Value} {base : Heap} {C CS TL : Addr}
abbrev s_sqrow : Stmt := topS 48
theorem sc_sqrow : FnScope ["value", "at", "size", "number"] ["value", "at", "size"] (defScope s_sqrow) := ⟨rfl, rfl, rfl, by decide +kernel, rfl, by decide +kernel, by decide +kernel⟩
def spSqRow (K : PySem.W.Frag) : Sp := fun vs H Q _ => ∃ (v : V) (i n : Nat) (r : List Int), vs = [v, .int i, .int n] ∧ Tv K H v (.tuple (r.map .int)) ∧ RowOk i n r ∧ n ≤ 100 ∧ ∀ H', Same H H' → Q (.bl true) H'
theorem ok_sqrow {f f1 : Addr} {fd fd1 : FuncData} (T : Txt mg) (N : Nam mg) (d : D K mg "is_square_row" s_sqrow ["value", "at", "size"] f fd) (d1 : D K mg "is_integer" s_is_integer ["value"] f1 fd1) (G1 : FnOk P w K mg base CX0 2 f1 fd1 ["value"] spInt) :
    FnOk P w K mg base CX0 3 f fd ["value", "at", "size"] (spSqRow K) := by
  refine d.F.ok sc_sqrow (fun vs H Q E h => ?_) (fun cdv A outer s H vs Q E hr h => ?_)
  · obtain ⟨v, i, n, r, rfl, _⟩ := h
    rfl
  · obtain ⟨v, i, n, r, rfl, tv, ⟨ln, il, bd, r1, r0⟩, n100, q⟩ := h
    refine ⟨_, (pss_cons (ps_if (PW.pt (pw_or (pt_not (pt_val (pe_callB call_isi (by rfl) T.n_isinstance (by decide +kernel) (pa_cons (pv 0) (pa_cons (pe_bltn (v := .ty "tuple") (by rfl) T.n_tuple (by decide +kernel) rfl) pa_nil))))) (pw_or1 (pt_cmpR op_ne (pe_callB call_len_seq (by rfl) T.n_len PySem.boot_len (pa_cons (pv 0) pa_nil)) (pv 2) (nomark _))))) (pss_one (ps_ret pe_bl)) pss_nil)
      (pss_cons (ps_if (pt_not (pt_val (pe_callB (cr_all rfl) (by rfl) N.n_all (by decide +kernel) (pa_cons (pe_lc (own := [("number", 3)]) (g := gName 3) (tt := tYes) rfl sc_sqrow.nd (pi_tup (pv 0)) (blkOk_by (own := [("number", 3)]) (N := ["value", "at", "size", "number"]) (sc := defScope s_sqrow) (by decide +kernel))
            (fun _ _ _ _ _ => (pg_name (i := 3) sc_sqrow.nd rfl (Or.inl rfl))) (fun _ _ _ _ _ => pts_nil) (fun _ _ _ _ _ => (pe_call G1 (hr.mono (by decide)) (by rfl) d1.g d1.F.kp d1.b .nil pass0 (pa_cons (pv 3) pa_nil)))) pa_nil)))) (pss_one (ps_ret pe_bl)) pss_nil)
      (pss_one (ps_ret (pe_and (pe_cmpR op_eq (pe_ix ix_tup (pv 0) (pv 1) (fun _ _ => rfl)) pe_int (nomark _)) (pe_one (pe_not (pe_callB (cr_anyT rfl) (by rfl) N.n_any (by decide +kernel) (pa_cons (pe_slice sl_tup (pv 0) po_none (po_some (pv 1))) pa_nil))))))))), ?_⟩
    obtain ⟨o, rfl, eo⟩ : ∃ o, v = .ref o ∧ SqT K H o (r.map V.int) := by
      cases tv with
      | tup e l => exact ⟨_, rfl, l.ints ▸ e⟩
    have lv : (r.map V.int).length = r.length := List.length_map _
    refine ⟨_, rfl, _, _, _, _, _, rfl, .ty _, (Dw.tv tv).ty, kitT _, _, rfl, ?_⟩
    refine ite2 (fun z => absurd z Bool.false_ne_true) (fun _ => ?_)
    refine ⟨_, rfl, o, _, rfl, .inr eo, _, rfl, ?_⟩
    rw [lv, ln]
    refine ⟨rfl, _, rfl, ite2 (fun z => ?_) (fun _ => ?_)⟩
    · rw [decide_eq_true rfl] at z
      cases z
    refine ⟨_, rfl, o, rfl, ⟨_, eo⟩, fun D hD => ?_⟩
    have off : ∀ {Z : Hp} {o : HO}, Same H Z → Same H (upd Z D o) := fun sz b o h => by
      rw [upd_ne (ne_of_none h hD)]
      exact sz b o h
    refine lc_tup (K := K) (a := o) (xs := r.map V.int) (fun j H' => Same H H' ∧ H' D = some (.lst (((r.take j).map fun _ => true).map V.bl))) ⟨off (Same.refl H), upd_same⟩ (fun j H' _ h => sqt_same eo h.1) ?_ ?_
    · rintro j x H' hx ⟨sm, hl⟩
      obtain ⟨m, hm, rfl⟩ := int_at hx
      have jl : j < r.length := (List.getElem?_eq_some_iff.mp hm).1
      refine ⟨rfl, ?_⟩
      unfold tYes
      refine ite2 (fun _ => ?_) (fun q => absurd rfl q)
      have bm := bd m (List.mem_of_getElem? hm)
      refine ⟨_, rfl, m, rfl, bm.1, bm.2, ?_⟩
      refine ⟨_, hl, Nat.lt_of_lt_of_le (show _ < 101 by rw [List.length_map, List.length_map, List.length_take]; omega) (by decide), off sm, ?_⟩
      have tk : r.take (j + 1) = r.take j ++ [m] := by rw [List.take_succ, hm]; rfl
      rw [upd_same, tk, List.map_append, List.map_append]
      rfl
    · rintro H' ⟨sm, hl⟩
      rw [lv, List.take_length] at hl
      refine ⟨D, r.map fun _ => true, rfl, .inl (.inl hl), _, rfl, ?_⟩
      have e1 : (r.map fun _ => true).all id = true := List.all_eq_true.mpr fun b m => by
        obtain ⟨_, _, rfl⟩ := List.mem_map.mp m
        rfl
      rw [e1]
      refine ite2 (fun z => absurd z Bool.false_ne_true) (fun _ => ?_)
      have g1 : (r.map V.int)[i]? = some (V.int 1) := by rw [List.getElem?_map, r1]; rfl
      have eo' := sqt_same eo sm
      refine ⟨_, rfl, _, rfl, o, _, (i : Int), _, rfl, rfl, eo', atI_nat g1, rfl, _, rfl, ite2 (fun _ => ?_) (fun z => absurd (decide_eq_true rfl) z)⟩
      have hi : HT.sIx (r.map V.int).length (r.map V.int).length (some (i : Int)) = i := by
        rw [lv]
        exact sIx_nat (by omega)
      refine ⟨_, rfl, _, rfl, _, rfl, o, _, rfl, eo', fun z => ?_, fun p np => ⟨p, r.take i, rfl, .inl (.inl ?_), _, rfl, ?_⟩⟩
      · rw [hi, lv] at z
        omega
      · rw [upd_same]
        unfold cutV
        rw [hi]
        show some (HO.tup (((r.map V.int).drop 0).take (i - 0))) = _
        rw [List.drop_zero, Nat.sub_zero, List.map_take]
      · have e2 : ((r.take i).any fun n => n != 0) = false := by
          rw [List.any_eq_false]
          intro x m
          rw [r0 x m]
          decide
        rw [e2]
        exact q _ (sm.trans (sub_same np))
abbrev s_square : Stmt := topS 47
theorem sc_square : FnScope ["value", "at", "row"] ["value"] (defScope s_square) := ⟨rfl, rfl, rfl, by decide +kernel, rfl, by decide +kernel, by decide +kernel⟩
/-- a table -/
def rowsD (rows : List (List Int)) : PyData := .tuple (rows.map fun r => .tuple (r.map .int))
def SqOk (rows : List (List Int)) : Prop := ∀ (i : Nat) (r : List Int), rows[i]? = some r → RowOk i rows.length r
def spSquare (K : PySem.W.Frag) : Sp := fun vs H Q _ => ∃ (v : V) (rows : List (List Int)), vs = [v] ∧ Tv K H v (rowsD rows) ∧ SqOk rows ∧ rows.length ≤ 100 ∧ ∀ H', Same H H' → Q (.bl true) H'
theorem ok_square {f f1 : Addr} {fd fd1 : FuncData} (T : Txt mg) (N : Nam mg) (d : D K mg "is_square" s_square ["value"] f fd) (d1 : D K mg "is_square_row" s_sqrow ["value", "at", "size"] f1 fd1) (G1 : FnOk P w K mg base CX0 3 f1 fd1 ["value", "at", "size"] (spSqRow K)) :
    FnOk P w K mg base CX0 4 f fd ["value"] (spSquare K) := by
  refine d.F.ok sc_square (fun vs H Q E h => ?_) (fun cdv A outer s H vs Q E hr h => ?_)
  · obtain ⟨v, rows, rfl, _⟩ := h
    rfl
  · obtain ⟨v, rows, rfl, tv, sq, n100, q⟩ := h
    refine ⟨_, (pss_cons (ps_if (pt_not (pt_val (pe_callB call_isi (by rfl) T.n_isinstance (by decide +kernel) (pa_cons (pv 0) (pa_cons (pe_bltn (v := .ty "tuple") (by rfl) T.n_tuple (by decide +kernel) rfl) pa_nil))))) (pss_one (ps_ret pe_bl)) pss_nil)
      (pss_one (ps_ret (pe_callB (cr_all rfl) (by rfl) N.n_all (by decide +kernel) (pa_cons (pe_lc (own := [("at", 1), ("row", 2)]) (g := gTup K 2 (gCons (gName 1) (gCons (gName 2) gNil))) (tt := tYes) rfl sc_square.nd (pi_enumT (by rfl) N.n_enumerate (pa_cons (pv 0) pa_nil)) (blkOk_by (own := [("at", 1), ("row", 2)]) (N := ["value", "at", "row"]) (sc := defScope s_square) (by decide +kernel))
            (fun _ _ _ _ _ => (pg_tup rfl (pgs_cons (pg_name (i := 1) sc_square.nd rfl (Or.inl rfl)) (pgs_cons (pg_name (i := 2) sc_square.nd rfl (Or.inl rfl)) pgs_nil)))) (fun _ _ _ _ _ => pts_nil) (fun _ _ _ _ _ => (pe_call G1 (hr.mono (by decide)) (by rfl) d1.g d1.F.kp d1.b .nil pass0 (pa_cons (pv 2) (pa_cons (pv 1) (pa_cons (pe_callB (call_len_seqK (K := K) rfl) (by rfl) T.n_len PySem.boot_len (pa_cons (pv 0) pa_nil)) pa_nil)))))) pa_nil))))), ?_⟩
    obtain ⟨o, xs, rfl, eo, tl⟩ : ∃ o xs, v = .ref o ∧ SqT K H o xs ∧ TvL K H xs (rows.map fun r => .tuple (r.map .int)) := by
      cases tv with
      | tup e l => exact ⟨_, _, rfl, e, l⟩
    have lx : xs.length = rows.length := by rw [tl.len, List.length_map]
    refine ⟨_, rfl, _, _, _, _, _, rfl, .ty _, (Dw.tv tv).ty, kitT _, _, rfl, ?_⟩
    refine ite2 (fun z => absurd z Bool.false_ne_true) (fun _ => ?_)
    refine ⟨_, rfl, o, _, rfl, eo, fun D hD => ?_⟩
    have off : ∀ {Z : Hp} {o : HO}, Same H Z → Same H (upd Z D o) := fun sz b o h => by
      rw [upd_ne (ne_of_none h hD)]
      exact sz b o h
    refine lc_it (walk_enumT (K := K) (a := o) (xs := xs)) (fun j Z => Same H Z ∧ Z D = some (.lst (((rows.take j).map fun _ => true).map V.bl))) ⟨off (Same.refl H), upd_same⟩ (fun j Z _ h => sqt_same eo h.1) ?_ ?_
    · rintro i v Z Z' hi ⟨sm, hl⟩ ⟨Tp, x0, y0, rfl, nT, rfl, ex, ey⟩
      obtain rfl := Option.some.inj ex
      obtain ⟨d0, ed, td⟩ := tl.get ey
      rw [List.getElem?_map] at ed
      obtain ⟨r, er, rfl⟩ := Option.map_eq_some_iff.mp ed
      have s2 := sub_same (o := .tup [V.int (i : Nat), y0]) nT
      have hl2 := s2 _ _ hl
      have sm2 := sm.trans s2
      have hT : upd Z Tp (.tup [V.int (i : Nat), y0]) Tp = some (.tup [V.int (i : Nat), y0]) := upd_same
      revert hl2 sm2 hT
      generalize upd Z Tp (.tup [V.int (i : Nat), y0]) = Z2
      intro hl2 sm2 hT
      refine ⟨Tp, _, rfl, .inl (.inl hT), rfl, _, _, rfl, _, _, rfl, rfl, rfl, yesT ?_⟩
      refine ⟨_, rfl, _, rfl, _, rfl, o, _, rfl, .inr (sqt_same eo sm2), y0, i, xs.length, r, rfl, td.same sm2, by rw [lx]; exact sq i r er, by omega, fun Z3 s3 => ?_⟩
      refine ⟨_, s3 _ _ hl2, Nat.lt_of_lt_of_le (show _ < 101 by rw [List.length_map, List.length_map, List.length_take]; omega) (by decide), off (sm2.trans s3), ?_⟩
      have tk : rows.take (i + 1) = rows.take i ++ [r] := by rw [List.take_succ, er]; rfl
      rw [upd_same, tk, List.map_append, List.map_append]
      rfl
    · rintro Z ⟨sm, hl⟩
      rw [lx, List.take_length] at hl
      refine ⟨D, rows.map fun _ => true, rfl, .inl (.inl hl), ?_⟩
      have e1 : (rows.map fun _ => true).all id = true := List.all_eq_true.mpr fun b m => by
        obtain ⟨_, _, rfl⟩ := List.mem_map.mp m
        rfl
      rw [e1]
      exact q Z sm
end
end K09

/-! # texts of integers, read -/
namespace K09
open PySem PySem.Spec PyProof.Rows L2 TL NumText
/-- digits without a nought too many, at most sixty -/
def canon (cs : List Nat) : Bool := !cs.isEmpty && (decide (cs.length ≤ 60) && (cs.all (fun c => decide (48 ≤ c) && decide (c ≤ 57)) && (decide (cs.head? ≠ some 48) || decide (cs = [48]))))
theorem canon_iff {cs : List Nat} : canon cs = true ↔ cs ≠ [] ∧ cs.length ≤ 60 ∧ AllDigits cs ∧ (cs.head? = some 48 → cs = [48]) := by
  unfold canon AllDigits
  simp only [Bool.and_eq_true, Bool.not_eq_true', List.isEmpty_eq_false_iff, decide_eq_true_eq, List.all_eq_true, Bool.or_eq_true]
  constructor
  · rintro ⟨a, b, c, d⟩
    exact ⟨a, b, c, fun h => d.elim (fun z => absurd h z) id⟩
  · rintro ⟨a, b, c, d⟩
    refine ⟨a, b, c, ?_⟩
    by_cases h : cs.head? = some 48
    · exact .inr (d h)
    · exact .inl h
theorem val_lt : ∀ (cs : List Nat) (a : Nat), AllDigits cs → cs.foldl (fun acc c => acc * 10 + (c - 48)) a < (a + 1) * 10 ^ cs.length
  | [], a, _ => by simp
  | c :: cs, a, h => by
    have ih := val_lt cs (a * 10 + (c - 48)) h.tail
    have hc := h.head
    have e : (a * 10 + (c - 48) + 1) * 10 ^ cs.length ≤ (a + 1) * 10 ^ (c :: cs).length := by
      rw [List.length_cons, Nat.pow_succ, Nat.mul_comm (10 ^ cs.length) 10, ← Nat.mul_assoc]
      exact Nat.mul_le_mul_right _ (by omega)
    exact Nat.lt_of_lt_of_le ih e
theorem canon_num {cs : List Nat} (h : canon cs = true) : numL (digitsVal cs) = cs ∧ digitsVal cs < 10 ^ 60 := by
  obtain ⟨h1, h2, h3, h4⟩ := canon_iff.mp h
  have hb : digitsVal cs < 10 ^ 60 := by
    have z := val_lt cs 0 h3
    rw [Nat.zero_add, Nat.one_mul] at z
    exact Nat.lt_of_lt_of_le z (Nat.pow_le_pow_right (by decide) h2)
  refine ⟨?_, hb⟩
  cases cs with
  | nil => exact absurd rfl h1
  | cons c r =>
    by_cases e : c = 48
    · subst e
      have z := h4 rfl
      rw [z]
      decide
    · have hc := h3.head
      have t := toDigits_digitsVal r.length (c :: r) rfl h3 (.inr ⟨c, r, rfl, by omega⟩)
      unfold numL
      rw [t, List.map_map]
      have q : ∀ x ∈ c :: r, (Char.toNat ∘ Char.ofNat) x = x := fun x hx => by
        have b := h3 x hx
        have : ∀ d : Nat, d < 58 → (Char.ofNat d).toNat = d := by decide
        exact this x (by omega)
      rw [List.map_congr_left q, List.map_id']
theorem numL_head {n : Nat} (h : 0 < n) : (numL n).head? ≠ some 48 := by
  induction n using Nat.strongRecOn with
  | _ n ih =>
    by_cases hn : n < 10
    · rw [numL_lt hn]
      intro z
      have z' : 48 + n = 48 := Option.some.inj z
      omega
    · rw [numL_step (by omega)]
      have i := ih (n / 10) (by omega) (by omega)
      intro z
      cases e : numL (n / 10) with
      | nil => exact numL_ne _ e
      | cons c r =>
        rw [e] at z i
        exact i z
theorem num_canon {n : Nat} (h : n < 10 ^ 60) : canon (numL n) = true := by
  refine canon_iff.mpr ⟨numL_ne n, numL_len (by decide) h, numL_digits n, fun z => ?_⟩
  by_cases hn : 0 < n
  · exact absurd z (numL_head hn)
  · have e : n = 0 := by omega
    subst e
    exact numL_lt (by decide)
/-! ### integers -/
def intL (i : Int) : List Nat := if i < 0 then 45 :: numL i.natAbs else numL i.natAbs
def rd (cs : List Nat) : Option Int :=
  if cs.head? = some 45 then (if canon cs.tail = true ∧ cs.tail ≠ [48] then some (-((digitsVal cs.tail : Nat) : Int)) else none)
  else if canon cs = true then some ((digitsVal cs : Nat) : Int) else none
theorem intL_free {i : Int} {s : Nat} (h : s < 45 ∨ (45 < s ∧ s < 48) ∨ 57 < s) : s ∉ intL i := by
  unfold intL
  split
  · intro z
    rcases List.mem_cons.mp z with z | z
    · omega
    · exact numL_free (by omega) z
  · exact numL_free (by omega)
theorem head_num (n : Nat) : (numL n).head? ≠ some 45 := fun z => by
  cases e : numL n with
  | nil => exact numL_ne _ e
  | cons c r =>
    rw [e] at z
    have z' : c = 45 := Option.some.inj z
    have d := numL_digits n c (by rw [e]; exact List.mem_cons_self ..)
    omega
theorem rd_int {cs : List Nat} {i : Int} (h : rd cs = some i) : cs = intL i ∧ i.natAbs < 10 ^ 60 := by
  unfold rd at h
  split at h
  · rename_i hd
    split at h
    · rename_i hc
      obtain ⟨c1, c2⟩ := hc
      have e := Option.some.inj h
      obtain ⟨n1, n2⟩ := canon_num c1
      have pos : 0 < digitsVal cs.tail := by
        rcases Nat.eq_zero_or_pos (digitsVal cs.tail) with z | z
        · rw [z, numL_lt (by decide)] at n1
          exact absurd n1.symm c2
        · exact z
      have ei : i.natAbs = digitsVal cs.tail := by omega
      refine ⟨?_, by omega⟩
      unfold intL
      rw [if_pos (by omega), ei, n1]
      cases cs with
      | nil => cases hd
      | cons c r =>
        have z : c = 45 := Option.some.inj hd
        rw [z]
        rfl
    · cases h
  · split at h
    · rename_i hc
      have e := Option.some.inj h
      obtain ⟨n1, n2⟩ := canon_num hc
      have ei : i.natAbs = digitsVal cs := by omega
      refine ⟨?_, by omega⟩
      unfold intL
      rw [if_neg (by omega), ei, n1]
    · cases h
theorem int_rd {i : Int} (h : i.natAbs < 10 ^ 60) : rd (intL i) = some i := by
  unfold rd intL
  by_cases hi : i < 0
  · rw [if_pos hi, if_pos (by rfl)]
    show (if canon (numL i.natAbs) = true ∧ numL i.natAbs ≠ [48] then _ else _) = _
    have ne : numL i.natAbs ≠ [48] := fun z => by
      have q := congrArg digitsVal z
      rw [numL_val] at q
      have q2 : i.natAbs = 0 := q
      omega
    rw [if_pos ⟨num_canon h, ne⟩]
    show some (-((digitsVal (numL i.natAbs) : Nat) : Int)) = some i
    rw [numL_val]
    congr 1
    omega
  · rw [if_neg hi, if_neg (head_num _), if_pos (num_canon h), numL_val]
    congr 1
    omega
theorem intL_inj {i j : Int} (hi : i.natAbs < 10 ^ 60) (hj : j.natAbs < 10 ^ 60) (h : intL i = intL j) : i = j := by
  have a := int_rd hi
  rw [h, int_rd hj] at a
  exact (Option.some.inj a).symm
theorem rd_nat {cs : List Nat} {j : Int} (h : rd cs = some j) (h0 : 0 ≤ j) : canon cs = true ∧ j = ((digitsVal cs : Nat) : Int) := by
  obtain ⟨e, b⟩ := rd_int h
  have e2 : cs = numL j.natAbs := by rw [e]; unfold intL; rw [if_neg (by omega)]
  rw [e2]
  exact ⟨num_canon b, by rw [numL_val]; omega⟩
theorem canon_rd {cs : List Nat} (h : canon cs = true) : rd cs = some ((digitsVal cs : Nat) : Int) := by
  obtain ⟨n1, n2⟩ := canon_num h
  have z := int_rd (i := ((digitsVal cs : Nat) : Int)) (by omega)
  have e : intL ((digitsVal cs : Nat) : Int) = cs := by
    unfold intL
    rw [if_neg (by omega), Int.natAbs_natCast, n1]
  rw [e] at z
  exact z
/-! ### cut at the bar -/
def sp (cs : List Nat) : List (List Nat) := spl [47] 0 [] cs
theorem sp_acc : ∀ (cs acc : List Nat), 47 ∉ acc → joinL [47] (spl [47] 0 acc cs) = acc ++ cs ∧ (∀ p ∈ spl [47] 0 acc cs, 47 ∉ p) ∧ spl [47] 0 acc cs ≠ []
  | [], acc, h => by
    rw [spl_nil]
    exact ⟨by rw [List.append_nil]; rfl, fun p hp => by rw [List.mem_singleton.mp hp]; exact h, by simp⟩
  | c :: r, acc, h => by
    by_cases e : c = 47
    · subst e
      rw [spl_hit (S := [47]) (acc := acc) (r := r) (c := 47) (pre_self [47] r)]
      obtain ⟨i1, i2, i3⟩ := sp_acc r [] (by simp)
      show joinL [47] (acc :: spl [47] 0 [] r) = _ ∧ (∀ p ∈ acc :: spl [47] 0 [] r, 47 ∉ p) ∧ acc :: spl [47] 0 [] r ≠ []
      refine ⟨?_, fun p hp => ?_, by simp⟩
      · cases q : spl [47] 0 [] r with
        | nil => exact absurd q i3
        | cons x y =>
          rw [q] at i1
          show acc ++ ([47] ++ joinL [47] (x :: y)) = _
          rw [i1]
          rfl
      · rcases List.mem_cons.mp hp with z | z
        · rw [z]; exact h
        · exact i2 p z
    · rw [spl_miss (pre_of_head [] r e)]
      have i := sp_acc r (acc ++ [c]) (by simp [h, Ne.symm e])
      rw [List.append_assoc] at i
      exact i
theorem sp_join (cs : List Nat) : joinL [47] (sp cs) = cs := (sp_acc cs [] (by simp)).1
theorem sp_ne (cs : List Nat) : sp cs ≠ [] := (sp_acc cs [] (by simp)).2.2
theorem sp_of {ps : List (List Nat)} (h : ps ≠ []) (hp : ∀ p ∈ ps, 47 ∉ p) : sp (joinL [47] ps) = ps := spl_join h hp
/-! ### texts -/
theorem cut_one (z : Str) : tl (cutS z none (some 1)) = (tl z).take 1 := by
  show ((z.cps.toList.drop (HT.sIx z.length 0 none)).take (HT.sIx z.length z.length (some ((1 : Nat) : Int)) - HT.sIx z.length 0 none)) = _
  rw [HT.sIx_none, HT.sIx_nat, List.drop_zero, Nat.sub_zero, len_tl z]
  cases h : tl z with
  | nil => simp
  | cons c r =>
    have e : min 1 (c :: r).length = 1 := by rw [List.length_cons]; omega
    have h' : z.cps.toList = c :: r := h
    rw [e, h']
theorem cut_rest (z : Str) : tl (cutS z (some 1) none) = (tl z).tail := by
  show ((z.cps.toList.drop (HT.sIx z.length 0 (some ((1 : Nat) : Int)))).take (HT.sIx z.length z.length none - HT.sIx z.length 0 (some ((1 : Nat) : Int)))) = _
  rw [HT.sIx_none, HT.sIx_nat, len_tl z]
  cases h : tl z with
  | nil => simp
  | cons c r =>
    have e : min 1 (c :: r).length = 1 := by rw [List.length_cons]; omega
    have h' : z.cps.toList = c :: r := h
    rw [e, h']
    show List.take _ r = r
    exact List.take_of_length_le (by rw [List.length_cons]; omega)
theorem str_eq {x y : Str} : (V.str x = V.str y) ↔ tl x = tl y := ⟨fun h => by rw [V.str.inj h], fun h => by rw [ext_tl h]⟩
/-- the digits of a text: without the sign -/
def dg (cs : List Nat) : List Nat := if cs.head? = some 45 then cs.tail else cs
theorem dg_len (cs : List Nat) : (dg cs).length ≤ cs.length := by
  unfold dg
  split
  · rw [List.length_tail]; omega
  · exact Nat.le_refl _
theorem dg_len1 (cs : List Nat) : cs.length ≤ (dg cs).length + 1 := by
  unfold dg
  split
  · have e : cs.tail.length = cs.length - 1 := List.length_tail
    omega
  · exact Nat.le_succ _
theorem take_one {cs : List Nat} {c : Nat} : cs.take 1 = [c] ↔ cs.head? = some c := by
  cases cs with
  | nil => simp
  | cons d r => simp
theorem rd_of {cs : List Nat} (h : canon (dg cs) = false) : rd cs = none := by
  unfold dg at h
  unfold rd
  split
  · rename_i c
    rw [if_pos c] at h
    rw [if_neg (by rw [h]; simp)]
  · rename_i c
    rw [if_neg c] at h
    rw [if_neg (by rw [h]; simp)]
theorem rd_A {cs : List Nat} (h : dg cs = [] ∨ 60 < (dg cs).length ∨ (dg cs).all (fun c => decide (48 ≤ c) && decide (c ≤ 57)) = false) : rd cs = none := by
  refine rd_of ?_
  unfold canon
  rcases h with h | h | h
  · rw [h]; rfl
  · rw [decide_eq_false (by omega : ¬ (dg cs).length ≤ 60)]; simp
  · rw [h]; simp
theorem rd_B {cs : List Nat} (h : (dg cs).head? = some 48) (h2 : cs ≠ [48]) : rd cs = none := by
  cases hc : canon (dg cs) with
  | false => exact rd_of hc
  | true =>
    have e := (canon_iff.mp hc).2.2.2 h
    unfold dg at e hc
    unfold rd
    split
    · rename_i c
      rw [if_pos c] at e
      rw [if_neg (fun z => z.2 e)]
    · rename_i c
      rw [if_neg c] at e
      exact absurd e h2
theorem rd_C {z : Str} (hz : z.length ≤ 1000) (h1 : dg (tl z) ≠ []) (h2 : (dg (tl z)).length ≤ 60) (h3 : (dg (tl z)).all (fun c => decide (48 ≤ c) && decide (c ≤ 57)) = true) (h4 : (dg (tl z)).head? = some 48 → tl z = [48]) :
    ∃ i, rd (tl z) = some i ∧ PySem.intText? z = some i := by
  have ad : AllDigits (dg (tl z)) := fun c hc => by
    have q := List.all_eq_true.mp h3 c hc
    simp only [Bool.and_eq_true, decide_eq_true_eq] at q
    exact q
  have zero : tl z = [48] → dg (tl z) = [48] := fun e => by rw [e]; rfl
  have cn : canon (dg (tl z)) = true := canon_iff.mpr ⟨h1, h2, ad, fun e => zero (h4 e)⟩
  by_cases c : (tl z).head? = some 45
  · have ed : dg (tl z) = (tl z).tail := by unfold dg; rw [if_pos c]
    rw [ed] at h1 ad cn
    have n48 : (tl z).tail ≠ [48] := fun e => by
      have q := h4 (by rw [ed, e]; rfl)
      rw [q] at c
      cases c
    have ez : tl z = 45 :: (tl z).tail := by
      cases hl : tl z with
      | nil => rw [hl] at c; cases c
      | cons x r =>
        rw [hl] at c
        have := Option.some.inj c
        rw [this]
        rfl
    refine ⟨_, ?_, intText_neg ez ad h1 (by omega)⟩
    unfold rd
    rw [if_pos c, if_pos ⟨cn, n48⟩]
  · have ed : dg (tl z) = tl z := by unfold dg; rw [if_neg c]
    rw [ed] at h1 ad cn
    refine ⟨_, ?_, intText_digits ad h1 (by omega)⟩
    unfold rd
    rw [if_neg c, if_pos cn]
theorem tl_int (i : Int) : tl (Str.ofString (toString i)) = intL i := by
  unfold intL
  split
  · rename_i h
    obtain ⟨n, rfl⟩ : ∃ n : Nat, i = Int.negSucc n := ⟨i.natAbs - 1, by omega⟩
    rw [tl_ofString]
    show ("-" ++ Nat.repr (n + 1)).toList.map Char.toNat = 45 :: numL (n + 1)
    rw [String.toList_append, List.map_append, Nat.toList_repr]
    rfl
  · rename_i h
    obtain ⟨n, rfl⟩ : ∃ n : Nat, i = (n : Int) := ⟨i.natAbs, by omega⟩
    rw [tl_num, Int.natAbs_natCast]
section
variable {P : Program} {w : World} {K : PySem.W.Frag} {mg : Str → Option Value} {base : Heap}
abbrev s_read_integer : Stmt := topS 16
theorem sc_read_integer : FnScope ["text", "digits", "sign"] ["text"] (defScope s_read_integer) := ⟨rfl, rfl, rfl, by decide +kernel, rfl, by decide +kernel, by decide +kernel⟩
def ov (o : Option Int) : V := match o with
  | some i => .int i
  | none => .non
def spRead : Sp := fun vs H Q _ => ∃ z : Str, vs = [.str z] ∧ z.length ≤ 1000 ∧ ∀ H', Same H H' → Q (ov (rd (tl z))) H'
theorem all_num (cs : List Nat) : (cs.map fun c => decide (c ∈ tl ("0123456789" : Str))).all id = cs.all (fun c => decide (48 ≤ c) && decide (c ≤ 57)) := by
  rw [List.all_map]
  congr 1
  funext c
  show decide (c ∈ tl ("0123456789" : Str)) = _
  have e : tl ("0123456789" : Str) = [48, 49, 50, 51, 52, 53, 54, 55, 56, 57] := by decide +kernel
  rw [e, ← Bool.decide_and]
  apply decide_eq_decide.mpr
  constructor
  · intro h
    simp at h
    omega
  · intro h
    simp
    omega
theorem ok_read {f : Addr} {fd : FuncData} {k : Nat} (T : Txt mg) (N : Nam mg) (mM : ∃ t, mg "MAX_DIGITS" = some (.int 60 t)) (d : D K mg "read_integer" s_read_integer ["text"] f fd) : FnOk P w K mg base CX0 (k + 1) f fd ["text"] spRead := by
  obtain ⟨tM, m_MAX⟩ := mM
  refine d.F.ok sc_read_integer (fun vs H Q E h => ?_) (fun cdv A outer s H vs Q E hr h => ?_)
  · obtain ⟨z, rfl, _⟩ := h
    rfl
  · obtain ⟨z, rfl, hz, q⟩ := h
    refine ⟨_, (pss_cons (ps_set (i := 1) sc_read_integer.nd rfl (.inl rfl) (pe_ifExp (pt_cmpR op_eq (pe_slice sl_str (pv 0) po_none (po_some pe_int)) pe_str (nomark _)) (pe_slice sl_str (pv 0) (po_some pe_int) po_none) (pv 0)))
      (pss_cons (ps_if (PW.pt (pw_or (pt_cmpR op_eq (pv 1) pe_str (nomark _)) (pw_or1 (pt_cmpR op_gt (pe_callB call_len_str (by rfl) T.n_len PySem.boot_len (pa_cons (pv 1) pa_nil)) (pe_glob (v := .int 60) rfl m_MAX ⟨_, rfl⟩) (nomark _))))) (pss_one (ps_ret pe_non)) pss_nil)
      (pss_cons (ps_if (pt_not (pt_val (pe_callB (cr_all rfl) (by rfl) N.n_all (by decide +kernel) (pa_cons (pe_lc (own := [("sign", 2)]) (g := gName 2) (tt := tYes) rfl sc_read_integer.nd (pi_str (pv 1)) (blkOk_by (own := [("sign", 2)]) (N := ["text", "digits", "sign"]) (sc := defScope s_read_integer) (by decide +kernel))
          (fun _ _ _ _ _ => pg_name (i := 2) sc_read_integer.nd rfl (Or.inl rfl)) (fun _ _ _ _ _ => pts_nil) (fun _ _ _ _ _ => pe_cmpR op_in_sign (pv 2) pe_str (by rfl))) pa_nil)))) (pss_one (ps_ret pe_non)) pss_nil)
      (pss_cons (ps_if (PW.pt (pw_and (pt_cmpR op_eq (pe_ix ix_str (pv 1) pe_int (fun _ _ => rfl)) pe_str (nomark _)) (pw_and1 (pt_cmpR op_ne (pv 0) pe_str (nomark _))))) (pss_one (ps_ret pe_non)) pss_nil)
      (pss_one (ps_ret (pe_callTy call_int_str (by rfl) T.n_int (by decide +kernel) (pa_cons (pv 0) pa_nil)))))))), ?_⟩
    have zl : (tl z).length ≤ 1000 := by rw [← len_tl z]; exact hz
    have sz : z.length ≤ sizeLine := Nat.le_of_lt (small1000 hz)
    have e45 : tl ("-" : Str) = [45] := by decide +kernel
    have e0 : tl ("" : Str) = [] := by decide +kernel
    have e48 : tl ("0" : Str) = [48] := by decide +kernel
    have no : rd (tl z) = none → ∀ H', Same H H' → Q .non H' := fun e H' hs => by
      have x := q H' hs
      rw [e] at x
      exact x
    have f0 : ∀ y : Str, decide (V.str y = V.str "") = decide (tl y = []) := fun y => decide_eq_decide.mpr (by rw [str_eq, e0])
    have f45 : decide (V.str (cutS z none (some 1)) = V.str "-") = decide ((tl z).head? = some 45) := decide_eq_decide.mpr (by rw [str_eq, e45, cut_one, take_one])
    refine ⟨.str z, rfl, 1, rfl, z, rfl, sz, rfl, _, rfl, ?_⟩
    show if decide (V.str (cutS z none (some 1)) = V.str "-") = true then _ else _
    rw [f45]
    refine ite2 (fun e => ?first) (fun e => ?second)
    case' first =>
      have c : (tl z).head? = some 45 := of_decide_eq_true e
      have hy : tl (cutS z (some 1) none) = dg (tl z) := by rw [cut_rest]; unfold dg; rw [if_pos c]
      refine ⟨.str z, rfl, 1, rfl, z, rfl, sz, ?_⟩
      revert hy
      generalize cutS z (some 1) none = y
      intro hy
    case' second =>
      have c : ¬ (tl z).head? = some 45 := fun q => e (decide_eq_true q)
      obtain ⟨y, ey⟩ : ∃ y, z = y := ⟨z, rfl⟩
      have hy : tl y = dg (tl z) := by unfold dg; rw [if_neg c, ey]
      refine ⟨_, rfl, ?_⟩
      refine Eq.mpr (congrArg (fun x => gName 1 x _ _ _) (congrArg V.str ey)) ?_
    all_goals
      refine ⟨_, rfl, rfl, _, rfl, ?_⟩
      show if decide (V.str y = V.str "") = true then _ else _
      rw [f0, hy]
      have yl : y.length = (dg (tl z)).length := by rw [len_tl y, hy]
      have ys : y.length ≤ sizeLine := Nat.le_of_lt (small1000 (by have := dg_len (tl z); omega))
      refine ite2 (fun e1 => ?_) (fun e1 => ?_)
      · exact no (rd_A (.inl (of_decide_eq_true e1))) H (Same.refl H)
      · have h1 : dg (tl z) ≠ [] := fun q => e1 (decide_eq_true q)
        refine ⟨_, rfl, _, rfl, ys, _, _, rfl, rfl, _, rfl, ?_⟩
        refine ite2 (fun e2 => ?_) (fun e2 => ?_)
        · have e2' := of_decide_eq_true e2
          exact no (rd_A (.inr (.inl (by omega)))) H (Same.refl H)
        · have l60 : (dg (tl z)).length ≤ 60 := by
            have e2' : ¬ (60 : Int) < (y.length : Int) := fun q => e2 (decide_eq_true q)
            omega
          refine ⟨_, rfl, y, rfl, fun L hL => ?_⟩
          refine lc_it walk_str (fun i H' => Same H H' ∧ H' L = some (.lst (((tl y).take i).map fun c => V.bl (decide (c ∈ tl ("0123456789" : Str)))))) ⟨sub_same hL, upd_same⟩ (fun _ _ _ _ => trivial) ?_ ?_
          · rintro i x H1 H2 hi ⟨s1, hD1⟩ ⟨rfl, c, hc, rfl⟩
            refine ⟨rfl, ?_⟩
            unfold tYes
            refine ite2 (fun _ => ?_) (fun q => absurd rfl q)
            refine ⟨_, rfl, c, _, rfl, rfl, _, hD1, ?_, ?_, ?_⟩
            · rw [List.length_map, List.length_take]
              exact small1000 (by have := dg_len (tl z); rw [hy]; omega)
            · intro b o hb
              rw [upd_ne (ne_of_none hb hL)]
              exact s1 b o hb
            · rw [upd_same]
              have hc' : (tl y)[i]? = some c := by rw [← hc]; exact Array.getElem?_toList
              rw [List.take_succ, hc', List.map_append]
              rfl
          · rintro H1 ⟨s1, hD1⟩
            have full : (tl y).take y.cps.size = tl y := List.take_of_length_le (by rw [← len_tl y]; exact Nat.le_refl _)
            rw [full] at hD1
            refine ⟨L, _, rfl, .inl (.inl (by rw [hD1]; exact congrArg some (congrArg HO.lst (List.map_map ..).symm))), _, rfl, ?_⟩
            rw [all_num, hy]
            refine ite2 (fun e3 => ?_) (fun e3 => ?_)
            · exact no (rd_A (.inr (.inr (by simpa using e3)))) H1 s1
            · have h3 : (dg (tl z)).all (fun c => decide (48 ≤ c) && decide (c ≤ 57)) = true := by simpa using e3
              have fin : ((dg (tl z)).head? = some 48 → tl z = [48]) → ∃ i, PySem.intText? z = some i ∧ Q (.int i) H1 := fun h4 => by
                obtain ⟨i, r1, r2⟩ := rd_C hz h1 l60 h3 h4
                have x := q H1 s1
                rw [r1] at x
                exact ⟨i, r2, x⟩
              have l640 : z.length ≤ 640 := by
                have := dg_len1 (tl z)
                rw [len_tl z]
                omega
              cases hd : dg (tl z) with
              | nil => exact absurd hd h1
              | cons c0 r0 =>
                rw [hd] at fin
                refine ⟨_, rfl, y, 0, c0, rfl, rfl, ys, atI_nat (j := 0) (by show (tl y)[0]? = _; rw [hy, hd]; rfl), rfl, _, rfl, ?_⟩
                have f48 : decide (V.str ⟨#[c0]⟩ = V.str "0") = decide (c0 = 48) := decide_eq_decide.mpr (by
                  rw [str_eq, e48]
                  show [c0] = [48] ↔ _
                  simp)
                show if decide (V.str ⟨#[c0]⟩ = V.str "0") = true then _ else _
                rw [f48]
                have fz : decide (V.str z = V.str "0") = decide (tl z = [48]) := decide_eq_decide.mpr (by rw [str_eq, e48])
                refine ite2 (fun e4 => ?_) (fun e4 => ?_)
                · refine ⟨_, rfl, rfl, _, rfl, ?_⟩
                  show if (!decide (V.str z = V.str "0")) = true then _ else _
                  rw [fz]
                  refine ite2 (fun e5 => ?_) (fun e5 => ?_)
                  · exact no (rd_B (by rw [hd]; exact congrArg some (of_decide_eq_true e4)) (by simpa using e5)) H1 s1
                  · obtain ⟨i, r2, x⟩ := fin fun _ => by simpa using e5
                    exact ⟨_, rfl, z, i, rfl, r2, l640, x⟩
                · obtain ⟨i, r2, x⟩ := fin fun q => absurd (decide_eq_true (Option.some.inj q)) e4
                  exact ⟨_, rfl, z, i, rfl, r2, l640, x⟩
end
end K09

/-! # the text of a stair -/
namespace K09
open PySem PySem.Spec PyProof.Rows L2 TL NumText
theorem sl_tupK {X : Cx} {K : PySem.W.Frag} (h : X.K = K) : SlR X (rSlT K) := by
  rw [← h]
  exact sl_tup
theorem pe_joinK {X : Cx} {K : PySem.W.Frag} {o e : Expr} {to te : TE} {apos pos : Pos} (h : X.K = K) (ho : PE X o to) (he : PE X e te) (hs : starEach [e] X.env = [(false, eval e X.env)] := by rfl) (hbase : attributeBase o "join" X.env (eval o X.env) = eval o X.env := by rfl) (hline : (apos.endLine == pos.line) = true := by rfl) :
    PE X (.Call (.Attribute o "join" apos) [e] [] pos) (tM1 (fun x xs H Q => ∃ a p, ∃ ys : List Str, x = .str a ∧ xs = [.ref p] ∧ (SqL K H p (ys.map V.str) ∨ SqT K H p (ys.map V.str)) ∧
      (ys.map (·.length)).sum + ys.length * a.length ≤ 16777216 ∧ Q (.str (Txt.join a ys)) H) to te) := by
  rw [← h]
  exact pe_join ho he hs hbase hline
theorem pi_tupK {X : Cx} {K : PySem.W.Frag} {tg l : Expr} {tl : TE} (h : X.K = K) (hl : PE X l tl) : PI X tg l (iTup K tl) := by
  rw [← h]
  exact pi_tup hl
theorem pi_listK {X : Cx} {K : PySem.W.Frag} {tg l : Expr} {tl : TE} (h : X.K = K) (hl : PE X l tl) : PI X tg l (iList K tl) := by
  rw [← h]
  exact pi_list hl
theorem pi_enumTK {X : Cx} {K : PySem.W.Frag} {e : Expr} {ta : TA} {p pos tpos : Pos} {elts : List Expr} {kk : Nat} (h : X.K = K) (hg : Gl X "enumerate") (hm : X.mg "enumerate" = none) (ha : PA X [e] ta) (hs : starEach [e] X.env = [(false, eval e X.env)] := by rfl) :
    PI X (.Tuple elts kk tpos) (.Call (.Name "enumerate" p) [e] [] pos) (iEnumT K ta) := by
  rw [← h]
  exact pi_enumT hg hm ha hs
/-! ### texts -/
def intS (i : Int) : Str := Str.ofString (toString i)
/-- the row i of the block b, the first k of its numbers -/
def rowNs (num : Tri → Int) (b i : Int) (k : Nat) : List Int := (List.range k).map fun (c : Nat) => num (b, i, i + 1 + (c : Int))
def rowS (num : Tri → Int) (b i : Int) (k : Nat) : Str := Txt.join " " ((rowNs num b i k).map intS)
def blkS (num : Tri → Int) (b : Int) (s : Nat) : Str := Txt.join "/" ((List.range (s - 1)).map fun (i : Nat) => rowS num b (i : Int) (s - 1 - i))
def stairS (num : Tri → Int) (ns : List Int) : Str := Txt.join "; " ((List.range ns.length).map fun (b : Nat) => blkS num (b : Int) (ns.getD b 0).toNat)
theorem rowNs_len (num : Tri → Int) (b i : Int) (k : Nat) : (rowNs num b i k).length = k := by
  unfold rowNs
  rw [List.length_map, List.length_range]
/-- numbers that are not too long -/
def Lo (i : Int) : Prop := i.natAbs < 10 ^ 200
theorem intL_le {i : Int} (h : Lo i) : (intL i).length ≤ 201 := by
  have z := numL_len (n := i.natAbs) (k := 200) (by decide) h
  unfold intL
  split
  · rw [List.length_cons]
    omega
  · omega
theorem intS_le {i : Int} (h : Lo i) : (intS i).length ≤ 201 := by
  have e : tl (intS i) = intL i := tl_int i
  rw [len_tl, e]
  exact intL_le h
theorem lo_log {i : Int} (h : Lo i) : i.natAbs.log2 < 1920 := by
  rcases Nat.eq_zero_or_pos i.natAbs with z | z
  · rw [z]
    decide
  · exact (Nat.log2_lt (by omega)).mpr (Nat.lt_trans h (by decide +kernel))
theorem joinL_len (S : List Nat) : ∀ ps : List (List Nat), (joinL S ps).length ≤ (ps.map List.length).sum + ps.length * S.length
  | [] => Nat.zero_le _
  | [p] => by
    show p.length ≤ p.length + 0 + 1 * S.length
    omega
  | p :: q :: r => by
    have z := joinL_len S (q :: r)
    show (p ++ (S ++ joinL S (q :: r))).length ≤ (p.length + ((q :: r).map List.length).sum) + ((q :: r).length + 1) * S.length
    rw [List.length_append, List.length_append, Nat.add_mul, Nat.one_mul]
    omega
theorem sum_le : ∀ {l : List Nat} {m : Nat}, (∀ x ∈ l, x ≤ m) → l.sum ≤ l.length * m
  | [], _, _ => Nat.zero_le _
  | x :: r, m, h => by
    rw [List.sum_cons, List.length_cons, Nat.add_mul, Nat.one_mul]
    have a := h x (List.mem_cons_self ..)
    have b := sum_le (l := r) (m := m) fun y hy => h y (List.mem_cons_of_mem _ hy)
    omega
theorem join_le {y : Str} {ps : List Str} {m n d : Nat} (h : ∀ p ∈ ps, p.length ≤ m) (hn : ps.length ≤ n) (hy : y.length ≤ d) : (Txt.join y ps).length ≤ n * m + n * d ∧ (ps.map (·.length)).sum + ps.length * y.length ≤ n * m + n * d := by
  have a := sum_le (l := ps.map (·.length)) (m := m) fun x hx => by
    obtain ⟨p, hp, rfl⟩ := List.mem_map.mp hx
    exact h p hp
  rw [List.length_map] at a
  have b : ps.length * m ≤ n * m := Nat.mul_le_mul_right _ hn
  have c : ps.length * y.length ≤ n * d := Nat.mul_le_mul hn hy
  refine ⟨?_, by omega⟩
  have j := joinL_len (tl y) (ps.map tl)
  rw [← tl_join, ← join_eq, List.length_map, List.map_map] at j
  rw [len_tl]
  have e1 : (List.length ∘ tl) = fun p : Str => p.length := by
    funext p
    exact (len_tl p).symm
  rw [e1, ← len_tl] at j
  have e2 : (ps.map fun p : Str => p.length).sum = (ps.map (·.length)).sum := rfl
  have j2 : (tl (Txt.join y ps)).length ≤ (ps.map (·.length)).sum + ps.length * y.length := j
  omega
theorem rowS_le {num : Tri → Int} {b i : Int} {k : Nat} (h : ∀ x ∈ rowNs num b i k, Lo x) (hk : k ≤ 6) : (rowS num b i k).length ≤ 1300 := by
  have z := (join_le (y := " ") (ps := (rowNs num b i k).map intS) (m := 201) (n := 6) (d := 1) (fun p hp => by
    obtain ⟨x, hx, rfl⟩ := List.mem_map.mp hp
    exact intS_le (h x hx)) (by rw [List.length_map, rowNs_len]; exact hk) (by decide +kernel)).1
  exact Nat.le_trans z (by decide)
theorem blkS_le {num : Tri → Int} {b : Int} {s : Nat} (h : ∀ i : Nat, ∀ x ∈ rowNs num b (i : Int) (s - 1 - i), Lo x) (hs : s ≤ 6) : (blkS num b s).length ≤ 8000 := by
  have z := (join_le (y := "/") (ps := (List.range (s - 1)).map fun (i : Nat) => rowS num b (i : Int) (s - 1 - i)) (m := 1300) (n := 6) (d := 1) (fun p hp => by
    obtain ⟨i, hi, rfl⟩ := List.mem_map.mp hp
    exact rowS_le (h i) (by omega)) (by rw [List.length_map, List.length_range]; omega) (by decide +kernel)).1
  exact Nat.le_trans z (by decide)
section
variable {P : Program} {w : World} {K : PySem.W.Frag} {mg : Str → Option Value} {base : Heap} {C CS TL : Addr}
abbrev s_text : Stmt := topS 54
theorem sc_text : FnScope ["table", "at", "row", "number"] ["table"] (defScope s_text) := ⟨rfl, rfl, rfl, by decide +kernel, rfl, by decide +kernel, by decide +kernel⟩
/-- the text of a table -/
def spText (K : PySem.W.Frag) : Sp := fun vs H Q _ => ∃ (v : V) (num : Tri → Int) (b : Int) (s : Nat), vs = [v] ∧ Tv K H v (tabD num b s) ∧ 1 ≤ s ∧ s ≤ 6 ∧ (∀ i j : Nat, i < j → j < s → Lo (num (b, (i : Int), (j : Int)))) ∧
  ∀ H', Same H H' → Q (.str (blkS num b s)) H'
theorem ok_text {f : Addr} {fd : FuncData} {k : Nat} (T : Txt mg) (N : Nam mg) (d : D K mg "text_of" s_text ["table"] f fd) : FnOk P w K mg base CX0 (k + 1) f fd ["table"] (spText K) := by
  refine d.F.ok sc_text (fun vs H Q E h => ?_) (fun cdv A outer s H vs Q E hr h => ?_)
  · obtain ⟨v, num, b, z, rfl, _⟩ := h
    rfl
  · obtain ⟨v, num, b, z, rfl, tv, z1, z6, lo, q⟩ := h
    refine ⟨_, (pss_one (ps_ret (pe_join pe_str (pe_lc (own := [("at", 1), ("row", 2)]) (g := gTup K 2 (gCons (gName 1) (gCons (gName 2) gNil))) (tt := tYes) rfl sc_text.nd (pi_enumT (by rfl) N.n_enumerate (pa_cons (pe_slice sl_tup (pv 0) po_none (po_some (pe_un un_neg pe_int))) pa_nil)) (blkOk_by (own := [("at", 1), ("row", 2)]) (N := ["table", "at", "row", "number"]) (sc := defScope s_text) (by decide +kernel))
            (fun _ _ _ _ _ => (pg_tup rfl (pgs_cons (pg_name (i := 1) sc_text.nd rfl (Or.inl rfl)) (pgs_cons (pg_name (i := 2) sc_text.nd rfl (Or.inl rfl)) pgs_nil)))) (fun _ _ _ _ _ => pts_nil) (fun _ _ _ _ _ => (pe_joinK (K := K) rfl pe_str (pe_lc (own := [("number", 3)]) (g := gName 3) (tt := tYes) rfl sc_text.nd (pi_tupK (K := K) rfl (pe_slice (sl_tupK (K := K) rfl) (pv 2) (po_some (pe_op op_add (pv 1) pe_int)) po_none)) (blkOk_by (own := [("number", 3)]) (N := ["table", "at", "row", "number"]) (sc := relS _ (defScope s_text)) (by decide +kernel))
            (fun _ _ _ _ _ => (pg_name (i := 3) sc_text.nd rfl (Or.inl rfl))) (fun _ _ _ _ _ => pts_nil) (fun _ _ _ _ _ => (pe_callTy call_str_int (by rfl) N.n_str (by decide +kernel) (pa_cons (pv 3) pa_nil)))))))))), ?_⟩
    obtain ⟨o, xs, rfl, eo, tl0⟩ : ∃ o xs, v = .ref o ∧ SqT K H o xs ∧ TvL K H xs ((List.range z).map (rowD num b z)) := by
      cases tv with
      | tup e l => exact ⟨_, _, rfl, e, l⟩
    have lx : xs.length = z := by rw [tl0.len, List.length_map, List.length_range]
    have cut1 : cutV xs none (some (-1)) = xs.take (z - 1) := by
      show (xs.drop 0).take (HT.sIx xs.length xs.length (some (-1)) - 0) = _
      have e : HT.sIx xs.length xs.length (some (-1)) = z - 1 := by
        show (if ((-1 : Int) < 0) then ((-1 : Int) + (xs.length : Int)).toNat else min ((-1 : Int)).toNat xs.length) = _
        rw [if_pos (by decide), lx]
        omega
      rw [e, List.drop_zero, Nat.sub_zero]
    have l1 : (xs.take (z - 1)).length = z - 1 := by rw [List.length_take]; omega
    refine ⟨⟨_, rfl⟩, _, rfl, _, rfl, _, rfl, o, _, rfl, eo, ?_, fun p np => ⟨p, _, rfl, sqt_new upd_same, fun D nD => ?_⟩⟩
    · rintro ⟨_, h⟩
      have e : HT.sIx xs.length xs.length (some (-1)) = z - 1 := by
        show (if ((-1 : Int) < 0) then ((-1 : Int) + (xs.length : Int)).toNat else min ((-1 : Int)).toNat xs.length) = _
        rw [if_pos (by decide), lx]
        omega
      omega
    · rw [cut1] at nD ⊢
      have s1 := sub_same (o := .tup (xs.take (z - 1))) np
      have ep : upd H p (.tup (xs.take (z - 1))) p = some (.tup (xs.take (z - 1))) := upd_same
      revert nD s1 ep
      generalize upd H p (.tup (xs.take (z - 1))) = H1
      intro nD s1 ep
      refine lc_it (walk_enumT (K := K) (a := p) (xs := xs.take (z - 1))) (fun i Y => Same H1 Y ∧ Y D = some (.lst ((List.range i).map fun (i : Nat) => V.str (rowS num b (i : Int) (z - 1 - i))))) ⟨sub_same nD, upd_same⟩ (fun i Y _ h => sqt_same (sqt_new ep) h.1) ?_ ?_
      · rintro i v Y Y' hi ⟨sy, hd⟩ ⟨Tp, x0, y0, rfl, nT, rfl, ex, ey⟩
        obtain rfl := Option.some.inj ex
        rw [l1] at hi
        have ey2 : xs[i]? = some y0 := by
          have ey : (xs.take (z - 1))[i]? = some y0 := ey
          rw [List.getElem?_take, if_pos hi] at ey
          exact ey
        obtain ⟨d0, ed, td⟩ := tl0.get ey2
        rw [List.getElem?_map, List.getElem?_range (by omega)] at ed
        obtain rfl := Option.some.inj ed
        obtain ⟨rr, rfl, er⟩ : ∃ rr, y0 = .ref rr ∧ SqT K H rr ((rowT num b (i : Int) z).map V.int) := by
          unfold rowD at td
          cases td with
          | tup e l => exact ⟨_, rfl, l.ints ▸ e⟩
        have s2 := sub_same (o := .tup [V.int (i : Nat), V.ref rr]) nT
        have hd2 := s2 _ _ hd
        have sy2 := sy.trans s2
        have hT : upd Y Tp (.tup [V.int (i : Nat), V.ref rr]) Tp = some (.tup [V.int (i : Nat), V.ref rr]) := upd_same
        revert hd2 sy2 hT
        generalize upd Y Tp (.tup [V.int (i : Nat), V.ref rr]) = Y2
        intro hd2 sy2 hT
        have lr : ((rowT num b (i : Int) z).map V.int).length = z := by rw [List.length_map, rowT_len]
        have six : HT.sIx z 0 (some ((i : Int) + 1)) = i + 1 := by
          have e : ((i : Int) + 1) = ((i + 1 : Nat) : Int) := by omega
          rw [e]
          exact sIx_nat (by omega)
        have cut2 : cutV ((rowT num b (i : Int) z).map V.int) (some ((i : Int) + 1)) none = (rowNs num b (i : Int) (z - 1 - i)).map V.int := by
          unfold cutV
          rw [lr, six, HT.sIx_none]
          refine List.ext_getElem (by simp [rowT_len, rowNs_len]; omega) fun n h1 h2 => ?_
          rw [List.length_map, rowNs_len] at h2
          have lt : (i : Int) < ((i + 1 + n : Nat) : Int) := by omega
          simp only [List.getElem_take, List.getElem_drop, List.getElem_map]
          unfold rowT rowNs
          simp only [List.getElem_map, List.getElem_range]
          unfold tabE
          rw [if_pos lt]
          congr 3
        have lo2 : ∀ x ∈ rowNs num b (i : Int) (z - 1 - i), Lo x := fun x hx => by
          unfold rowNs at hx
          obtain ⟨c, hc, rfl⟩ := List.mem_map.mp hx
          rw [List.mem_range] at hc
          have z := lo i (i + 1 + c) (by omega) (by omega)
          have e : ((i + 1 + c : Nat) : Int) = (i : Int) + 1 + (c : Int) := by omega
          rw [e] at z
          exact z
        refine ⟨Tp, _, rfl, .inl (.inl hT), rfl, _, _, rfl, _, _, rfl, rfl, rfl, yesT ?_⟩
        refine ⟨⟨_, rfl⟩, _, rfl, _, rfl, _, _, rfl, rfl, _, rfl, rr, _, rfl, sqt_same er (s1.trans sy2), ?_, fun p2 np2 => ⟨p2, rfl, ⟨_, sqt_new upd_same⟩, fun L nL => ?_⟩⟩
        · rintro ⟨h, _⟩
          rw [lr, six] at h
          omega
        · rw [cut2] at nL ⊢
          have s3 := sub_same (o := .tup ((rowNs num b (i : Int) (z - 1 - i)).map V.int)) np2
          have ep2 : upd Y2 p2 (.tup ((rowNs num b (i : Int) (z - 1 - i)).map V.int)) p2 = some (.tup ((rowNs num b (i : Int) (z - 1 - i)).map V.int)) := upd_same
          have hd3 := s3 _ _ hd2
          have sy3 := sy2.trans s3
          revert nL hd3 sy3 ep2
          generalize upd Y2 p2 (.tup ((rowNs num b (i : Int) (z - 1 - i)).map V.int)) = Y3
          intro nL ep2 hd3 sy3
          have l3 : ((rowNs num b (i : Int) (z - 1 - i)).map V.int).length = (rowNs num b (i : Int) (z - 1 - i)).length := List.length_map _
          refine lc_tup (K := K) (a := p2) (xs := (rowNs num b (i : Int) (z - 1 - i)).map V.int) (fun j U => Same Y3 U ∧ U L = some (.lst (((rowNs num b (i : Int) (z - 1 - i)).take j).map fun x => V.str (intS x)))) ⟨sub_same nL, upd_same⟩ (fun j U _ h => sqt_same (sqt_new ep2) h.1) ?_ ?_
          · rintro j x U hx ⟨su, hl⟩
            obtain ⟨n, hn, rfl⟩ := int_at hx
            have jl := (List.getElem?_eq_some_iff.mp hn).1
            rw [rowNs_len] at jl
            refine ⟨rfl, yesT ⟨_, rfl, n, rfl, lo_log (lo2 n (List.mem_of_getElem? hn)), _, hl, ?_, fun k ob e => ?_, ?_⟩⟩
            · rw [List.length_map, List.length_take, sizeLine_eq]
              omega
            · rw [upd_ne (fun z => by rw [z, nL] at e; cases e)]
              exact su _ _ e
            · rw [upd_same, List.take_succ, hn, List.map_append]
              rfl
          · rintro U ⟨su, hl⟩
            rw [l3, List.take_length] at hl
            have hl2 : U L = some (.lst (((rowNs num b (i : Int) (z - 1 - i)).map intS).map V.str)) := by
              rw [hl, List.map_map]
              rfl
            refine ⟨_, L, (rowNs num b (i : Int) (z - 1 - i)).map intS, rfl, rfl, .inl (.inl (.inl hl2)), ?_, ?_⟩
            · refine Nat.le_trans (join_le (m := 201) (n := 6) (d := 1) (fun p hp => ?_) ?_ (by decide +kernel)).2 (by decide)
              · obtain ⟨x, hx, rfl⟩ := List.mem_map.mp hp
                exact intS_le (lo2 x hx)
              · rw [List.length_map, rowNs_len]
                omega
            · refine ⟨_, su _ _ hd3, ?_, fun k ob e => ?_, ?_⟩
              · rw [List.length_map, List.length_range, sizeLine_eq]
                omega
              · rw [upd_ne (fun z => by rw [z, nD] at e; cases e)]
                exact su _ _ (sy3 _ _ e)
              · rw [upd_same, List.range_succ, List.map_append]
                rfl
      · rintro Y ⟨sy, hd⟩
        rw [l1] at hd
        have hd2 : Y D = some (.lst (((List.range (z - 1)).map fun (i : Nat) => rowS num b (i : Int) (z - 1 - i)).map V.str)) := by
          rw [hd, List.map_map]
          rfl
        refine ⟨_, D, _, rfl, rfl, .inl (.inl (.inl hd2)), ?_, q Y (s1.trans sy)⟩
        refine Nat.le_trans (join_le (m := 1300) (n := 6) (d := 1) (fun p hp => ?_) ?_ (by decide +kernel)).2 (by decide)
        · obtain ⟨i, hi, rfl⟩ := List.mem_map.mp hp
          rw [List.mem_range] at hi
          refine rowS_le (fun x hx => ?_) (by omega)
          unfold rowNs at hx
          obtain ⟨c, hc, rfl⟩ := List.mem_map.mp hx
          rw [List.mem_range] at hc
          have z := lo i (i + 1 + c) (by omega) (by omega)
          have e : ((i + 1 + c : Nat) : Int) = (i : Int) + 1 + (c : Int) := by omega
          rw [e] at z
          exact z
        · rw [List.length_map, List.length_range]
          omega
end
end K09

/-! # dict(zip(tuple, tuple)), the keys tuples -/
namespace K09W
open PySem PySem.Spec PyProof.Rows
section
variable {prog : Program} {w : World} {A : Around} {E : Value → Shared → Prop} {s : Shared} {z TI TO T i1 i2 l1 l2 : Addr} {f : Bool} {oT : Obj} {k : Nat} {xs ys : Array Value} {x y : Value}
/-- the state of a zip over two tuples, its last tuple in use -/
structure ZT (h : Heap) (z TI TO T i1 i2 l1 l2 : Addr) (f : Bool) (oT : Obj) (k : Nat) (xs ys : Array Value) : Prop where
  zh : IsZipHeld h z TI TO T f
  tT : h.get? T = some oT
  tI : IsPair h TI (.ref i1) (.ref i2)
  u1 : h.IsTupleIter i1 l1 k
  u2 : h.IsTupleIter i2 l2 k
  t1 : h.IsTuple l1 xs
  t2 : h.IsTuple l2 ys
theorem zt_item {Q : Value → Shared → Prop} (D : ZipApart z TI TO i1 i2 l1 l2) (S : ZT s.heap z TI TO T i1 i2 l1 l2 f oT k xs ys) (ex : xs[k]? = some x) (ey : ys[k]? = some y)
    (q : ∀ h', IsZipHeld h' z TI TO T true → h'.IsTupleIter i1 l1 (k + 1) → h'.IsTupleIter i2 l2 (k + 1) → IsPair h' s.heap.objs.size x y →
      (∀ c o, c ≠ z → c ≠ i1 → c ≠ i2 → s.heap.get? c = some o → h'.get? c = some o) → Q (.ref s.heap.objs.size) { s with heap := h' }) :
    wpAny (model prog w) A (Builtin.«zip.__next__» ⟨[.ref z], []⟩) (fun fin s' => ∃ v, fin = .done (.ret v) ∧ Q v s') E s := by
  show wpAny (model prog w) A (field (.ref z) 2 >>= _) _ E s
  refine wpAny_bind (wpAny_field S.zh rfl (x := .bool false) rfl ?_)
  show wpAny (model prog w) A (field (.ref z) 3 >>= _) _ E s
  refine wpAny_bind (wpAny_field S.zh rfl (x := .ref TI) rfl ?_)
  refine wpAny_bind (wpAny_seqItems S.tI rfl ?_)
  show wpAny (model prog w) A (Builtin.SmallTypes.ownedTupleIsFree (.ref z) >>= _) _ E s
  refine wpAny_bind (wpAny_tupleHeld_zip S.zh S.tT fun g1 za sa => ?_)
  simp only [if_false, Bool.false_eq_true]
  refine wpAny_bind ?_
  rw [← Array.forIn_toList]
  simp only [List.forIn_nil, List.forIn_cons]
  refine wpAny_bind (wpAny_bind (wpAny_holding (?_)))
  show wpAny (model prog w) _ (Builtin.SmallTypes.nextOf (.ref i1) >>= _) _ _ _
  refine wpAny_bind (wpAny_nextOf_tuple_item (s := { s with heap := g1 }) (S.u1.extBut sa.extBut D.i1z) (S.t1.extBut sa.extBut D.l1z) ex fun g2 ua sb => wpAny_pure ?_)
  refine wpAny_pure (?_)
  refine wpAny_bind (wpAny_bind (wpAny_holding (?_)))
  show wpAny (model prog w) _ (Builtin.SmallTypes.nextOf (.ref i2) >>= _) _ _ _
  refine wpAny_bind (wpAny_nextOf_tuple_item (s := { s with heap := g2 }) ((S.u2.extBut sa.extBut D.i2z).extBut sb.extBut D.i12.symm) ((S.t2.extBut sa.extBut D.l2z).extBut sb.extBut D.l2i1) ey fun g3 ub sc => wpAny_pure ?_)
  refine wpAny_pure (wpAny_pure (?_))
  show wpAny (model prog w) _ (newTuple [x, y] >>= _) _ _ _
  refine wpAny_bind (wpAny_newTuple (?_))
  have sz : g3.objs.size = s.heap.objs.size := by rw [sc.1, sb.1, sa.1]
  have z3 : IsZipHeld g3 z TI TO T true := sc.extBut _ _ D.i2z.symm (sb.extBut _ _ D.i1z.symm za)
  have kk : ∀ c o, c ≠ z → c ≠ i1 → c ≠ i2 → s.heap.get? c = some o → g3.get? c = some o := fun c o a b d e => sc.extBut _ _ d (sb.extBut _ _ b (sa.extBut _ _ a e))
  have v1 : g3.IsTupleIter i1 l1 (k + 1) := ua.extBut sc.extBut D.i12
  refine wpAny_pure ⟨_, rfl, (?_)⟩
  show Q (.ref g3.objs.size) _
  have pr : IsPair (g3.push { cls := .type "tuple", data := .seq #[x, y] }) g3.objs.size x y := Heap.get?_push_size _ rfl
  rw [sz] at pr ⊢
  exact q _ (Heap.get?_push_of_some _ z3) (v1.at fun o e => Heap.get?_push_of_some _ e) (ub.at fun o e => Heap.get?_push_of_some _ e) pr fun c o a b d e => Heap.get?_push_of_some _ (kk c o a b d e)
theorem zt_end {Q : Fin → Shared → Prop} (hh : A.handled = none) (D : ZipApart z TI TO i1 i2 l1 l2) (S : ZT s.heap z TI TO T i1 i2 l1 l2 f oT k xs ys) (hx : xs[k]? = none)
    (q : ∀ h' e, (∀ c o, c ≠ z → c ≠ i1 → c ≠ i2 → s.heap.get? c = some o → h'.get? c = some o) → (∃ o, h'.get? e = some o ∧ o.cls = .type "StopIteration") → E (.ref e) { s with heap := h' }) :
    wpAny (model prog w) A (Builtin.«zip.__next__» ⟨[.ref z], []⟩) Q E s := by
  show wpAny (model prog w) A (field (.ref z) 2 >>= _) _ E s
  refine wpAny_bind (wpAny_field S.zh rfl (x := .bool false) rfl ?_)
  show wpAny (model prog w) A (field (.ref z) 3 >>= _) _ E s
  refine wpAny_bind (wpAny_field S.zh rfl (x := .ref TI) rfl ?_)
  refine wpAny_bind (wpAny_seqItems S.tI rfl ?_)
  show wpAny (model prog w) A (Builtin.SmallTypes.ownedTupleIsFree (.ref z) >>= _) _ E s
  refine wpAny_bind (wpAny_tupleHeld_zip S.zh S.tT fun g1 za sa => ?_)
  simp only [if_false, Bool.false_eq_true]
  refine wpAny_bind ?_
  rw [← Array.forIn_toList]
  simp only [List.forIn_nil, List.forIn_cons]
  refine wpAny_bind (wpAny_bind (wpAny_holding (?_)))
  show wpAny (model prog w) _ (Builtin.SmallTypes.nextOf (.ref i1) >>= _) _ _ _
  refine wpAny_bind (wpAny_nextOf_tuple_end (s := { s with heap := g1 }) hh (S.u1.extBut sa.extBut D.i1z) (S.t1.extBut sa.extBut D.l1z) hx fun g2 e sb he => ?_)
  exact q g2 e (fun c o a b _ e => sb _ _ b (sa.extBut _ _ a e)) he
theorem next_zt_item {Q : Option Value → Shared → Prop} (D : ZipApart z TI TO i1 i2 l1 l2) (S : ZT s.heap z TI TO T i1 i2 l1 l2 f oT k xs ys) (ex : xs[k]? = some x) (ey : ys[k]? = some y)
    (q : ∀ h', IsZipHeld h' z TI TO T true → h'.IsTupleIter i1 l1 (k + 1) → h'.IsTupleIter i2 l2 (k + 1) → IsPair h' s.heap.objs.size x y →
      (∀ c o, c ≠ z → c ≠ i1 → c ≠ i2 → s.heap.get? c = some o → h'.get? c = some o) → Q (some (.ref s.heap.objs.size)) { s with heap := h' }) : wpAny (model prog w) A (pyNext (.ref z)) Q E s := by
  have ty : s.TypeIs (.ref z) "zip" := ⟨_, S.zh, rfl⟩
  unfold pyNext
  exact wpAny_bind (wpAny_attempt (wpAny_callSpecial?_slot (name := Str.ofString "__next__") ty F.slot_zip_next (wpAny_call_entry F.slot_zip_next ty F.entry_zip_next
    (zt_item D S ex ey fun h' a b c d e => wpAny_pure (q h' a b c d e)) (F.args_zip_next_1 _))))
theorem next_zt_end {Q : Option Value → Shared → Prop} (hh : A.handled = none) (D : ZipApart z TI TO i1 i2 l1 l2) (S : ZT s.heap z TI TO T i1 i2 l1 l2 f oT k xs ys) (hx : xs[k]? = none)
    (q : ∀ h', (∀ c o, c ≠ z → c ≠ i1 → c ≠ i2 → s.heap.get? c = some o → h'.get? c = some o) → Q none { s with heap := h' }) : wpAny (model prog w) A (pyNext (.ref z)) Q E s := by
  have ty : s.TypeIs (.ref z) "zip" := ⟨_, S.zh, rfl⟩
  unfold pyNext
  refine wpAny_bind (wpAny_attempt (wpAny_callSpecial?_slot (name := Str.ofString "__next__") ty F.slot_zip_next (wpAny_call_entry F.slot_zip_next ty F.entry_zip_next
    (zt_end hh D S hx fun h' e kk he => ?_) (F.args_zip_next_1 _))))
  obtain ⟨o, ho, hc⟩ := he
  exact wpAny_bind (wpAny_isInstance (T := "StopIteration") (b := true) ⟨o, ho, hc⟩ isSubtype_stop (wpAny_pure (q _ kk)))
end
section
variable {prog : Program} {w : World}
/-- what a new zip of two tuples of one length holds -/
structure ZN (h : Heap) (z TI TO i1 i2 l1 l2 : Addr) (xs ys : Array Value) : Prop where
  z0 : IsZip h z TI TO .none
  tI : IsPair h TI (.ref i1) (.ref i2)
  tO : ∃ a b, IsPair h TO a b
  u1 : h.IsTupleIter i1 l1 0
  u2 : h.IsTupleIter i2 l2 0
  t1 : h.IsTuple l1 xs
  t2 : h.IsTuple l2 ys
theorem zipArg (z TI TO i1 i2 l1 l2 : Addr) (D : ZipApart z TI TO i1 i2 l1 l2) (xs ys : Array Value) (le : xs.size = ys.size) :
    PairArg prog w "zip" z [z, TI, TO, i1, i2, l1, l2] [z, TO, i1, i2] xs.size (fun i k v => xs[i]? = some k ∧ ys[i]? = some v) (fun h => ZN h z TI TO i1 i2 l1 l2 xs ys) where
  type := fun s ok => ⟨_, ok.z0, rfl⟩
  notDict := by decide
  keep := fun h h' ok kk => let ⟨a, b, c⟩ := ok.tO; ⟨kk _ _ ok.z0, kk _ _ ok.tI, ⟨a, b, kk _ _ c⟩, ok.u1.at fun o e => kk _ o e, ok.u2.at fun o e => kk _ o e, ok.t1.at fun o e => kk _ o e, ok.t2.at fun o e => kk _ o e⟩
  there := fun h ok b hb => by
    obtain ⟨z0, tI, ⟨_, _, tO⟩, ⟨_, a1, _⟩, ⟨_, a2, _⟩, ⟨_, a3, _⟩, ⟨_, a4, _⟩⟩ := ok
    simp only [List.mem_cons, List.not_mem_nil, or_false] at hb
    rcases hb with rfl | rfl | rfl | rfl | rfl | rfl | rfl <;> exact ⟨_, by assumption⟩
  sub := fun b hb => by
    simp only [List.mem_cons, List.not_mem_nil, or_false] at hb ⊢
    rcases hb with z | z | z | z <;> simp [z]
  noKeys := fun A s Q E hA ok q => getAttrOr_miss_zip ok.z0 rfl rfl rfl zip_no_keys (by decide +kernel) hA q
  iter := fun A s d Q E hA ok hd off q => by
    simp only [List.mem_cons, List.not_mem_nil, or_false, not_or] at off
    obtain ⟨dz, dI, dO, d1, d2, d3, d4⟩ := off
    refine wpAny_pyIter_zip ok.z0 (q z [z, TO, i1, i2] (fun i h => (h.IsTupleIter i1 l1 i ∧ h.IsTupleIter i2 l2 i ∧ IsPair h TI (.ref i1) (.ref i2) ∧ h.IsTuple l1 xs ∧ h.IsTuple l2 ys) ∧
      ((IsZip h z TI TO .none ∧ ∃ a b, IsPair h TO a b) ∨ ∃ T f oT, (IsZipHeld h z TI TO T f ∧ h.get? T = some oT) ∧ T ≠ z ∧ T ≠ i1 ∧ T ≠ i2 ∧ T ≠ d)) s.heap s.toks ?_
      ⟨⟨ok.u1, ok.u2, ok.tI, ok.t1, ok.t2⟩, .inl ⟨ok.z0, ok.tO⟩⟩ (fun _ _ e => e) fun b hb => .inl hb)
    refine { off := fun hm => ?_, frame := fun i h1 h2 st kk => ?_, item := fun i s1 Q1 E1 hi st ds q1 => ?_, done := fun s1 Q1 E1 st q1 => ?_ }
    · simp only [List.mem_cons, List.not_mem_nil, or_false] at hm
      rcases hm with e | e | e | e
      · exact dz e
      · exact dO e
      · exact d1 e
      · exact d2 e
    · obtain ⟨⟨a1, a2, a3, a4, a5⟩, b⟩ := st
      refine ⟨⟨a1.at fun o e => kk _ o (Ne.symm d1) e, a2.at fun o e => kk _ o (Ne.symm d2) e, kk _ _ (Ne.symm dI) a3, a4.at fun o e => kk _ o (Ne.symm d3) e, a5.at fun o e => kk _ o (Ne.symm d4) e⟩, ?_⟩
      rcases b with ⟨b1, c, e, b2⟩ | ⟨T, f, oT, ⟨b1, b2⟩, r1, r2, r3, r4⟩
      · exact .inl ⟨kk _ _ (Ne.symm dz) b1, c, e, kk _ _ (Ne.symm dO) b2⟩
      · exact .inr ⟨T, f, oT, ⟨kk _ _ (Ne.symm dz) b1, kk _ _ r4 b2⟩, r1, r2, r3, r4⟩
    · obtain ⟨⟨a1, a2, a3, a4, a5⟩, b⟩ := st
      have ex := Array.getElem?_eq_getElem hi
      have ey := Array.getElem?_eq_getElem (xs := ys) (i := i) (by omega)
      have lt : ∀ {c o}, s1.heap.get? c = some o → s1.heap.objs.size ≠ c := fun e => Nat.ne_of_gt (Heap.lt_size e)
      have k1 : s1.heap.objs.size ≠ i1 := let ⟨_, e, _⟩ := a1; lt e
      have k2 : s1.heap.objs.size ≠ i2 := let ⟨_, e, _⟩ := a2; lt e
      rcases b with ⟨b1, c, e, b2⟩ | ⟨T, f, oT, ⟨b1, b2⟩, r1, r2, r3, r4⟩
      · refine RZ.pyNext_zipT_item D b1 a3 b2 a1 a2 a4 a5 ex ey fun h' c1 c2 c3 c4 c5 c6 kk => ?_
        exact q1 s1.heap.objs.size _ _ h' s1.toks ⟨ex, ey⟩ (.inl ⟨_, c5, rfl, _, rfl⟩)
          ⟨⟨c3, c4, kk _ _ D.TIz D.TITO D.TIi1 D.TIi2 a3, a4.at fun o e => kk _ o D.l1z D.l1TO D.l1i1 D.l1i2 e, a5.at fun o e => kk _ o D.l2z D.l2TO D.l2i1 D.l2i2 e⟩,
            .inr ⟨s1.heap.objs.size, false, _, ⟨c1, c5⟩, lt b1, k1, k2, Nat.ne_of_gt ds⟩⟩
          fun c o hc e => kk c o (fun x => hc (by simp [x])) (fun x => hc (by simp [x])) (fun x => hc (by simp [x])) (fun x => hc (by simp [x])) e
      · refine next_zt_item D ⟨b1, b2, a3, a1, a2, a4, a5⟩ ex ey fun h' c1 c3 c4 c5 kk => ?_
        exact q1 s1.heap.objs.size _ _ h' s1.toks ⟨ex, ey⟩ (.inl ⟨_, c5, rfl, _, rfl⟩)
          ⟨⟨c3, c4, kk _ _ D.TIz D.TIi1 D.TIi2 a3, a4.at fun o e => kk _ o D.l1z D.l1i1 D.l1i2 e, a5.at fun o e => kk _ o D.l2z D.l2i1 D.l2i2 e⟩,
            .inr ⟨T, true, oT, ⟨c1, kk _ _ r1 r2 r3 b2⟩, r1, r2, r3, r4⟩⟩
          fun c o hc e => kk c o (fun x => hc (by simp [x])) (fun x => hc (by simp [x])) (fun x => hc (by simp [x])) e
    · obtain ⟨⟨a1, a2, a3, a4, a5⟩, b⟩ := st
      have hx : xs[xs.size]? = none := Array.getElem?_eq_none (Nat.le_refl _)
      rcases b with ⟨b1, c, e, b2⟩ | ⟨T, f, oT, ⟨b1, b2⟩, r1, r2, r3, r4⟩
      · exact RZ.pyNext_zipT_end hA D b1 a3 b2 a1 a2 a4 a5 (.inl hx) fun h' kk => q1 h' s1.toks fun c o hc e => kk c o (fun x => hc (by simp [x])) (fun x => hc (by simp [x])) (fun x => hc (by simp [x])) (fun x => hc (by simp [x])) e
      · exact next_zt_end hA D ⟨b1, b2, a3, a1, a2, a4, a5⟩ hx fun h' kk => q1 h' s1.toks fun c o hc e => kk c o (fun x => hc (by simp [x])) (fun x => hc (by simp [x])) (fun x => hc (by simp [x])) e
end
end K09W
namespace K09
open PySem PySem.Spec PyProof.Rows L2
section
variable {X : Cx}
/-- the key at a place of a tuple of keys -/
def KeyAt (H : Hp) (v : V) (k : List L2.Key) : Prop := ∃ q, v = .ref q ∧ H q = some (.tup (k.map kV))
theorem keys_kt {H : Hp} : ∀ {vs : List V} {us : List Value} {ks : List (List L2.Key)} {zs : List V} {ws : List Value}, Paired (KeyAt H) vs ks → Vals vs us → Vals zs ws → vs.length = zs.length →
    ∃ ys : List (List L2.Key × Addr × Value), KT H (ks.zip zs) ys ∧ ys.length = us.length ∧ ∀ (i : Nat) (y : List L2.Key × Addr × Value), ys[i]? = some y → us[i]? = some (Value.ref y.2.1) ∧ ws[i]? = some y.2.2
  | _, _, _, _, _, .nil, .nil, .nil, _ => ⟨[], .nil, rfl, fun i y e => by simp at e⟩
  | _, _, _, _ :: _, _, .nil, .nil, .cons _ _, e => nomatch e
  | _, _, _, _, _, .cons (a := v) (b := k) p t, .cons r rt, .nil, e => nomatch e
  | _, _, _, _, _, .cons (a := v) (b := k) p t, .cons r rt, .cons (a := z) (b := w0) r2 rt2, e => by
    obtain ⟨ys, k1, k2, k3⟩ := keys_kt t rt rt2 (Nat.succ.inj e)
    obtain ⟨q, rfl, hq⟩ := p
    refine ⟨(k, q, w0) :: ys, .cons ⟨rfl, hq, r2⟩ k1, congrArg (· + 1) k2, fun i y ey => ?_⟩
    cases i with
    | zero =>
      obtain rfl := Option.some.inj ey
      rw [show _ = Value.ref q from r]
      exact ⟨rfl, rfl⟩
    | succ i => exact k3 i y ey
/-- dict(zip(a, b)), a tuple of keys, b a tuple of values -/
def tDictZ (K : PySem.W.Frag) (ta : TA) : TE := fun σ H Q => ta σ H fun vs H1 => ∃ (a b : Addr) (ks : List (List L2.Key)) (xs zs : List V), vs = [.ref a, .ref b] ∧ SqT K H1 a xs ∧ Paired (KeyAt H1) xs ks ∧ SqT K H1 b zs ∧ xs.length = zs.length ∧
  ∀ p, H1 p = none → Q (.ref p) (upd H1 p (.dT (putAll [] (ks.zip zs))))
theorem pe_dictZip {e e2 : Expr} {ta : TA} {p pos p2 pos2 : Pos} (calm : X.calm = true) (un : X.A.units + 2 < cLine) (gd : Gl X "dict") (md : X.mg "dict" = none) (gz : Gl X "zip") (mz : X.mg "zip" = none) (ha : PA X [e, e2] ta)
    (hs : starEach [e, e2] X.env = (false, eval e X.env) :: starEach [e2] X.env := by rfl) (hpl : (backTo pos2 (starEach [e2] X.env)).any (·.1) = false := by rfl)
    (hs2 : starEach [.Call (.Name "zip" p2) [e, e2] [] pos2] X.env = (false, eval (.Call (.Name "zip" p2) [e, e2] [] pos2) X.env) :: starEach [] X.env := by rfl) (hpl2 : (backTo pos (starEach [] X.env)).any (·.1) = false := by rfl) :
    PE X (.Call (.Name "dict" p) [.Call (.Name "zip" p2) [e, e2] [] pos2] [] pos) (tDictZ X.K ta) := by
  refine ⟨fun pins s σ H Q I h => ?_⟩
  refine wpAny_Call_Name_kw (ld_blt I gd md (show bootBuiltins "dict" = some (.type "dict") by decide +kernel) ?_)
  refine PyProof.Rows.callWith_type1 ?_ hs2 hpl2
  rw [hs2]
  show wpAny _ _ (spliced ((false, eval (.Call (.Name "zip" p2) [e, e2] [] pos2) X.env) :: [])) _ _ s
  refine Calls.spliced_cons ?_
  refine wpAny_Call_Name_kw (ld_blt I gz mz PyProof.Rows.boot_zip ?_)
  refine PyProof.Rows.callWith_type1 (thn (ha.run pos2 pins s σ H _ I h) fun us s1 w1 => ?_) hs hpl
  obtain ⟨vs, H1, I1, r1, a, b, ks, xs, zs, rfl, hq1, pk, hq2, le, q⟩ := w1
  obtain ⟨u1, u2, rfl, ra, rb⟩ := vals2 r1
  obtain rfl : u1 = Value.ref a := ra
  obtain rfl : u2 = Value.ref b := rb
  obtain ⟨its, rv, p1, z1⟩ := I1.tuple hq1
  obtain ⟨its2, rv2, p2', _⟩ := I1.tuple hq2
  obtain ⟨ys, kt, n1, n2⟩ := keys_kt pk rv rv2 le
  have p1 : s1.heap.IsTuple a its.toArray := p1
  have p2' : s1.heap.IsTuple b its2.toArray := p2'
  have la : a < s1.heap.objs.size := let ⟨_, e, _⟩ := p1; Heap.lt_size e
  have lb : b < s1.heap.objs.size := let ⟨_, e, _⟩ := p2'; Heap.lt_size e
  have l12 : its.length = its2.length := by rw [← rv.length, ← rv2.length, le]
  refine RZ.call_zipT p1 p2' fun h' z0 tI tO v1 v2 hsz kk => ?_
  refine Calls.spliced_nil ?_
  have I2 : Inv X pins σ H1 { s1 with heap := h' } := I1.kept (t' := s1.toks) kk
  have offw : ∀ {c : Addr}, c < s1.heap.objs.size → c ∉ [s1.heap.objs.size + 4, s1.heap.objs.size + 3, s1.heap.objs.size, s1.heap.objs.size + 1] := fun {c} l m => by
    simp only [List.mem_cons, List.not_mem_nil, or_false] at m
    have l : (c : Nat) < s1.heap.objs.size := l
    rcases m with m | m | m | m
    all_goals
      rw [m] at l
      exact absurd l (Nat.not_lt.mpr (by first | exact Nat.le_add_right _ _ | exact Nat.le_refl _))
  refine call_dict_pairsH (s := { s1 with heap := h' }) (knd := tupleKind (mixKind X.prog X.w)) (ps := ys) (K09W.zipArg _ _ _ _ _ a b (PySem.W.ktu_apart s1.heap.objs.size a b la lb) its.toArray its2.toArray (by simpa using l12)) (I.ok.hd calm) (by show X.A.units + 2 < cLine; exact un)
    ⟨z0, tI, ⟨_, _, tO⟩, v1, v2, p1.at fun o e => kk _ o e, p2'.at fun o e => kk _ o e⟩ ⟨by simpa using n1, fun i kv v e => ?_⟩ (fun h2 ke z m => ?_) (by simpa [← rv.length] using z1) fun h2 tk hd' ke => ?_
  · obtain ⟨e1, e2⟩ := e
    have li : i < ys.length := by
      rw [n1]
      have := (Array.getElem?_eq_some_iff.mp e1).1
      simpa using this
    obtain ⟨f1, f2⟩ := n2 i ys[i] (List.getElem?_eq_getElem li)
    have e1 : its[i]? = some kv := by simpa using e1
    have e2 : its2[i]? = some v := by simpa using e2
    rw [e1] at f1
    rw [e2] at f2
    refine ⟨ys[i].1, ys[i].2.1, ?_, Option.some.inj f1⟩
    rw [List.getElem?_eq_getElem li, Option.some.inj f2]
  · obtain ⟨j, e⟩ := List.mem_iff_getElem?.mp m
    obtain ⟨pp, _, q1, q2, _⟩ := L2.DX.pget kt e
    have ky := key_of I1.hok q2
    rw [q1] at ky
    obtain ⟨ob, iv, nv, g1, g2, g3, g4⟩ := ky
    have lg := Heap.lt_size g1
    exact ⟨ob, iv, nv, ke _ _ (Nat.ne_of_lt (Nat.lt_of_lt_of_le lg (by rw [hsz]; exact Nat.le_add_right _ _))) (offw lg) (kk _ _ g1), g2, g3, g4⟩
  · have big := I2.big
    have sm : (h'.objs.size == sysModules) = false := beq_eq_false_iff_ne.mpr (Nat.ne_of_gt big)
    have le2 := putAll_len (ks.zip zs) []
    have free : H1 h'.objs.size = none := I2.hok.fresh (Nat.le_refl _)
    obtain ⟨od, es, ep, g1, g2, g3, g4, g5, g6⟩ := hd'
    have lz : (ks.zip zs).length ≤ sizeLine := by
      have a1 : (ks.zip zs).length ≤ ks.length := by rw [List.length_zip]; exact Nat.min_le_left _ _
      have a2 : xs.length = ks.length := Paired.length pk
      have a3 := z1
      omega
    refine ⟨.ref h'.objs.size, upd H1 h'.objs.size (.dT (putAll [] (ks.zip zs))), I1.laid (t' := tk) (fun b o e => ke b o (offw (Heap.lt_size e)) (kk b o e)) (by rw [hsz]; exact Nat.le_add_right _ _) ⟨by simp at le2; omega, sm, _, (kt_all kt .nil).keeps fun c ys ec => ?_, od, es, ep, g1, g2, g3, g4, g6⟩, rfl, q _ free⟩
    rw [upd_ne (ne_of_none ec free)]
    exact ec
end
end K09

/-! # the tables of a stair, its text -/
namespace K09
open PySem PySem.Spec PyProof.Rows L2 TL NumText
/-! ### places -/
theorem tables5 : ∀ ns ∈ shapesL, ((List.range 3).all fun b => (List.range 6).all fun i => (List.range 6).all fun j => !(decide (b < ns.length) && decide (i < j) && decide ((j : Int) < ns.getD b 0)) || decide ((((b : Nat) : Int), ((i : Nat) : Int), ((j : Nat) : Int)) ∈ pl ns)) = true := by decide +kernel
theorem mem_pl {ns : List Int} (S : Shp ns) {b i j : Nat} (hb : b < ns.length) (hij : i < j) (hj : (j : Int) < ns.getD b 0) : (((b : Nat) : Int), ((i : Nat) : Int), ((j : Nat) : Int)) ∈ pl ns := by
  have l3 := S.1.2
  have g6 : ns.getD b 0 ≤ 6 := by
    rw [List.getD_eq_getElem?_getD, List.getElem?_eq_getElem hb]
    exact (S.2.1 _ (List.getElem_mem hb)).2
  have y := List.all_eq_true.mp (List.all_eq_true.mp (List.all_eq_true.mp (tables5 ns (shp_mem S)) b (List.mem_range.mpr (by omega))) i (List.mem_range.mpr (by omega))) j (List.mem_range.mpr (by omega))
  rw [decide_eq_true hb, decide_eq_true hij, decide_eq_true hj] at y
  exact of_decide_eq_true (by simpa using y)
/-- a place, by its three numbers -/
theorem pl_mem {ns : List Int} (S : Shp ns) {t : Tri} (h : t ∈ pl ns) : ∃ b i j : Nat, t = (((b : Nat) : Int), ((i : Nat) : Int), ((j : Nat) : Int)) ∧ b < ns.length ∧ i < j ∧ (j : Int) < ns.getD b 0 := by
  have z := (tables2 ns (shp_mem S)).2.1 t h
  obtain ⟨tb, ti, tj⟩ := t
  obtain ⟨n, k, m, e1, e2, e3, n0, n1, k0, k1, m0, m1⟩ := isP3_ints (show isP3 ns (.int tb) (.int ti) (.int tj) = true from z)
  cases e1
  cases e2
  cases e3
  obtain ⟨n, rfl⟩ := Int.eq_ofNat_of_zero_le n0
  obtain ⟨k, rfl⟩ := Int.eq_ofNat_of_zero_le k0
  obtain ⟨m, rfl⟩ := Int.eq_ofNat_of_zero_le m0
  exact ⟨n, k, m, rfl, by omega, by omega, m1⟩
/-! ### dicts of numbers at places -/
def dictO (l : List Tri) (num : Tri → Int) : List (List L2.Key × V) := l.map fun t => (triK t, .int (num t))
theorem dictO_keys (l : List Tri) (num : Tri → Int) : (dictO l num).map (·.1) = l.map triK := by
  unfold dictO
  rw [List.map_map]
  rfl
theorem keys_nodup {l : List Tri} (h : l.Nodup) : (l.map triK).Nodup := by
  rw [List.Nodup, List.pairwise_map]
  exact h.imp fun ne z => ne (triK_inj z)
theorem valV_dictO {num : Tri → Int} {t : Tri} : ∀ {l : List Tri}, valV (dictO l num) (triK t) = if t ∈ l then some (.int (num t)) else none
  | [] => by
    rw [if_neg (by simp)]
    rfl
  | u :: r => by
    show valV ((triK u, V.int (num u)) :: dictO r num) (triK t) = _
    by_cases e : triK u = triK t
    · have y : valV ((triK u, V.int (num u)) :: dictO r num) (triK t) = some (V.int (num u)) := by
        unfold valV
        rw [List.find?_cons_of_pos (by simpa using e)]
        rfl
      have eu := triK_inj e
      rw [y, eu, if_pos (List.mem_cons_self ..)]
    · have y : valV ((triK u, V.int (num u)) :: dictO r num) (triK t) = valV (dictO r num) (triK t) := by
        unfold valV
        rw [List.find?_cons_of_neg (by simpa using e)]
      rw [y, valV_dictO]
      have ne : t ≠ u := fun z => e (by rw [z])
      by_cases m : t ∈ r
      · rw [if_pos m, if_pos (List.mem_cons_of_mem _ m)]
      · rw [if_neg m, if_neg (fun z => (List.mem_cons.mp z).elim ne m)]
theorem put_dictO {l : List Tri} (h : l.Nodup) (num : Tri → Int) : putAll [] (dictO l num) = dictO l num := by
  rw [putAll_new _ [] (by rw [List.nil_append, dictO_keys]; exact keys_nodup h), List.nil_append]
theorem zip_dictO (l : List Tri) (num : Tri → Int) : (l.map triK).zip ((l.map num).map V.int) = dictO l num := by
  unfold dictO
  rw [List.map_map, List.zip_map']
  rfl
theorem trl_keys {H : Hp} : ∀ {xs : List V} {ts : List Tri}, TrL H xs ts → Paired (KeyAt H) xs (ts.map triK)
  | _, _, .nil => .nil
  | _, _, .cons e l => .cons ⟨_, rfl, e⟩ (trl_keys l)
theorem hold_dictO {ns : List Int} (num : Tri → Int) : Hold ns num (dictO (pl ns) num) := fun t m => by
  rw [valV_dictO, if_pos m]
/-- all its tables -/
def tabsD (num : Tri → Int) (ns : List Int) : PyData := .tuple ((List.range ns.length).map fun (b : Nat) => tabD num (b : Int) (ns.getD b 0).toNat)
/-- its numbers, place by place -/
abbrev numsL (num : Tri → Int) (ns : List Int) : List Int := (pl ns).map num
section
variable {P : Program} {w : World} {K : PySem.W.Frag} {mg : Str → Option Value} {base : Heap} {C CS TL : Addr}
abbrev s_tabs : Stmt := inClass (topS 42) 8
theorem sc_tabs : FnScope ["self", "found", "block", "size"] ["self"] (defScope s_tabs) := ⟨rfl, rfl, rfl, by decide +kernel, rfl, by decide +kernel, by decide +kernel⟩
def spTabs (K : PySem.W.Frag) (C : Addr) : Sp := fun vs H Q _ => ∃ a ns num, vs = [.ref a] ∧ StairO K H a C ns (numsL num ns) ∧ Shp ns ∧ ∀ H' y, Same H H' → Tv K H' y (tabsD num ns) → Q y H'
theorem ok_tabs {f f1 f2 : Addr} {fd fd1 fd2 : FuncData} (T : Txt mg) (N : Nam mg) (nz : mg "zip" = none) (R : SC K mg C) (d : M K "tables" "Stair.tables" s_tabs ["self"] f fd)
    (d1 : D K mg "places" s_places ["shape"] f1 fd1) (G1 : FnOk P w K mg base (L2.CX P w) 5 f1 fd1 ["shape"] (spPlaces K CS)) (d2 : D K mg "table_of" s_tof ["entries", "block", "size"] f2 fd2) (G2 : FnOk P w K mg base CX0 2 f2 fd2 ["entries", "block", "size"] (spTof K)) :
    FnOk P w K mg base CX0 6 f fd ["self"] (spTabs K C) := by
  refine d.F.ok sc_tabs (fun vs H Q E h => ?_) (fun cdv A outer s H vs Q E hr h => ?_)
  · obtain ⟨a, ns, num, rfl, _⟩ := h
    rfl
  · obtain ⟨a, ns, num, rfl, ⟨dx, sh, pln, nm, e1, e2, e3, e4⟩, S, q⟩ := h
    have un2 : (A.deeper (envOfC "Stair.tables" (defScope s_tabs) s.heap.objs.size f cdv)).units + 2 < cLine := by have := hr.un; omega
    refine ⟨_, (pss_cons (ps_set (i := 1) sc_tabs.nd rfl (.inr rfl) (pe_dictZip rfl un2 (by rfl) N.n_dict (by rfl) nz (pa_cons (pe_call (E := fun _ _ _ => False) G1 (hr.mono (by decide)) (by rfl) d1.g d1.F.kp d1.b .nil passF (pa_cons (pe_fld (pv 0) rfl) pa_nil)) (pa_cons (pe_fld (pv 0) rfl) pa_nil))))
      (pss_one (ps_ret (pe_tupleOf (by rfl) T.n_tuple (pe_lc (own := [("block", 2), ("size", 3)]) (g := gTup K 2 (gCons (gName 2) (gCons (gName 3) gNil))) (tt := tYes) rfl sc_tabs.nd (pi_enumT (by rfl) N.n_enumerate (pa_cons (pe_fld (pv 0) rfl) pa_nil)) (blkOk_by (own := [("block", 2), ("size", 3)]) (N := ["self", "found", "block", "size"]) (sc := defScope s_tabs) (by decide +kernel))
            (fun _ _ _ _ _ => (pg_tup rfl (pgs_cons (pg_name (i := 2) sc_tabs.nd rfl (Or.inl rfl)) (pgs_cons (pg_name (i := 3) sc_tabs.nd rfl (Or.inl rfl)) pgs_nil)))) (fun _ _ _ _ _ => pts_nil) (fun _ _ _ _ _ => (pe_call G2 (hr.mono (by decide)) (by rfl) d2.g d2.F.kp d2.b .nil pass0 (pa_cons (pv 1) (pa_cons (pv 2) (pa_cons (pv 3) pa_nil)))))))))), ?_⟩
    refine ⟨_, rfl, a, C, dx, _, _, rfl, e1, R.cl, R.nS, stF_shape _ _ _, _, .tuple (ns.map .int), rfl, .tv (.tup e2 (tvl_ints ns)), fun ns' en S' H1 y s1 ty => ?_, fun z => absurd (shp_is S) (by rw [z]; decide)⟩
    obtain rfl : ns' = ns := (ints_inj (PyData.tuple.inj en)).symm
    obtain ⟨o, xs, rfl, eo, tl⟩ := ty
    have M := tables3 ns' (shp_mem S)
    have lx : xs.length = (pl ns').length := tl.len
    refine ⟨_, rfl, a, C, dx, _, _, rfl, s1 _ _ e1, R.cl, R.nN, stF_numbers _ _ _, ?_⟩
    refine ⟨o, nm, _, xs, _, rfl, sqt_new eo, trl_keys tl, sqt_new (s1 _ _ e3), by rw [lx, List.length_map, List.length_map], fun D nD => ?_⟩
    rw [zip_dictO, put_dictO M.1]
    have s2 := s1.trans (sub_same (o := .dT (dictO (pl ns') num)) nD)
    have eD : upd H1 D (.dT (dictO (pl ns') num)) D = some (.dT (dictO (pl ns') num)) := upd_same
    revert s2 eD
    generalize upd H1 D (.dT (dictO (pl ns') num)) = H2
    intro s2 eD
    refine ⟨_, rfl, a, C, dx, _, _, rfl, s2 _ _ e1, R.cl, R.nS, stF_shape _ _ _, sh, _, rfl, sqt_same e2 s2, fun L nL => ?_⟩
    have e2' := sqt_same e2 s2
    refine lc_it (walk_enumT (K := K) (a := sh) (xs := ns'.map V.int)) (fun i Y => Same H2 Y ∧ ∃ acc, Y L = some (.lst acc) ∧ TvL K Y acc ((List.range i).map fun (b : Nat) => tabD num (b : Int) (ns'.getD b 0).toNat)) ⟨sub_same nL, [], upd_same, .nil⟩ (fun i Y _ h => sqt_same e2' h.1) ?_ ?_
    · rintro i v Y Y' hi ⟨sy, acc, ha, la⟩ ⟨Tp, x0, y0, rfl, nT, rfl, ex, ey⟩
      obtain rfl := Option.some.inj ex
      obtain ⟨z, ez, rfl⟩ := int_at ey
      have z6 := S'.2.1 z (List.mem_of_getElem? ez)
      obtain ⟨zn, rfl⟩ : ∃ k : Nat, z = (k : Int) := ⟨z.toNat, by omega⟩
      have il := (List.getElem?_eq_some_iff.mp ez).1
      have gd : ns'.getD i 0 = (zn : Int) := by rw [List.getD_eq_getElem?_getD, ez]; rfl
      have s3 := sub_same (o := .tup [V.int (i : Nat), V.int (zn : Int)]) nT
      have ha2 := s3 _ _ ha
      have la2 := la.same s3
      have sy2 := sy.trans s3
      have hT : upd Y Tp (.tup [V.int (i : Nat), V.int (zn : Int)]) Tp = some (.tup [V.int (i : Nat), V.int (zn : Int)]) := upd_same
      revert ha2 sy2 hT la2
      generalize upd Y Tp (.tup [V.int (i : Nat), V.int (zn : Int)]) = Y2
      intro ha2 la2 sy2 hT
      refine ⟨Tp, _, rfl, .inl (.inl hT), rfl, _, _, rfl, _, _, rfl, rfl, rfl, yesT ?_⟩
      refine ⟨_, rfl, _, rfl, _, rfl, D, _, ns', num, _, zn, rfl, sy2 _ _ eD, hold_dictO num, by omega, fun a b ab bz => mem_pl S' il ab (by rw [gd]; omega), fun Z y s4 ty => ?_⟩
      have l1 := la.len
      rw [List.length_map, List.length_range] at l1
      have b3 := S'.1.2
      refine ⟨acc, s4 _ _ ha2, ?_, fun k ob e => ?_, _, upd_same, ?_⟩
      · rw [sizeLine_eq]
        omega
      · rw [upd_ne (fun z => by rw [z, nL] at e; cases e)]
        exact s4 _ _ (sy2 _ _ e)
      · rw [List.range_succ, List.map_append, List.map_singleton, gd]
        exact ((la2.same s4).snoc ty).put (s4 _ _ ha2)
    · rintro Y ⟨sy, acc, ha, la⟩
      rw [List.length_map] at la
      exact .inl ⟨L, acc, rfl, .inl (.inl ha), fun p np => q _ _ ((s2.trans sy).trans (sub_same np)) (.tup (sqt_new upd_same) (la.same (sub_same np)))⟩
/-- numbers of a shape, none too long -/
def LoN (num : Tri → Int) (ns : List Int) : Prop := ∀ t ∈ pl ns, Lo (num t)
abbrev s_str : Stmt := inClass (topS 42) 20
theorem sc_str : FnScope ["self", "table"] ["self"] (defScope s_str) := ⟨rfl, rfl, rfl, by decide +kernel, rfl, by decide +kernel, by decide +kernel⟩
def spStr (K : PySem.W.Frag) (C : Addr) : Sp := fun vs H Q _ => ∃ a ns num, vs = [.ref a] ∧ StairO K H a C ns (numsL num ns) ∧ Shp ns ∧ LoN num ns ∧ ∀ H', Same H H' → Q (.str (stairS num ns)) H'
theorem ok_str {f f1 qT gT : Addr} {fd fd1 fdT : FuncData} (T : Txt mg) (R : SC K mg C) (d : M K "__str__" "Stair.__str__" s_str ["self"] f fd)
    (d1 : D K mg "text_of" s_text ["table"] f1 fd1) (G1 : FnOk P w K mg base CX0 1 f1 fd1 ["table"] (spText K)) (pT : PropOf K C "tables" qT gT) (GT : FnOk P w K mg base CX0 6 gT fdT ["self"] (spTabs K C)) (bT : Binds K fdT ["self"] []) :
    FnOk P w K mg base CX0 8 f fd ["self"] (spStr K C) := by
  refine d.F.ok sc_str (fun vs H Q E h => ?_) (fun cdv A outer s H vs Q E hr h => ?_)
  · obtain ⟨a, ns, num, rfl, _⟩ := h
    rfl
  · obtain ⟨a, ns, num, rfl, st, S, lo, q⟩ := h
    refine ⟨_, (pss_one (ps_ret (pe_join pe_str (pe_lc (own := [("table", 1)]) (g := gName 1) (tt := tYes) rfl sc_str.nd (pi_tup (pe_prop (pv 0) R.cl pT GT (hr.mono (by decide)) bT .nil pass0 (by rfl))) (blkOk_by (own := [("table", 1)]) (N := ["self", "table"]) (sc := defScope s_str) (by decide +kernel))
            (fun _ _ _ _ _ => (pg_name (i := 1) sc_str.nd rfl (Or.inl rfl))) (fun _ _ _ _ _ => pts_nil) (fun _ _ _ _ _ => (pe_call G1 (hr.mono (by decide)) (by rfl) d1.g d1.F.kp d1.b .nil pass0 (pa_cons (pv 1) pa_nil))))))), ?_⟩
    obtain ⟨dx, sh, pln, nm, e1, _⟩ := id st
    have b3 := S.1.2
    refine ⟨⟨_, rfl⟩, _, rfl, a, dx, _, rfl, e1, a, ns, num, rfl, st, S, fun H1 y s1 ty => ?_⟩
    obtain ⟨o, xs, rfl, eo, tl0⟩ : ∃ o xs, y = .ref o ∧ SqT K H1 o xs ∧ TvL K H1 xs ((List.range ns.length).map fun (b : Nat) => tabD num (b : Int) (ns.getD b 0).toNat) := by
      cases ty with
      | tup e l => exact ⟨_, _, rfl, e, l⟩
    have lx : xs.length = ns.length := by rw [tl0.len, List.length_map, List.length_range]
    refine ⟨o, rfl, ⟨_, eo⟩, fun L nL => ?_⟩
    refine lc_tup (K := K) (a := o) (xs := xs) (fun i Y => Same H1 Y ∧ Y L = some (.lst (((List.range i).map fun (b : Nat) => blkS num (b : Int) (ns.getD b 0).toNat).map V.str))) ⟨sub_same nL, upd_same⟩ (fun i Y _ h => sqt_same eo h.1) ?_ ?_
    · rintro i x Y hx ⟨sy, hl⟩
      obtain ⟨d0, ed, td⟩ := tl0.get hx
      have il := (List.getElem?_eq_some_iff.mp hx).1
      rw [lx] at il
      rw [List.getElem?_map, List.getElem?_range il] at ed
      obtain rfl := Option.some.inj ed
      have z6 := S.2.1 _ (List.getElem_mem il)
      have gd : ns.getD i 0 = ns[i] := by rw [List.getD_eq_getElem?_getD, List.getElem?_eq_getElem il]; rfl
      refine ⟨rfl, yesT ⟨_, rfl, x, num, _, _, rfl, td.same sy, by rw [gd]; omega, by rw [gd]; omega, fun a b ab bz => lo _ (mem_pl S il ab (by omega)), fun Z s2 => ?_⟩⟩
      refine ⟨_, s2 _ _ hl, ?_, fun k ob e => ?_, ?_⟩
      · rw [List.length_map, List.length_map, List.length_range, sizeLine_eq]
        omega
      · rw [upd_ne (fun z => by rw [z, nL] at e; cases e)]
        exact s2 _ _ (sy _ _ e)
      · rw [upd_same, List.range_succ, List.map_append, List.map_append]
        rfl
    · rintro Y ⟨sy, hl⟩
      rw [lx] at hl
      refine ⟨_, L, _, rfl, rfl, .inl (.inl (.inl hl)), ?_, q Y (s1.trans sy)⟩
      refine Nat.le_trans (join_le (m := 8000) (n := 3) (d := 2) (fun p hp => ?_) ?_ (by decide +kernel)).2 (by decide)
      · obtain ⟨b, hb, rfl⟩ := List.mem_map.mp hp
        rw [List.mem_range] at hb
        have z6 := S.2.1 _ (List.getElem_mem hb)
        have gd : ns.getD b 0 = ns[b] := by rw [List.getD_eq_getElem?_getD, List.getElem?_eq_getElem hb]; rfl
        refine blkS_le (fun i x hx => ?_) (by rw [gd]; omega)
        unfold rowNs at hx
        obtain ⟨c, hc, rfl⟩ := List.mem_map.mp hx
        rw [List.mem_range] at hc
        have z := lo _ (mem_pl S (b := b) (i := i) (j := i + 1 + c) hb (by omega) (by omega))
        have e : ((i + 1 + c : Nat) : Int) = (i : Int) + 1 + (c : Int) := by omega
        rw [e] at z
        exact z
      · rw [List.length_map, List.length_range]
        exact b3
end
end K09

/-! # the keys of a dict, in their order and sorted -/
namespace K09W
open PySem PySem.Spec PyProof.Rows
section
variable {prog : Program} {w : World} {A : Around}
theorem keysWalk (hh : A.handled = none) (I d : Addr) (ne : d ≠ I) (es : Array DictEntry) (ep : Nat) :
    Walks prog w A I [I, d] [I] es.size (fun i v => ∃ li : i < es.size, v = es[i].key) (fun i h => h.IsKeyIter I d i es.size ep ∧ h.DictRaw d es ep) where
  sub := fun b m => by
    rw [List.mem_singleton.mp m]
    exact List.mem_cons_self ..
  frame := fun _ _ _ st kk => ⟨st.1.at fun o e => kk I (List.mem_cons_self ..) o e, st.2.at fun o e => kk d (List.mem_cons_of_mem _ (List.mem_singleton.mpr rfl)) o e⟩
  item := fun i s Q E hi st q => wpAny_pyNext_keys_item_raw st.1 st.2 hi fun h' it' sb => q _ h' s.toks ⟨hi, rfl⟩ ⟨it', st.2.at fun o e => sb.extBut d o ne e⟩ fun b o nb e => sb.extBut b o (fun z => nb (by rw [z]; exact List.mem_singleton.mpr rfl)) e
  done := fun s Q E st q => wpAny_pyNext_keys_end_raw hh st.1 st.2 (Nat.le_refl _) fun h' eb => q h' s.toks fun b o nb e => eb b o (fun z => nb (by rw [z]; exact List.mem_singleton.mpr rfl)) e
  self := fun _ _ _ _ st q => wpAny_pyIter_keyiter st.1 q
theorem keysSrc {d : Addr} {es : Array DictEntry} {ep : Nat} (lo : (d == sysModules) = false) : PySem.W.KdlSrc prog w "dict" d d es.size (fun i v => ∃ li : i < es.size, v = es[i].key) (fun h => h.DictRaw d es ep) where
  type := fun _ r => r.typeIs
  there := fun _ ⟨_, ho, _⟩ => ⟨Heap.lt_size ho, Heap.lt_size ho⟩
  keep := fun _ _ r kk => r.at fun o e => kk d (.inl rfl) o e
  notList := by decide
  notTuple := by decide
  hint := fun _ _ _ _ r q => PySem.W.kdl_hint_dict r.typeIs q
  iter := fun _ s hh r => by
    obtain ⟨o, ho, hc, hd⟩ := id r
    exact ⟨_, _, (fun _ _ q => L2.iter_keys lo ho hc hd q), keysWalk hh _ d (Nat.ne_of_lt (Heap.lt_size ho)) es ep, ⟨⟨_, Heap.get?_push_size _ rfl, rfl, rfl⟩, r.at fun o e => Heap.get?_push_of_some _ e⟩⟩
end
end K09W
namespace K09
open PySem PySem.Spec PyProof.Rows L2
section
variable {X : Cx} {pins : List (Addr × Obj)} {σ : L2.St} {H : Hp} {s : Shared}
theorem dt_raw {d : Addr} {ps : List (List L2.Key × V)} (I : Inv X pins σ H s) (e : H d = some (.dT ps)) :
    (d == sysModules) = false ∧ ∃ (es : Array DictEntry) (ep : Nat), s.heap.DictRaw d es ep ∧ es.size = ps.length ∧ es.size ≤ sizeLine ∧
      ∀ (i : Nat) (k : List L2.Key) (v : V) (li : i < es.size), ps[i]? = some (k, v) → ∃ q : Addr, es[i].key = .ref q ∧ H q = some (.tup (k.map kV)) ∧ RelV v es[i].val := by
  obtain ⟨z, sm, xs, pr, o, es, ep, h1, h2, h3, h4, _⟩ := dt_of I.hok e
  have n1 : es.size = xs.length := size_of_entries h4
  have n2 : ps.length = xs.length := Paired.length pr
  refine ⟨sm, es, ep, ⟨o, h1, h2, h3⟩, by omega, by omega, fun i k v li ek => ?_⟩
  obtain ⟨b, hb, e1, e2, e3⟩ := paired_get pr ek
  have y := entry_at h4 i
  rw [hb, Array.getElem?_eq_getElem li] at y
  have w := Option.some.inj y
  exact ⟨b.2.1, by rw [w]; rfl, e2, by rw [w]; exact e3⟩
theorem trl_of {H : Hp} : ∀ {us : List Value} {l : List Tri}, us.length = l.length → (∀ (i : Nat) (u : Value), us[i]? = some u → ∃ (t : Tri) (q : Addr), l[i]? = some t ∧ u = .ref q ∧ H q = some (.tup (triV t))) → TrL H (us.map bkV) l ∧ ∀ u ∈ us, ∃ a, u = Value.ref a
  | [], [], _, _ => ⟨.nil, fun u h => by cases h⟩
  | u :: us, t :: l, h, all => by
    obtain ⟨t', q, e1, rfl, e3⟩ := all 0 u rfl
    obtain rfl : t = t' := Option.some.inj e1
    obtain ⟨a, b⟩ := trl_of (us := us) (l := l) (by simpa using h) fun i v e => by
      obtain ⟨t2, q2, f1, f2, f3⟩ := all (i + 1) v (by simpa using e)
      exact ⟨t2, q2, by simpa using f1, f2, f3⟩
    exact ⟨.cons e3 a, fun v m => (List.mem_cons.mp m).elim (fun z => ⟨q, z⟩) (b v)⟩
  | [], _ :: _, h, _ => by simp at h
  | _ :: _, [], h, _ => by simp at h
/-- what collect gives of such a dict -/
theorem collect_keys {d : Addr} {ps : List (List L2.Key × V)} {l : List Tri} {A : Around} {R : List Value → Shared → Prop} {E : Value → Shared → Prop} (I : Inv X pins σ H s) (e : H d = some (.dT ps)) (ek : ps.map (·.1) = l.map triK) (hh : A.handled = none)
    (q : ∀ h' tk us, Inv X pins σ H { s with heap := h', toks := tk } → (∀ b o, s.heap.get? b = some o → h'.get? b = some o) → TrL H (us.map bkV) l → (∀ u ∈ us, ∃ a, u = Value.ref a) → us.length = l.length → R us { s with heap := h', toks := tk }) :
    wpAny (model X.prog X.w) A (collect (.ref d)) R E s := by
  obtain ⟨sm, es, ep, raw, n, nz, all⟩ := dt_raw I e
  refine PySem.W.kdu_collect (K09W.keysSrc (ep := ep) sm) hh raw nz fun h' tk acc kk ac => ?_
  have l1 : ps.length = l.length := by
    have z := congrArg List.length ek
    rwa [List.length_map, List.length_map] at z
  have l2 : acc.toList.length = l.length := by rw [Array.length_toList, ac.1, n, l1]
  obtain ⟨t1, t2⟩ := trl_of (H := H) (us := acc.toList) (l := l) l2 fun i u ei => by
    obtain ⟨li, rfl⟩ := ac.2 i u (by rw [← Array.getElem?_toList]; exact ei)
    have ip : i < ps.length := by omega
    obtain ⟨qa, k1, k2, _⟩ := all i ps[i].1 ps[i].2 li (List.getElem?_eq_getElem ip)
    have il : i < l.length := by omega
    have ekk : ps[i].1 = triK l[i] := by
      have z := congrArg (fun m => m[i]?) ek
      simp only [List.getElem?_map, List.getElem?_eq_getElem ip, List.getElem?_eq_getElem il, Option.map_some] at z
      exact Option.some.inj z
    rw [ekk] at k2
    exact ⟨l[i], qa, List.getElem?_eq_getElem il, k1, k2⟩
  exact q h' tk acc.toList (I.kept kk) kk t1 t2 l2
end
theorem TrL.perm {H : Hp} {xs ys : List V} (h : xs.Perm ys) : ∀ {ts : List Tri}, TrL H xs ts → ∃ qs : List Tri, qs.Perm ts ∧ TrL H ys qs := by
  induction h with
  | nil =>
    intro ts t
    cases t
    exact ⟨[], .nil, .nil⟩
  | cons x _ ih =>
    intro ts t
    cases t with
    | cons a t =>
      obtain ⟨qs, p, z⟩ := ih t
      exact ⟨_ :: qs, p.cons _, .cons a z⟩
  | swap x y l =>
    intro ts t
    cases t with
    | cons a t => cases t with
      | cons b t => exact ⟨_ :: _ :: _, .swap _ _ _, .cons b (.cons a t)⟩
  | trans _ _ ih1 ih2 =>
    intro ts t
    obtain ⟨qs, p, z⟩ := ih1 t
    obtain ⟨rs, p2, z2⟩ := ih2 z
    exact ⟨rs, p2.trans p, z2⟩
theorem TrL.pair {H : Hp} {K : PySem.W.Frag} {g : List Int → Int} : ∀ {ys : List V} {qs : List Tri}, TrL H ys qs → ys.Pairwise (fun x y => ∀ n m, TupI K H x n → TupI K H y m → g n ≤ g m) → qs.Pairwise fun p q => g (triI p) ≤ g (triI q)
  | _, _, .nil, _ => .nil
  | _, _, .cons (c := c) (t := t) e l, p => by
    rw [List.pairwise_cons] at p
    refine List.pairwise_cons.mpr ⟨fun r hr => ?_, l.pair p.2⟩
    obtain ⟨i, hi⟩ := List.getElem?_of_mem hr
    have li : i < _ := (List.getElem?_eq_some_iff.mp hi).1
    rw [← l.len] at li
    obtain ⟨t2, c2, e1, e2, e3⟩ := l.tri (List.getElem?_eq_getElem li)
    rw [hi] at e1
    obtain rfl := Option.some.inj e1
    exact p.1 _ (List.getElem_mem li) _ _ ⟨c, rfl, .inl (.inl e)⟩ (by rw [e2]; exact ⟨c2, rfl, .inl (.inl e3)⟩)
section
variable {X : Cx}
/-- list(d), the keys triples -/
theorem call_listT (calm : X.calm = true) : CallR X (.type "list") (fun vs H Q => ∃ (a : Addr) (ps : List (List L2.Key × V)) (l : List Tri), vs = [.ref a] ∧ H a = some (.dT ps) ∧ ps.map (·.1) = l.map triK ∧
    ∀ p ys, H p = none → TrL H ys l → Q (.ref p) (upd H p (.lst ys))) := by
  intro pins s σ H vs us Q I r h
  obtain ⟨a, ps, l, rfl, hd, ek, q⟩ := h
  obtain ⟨u, rfl, rx⟩ := vals1 r
  cases rx
  obtain ⟨sm, es, ep, raw, n, nz, all⟩ := dt_raw I hd
  refine PySem.W.kdl_call (K09W.keysSrc (ep := ep) sm) (I.ok.hd calm) raw nz fun h' tk acc c' kk hD ac => ?_
  have l1 : ps.length = l.length := by
    have z := congrArg List.length ek
    rwa [List.length_map, List.length_map] at z
  have l2 : acc.toList.length = l.length := by rw [Array.length_toList, ac.1, n, l1]
  obtain ⟨t1, t2⟩ := trl_of (H := H) (us := acc.toList) (l := l) l2 fun i u ei => by
    obtain ⟨li, rfl⟩ := ac.2 i u (by rw [← Array.getElem?_toList]; exact ei)
    have ip : i < ps.length := by omega
    obtain ⟨qa, k1, k2, _⟩ := all i ps[i].1 ps[i].2 li (List.getElem?_eq_getElem ip)
    have il : i < l.length := by omega
    have ekk : ps[i].1 = triK l[i] := by
      have z := congrArg (fun m => m[i]?) ek
      simp only [List.getElem?_map, List.getElem?_eq_getElem ip, List.getElem?_eq_getElem il, Option.map_some] at z
      exact Option.some.inj z
    rw [ekk] at k2
    exact ⟨l[i], qa, List.getElem?_eq_getElem il, k1, k2⟩
  exact ⟨.ref s.heap.objs.size, upd H s.heap.objs.size (.lst (acc.toList.map bkV)), I.laid (t' := tk) kk (Nat.le_refl _) ⟨by rw [List.length_map, l2, ← l1, ← n]; exact nz, acc.toList, c', bkV_vals t2, by rw [Array.toArray_toList]; exact hD⟩, rfl, q _ _ (I.hok.fresh (Nat.le_refl _)) t1⟩
/-- sorted(d), the keys triples -/
theorem cr_sortedT (calm : X.calm = true) : CallR X (.builtin "sorted") (fun vs H Q => ∃ (a : Addr) (ps : List (List L2.Key × V)) (l : List Tri), vs = [.ref a] ∧ H a = some (.dT ps) ∧ ps.map (·.1) = l.map triK ∧ l.length < 64 ∧ (∀ t ∈ l, TS.Bd 8 (triI t)) ∧
    ∀ p ys qs, H p = none → qs.Perm l → (qs.Pairwise fun t u => TS.code 8 (triI t) ≤ TS.code 8 (triI u)) → TrL H ys qs → Q (.ref p) (upd H p (.lst ys))) := by
  intro pins s σ H vs us Q I r h
  obtain ⟨a, ps, l, rfl, hd, ek, l64, bd, q⟩ := h
  obtain ⟨u, rfl, rx⟩ := vals1 r
  cases rx
  refine Calls.call_function_entry kind_sorted plain_sorted entry_sorted (args_sorted1 _) ?_
  unfold Builtin.«sorted»
  refine wpAny_bind (m := checkCount "sorted" 1 1 (_)) (wpAny_pure ?_)
  refine wpAny_bind (collect_keys (A := X.A.in1) I hd ek (I.ok.hd calm) fun h' tk us I1 kk tr rf lu => ?_)
  have l64' : us.length < 64 := by omega
  refine wpAny_bind (wpAny_newList ?_ (by rw [sizeLine_eq]; omega))
  have hoL : (h'.push (seqObj "list" us.toArray 0)).get? h'.objs.size = some (seqObj "list" us.toArray 0) := Heap.get?_push_size _ rfl
  have old : ∀ b o, h'.get? b = some o → o.cls = .type "tuple" → (h'.push (seqObj "list" us.toArray 0)).get? b = some o := fun b o e _ => Heap.get?_push_of_some _ e
  have ok : TS.TupsOk h' 3 8 us := fun v hv => by
    obtain ⟨c, rfl⟩ := rf v hv
    obtain ⟨i, hi⟩ := List.getElem?_of_mem hv
    obtain ⟨t, c2, e1, e2, e3⟩ := tr.tri (i := i) (x := V.ref c) (by rw [List.getElem?_map, hi]; rfl)
    obtain rfl := V.ref.inj e2
    have bt := bd t (List.mem_of_getElem? e1)
    exact ⟨triI t, tupI_raw (s := { s with heap := h', toks := tk }) I1 (.inl (.inl e3)), rfl, bt⟩
  show wpAny _ _ _ _ _ { s with heap := h'.push (seqObj "list" us.toArray 0), toks := tk }
  refine wpAny_bind (wpAny_holding (wpAny_call_entry slot_list_sort ⟨_, hoL, rfl⟩ entry_list_sort (TS.sort_tups (s := { s with heap := h'.push (seqObj "list" us.toArray 0), toks := tk }) hoL l64' (by decide) (ok.keeps old) (fun v => TS.code 8 (TS.intsOf h' v)) (fun v hv ns t => ?_) fun out a1 a2 => ⟨_, rfl, ?_⟩) (args_list_sort _)))
  · obtain ⟨ns0, t0, _⟩ := ok v hv
    have e : ns = ns0 := t.ints.symm.trans (t0.keeps old).ints
    show TS.code 8 (TS.intsOf h' v) = _
    rw [e, t0.ints]
  · obtain ⟨ep, he'⟩ := sortedHeap_at (vs := us) (out := out) hoL
    have h3 : ∀ u ∈ out.toList, ∃ a, u = Value.ref a := fun u hu => rf u (a1.mem_iff.mp hu)
    have hp : (us.map bkV).Perm (out.toList.map bkV) := (a1.map bkV).symm
    obtain ⟨qs, p1, t1⟩ := tr.perm hp
    have hlen : (out.toList.map bkV).length ≤ sizeLine := by
      rw [← hp.length_eq, List.length_map, sizeLine_eq]
      omega
    have free : H h'.objs.size = none := I1.hok.fresh (Nat.le_refl _)
    refine wpAny_pure ⟨_, rfl, .ref h'.objs.size, upd H h'.objs.size (.lst (out.toList.map bkV)), I1.laid (t' := tk) (fun b u e => ?_) (Nat.le_refl _) ⟨hlen, out.toList, ep, bkV_vals h3, by rw [Array.toArray_toList]; exact he'⟩, rfl, q _ _ qs free p1 (t1.pair (K := X.K) (g := TS.code 8) ?_) t1⟩
    · have hb : b < h'.objs.size := Heap.lt_size e
      rw [sortedHeap_old (Nat.ne_of_lt hb) (by rw [size_push']; exact Nat.lt_succ_of_lt hb)]
      exact Heap.get?_push_of_some _ e
    · rw [List.pairwise_map]
      refine List.Pairwise.imp (fun {u v} huv n m hn hm => ?_) a2
      obtain ⟨t, et, ht⟩ := hn
      obtain ⟨t', et', ht'⟩ := hm
      have i1 : TS.intsOf h' u = n := by
        rw [bkV_ref et]
        exact (tupI_raw I1 ht).ints
      have i2 : TS.intsOf h' v = m := by
        rw [bkV_ref et']
        exact (tupI_raw I1 ht').ints
      rw [← i1, ← i2]
      exact huv
end
end K09

/-! # the entries of a stair -/
namespace K09
open PySem PySem.Spec PyProof.Rows L2 TL NumText
/-- the truth of a value -/
def tTru (K : PySem.W.Frag) (ta : TE) : TT := fun σ H Q => ta σ H fun x H' => ∃ k, TruV K x H' k ∧ Q k H'
theorem pt_truthK {X : Cx} {K : PySem.W.Frag} {a : Expr} {ta : TE} (h : X.K = K) (ha : PE X a ta) (he : ∀ whole, isTrue a X.env whole = (do let v ← whole; standAt a.pos; holding [v] (truthy v))) :
    PT X a (tTru K ta) := by
  rw [← h]
  exact pt_truth ha he
/-- the places, block by block and row by row -/
def srtP (ns : List Int) : List Tri := ((List.range 3).flatMap fun (b : Nat) => (List.range 6).flatMap fun (i : Nat) => (List.range 6).map fun (j : Nat) => (((b : Nat) : Int), ((i : Nat) : Int), ((j : Nat) : Int))).filter fun t => decide (t ∈ pl ns)
theorem tables6 : ∀ ns ∈ shapesL, (srtP ns).Perm (pl ns) ∧ (srtP ns).Pairwise (fun p q => TS.code 8 (triI p) ≤ TS.code 8 (triI q)) ∧ (∀ p ∈ pl ns, ∀ q ∈ pl ns, TS.code 8 (triI p) = TS.code 8 (triI q) → p = q) ∧ (∀ p ∈ pl ns, ∀ m ∈ triI p, 0 ≤ m ∧ m < 8) := by decide +kernel
theorem srt_uniq {ns : List Int} (S : Shp ns) {l qs : List Tri} (hl : l.Perm (pl ns)) (p : qs.Perm l) (w : qs.Pairwise fun t u => TS.code 8 (triI t) ≤ TS.code 8 (triI u)) : qs = srtP ns := by
  obtain ⟨h1, h2, h3, _⟩ := tables6 ns (shp_mem S)
  have pq := p.trans hl
  exact uniq (fun t => TS.code 8 (triI t)) (pq.trans h1.symm) w h2 fun x hx y hy e => h3 x (pq.mem_iff.mp hx) y (pq.mem_iff.mp hy) e
theorem pl_bd {ns : List Int} (S : Shp ns) {t : Tri} (h : t ∈ pl ns) : TS.Bd 8 (triI t) := fun m hm => (tables6 ns (shp_mem S)).2.2.2 t h m hm
/-- those whose number is not 0 -/
def nz (num : Tri → Int) (l : List Tri) : List Tri := l.filter fun t => decide (num t ≠ 0)
theorem srt_nodup {ns : List Int} (S : Shp ns) : (srtP ns).Nodup := (tables6 ns (shp_mem S)).1.nodup_iff.mpr (tables3 ns (shp_mem S)).1
theorem srt_mem {ns : List Int} (S : Shp ns) {t : Tri} : t ∈ srtP ns ↔ t ∈ pl ns := (tables6 ns (shp_mem S)).1.mem_iff
theorem not_take {l : List Tri} (n : l.Nodup) {i : Nat} {t : Tri} (e : l[i]? = some t) : t ∉ l.take i := fun m => by
  obtain ⟨li, et⟩ := List.getElem?_eq_some_iff.mp e
  have z := List.take_append_drop i l
  rw [List.drop_eq_getElem_cons li, et] at z
  rw [← z, List.nodup_append] at n
  exact n.2.2 t m t (List.mem_cons_self ..) rfl
theorem nz_succ {num : Tri → Int} {l : List Tri} {i : Nat} {t : Tri} (e : l[i]? = some t) : nz num (l.take (i + 1)) = nz num (l.take i) ++ (if num t = 0 then [] else [t]) := by
  unfold nz
  rw [List.take_succ, e, List.filter_append]
  by_cases z : num t = 0
  · rw [if_pos z, show (some t).toList = [t] from rfl, List.filter_cons_of_neg (by simpa using z)]
    rfl
  · rw [if_neg z, show (some t).toList = [t] from rfl, List.filter_cons_of_pos (by simpa using z)]
    rfl
theorem dictO_snoc {l : List Tri} {num : Tri → Int} {t : Tri} (h : t ∉ l) : putK (dictO l num) (triK t) (.int (num t)) = dictO (l ++ [t]) num := by
  rw [putK_new _ (by rw [valV_dictO, if_neg h])]
  unfold dictO
  rw [List.map_append]
  rfl
section
variable {P : Program} {w : World} {K : PySem.W.Frag} {mg : Str → Option Value} {base : Heap} {C CS TL : Addr}
abbrev s_entr : Stmt := inClass (topS 42) 6
theorem sc_entr : FnScope ["self", "found", "place"] ["self"] (defScope s_entr) := ⟨rfl, rfl, rfl, by decide +kernel, rfl, by decide +kernel, by decide +kernel⟩
def spEntr (K : PySem.W.Frag) (C : Addr) : Sp := fun vs H Q _ => ∃ a ns num, vs = [.ref a] ∧ StairO K H a C ns (numsL num ns) ∧ Shp ns ∧ ∀ H' D, Same H H' → H D = none → H' D = some (.dT (dictO (nz num (srtP ns)) num)) → Q (.ref D) H'
theorem ok_entr {f f1 : Addr} {fd fd1 : FuncData} (T : Txt mg) (N : Nam mg) (nz' : mg "zip" = none) (R : SC K mg C) (d : M K "entries" "Stair.entries" s_entr ["self"] f fd)
    (d1 : D K mg "places" s_places ["shape"] f1 fd1) (G1 : FnOk P w K mg base (L2.CX P w) 5 f1 fd1 ["shape"] (spPlaces K CS)) :
    FnOk P w K mg base CX0 6 f fd ["self"] (spEntr K C) := by
  refine d.F.ok sc_entr (fun vs H Q E h => ?_) (fun cdv A outer s H vs Q E hr h => ?_)
  · obtain ⟨a, ns, num, rfl, _⟩ := h
    rfl
  · obtain ⟨a, ns, num, rfl, ⟨dx, sh, pln, nm, e1, e2, e3, e4⟩, S, q⟩ := h
    have un2 : (A.deeper (envOfC "Stair.entries" (defScope s_entr) s.heap.objs.size f cdv)).units + 2 < cLine := by have := hr.un; omega
    have un : (A.deeper (envOfC "Stair.entries" (defScope s_entr) s.heap.objs.size f cdv)).units + 1 < cLine := by have := hr.un; omega
    have nz := nz'
    refine ⟨_, (pss_cons (ps_set (i := 1) sc_entr.nd rfl (.inr rfl) (pe_dictZip rfl un2 (by rfl) N.n_dict (by rfl) nz (pa_cons (pe_call (E := fun _ _ _ => False) G1 (hr.mono (by decide)) (by rfl) d1.g d1.F.kp d1.b .nil passF (pa_cons (pe_fld (pv 0) rfl) pa_nil)) (pa_cons (pe_fld (pv 0) rfl) pa_nil))))
      (pss_one (ps_ret (pe_dcT (own := [("place", 2)]) (g := gName 2) rfl un sc_entr.nd (pi_list (pe_callB (cr_sortedT rfl) (by rfl) N.n_sorted (by decide +kernel) (pa_cons (pv 1) pa_nil))) (blkOk_by (own := [("place", 2)]) (N := ["self", "found", "place"]) (sc := defScope s_entr) (by decide +kernel))
            (fun _ _ _ _ _ => (pg_name (i := 2) sc_entr.nd rfl (Or.inl rfl))) (fun _ _ _ _ _ => (pts_one (pt_truthK (K := K) rfl (pe_dget un (pv 1) (pv 2) (fun _ _ => rfl)) (fun _ => rfl)))) (fun _ _ _ _ _ => (pv 2)) (fun _ _ _ _ _ => (pe_dget un (pv 1) (pv 2) (fun _ _ => rfl))))))), ?_⟩
    refine ⟨_, rfl, a, C, dx, _, _, rfl, e1, R.cl, R.nS, stF_shape _ _ _, _, .tuple (ns.map .int), rfl, .tv (.tup e2 (tvl_ints ns)), fun ns' en S' H1 y s1 ty => ?_, fun z => absurd (shp_is S) (by rw [z]; decide)⟩
    obtain rfl : ns' = ns := (ints_inj (PyData.tuple.inj en)).symm
    obtain ⟨o, xs, rfl, eo, tl⟩ := ty
    have M := tables3 ns' (shp_mem S)
    have lx : xs.length = (pl ns').length := tl.len
    refine ⟨_, rfl, a, C, dx, _, _, rfl, s1 _ _ e1, R.cl, R.nN, stF_numbers _ _ _, ?_⟩
    refine ⟨o, nm, _, xs, _, rfl, sqt_new eo, trl_keys tl, sqt_new (s1 _ _ e3), by rw [lx, List.length_map, List.length_map], fun D nD => ?_⟩
    rw [zip_dictO, put_dictO M.1]
    have s2 := s1.trans (sub_same (o := .dT (dictO (pl ns') num)) nD)
    have eD : upd H1 D (.dT (dictO (pl ns') num)) D = some (.dT (dictO (pl ns') num)) := upd_same
    revert s2 eD
    generalize upd H1 D (.dT (dictO (pl ns') num)) = H2
    intro s2 eD
    refine ⟨_, rfl, D, _, pl ns', rfl, eD, dictO_keys _ _, by omega, fun t m => pl_bd S' m, fun p ys qs np pm pw tr => ?_⟩
    obtain rfl := srt_uniq S' (List.Perm.refl _) pm pw
    have s3 := s2.trans (sub_same (o := .lst ys) np)
    have ep : upd H2 p (.lst ys) p = some (.lst ys) := upd_same
    have tr3 := tr.same (sub_same (o := .lst ys) np)
    have eD3 := sub_same (o := .lst ys) np _ _ eD
    revert s3 ep tr3 eD3
    generalize upd H2 p (.lst ys) = H3
    intro s3 ep tr3 eD3
    refine ⟨p, rfl, ⟨_, .inl (.inl ep)⟩, fun F nF => ?_⟩
    refine dcT_it (walk_list (K := K) (a := p) (xs := ys)) (fun i Z => Same H3 Z ∧ Z F = some (.dT (dictO (K09.nz num ((srtP ns').take i)) num))) ⟨sub_same nF, upd_same⟩ (fun i Z _ h => .inl (.inl (h.1 _ _ ep))) ?_ ?_
    · rintro i x Z Z' hi ⟨sm, hf⟩ ⟨rfl, ex⟩
      obtain ⟨t, c, et, rfl, ec⟩ := tr3.tri ex
      have mp : t ∈ pl ns' := (srt_mem S').mp (List.mem_of_getElem? et)
      have hv : valV (dictO (pl ns') num) (triK t) = some (.int (num t)) := hold_dictO num t mp
      have dg : ∀ {Y : Hp}, Same H3 Y → DGet Y D (.ref c) (some (.int (num t))) := fun {Y} sy => by
        rw [← hv]
        exact DGet.t (sy _ _ eD3) (sy _ _ ec)
      refine ⟨rfl, _, rfl, _, rfl, D, _, rfl, dg sm, _, rfl, ?_⟩
      rw [nz_succ et]
      by_cases n0 : num t = 0
      · rw [if_pos n0, List.append_nil]
        refine ite2 (fun z => absurd z (by rw [n0]; decide)) (fun _ => ⟨sm, hf⟩)
      · rw [if_neg n0]
        refine ite2 (fun _ => ?_) (fun z => absurd (by simpa using n0) z)
        have li : i < (srtP ns').length := (List.getElem?_eq_some_iff.mp et).1
        have ls : (srtP ns').length = (pl ns').length := (tables6 ns' (shp_mem S')).1.length_eq
        refine ⟨_, rfl, _, rfl, _, rfl, D, _, rfl, dg sm, _, triK t, c, rfl, sm _ _ ec, hf, ?_, fun b ob eb => ?_, ?_⟩
        · unfold dictO K09.nz
          rw [List.length_map, sizeLine_eq]
          have := List.length_filter_le (fun t => decide (num t ≠ 0)) ((srtP ns').take i)
          rw [List.length_take] at this
          omega
        · rw [upd_ne (fun z => by rw [z, nF] at eb; cases eb)]
          exact sm _ _ eb
        · rw [upd_same, dictO_snoc]
          exact fun m => not_take (srt_nodup S') et (List.mem_filter.mp m).1
    · rintro Z ⟨sm, hf⟩
      rw [tr3.len, List.take_length] at hf
      exact q Z F (s3.trans sm) (s3.free nF) hf
end
end K09

/-! # a block of a stair -/
namespace K09
open PySem PySem.Spec PyProof.Rows L2 TL NumText RZ
theorem tables7 : ∀ ns ∈ shapesL, ((List.range 3).all fun b => !decide (b < ns.length) || decide ((pl ns).filter (fun t => decide (t.1 = ((b : Nat) : Int))) = (pl [ns.getD b 0]).map fun t => (((b : Nat) : Int), t.2.1, t.2.2))) = true := by decide +kernel
theorem pl_block {ns : List Int} (S : Shp ns) {b : Nat} (hb : b < ns.length) : (pl ns).filter (fun t => decide (t.1 = ((b : Nat) : Int))) = (pl [ns.getD b 0]).map fun t => (((b : Nat) : Int), t.2.1, t.2.2) := by
  have y := List.all_eq_true.mp (tables7 ns (shp_mem S)) b (List.mem_range.mpr (by have := S.1.2; omega))
  rw [decide_eq_true hb, Bool.not_true, Bool.false_or] at y
  exact of_decide_eq_true y
theorem shp_one {ns : List Int} (S : Shp ns) {b : Nat} (hb : b < ns.length) : Shp [ns.getD b 0] := by
  have e : ns.getD b 0 = ns[b] := by rw [List.getD_eq_getElem?_getD, List.getElem?_eq_getElem hb]; rfl
  have z := S.2.1 _ (List.getElem_mem hb)
  rw [e]
  refine ⟨⟨Nat.le_refl 1, (by show 1 ≤ 3; decide)⟩, fun n m => by rw [List.mem_singleton.mp m]; exact z, ?_⟩
  rw [List.sum_cons, List.sum_nil]
  omega
section
variable {P : Program} {w : World} {K : PySem.W.Frag} {mg : Str → Option Value} {base : Heap} {C CS TL : Addr}
abbrev s_block : Stmt := inClass (topS 42) 15
theorem sc_block : FnScope ["self", "index", "numbers", "shape", "place", "number"] ["self", "index"] (defScope s_block) := ⟨rfl, rfl, rfl, by decide +kernel, rfl, by decide +kernel, by decide +kernel⟩
/-- the numbers of one block -/
def inB (num : Tri → Int) (b : Nat) : Tri → Int := fun t => num (((b : Nat) : Int), t.2.1, t.2.2)
def spBlock (K : PySem.W.Frag) (C : Addr) : Sp := fun vs H Q _ => ∃ a ns num b, vs = [.ref a, .int ((b : Nat) : Int)] ∧ StairO K H a C ns (numsL num ns) ∧ Shp ns ∧ b < ns.length ∧ ∀ H' c, Same H H' → StairO K H' c C [ns.getD b 0] (numsL (inB num b) [ns.getD b 0]) → Q (.ref c) H'
theorem ok_block {f f1 f2 f3 f4 : Addr} {fd fd1 fd2 fd3 fd4 : FuncData} (T : Txt mg) (N : Nam mg) (nz : mg "zip" = none) (R : SC K mg C) (d : M K "block" "Stair.block" s_block ["self", "index"] f fd)
    (d1 : D K mg "is_index" s_is_index ["value", "many"] f1 fd1) (G1 : FnOk P w K mg base CX0 3 f1 fd1 ["value", "many"] (spIdx K)) (d2 : D K mg "places" s_places ["shape"] f2 fd2) (G2 : FnOk P w K mg base (L2.CX P w) 5 f2 fd2 ["shape"] (spPlaces K CS))
    (d3 : D K mg "plan_of" s_plan ["shape"] f3 fd3) (G3 : FnOk P w K mg base (L2.CX P w) 6 f3 fd3 ["shape"] (spPlan K)) (d4 : D K mg "stair_with" s_with ["shape", "plan", "numbers"] f4 fd4) (G4 : FnOk P w K mg base CX0 9 f4 fd4 ["shape", "plan", "numbers"] (spWith K C)) :
    FnOk P w K mg base CX0 10 f fd ["self", "index"] (spBlock K C) := by
  refine d.F.ok sc_block (fun vs H Q E h => ?_) (fun cdv A outer s H vs Q E hr h => ?_)
  · obtain ⟨a, ns, num, b, rfl, _⟩ := h
    rfl
  · obtain ⟨a, ns, num, b, rfl, ⟨dx, sh, pln, nm, e1, e2, e3, e4⟩, S, hb, q⟩ := h
    refine ⟨_, (pss_cons (ps_if (pt_not (pt_val (pe_call G1 (hr.mono (by decide)) (by rfl) d1.g d1.F.kp d1.b .nil pass0 (pa_cons (pv 1) (pa_cons (pe_callB call_len_seq (by rfl) T.n_len PySem.boot_len (pa_cons (pe_fld (pv 0) rfl) pa_nil)) pa_nil))))) dead pss_nil)
      (pss_cons (ps_setLc (i := 2) (own := [("place", 4), ("number", 5)]) (g := gTup K 2 (gCons (gName 4) (gCons (gName 5) gNil))) rfl sc_block.nd rfl rfl rfl (pi_zipA (by rfl) nz (pa_cons (pe_call (E := fun _ _ _ => False) G2 (hr.mono (by decide)) (by rfl) d2.g d2.F.kp d2.b .nil passF (pa_cons (pe_fld (pv 0) rfl) pa_nil)) (pa_cons (pe_fld (pv 0) rfl) pa_nil))) (blkOk_by (own := [("place", 4), ("number", 5)]) (N := ["self", "index", "numbers", "shape", "place", "number"]) (sc := defScope s_block) (by decide +kernel))
            (fun _ _ _ _ _ => (pg_tup rfl (pgs_cons (pg_name (i := 4) sc_block.nd rfl (Or.inl rfl)) (pgs_cons (pg_name (i := 5) sc_block.nd rfl (Or.inl rfl)) pgs_nil)))) (fun _ _ _ _ _ => (pts_one (pt_cmpR op_eq (pe_ix (ix_tupK (K := K) rfl) (pv 4) pe_int (fun _ _ => rfl)) (pv 1) (nomark _)))) (fun _ _ _ _ _ => (pv 5)))
      (pss_cons (ps_set (i := 3) sc_block.nd rfl (.inl rfl) (pe_tup (pa_cons (pe_ix ix_tup (pe_fld (pv 0) rfl) (pv 1) (fun _ _ => rfl)) pa_nil)))
      (pss_one (ps_ret (pe_call G4 hr (by rfl) d4.g d4.F.kp d4.b .nil pass0 (pa_cons (pv 3) (pa_cons (pe_call (E := fun _ _ _ => False) G3 (hr.mono (by decide)) (by rfl) d3.g d3.F.kp d3.b .nil passF (pa_cons (pv 3) pa_nil)) (pa_cons (pe_tupleOf (by rfl) T.n_tuple (pv 2)) pa_nil))))))))), ?_⟩
    have gd : ns.getD b 0 = ns[b] := by rw [List.getD_eq_getElem?_getD, List.getElem?_eq_getElem hb]; rfl
    have idx : btw (.int ((b : Nat) : Int)) 0 (((ns.map V.int).length : Nat) - 1) = true := by
      show (decide (0 ≤ ((b : Nat) : Int)) && decide (((b : Nat) : Int) ≤ _)) = true
      rw [decide_eq_true (by omega), decide_eq_true (by rw [List.length_map]; omega)]
      rfl
    refine ⟨_, rfl, _, rfl, a, C, dx, _, _, rfl, e1, R.cl, R.nS, stF_shape _ _ _, sh, _, rfl, .inr e2, _, .int ((b : Nat) : Int), _, rfl, .tv (.int _), true, by rw [idx], ite2 (fun z => absurd z Bool.false_ne_true) (fun _ => ?_)⟩
    refine ⟨_, rfl, a, C, dx, _, _, rfl, e1, R.cl, R.nS, stF_shape _ _ _, _, .tuple (ns.map .int), rfl, .tv (.tup e2 (tvl_ints ns)), fun ns' en S' H1 y s1 ty => ?_, fun z => absurd (shp_is S) (by rw [z]; decide)⟩
    obtain rfl : ns' = ns := (ints_inj (PyData.tuple.inj en)).symm
    obtain ⟨o, xs, rfl, eo, tl⟩ := ty
    have M := tables3 ns' (shp_mem S)
    have lx : xs.length = (pl ns').length := tl.len
    have lxn : xs.length = ((numsL num ns').map V.int).length := by rw [lx, List.length_map, List.length_map]
    refine ⟨_, rfl, a, C, dx, _, _, rfl, s1 _ _ e1, R.cl, R.nN, stF_numbers _ _ _, o, nm, xs, _, rfl, .inr ⟨sqt_new eo, sqt_new (s1 _ _ e3), fun L nL => ?_⟩⟩
    refine lc_it (walk_zipT (K := K) (a := o) (b := nm) lxn) (fun i Z => Same H1 Z ∧ Z L = some (.lst (((((pl ns').take i).filter fun t => decide (t.1 = ((b : Nat) : Int))).map num).map V.int))) ⟨sub_same nL, upd_same⟩ (fun i Z _ h => ⟨sqt_same (sqt_new eo) h.1, sqt_same (sqt_new (s1 _ _ e3)) h.1⟩) ?_ ?_
    · rintro i v Z Z' hi ⟨sm, hl⟩ ⟨Tp, x0, y0, rfl, nT, rfl, ex, ey⟩
      obtain ⟨t, c, et, rfl, ec⟩ := tl.tri ex
      obtain ⟨m, em, rfl⟩ := int_at ey
      rw [List.getElem?_map, et] at em
      obtain rfl := Option.some.inj em
      have s2 := sub_same (o := .tup [V.ref c, V.int (num t)]) nT
      have hl2 := s2 _ _ hl
      have ec2 := s2 _ _ (sm _ _ ec)
      have sm2 := sm.trans s2
      have hT : upd Z Tp (.tup [V.ref c, V.int (num t)]) Tp = some (.tup [V.ref c, V.int (num t)]) := upd_same
      revert hl2 ec2 sm2 hT
      generalize upd Z Tp (.tup [V.ref c, V.int (num t)]) = Z2
      intro hl2 ec2 sm2 hT
      have fs : ((pl ns').take (i + 1)).filter (fun t => decide (t.1 = ((b : Nat) : Int))) = ((pl ns').take i).filter (fun t => decide (t.1 = ((b : Nat) : Int))) ++ (if t.1 = ((b : Nat) : Int) then [t] else []) := by
        rw [List.take_succ, et, List.filter_append]
        by_cases z : t.1 = ((b : Nat) : Int)
        · rw [if_pos z, show (some t).toList = [t] from rfl, List.filter_cons_of_pos (by simpa using z)]
          rfl
        · rw [if_neg z, show (some t).toList = [t] from rfl, List.filter_cons_of_neg (by simpa using z)]
          rfl
      refine ⟨Tp, _, rfl, .inl (.inl hT), rfl, _, _, rfl, _, _, rfl, rfl, rfl, ?_⟩
      refine ⟨_, rfl, c, _, 0, .int t.1, rfl, rfl, .inl (.inl ec2), atI_nat (j := 0) rfl, _, rfl, rfl, _, rfl, ?_⟩
      rw [fs]
      by_cases z : t.1 = ((b : Nat) : Int)
      · rw [if_pos z]
        refine ite2 (fun _ => ?_) (fun y => absurd (decide_eq_true (by rw [z])) y)
        refine ⟨_, rfl, _, hl2, ?_, fun k ob e => ?_, ?_⟩
        · rw [List.length_map, List.length_map, sizeLine_eq]
          have := List.length_filter_le (fun t : Tri => decide (t.1 = ((b : Nat) : Int))) ((pl ns').take i)
          rw [List.length_take] at this
          omega
        · rw [upd_ne (fun z => by rw [z, nL] at e; cases e)]
          exact sm2 _ _ e
        · rw [upd_same, List.map_append, List.map_append]
          rfl
      · rw [if_neg z, List.append_nil]
        exact ite2 (fun y => absurd (V.int.inj (of_decide_eq_true y)) z) (fun _ => ⟨sm2, hl2⟩)
    · rintro Z ⟨sm, hl⟩
      have e9 : ((pl [ns'.getD b 0]).map fun t => (((b : Nat) : Int), t.2.1, t.2.2)).map num = numsL (inB num b) [ns'.getD b 0] := by
        rw [List.map_map]
        rfl
      rw [lx, List.take_length, pl_block S hb, e9] at hl
      have sZ := s1.trans sm
      have aI : (ns'.map V.int)[b]? = some (V.int (ns'.getD b 0)) := by rw [List.getElem?_map, List.getElem?_eq_getElem hb, gd]; rfl
      refine ⟨_, rfl, a, C, dx, _, _, rfl, sZ _ _ e1, R.cl, R.nS, stF_shape _ _ _, _, rfl, sh, _, b, _, rfl, rfl, sqt_same e2 sZ, atI_nat aI, (by show 1 ≤ sizeLine; decide), fun p np => ?_⟩
      have s3 := sZ.trans (sub_same (o := .tup [V.int (ns'.getD b 0)]) np)
      have ep : upd Z p (.tup [V.int (ns'.getD b 0)]) p = some (.tup [V.int (ns'.getD b 0)]) := upd_same
      have hl3 := sub_same (o := .tup [V.int (ns'.getD b 0)]) np _ _ hl
      revert s3 ep hl3
      generalize upd Z p (.tup [V.int (ns'.getD b 0)]) = Z3
      intro s3 ep hl3
      have S1 := shp_one S hb
      refine ⟨_, rfl, _, rfl, p, [ns'.getD b 0], rfl, sqt_new ep, S1, fun H4 pn s4 tp4 => ?_⟩
      refine ⟨_, rfl, .inl ⟨L, _, rfl, .inl (.inl (s4 _ _ hl3)), fun r nr => ?_⟩⟩
      have s5 := sub_same (o := .tup ((numsL (inB num b) [ns'.getD b 0]).map V.int)) nr
      refine ⟨p, r, pn, [ns'.getD b 0], _, rfl, sqt_new (s5 _ _ (s4 _ _ ep)), tp4.same s5, upd_same, fun H6 c s6 _ st => ?_⟩
      exact q H6 c (((s3.trans s4).trans s5).trans s6) st
end
end K09

/-! # stairs of tables -/
namespace K09
open PySem PySem.Spec PyProof.Rows L2 TL NumText
/-! ### a def of one parameter and a row of further ones -/
theorem env0_laid {P : Program} {w : World} {K : PySem.W.Frag} {mg : Str → Option Value} {base : Heap} {A : Around} {outer : List Env} {s : Shared} {H : Hp} {o : HO} {ob : Obj} (e : Env0 P w K mg base A outer s H)
    (new : ObjOk P w (upd H s.heap.objs.size o) (s.heap.push ob) s.heap.objs.size o) : Env0 P w K mg base A outer { s with heap := s.heap.push ob } (upd H s.heap.objs.size o) := by
  have kk : ∀ b u, s.heap.get? b = some u → (s.heap.push ob).get? b = some u := fun b u q => Heap.get?_push_of_some _ q
  refine ⟨e.frames, e.mod, fun b u q => ?_, ?_, e.funs.of_keeps fun b u q _ => ⟨u, kk b u q, rfl⟩, fun b m => ?_, e.hok.laid kk (Nat.le_refl _) new, e.bare⟩
  · obtain ⟨h1, h2⟩ := e.bs b u q
    exact ⟨kk b u h1, (upd_ne (Nat.ne_of_lt (Heap.lt_size h1))).trans h2⟩
  · show base.objs.size ≤ (s.heap.push ob).objs.size
    rw [Heap.size_push]
    exact Nat.le_succ_of_le e.bsz
  · obtain ⟨_, u, h1, _⟩ := e.funs.mem m
    exact (upd_ne (Nat.ne_of_lt (Heap.lt_size h1))).trans (e.frf b m)
theorem fn_star {P : Program} {w : World} {K : PySem.W.Frag} {mg : Str → Option Value} {base : Heap} {k : Nat} {x qual a v : Str} {st : Stmt} {f : Addr} {fd : FuncData} {N : List Str} {sp : Sp} (F : Fun K x qual st f fd) (S : FnScope N [a, v] (defScope st))
    (hb : ∀ (u : Value) (us : List Value), us.length ≤ 3 → bindArgs fd ⟨u :: us, []⟩ = (newTuple us >>= fun t => pure [(a, u), (v, t)])) (len : ∀ vs H Q E, sp vs H Q E → vs.length = 2)
    (hbody : ∀ (cdv : Value) (A : Around) (outer : List Env) (s : Shared) (H : Hp) (vs : List V) (Q : VK) (E : XK), Room k (A.deeper (envOfC qual (defScope st) s.heap.objs.size f cdv)) → sp vs H Q E →
      ∃ t, PSs (cxOf CX0 P w K mg base N qual (defScope st) f cdv A outer s H E).nox (defBody st) t ∧ t { nx := fun _ H' => Q .non H', rt := Q } (L2.start N vs) H) :
    FnR P w K mg base CX0 (k + 1) f (fun vs H Q E => ∃ (y : V) (rest : List V), vs = y :: rest ∧ rest.length ≤ 3 ∧ ∀ T, H T = none → sp [y, .ref T] (upd H T (.tup rest)) Q E) := by
  obtain ⟨oc, od, kV, doc, pm, an, cdv, ct, osl, rfl, lk, hcd⟩ := F.ex
  rintro A outer s H us vs Q E hr e0 r ⟨y, rest, rfl, l3, hsp⟩
  cases r with
  | cons r1 rr =>
    rename_i u urest
    have KX : K.In s.heap := e0.mod.kin.keeps fun b o e => (e0.bs b o e).1
    have lr : urest.length ≤ 3 := by rw [← rr.length]; exact l3
    refine codeAny_call_function hr.depth (KX _ _ lk) rfl S.co S.gen rfl (PySem.W.codeRec_of KX hcd) ?_
    rw [hb u urest lr]
    refine wpAny_bind (wpAny_newTuple ?_ (Nat.le_trans lr (by decide)))
    refine wpAny_pure ?_
    have new : ObjOk P w (upd H s.heap.objs.size (.tup rest)) (s.heap.push { cls := .type "tuple", data := .seq urest.toArray }) s.heap.objs.size (.tup rest) := ⟨Nat.le_trans l3 (by decide), _, rr, IsTup.new _ _⟩
    have e1 := env0_laid e0 new
    have free : H s.heap.objs.size = none := e0.hok.fresh (Nat.le_refl _)
    have un0 : Un (frs outer) [] H (upd H s.heap.objs.size (.tup rest)) s.heap (s.heap.push { cls := .type "tuple", data := .seq urest.toArray }) := Un.laid (fun b u q => Heap.get?_push_of_some _ q) (Nat.le_refl _) free
    have sp1 := hsp _ free
    have os1 : s.os = ({ s with heap := s.heap.push { cls := .type "tuple", data := .seq urest.toArray } } : Shared).os := rfl
    have r2 : Vals [y, V.ref s.heap.objs.size] [u, Value.ref s.heap.objs.size] := .cons r1 (.cons rfl .nil)
    have hl := len _ _ _ _ sp1
    revert e1 un0 sp1
    have os1 : s.os = ({ s with heap := s.heap.push { cls := .type "tuple", data := .seq urest.toArray } } : Shared).os := rfl
    have hp1 : s.heap.push { cls := .type "tuple", data := .seq urest.toArray } = ({ s with heap := s.heap.push { cls := .type "tuple", data := .seq urest.toArray } } : Shared).heap := rfl
    rw [hp1]
    revert os1
    generalize ({ s with heap := s.heap.push { cls := .type "tuple", data := .seq urest.toArray } } : Shared) = s1
    intro os1 e1 un0 sp1
    revert e1 un0 sp1
    generalize upd H s.heap.objs.size (.tup rest) = H1
    intro e1 un0 sp1
    have lim : s1.heap.NoLimit := e1.mod.nolimit.keeps fun b o e => (e1.bs b o e).1
    have hz : [a, v].zip [u, Value.ref s.heap.objs.size] = [(a, u), (v, Value.ref s.heap.objs.size)] := rfl
    have hkind : ∀ z ∈ [(a, u), (v, Value.ref s.heap.objs.size)], (defScope st).names.lookup z.1 = some .local ∨ ((defScope st).names.lookup z.1 = some .cell ∧ ((cellsFrom (s1.heap.objs.size + 1) (defScope st).names []).lookup z.1).isSome = true) := fun ⟨n, z⟩ hz' => by
      rcases S.par n (List.of_mem_zip (hz ▸ hz')).1 with q | q
      · exact .inl q
      · exact .inr ⟨q, PySem.W.cellsFrom_some _ _ _ (.inl q)⟩
    refine wpAny_newFunctionEnv_cells S.kind hkind fun env he s2 x => ?_
    subst he
    refine ⟨lim.keeps x.toInCall.keep, codeAny_func ?_⟩
    obtain ⟨t, ht, hq⟩ := hbody cdv A outer s1 H1 [y, V.ref s.heap.objs.size] Q E (hr.deeper _) sp1
    have I := inv_start (CX := CX0) (qual := qual) (f := f) (cd := cdv) (E := E) S hr.hd e1 hl r2 x
    refine wpAny_mono (ht.nox.run [] s2 _ H1 _ I hq) (fun fl s' hs => ?_) fun e s' hs => hs
    have fin : ∀ {σ' : L2.St} {H' : Hp} {z : V} {b : Value}, Inv (cxOf CX0 P w K mg base N qual (defScope st) f cdv A outer s1 H1 E) [] σ' H' s' → RelV z b → Q z H' → CE outer P w H s Q b s' :=
      fun {σ' H' z b} J rv q => ⟨z, H', J.os.trans os1.symm, J.bare, un0.trans J.base, J.hok, rv, q⟩
    cases fl with
    | ret b =>
      obtain ⟨z, σ', H', J, rv, q⟩ := hs
      exact fin J rv q
    | next =>
      obtain ⟨σ', H', J, q⟩ := hs
      exact fin (z := V.non) (b := Value.none) J rfl q
    | brk =>
      obtain ⟨_, _, _, q⟩ := hs
      exact False.elim q
    | cont =>
      obtain ⟨_, _, _, q⟩ := hs
      exact False.elim q
/-! ### dicts that are entries -/
/-- numbers of sixty digits -/
def Sm (i : Int) : Prop := -(10 ^ 60) < i ∧ i < 10 ^ 60
def SmN (num : Tri → Int) (ns : List Int) : Prop := ∀ t ∈ pl ns, Sm (num t)
theorem ent_dictO {ns : List Int} (S : Shp ns) {l : List Tri} {num : Tri → Int} (hl : ∀ t ∈ l, t ∈ pl ns) (hn : l.length ≤ 100) (sm : SmN num ns) : Ent ns (dictO l num) := by
  refine ⟨by unfold dictO; rw [List.length_map]; exact hn, fun p hp => ?_⟩
  unfold dictO at hp
  obtain ⟨t, ht, rfl⟩ := List.mem_map.mp hp
  exact ⟨t, hl t ht, rfl, num t, rfl, sm t (hl t ht)⟩
theorem numAt_dictO {l : List Tri} {num : Tri → Int} {t : Tri} : numAt (dictO l num) t = if t ∈ l then num t else 0 := by
  unfold numAt
  rw [valV_dictO]
  by_cases m : t ∈ l
  · rw [if_pos m, if_pos m]
  · rw [if_neg m, if_neg m]
theorem nums_dictO {ns : List Int} {l : List Tri} {num : Tri → Int} (h : ∀ t ∈ pl ns, t ∉ l → num t = 0) : (pl ns).map (numAt (dictO l num)) = numsL num ns := by
  refine List.map_congr_left fun t m => ?_
  rw [numAt_dictO]
  by_cases z : t ∈ l
  · rw [if_pos z]
  · rw [if_neg z, h t m z]
/-- the rows of a table -/
def rowsT (num : Tri → Int) (b : Int) (s : Nat) : List (List Int) := (List.range s).map fun (i : Nat) => rowT num b (i : Int) s
theorem tabD_rows (num : Tri → Int) (b : Int) (s : Nat) : tabD num b s = rowsD (rowsT num b s) := by
  unfold tabD rowsD rowsT
  rw [List.map_map]
  rfl
theorem rows_ok {num : Tri → Int} {b : Int} {s : Nat} (h : ∀ i j : Nat, i < j → j < s → Sm (num (b, (i : Int), (j : Int)))) : SqOk (rowsT num b s) := by
  have ls : (rowsT num b s).length = s := by
    unfold rowsT
    rw [List.length_map, List.length_range]
  intro i r e
  have il : i < s := by
    rw [← ls]
    exact (List.getElem?_eq_some_iff.mp e).1
  unfold rowsT at e
  rw [List.getElem?_map, List.getElem?_range il] at e
  obtain rfl := Option.some.inj e
  rw [ls]
  have gt : ∀ j : Nat, j < s → (rowT num b (i : Int) s)[j]? = some (tabE num b i j) := fun j hj => by
    unfold rowT
    rw [List.getElem?_map, List.getElem?_range hj]
    rfl
  refine ⟨rowT_len .., il, fun x hx => ?_, ?_, fun x hx => ?_⟩
  · unfold rowT at hx
    obtain ⟨j, hj, rfl⟩ := List.mem_map.mp hx
    rw [List.mem_range] at hj
    unfold tabE
    by_cases lt : (i : Int) < (j : Int)
    · rw [if_pos lt]
      exact h i j (by omega) hj
    · rw [if_neg lt]
      split <;> exact ⟨by decide, by decide⟩
  · rw [gt i il]
    unfold tabE
    rw [if_neg (by omega), if_pos rfl]
  · obtain ⟨j, hj⟩ := List.getElem?_of_mem hx
    rw [List.getElem?_take] at hj
    by_cases ji : j < i
    · rw [if_pos ji, gt j (by omega)] at hj
      rw [← Option.some.inj hj]
      unfold tabE
      rw [if_neg (by omega), if_neg (by omega)]
    · rw [if_neg ji] at hj
      cases hj
section
variable {P : Program} {w : World} {K : PySem.W.Frag} {mg : Str → Option Value} {base : Heap} {C CS TL : Addr}
abbrev s_of : Stmt := inClass (topS 42) 3
theorem sc_of : FnScope ["cls", "tables", "shape", "table", "b", "i", "j"] ["cls", "tables"] (defScope s_of) := ⟨rfl, rfl, rfl, by decide +kernel, rfl, by decide +kernel, by decide +kernel⟩
/-- good tables, one for each block -/
def spOf (K : PySem.W.Frag) (C : Addr) : Sp := fun vs H Q _ => ∃ (T : Addr) (xs : List V) (ns : List Int) (num : Tri → Int), vs = [.ref C, .ref T] ∧ H T = some (.tup xs) ∧ TvL K H xs ((List.range ns.length).map fun (b : Nat) => tabD num (b : Int) (ns.getD b 0).toNat) ∧ Shp ns ∧ SmN num ns ∧
  ∀ H' c, Same H H' → StairO K H' c C ns (numsL num ns) → Q (.ref c) H'
theorem ok_of {f f1 f2 f3 fI : Addr} {fd fd1 fd2 fd3 fdI : FuncData} (T : Txt mg) (N : Nam mg) (F : Fun K "of" "Stair.of" s_of f fd) (hb : ∀ (u : Value) (us : List Value), us.length ≤ 3 → bindArgs fd ⟨u :: us, []⟩ = (newTuple us >>= fun t => pure [(("cls" : Str), u), (("tables" : Str), t)]))
    (d1 : D K mg "is_square" s_square ["value"] f1 fd1) (G1 : FnOk P w K mg base CX0 4 f1 fd1 ["value"] (spSquare K)) (d2 : D K mg "is_shape" s_is_shape ["value"] f2 fd2) (G2 : FnOk P w K mg base CX0 3 f2 fd2 ["value"] (spShape K))
    (d3 : D K mg "places" s_places ["shape"] f3 fd3) (G3 : FnOk P w K mg base (L2.CX P w) 5 f3 fd3 ["shape"] (spPlaces K CS)) (mk : Mk K C fI) (GI : FnOk P w K mg base CX0 7 fI fdI ["self", "shape", "entries"] (spInit K C)) (bI : Binds K fdI ["self", "shape", "entries"] []) :
    FnR P w K mg base CX0 9 f (fun vs H Q E => ∃ (y : V) (rest : List V), vs = y :: rest ∧ rest.length ≤ 3 ∧ ∀ T, H T = none → spOf K C [y, .ref T] (upd H T (.tup rest)) Q E) := by
  refine fn_star F sc_of hb (fun vs H Q E h => ?_) (fun cdv A outer s H vs Q E hr h => ?_)
  · obtain ⟨T, xs, ns, num, rfl, _⟩ := h
    rfl
  · obtain ⟨TT, xs, ns, num, rfl, eT, tl, S, sm, q⟩ := h
    have un : (A.deeper (envOfC "Stair.of" (defScope s_of) s.heap.objs.size f cdv)).units + 1 < cLine := by have := hr.un; omega
    refine ⟨_, (pss_cons (ps_if (pt_not (pt_val (pe_callB (cr_all rfl) (by rfl) N.n_all (by decide +kernel) (pa_cons (pe_lc (own := [("table", 3)]) (g := gName 3) (tt := tYes) rfl sc_of.nd (pi_tup (pv 1)) (blkOk_by (own := [("table", 3)]) (N := ["cls", "tables", "shape", "table", "b", "i", "j"]) (sc := defScope s_of) (by decide +kernel))
            (fun _ _ _ _ _ => (pg_name (i := 3) sc_of.nd rfl (Or.inl rfl))) (fun _ _ _ _ _ => pts_nil) (fun _ _ _ _ _ => (pe_call G1 (hr.mono (by decide)) (by rfl) d1.g d1.F.kp d1.b .nil pass0 (pa_cons (pv 3) pa_nil)))) pa_nil)))) dead pss_nil)
      (pss_cons (ps_set (i := 2) sc_of.nd rfl (.inl rfl) (pe_tupleOf (by rfl) T.n_tuple (pe_lc (own := [("table", 3)]) (g := gName 3) (tt := tYes) rfl sc_of.nd (pi_tup (pv 1)) (blkOk_by (own := [("table", 3)]) (N := ["cls", "tables", "shape", "table", "b", "i", "j"]) (sc := defScope s_of) (by decide +kernel))
            (fun _ _ _ _ _ => (pg_name (i := 3) sc_of.nd rfl (Or.inl rfl))) (fun _ _ _ _ _ => pts_nil) (fun _ _ _ _ _ => (pe_callB (call_len_seqK (K := K) rfl) (by rfl) T.n_len PySem.boot_len (pa_cons (pv 3) pa_nil))))))
      (pss_cons (ps_if (pt_not (pt_val (pe_call G2 (hr.mono (by decide)) (by rfl) d2.g d2.F.kp d2.b .nil pass0 (pa_cons (pv 2) pa_nil)))) dead pss_nil)
      (pss_one (ps_ret (pe_makeL mk GI hr bI .nil pass0 (pv 0) (pa_cons (pv 2) (pa_cons (pe_dcT (own := [("b", 4), ("i", 5), ("j", 6)]) (g := gTup K 3 (gCons (gName 4) (gCons (gName 5) (gCons (gName 6) gNil)))) (tt := tYes) rfl un sc_of.nd (pi_tup (pe_call (E := fun _ _ _ => False) G3 (hr.mono (by decide)) (by rfl) d3.g d3.F.kp d3.b .nil passF (pa_cons (pv 2) pa_nil))) (blkOk_by (own := [("b", 4), ("i", 5), ("j", 6)]) (N := ["cls", "tables", "shape", "table", "b", "i", "j"]) (sc := defScope s_of) (by decide +kernel))
            (fun _ _ _ _ _ => (pg_tup rfl (pgs_cons (pg_name (i := 4) sc_of.nd rfl (Or.inl rfl)) (pgs_cons (pg_name (i := 5) sc_of.nd rfl (Or.inl rfl)) (pgs_cons (pg_name (i := 6) sc_of.nd rfl (Or.inl rfl)) pgs_nil))))) (fun _ _ _ _ _ => pts_nil) (fun _ _ _ _ _ => (pe_tup (pa_cons (pv 4) (pa_cons (pv 5) (pa_cons (pv 6) pa_nil))))) (fun _ _ _ _ _ => (pe_ix (ix_tupK (K := K) rfl) (pe_ix (ix_tupK (K := K) rfl) (pe_ix (ix_tupK (K := K) rfl) (pv 1) (pv 4) (fun _ _ => rfl)) (pv 5) (fun _ _ => rfl)) (pv 6) (fun _ _ => rfl)))) pa_nil)))))))), ?_⟩
    have lx : xs.length = ns.length := by rw [tl.len, List.length_map, List.length_range]
    have b3 := S.1.2
    have ze : ∀ {b : Nat}, b < ns.length → ∃ z : Nat, ns.getD b 0 = (z : Int) ∧ ns[b]? = some (z : Int) ∧ 2 ≤ z ∧ z ≤ 6 := fun {b} hb => by
      have gd : ns.getD b 0 = ns[b] := by rw [List.getD_eq_getElem?_getD, List.getElem?_eq_getElem hb]; rfl
      have z6 := S.2.1 _ (List.getElem_mem hb)
      refine ⟨ns[b].toNat, by rw [gd]; omega, by rw [List.getElem?_eq_getElem hb]; congr 1; omega, by omega, by omega⟩
    refine ⟨_, rfl, TT, rfl, ⟨_, sqt_new eT⟩, fun L nL => ?_⟩
    refine lc_tup (K := K) (a := TT) (xs := xs) (fun i Z => Same H Z ∧ Z L = some (.lst ((List.replicate i true).map V.bl))) ⟨sub_same nL, upd_same⟩ (fun i Z _ h => sqt_same (sqt_new eT) h.1) ?_ ?_
    · rintro i x Z hx ⟨sz, hl⟩
      obtain ⟨d0, ed, td⟩ := tl.get hx
      have il := (List.getElem?_eq_some_iff.mp hx).1
      rw [lx] at il
      rw [List.getElem?_map, List.getElem?_range il] at ed
      obtain rfl := Option.some.inj ed
      obtain ⟨z, ez, ez2, z2, z6⟩ := ze il
      have td : Tv K H x (tabD num ((i : Nat) : Int) (ns.getD i 0).toNat) := td
      rw [tabD_rows] at td
      refine ⟨rfl, yesT ⟨_, rfl, x, _, rfl, td.same sz, rows_ok fun a b ab bz => sm _ (mem_pl S il ab (by omega)), ?_, fun Z2 s2 => ?_⟩⟩
      · unfold rowsT
        rw [List.length_map, List.length_range]
        omega
      · refine ⟨_, s2 _ _ hl, ?_, fun k ob e => ?_, ?_⟩
        · rw [List.length_map, List.length_replicate, sizeLine_eq]
          omega
        · rw [upd_ne (fun z => by rw [z, nL] at e; cases e)]
          exact s2 _ _ (sz _ _ e)
        · rw [upd_same, List.replicate_succ', List.map_append]
          rfl
    · rintro Z ⟨sz, hl⟩
      have z1 : (List.replicate xs.length true).all id = true := List.all_eq_true.mpr fun b m => (List.mem_replicate.mp m).2
      refine ⟨L, List.replicate xs.length true, rfl, .inl (.inl hl), _, rfl, ?_⟩
      rw [z1]
      refine ite2 (fun z => absurd z Bool.false_ne_true) (fun _ => ?_)
      refine ⟨_, rfl, TT, rfl, ⟨_, sqt_same (sqt_new eT) sz⟩, fun L2 nL2 => ?_⟩
      refine lc_tup (K := K) (a := TT) (xs := xs) (fun i Y => Same Z Y ∧ Y L2 = some (.lst ((ns.take i).map V.int))) ⟨sub_same nL2, upd_same⟩ (fun i Y _ h => sqt_same (sqt_new eT) (sz.trans h.1)) ?_ ?_
      · rintro i x Y hx ⟨sy, hl2⟩
        obtain ⟨d0, ed, td⟩ := tl.get hx
        have il := (List.getElem?_eq_some_iff.mp hx).1
        rw [lx] at il
        rw [List.getElem?_map, List.getElem?_range il] at ed
        obtain rfl := Option.some.inj ed
        obtain ⟨z, ez, ez2, z2, z6⟩ := ze il
        have td : Tv K H x (tabD num ((i : Nat) : Int) (ns.getD i 0).toNat) := td
        rw [ez, Int.toNat_natCast] at td
        obtain ⟨o, ys, rfl, eo, tl2⟩ : ∃ o ys, x = .ref o ∧ SqT K H o ys ∧ TvL K H ys ((List.range z).map (rowD num (i : Int) z)) := by
          cases td with
          | tup e l => exact ⟨_, _, rfl, e, l⟩
        have ly : ys.length = z := by rw [tl2.len, List.length_map, List.length_range]
        refine ⟨rfl, yesT ⟨_, rfl, o, ys, rfl, .inr (sqt_same eo (sz.trans sy)), ?_⟩⟩
        refine ⟨_, hl2, ?_, fun k ob e => ?_, ?_⟩
        · rw [List.length_map, List.length_take, sizeLine_eq]
          omega
        · rw [upd_ne (fun z => by rw [z, nL2] at e; cases e)]
          exact sy _ _ e
        · rw [upd_same, List.take_succ, ez2, List.map_append, ly]
          rfl
      · rintro Y ⟨sy, hl2⟩
        rw [lx, List.take_length] at hl2
        refine .inl ⟨L2, _, rfl, .inl (.inl hl2), fun p np => ?_⟩
        have s3 := (sz.trans sy).trans (sub_same (o := .tup (ns.map V.int)) np)
        have ep : upd Y p (.tup (ns.map V.int)) p = some (.tup (ns.map V.int)) := upd_same
        revert s3 ep
        generalize upd Y p (.tup (ns.map V.int)) = H3
        intro s3 ep
        refine ⟨_, rfl, _, .tuple (ns.map .int), rfl, .tv (.tup (sqt_new ep) (tvl_ints ns)), fun H4 s4 => ⟨_, rfl, ?_⟩⟩
        rw [shp_is S]
        refine ite2 (fun z => absurd z Bool.false_ne_true) (fun _ => ?_)
        refine ⟨_, rfl, rfl, _, rfl, _, rfl, _, .tuple (ns.map .int), rfl, .tv (.tup (sqt_same (sqt_new ep) s4) (tvl_ints ns)), fun ns' en S' H5 y s5 ty => ?_, fun z => absurd (shp_is S) (by rw [z]; decide)⟩
        obtain rfl : ns' = ns := (ints_inj (PyData.tuple.inj en)).symm
        obtain ⟨o, ys, rfl, eo, tl3⟩ := ty
        have ly : ys.length = (pl ns').length := tl3.len
        have M := tables3 ns' (shp_mem S)
        have sH := (s3.trans s4).trans s5
        refine ⟨o, rfl, ⟨ys, .inl (.inl eo)⟩, fun D nD => ?_⟩
        refine dcT_it (walk_tup (K := K) (a := o) (xs := ys)) (fun i Z => Same H5 Z ∧ Z D = some (.dT (dictO ((pl ns').take i) num))) ⟨sub_same nD, upd_same⟩ (fun i Z _ h => sqt_same (sqt_new eo) h.1) ?_ ?_
        · rintro i x Y Y' hi ⟨sy, hd⟩ ⟨rfl, ex⟩
          obtain ⟨t, c, et, rfl, ec⟩ := tl3.tri ex
          have mt : t ∈ pl ns' := List.mem_of_getElem? et
          obtain ⟨tb, ti, tj, et2, hb, hij, hj⟩ := pl_mem S mt
          have dsn := dictO_snoc (num := num) (not_take M.1 et)
          have tks : (pl ns').take (i + 1) = (pl ns').take i ++ [t] := by rw [List.take_succ, et]; rfl
          rw [tks]
          rw [et2] at dsn ec ⊢
          obtain ⟨z, ez, ez2, z2, z6⟩ := ze hb
          have hj' : tj < z := by omega
          have ebx : xs[tb]? = some xs[tb] := List.getElem?_eq_getElem (by omega)
          obtain ⟨d0, ed, td⟩ := tl.get ebx
          rw [List.getElem?_map, List.getElem?_range hb] at ed
          obtain rfl := Option.some.inj ed
          have td : Tv K H xs[tb] (tabD num ((tb : Nat) : Int) (ns'.getD tb 0).toNat) := td
          rw [ez, Int.toNat_natCast] at td
          obtain ⟨to, rs, ex1, eo1, tl2⟩ : ∃ to rs, xs[tb] = .ref to ∧ SqT K H to rs ∧ TvL K H rs ((List.range z).map (rowD num ((tb : Nat) : Int) z)) := by
            generalize xs[tb] = xb at td
            cases td with
            | tup e l => exact ⟨_, _, rfl, e, l⟩
          rw [ex1] at ebx
          have lr : rs.length = z := by rw [tl2.len, List.length_map, List.length_range]
          have eri : rs[ti]? = some rs[ti] := List.getElem?_eq_getElem (by omega)
          obtain ⟨d1, ed1, td1⟩ := tl2.get eri
          rw [List.getElem?_map, List.getElem?_range (by omega)] at ed1
          obtain rfl := Option.some.inj ed1
          obtain ⟨ro, ex2, eo2⟩ : ∃ ro, rs[ti] = .ref ro ∧ SqT K H ro ((rowT num ((tb : Nat) : Int) (ti : Int) z).map V.int) := by
            unfold rowD at td1
            generalize rs[ti] = ri at td1
            cases td1 with
            | tup e l => exact ⟨_, rfl, l.ints ▸ e⟩
          rw [ex2] at eri
          have enj : ((rowT num ((tb : Nat) : Int) (ti : Int) z).map V.int)[tj]? = some (V.int (num (((tb : Nat) : Int), ((ti : Nat) : Int), ((tj : Nat) : Int)))) := by
            unfold rowT
            rw [List.getElem?_map, List.getElem?_map, List.getElem?_range hj']
            show some (V.int (tabE num tb ti tj)) = _
            unfold tabE
            rw [if_pos (by omega)]
          refine ⟨c, _, rfl, .inl (.inl (sy _ _ ec)), rfl, _, _, rfl, _, _, rfl, _, _, rfl, rfl, rfl, yesT ?_⟩
          refine ⟨_, rfl, _, rfl, _, rfl, (by show 3 ≤ sizeLine; decide), fun p3 n3 => ?_⟩
          have s6 := sub_same (o := .tup [V.int ((tb : Nat) : Int), V.int ((ti : Nat) : Int), V.int ((tj : Nat) : Int)]) n3
          have sA := (sH.trans sy).trans s6
          have sq : ∀ {a : Addr} {zs : List V}, SqT K H a zs → SqT K (upd Y' p3 (.tup [V.int ((tb : Nat) : Int), V.int ((ti : Nat) : Int), V.int ((tj : Nat) : Int)])) a zs := fun h => sqt_same h sA
          refine ⟨_, rfl, _, rfl, TT, xs, tb, .ref to, rfl, rfl, sq (sqt_new eT), atI_nat ebx, _, rfl, to, rs, ti, .ref ro, rfl, rfl, sq eo1, atI_nat eri, _, rfl, ro, _, tj, _, rfl, rfl, sq eo2, atI_nat enj, ?_⟩
          refine ⟨_, triK (((tb : Nat) : Int), ((ti : Nat) : Int), ((tj : Nat) : Int)), p3, rfl, upd_same, s6 _ _ hd, ?_, fun b ob eb => ?_, ?_⟩
          · unfold dictO
            rw [List.length_map, List.length_take, sizeLine_eq]
            omega
          · rw [upd_ne (fun z => by rw [z, nD] at eb; cases eb)]
            exact s6 _ _ (sy _ _ eb)
          · rw [upd_same, dsn]
        · rintro Y ⟨sy, hd⟩
          rw [ly, List.take_length] at hd
          refine fun a dd na nd ne => ?_
          have sM : Same Y (upd (upd Y dd (.own a)) a (.ins C dd [])) := (sub_same nd).trans (sub_same (by rw [upd_ne (Ne.symm ne)]; exact na))
          have ent : Ent ns' (dictO (pl ns') num) := ent_dictO S (fun t m => m) (by omega) sm
          refine ⟨a, p, D, dd, ns', _, rfl, upd_same, sqt_same (sqt_new ep) (((s4.trans s5).trans sy).trans sM), S, sM _ _ hd, ent, fun H9 o9 st => ⟨rfl, ?_⟩⟩
          rw [nums_dictO (fun t m n => absurd m n)] at st
          refine q H9 a (fun b ob eb => ?_) st
          have e1 := sy _ _ (sH _ _ eb)
          exact o9 _ _ (fun z => by rw [z, na] at e1; cases e1) (sM _ _ e1)
end
end K09

/-! # rows of words -/
namespace K09
open PySem PySem.Spec PyProof.Rows L2 TL NumText
section
variable {X : Cx}
/-- i, i - 1, .. -/
def dnV (i j : Int) : List V := (List.range (i - j).toNat).map fun k => V.int (i + (k : Nat) * (-1))
def tDown (ta : TA) : TE := fun σ H Q => ta σ H fun vs H1 => ∃ i j : Int, vs = [.int i, .int j, .int (-1)] ∧ 0 ≤ i ∧ i ≤ 1000 ∧ 0 ≤ j ∧ j ≤ 1000 ∧ ∀ p, H1 p = none → Q (.ref p) (upd H1 p (.lst (dnV i j)))
theorem pe_listDown {a b c : Expr} {ta : TA} {p pos p2 pos2 : Pos} (calm : X.calm = true) (gl : Gl X "list") (ml : X.mg "list" = none) (gr : Gl X "range") (mr : X.mg "range" = none) (ha : PA X [a, b, c] ta)
    (hs : starEach [a, b, c] X.env = (false, eval a X.env) :: starEach [b, c] X.env := by rfl) (hpl : (backTo pos2 (starEach [b, c] X.env)).any (·.1) = false := by rfl)
    (hs2 : starEach [.Call (.Name "range" p2) [a, b, c] [] pos2] X.env = (false, eval (.Call (.Name "range" p2) [a, b, c] [] pos2) X.env) :: starEach [] X.env := by rfl) (hpl2 : (backTo pos (starEach [] X.env)).any (·.1) = false := by rfl) :
    PE X (.Call (.Name "list" p) [.Call (.Name "range" p2) [a, b, c] [] pos2] [] pos) (tDown ta) := by
  refine ⟨fun pins s σ H Q I h => ?_⟩
  refine wpAny_Call_Name_kw (ld_blt I gl ml (show bootBuiltins "list" = some (.type "list") by decide +kernel) ?_)
  refine PyProof.Rows.callWith_type1 ?_ hs2 hpl2
  rw [hs2]
  show wpAny _ _ (spliced ((false, eval (.Call (.Name "range" p2) [a, b, c] [] pos2) X.env) :: [])) _ _ s
  refine Calls.spliced_cons ?_
  refine wpAny_Call_Name_kw (ld_blt I gr mr boot_range ?_)
  refine PyProof.Rows.callWith_type1 (thn (ha.run pos2 pins s σ H _ I h) fun us s1 w1 => ?_) hs hpl
  obtain ⟨vs, H1, I1, r1, i, j, rfl, i0, i1, j0, j1, q⟩ := w1
  cases r1 with
  | cons r rr => cases rr with
    | cons r' rr => cases rr with
      | cons r'' rr =>
        cases rr
        obtain ⟨t, rfl⟩ := r
        obtain ⟨t', rfl⟩ := r'
        obtain ⟨t'', rfl⟩ := r''
        obtain ⟨c0, c1, c2, c3⟩ := RgC.neg (i := i) (j := j) (by omega) (by omega) (by omega) (by omega)
        refine call_range_3 c0 ?_ (.inl (PyProof.noPylong_small c1))
        refine Calls.spliced_nil ?_
        have I2 : Inv X pins σ H1 { s1 with heap := s1.heap.push { cls := .type "range", data := .fields #[.int i t, .int j t', .int (-1) t''] } } := I1.kept (t' := s1.toks) fun b o e => Heap.get?_push_of_some _ e
        refine call_list_range (n := (i - j).toNat) (I1.ok.hd calm) (IsRange.new ..) c2 c3 (by omega) fun h' tk acc c' kk hD hi => ?_
        have lv : acc.toList.length = (i - j).toNat := by rw [Array.length_toList]; exact hi.1
        have vv : Vals (dnV i j) acc.toList := by
          unfold dnV
          rw [← lv]
          refine vals_of_get acc.toList _ fun k u hk => ?_
          obtain ⟨t, rfl⟩ := hi.2 k u (by rw [← hk, Array.getElem?_toList])
          exact ⟨t, rfl⟩
        refine ⟨.ref _, upd H1 _ (.lst (dnV i j)), I2.laid (t' := tk) kk (Nat.le_refl _) ⟨?_, acc.toList, c', vv, by rw [Array.toArray_toList]; exact hD⟩, rfl, q _ (I2.hok.fresh (Nat.le_refl _))⟩
        unfold dnV
        rw [List.length_map, List.length_range, sizeLine_eq]
        omega
end
/-- the turns of a walk, whatever is done in each -/
theorem it_gen {J : It} {n : Nat} {G : Hp → Prop} {Y : Nat → Hp → V → Hp → Prop} (w : Walk J n G Y) {H0 : Hp} {stop : Hp → Prop} {step : V → Hp → (Hp → Prop) → Prop} (Pv : Nat → Hp → Prop) (h0 : Pv 0 H0) (hG : ∀ i Z, i ≤ n → Pv i Z → G Z)
    (hs : ∀ i x Z Z', i < n → Pv i Z → Y i Z x Z' → step x Z' (Pv (i + 1))) (hd : ∀ Z, Pv n Z → stop Z) :
    ∃ W : Nat → Nat → Hp → Prop, (∃ m, W 0 m H0) ∧ ∀ i m Z, W i m Z → (J.stop i Z ∧ stop Z) ∨ (J.go i Z ∧ ∃ Nx : Hp → Prop, (∀ Z', Nx Z' → ∃ m', m' < m ∧ W (i + 1) m' Z') ∧ ∀ x Z', J.yld i Z x Z' → step x Z' Nx) := by
  refine ⟨fun i m Z => m + i = n ∧ Pv i Z, ⟨n, rfl, h0⟩, ?_⟩
  intro i m Z ⟨e, p⟩
  have q := hG i Z (by omega) p
  by_cases l : i < n
  · exact .inr ⟨w.goes i Z l q, Pv (i + 1), fun Z' p' => ⟨m - 1, by omega, by omega, p'⟩, fun x Z' y => hs i x Z Z' l p (w.yields i Z x Z' l q y)⟩
  · obtain rfl : i = n := by omega
    exact .inl ⟨w.stops Z q, hd Z p⟩
theorem shaped_lints (ns : List Int) : SeqAt.shaped (.list (ns.map .int)) = true := by
  show (PyData.canLayAll0 (ns.map .int) && decide (PyData.depthAll (ns.map .int) + 1 ≤ 64)) = true
  rw [canLay_ints, dep_ints]
  rfl
theorem eqv_lists (ns ms : List Int) : PyData.eqv (.list (ns.map .int)) (.list (ms.map .int)) = decide (ns = ms) := by
  show PyData.eqvAll (ns.map .int) (ms.map .int) = _
  exact eqv_ints
theorem flat_ints : ∀ ns : List Int, (ns.map V.int).all flatV = true
  | [] => rfl
  | n :: r => by
    show (true && (r.map V.int).all flatV) = true
    rw [flat_ints r]
    rfl
theorem none_ints : ∀ ns : List Int, inV .non (ns.map V.int) = false
  | [] => rfl
  | n :: r => by
    have z := none_ints r
    unfold inV at z ⊢
    rw [List.map_cons, List.any_cons, z]
    rfl
theorem pmap {α β : Type} {F G : α → β → Prop} (h : ∀ x y, F x y → G x y) : ∀ {xs : List α} {ys : List β}, Paired F xs ys → Paired G xs ys
  | _, _, .nil => .nil
  | _, _, .cons a t => .cons (h _ _ a) (pmap h t)
/-- a list of texts -/
def WdsL (H : Hp) (x : V) (ws : List Str) : Prop := ∃ r, x = .ref r ∧ H r = some (.lst (ws.map V.str))
theorem WdsL.same {H H' : Hp} {x : V} {ws : List Str} (h : WdsL H x ws) (s : Same H H') : WdsL H' x ws := let ⟨r, e, z⟩ := h; ⟨r, e, s _ _ z⟩
/-- a list of such -/
def BlkL (H : Hp) (x : V) (wss : List (List Str)) : Prop := ∃ l xs, x = .ref l ∧ H l = some (.lst xs) ∧ Paired (WdsL H) xs wss
theorem BlkL.same {H H' : Hp} {x : V} {wss : List (List Str)} (h : BlkL H x wss) (s : Same H H') : BlkL H' x wss := let ⟨l, xs, e, z, p⟩ := h; ⟨l, xs, e, s _ _ z, pmap (fun _ _ w => w.same s) p⟩
def BlksL (H : Hp) (x : V) (bss : List (List (List Str))) : Prop := ∃ l xs, x = .ref l ∧ H l = some (.lst xs) ∧ Paired (BlkL H) xs bss
/-- the words of a block -/
def blkW (num : Tri → Int) (b : Int) (s : Nat) : List (List Str) := (List.range (s - 1)).map fun (i : Nat) => (rowNs num b (i : Int) (s - 1 - i)).map intS
theorem sm_abs {i : Int} (h : Sm i) : i.natAbs < 10 ^ 60 := by
  obtain ⟨a, b⟩ := h
  omega
theorem sm_lo {i : Int} (h : Sm i) : Lo i := Nat.lt_trans (sm_abs h) (by decide)
theorem rd_intS {i : Int} (h : Sm i) : rd (tl (intS i)) = some i := by
  rw [show tl (intS i) = intL i from tl_int i]
  exact int_rd (sm_abs h)
section
variable {P : Program} {w : World} {K : PySem.W.Frag} {mg : Str → Option Value} {base : Heap} {C CS TL : Addr}
abbrev s_rows : Stmt := topS 51
theorem sc_rows : FnScope ["rows", "words", "word"] ["rows"] (defScope s_rows) := ⟨rfl, rfl, rfl, by decide +kernel, rfl, by decide +kernel, by decide +kernel⟩
/-- the rows of a block -/
def spRows (K : PySem.W.Frag) : Sp := fun vs H Q _ => ∃ (v : V) (num : Tri → Int) (b : Int) (s : Nat), vs = [v] ∧ BlkL H v (blkW num b s) ∧ 2 ≤ s ∧ s ≤ 6 ∧ (∀ i j : Nat, i < j → j < s → Sm (num (b, (i : Int), (j : Int)))) ∧ ∀ H', Same H H' → Q (.bl true) H'
theorem ok_rows {f f1 : Addr} {fd fd1 : FuncData} {k : Nat} (T : Txt mg) (N : Nam mg) (d : D K mg "are_rows" s_rows ["rows"] f fd) (d1 : D K mg "read_integer" s_read_integer ["text"] f1 fd1) (G1 : FnOk P w K mg base CX0 1 f1 fd1 ["text"] spRead) :
    FnOk P w K mg base CX0 2 f fd ["rows"] (spRows K) := by
  refine d.F.ok sc_rows (fun vs H Q E h => ?_) (fun cdv A outer s H vs Q E hr h => ?_)
  · obtain ⟨v, num, b, z, rfl, _⟩ := h
    rfl
  · obtain ⟨v, num, b, z, rfl, ⟨l, xs, rfl, el, pr⟩, z2, z6, sm, q⟩ := h
    have un : (A.deeper (envOfC "are_rows" (defScope s_rows) s.heap.objs.size f cdv)).units + 64 < cLine := by have := hr.un; omega
    refine ⟨_, (pss_cons (ps_if (pt_cmpR (op_neD un) (pe_lc (own := [("words", 1)]) (g := gName 1) (tt := tYes) rfl sc_rows.nd (pi_list (pv 0)) (blkOk_by (own := [("words", 1)]) (N := ["rows", "words", "word"]) (sc := defScope s_rows) (by decide +kernel))
            (fun _ _ _ _ _ => (pg_name (i := 1) sc_rows.nd rfl (Or.inl rfl))) (fun _ _ _ _ _ => pts_nil) (fun _ _ _ _ _ => (pe_callB (call_len_seqK (K := K) rfl) (by rfl) T.n_len PySem.boot_len (pa_cons (pv 1) pa_nil)))) (pe_listDown rfl (by rfl) N.n_list (by rfl) T.n_range (pa_cons (pe_callB call_len_seq (by rfl) T.n_len PySem.boot_len (pa_cons (pv 0) pa_nil)) (pa_cons pe_int (pa_cons (pe_un un_neg pe_int) pa_nil)))) (nomark _)) (pss_one (ps_ret pe_bl)) pss_nil)
      (pss_one (ps_ret (pe_cmpR op_notIn_seq pe_non (pe_lc2 (own := [("words", 1), ("word", 2)]) (vs1 := [2]) (g := gName 1) (tt := tYes) (g1 := gName 2) (tt1 := tYes) rfl sc_rows.nd (pi_list (pv 0)) (blkOk_by (own := [("words", 1), ("word", 2)]) (N := ["rows", "words", "word"]) (sc := defScope s_rows) (by decide +kernel)) (by decide)
            (fun _ _ _ _ _ => pg_name (i := 1) sc_rows.nd rfl (Or.inl rfl)) (fun _ _ _ _ _ => pts_nil) (fun _ _ _ _ _ => pi_listK (K := K) rfl (pv 1)) (fun _ _ _ _ _ => pg_name (i := 2) sc_rows.nd rfl (Or.inl rfl)) (fun _ _ _ _ _ => pts_nil) (fun _ _ _ _ _ => pe_call G1 (hr.mono (by decide)) (by rfl) d1.g d1.F.kp d1.b .nil pass0 (pa_cons (pv 2) pa_nil))) (by rfl))))), ?_⟩
    have lb : (blkW num b z).length = z - 1 := by
      unfold blkW
      rw [List.length_map, List.length_range]
    have lx : xs.length = z - 1 := (Paired.length pr).trans lb
    have gb : ∀ {i : Nat}, i < z - 1 → (blkW num b z)[i]? = some ((rowNs num b (i : Int) (z - 1 - i)).map intS) := fun {i} hi => by
      unfold blkW
      rw [List.getElem?_map, List.getElem?_range hi]
      rfl
    refine ⟨_, rfl, l, rfl, ⟨_, .inl (.inl el)⟩, fun L nL => ?_⟩
    refine lc_list (K := K) (a := l) (xs := xs) (fun i Y => Same H Y ∧ Y L = some (.lst (((List.range i).map fun (i : Nat) => ((z - 1 - i : Nat) : Int)).map V.int))) ⟨sub_same nL, upd_same⟩ (fun i Y _ h => .inl (.inl (h.1 _ _ el))) ?_ ?_
    · rintro i x Y hx ⟨sy, hl⟩
      obtain ⟨ws, ew, r, rfl, er⟩ := paired_get pr hx
      have il := (List.getElem?_eq_some_iff.mp hx).1
      rw [lx] at il
      rw [gb il] at ew
      obtain rfl := Option.some.inj ew
      refine ⟨rfl, yesT ⟨_, rfl, r, _, rfl, .inl (.inl (.inl (sy _ _ er))), _, hl, ?_, fun k ob e => ?_, ?_⟩⟩
      · rw [List.length_map, List.length_map, List.length_range, sizeLine_eq]
        omega
      · rw [upd_ne (fun z => by rw [z, nL] at e; cases e)]
        exact sy _ _ e
      · rw [upd_same, List.range_succ, List.map_append, List.map_append, List.length_map, List.length_map, rowNs_len]
        rfl
    · rintro Y ⟨sy, hl⟩
      rw [lx] at hl
      have dn : dnV ((xs.length : Nat) : Int) 0 = ((List.range (z - 1)).map fun (i : Nat) => ((z - 1 - i : Nat) : Int)).map V.int := by
        unfold dnV
        rw [List.map_map, lx, show (((z - 1 : Nat) : Int) - 0).toNat = z - 1 by omega]
        refine List.map_congr_left fun k hk => ?_
        rw [List.mem_range] at hk
        show V.int _ = V.int ((z - 1 - k : Nat) : Int)
        congr 1
        omega
      refine ⟨_, rfl, l, _, rfl, .inl (.inl (.inl (sy _ _ el))), _, rfl, _, 0, rfl, by omega, by omega, by omega, by omega, fun p np => ?_⟩
      rw [dn]
      have hl2 := sub_same (o := .lst (((List.range (z - 1)).map fun (i : Nat) => ((z - 1 - i : Nat) : Int)).map V.int)) np _ _ hl
      have s2 := sy.trans (sub_same (o := .lst (((List.range (z - 1)).map fun (i : Nat) => ((z - 1 - i : Nat) : Int)).map V.int)) np)
      refine ⟨_, _, .lst (.inl (.inl hl2)) (dp_ints K _ _), .lst (.inl (.inl upd_same)) (dp_ints K _ _), shaped_lints _, shaped_lints _, ?_⟩
      rw [eqv_lists, decide_eq_true rfl]
      refine ⟨_, rfl, ite2 (fun z => absurd z Bool.false_ne_true) (fun _ => ?_)⟩
      revert s2
      generalize upd Y p (.lst (((List.range (z - 1)).map fun (i : Nat) => ((z - 1 - i : Nat) : Int)).map V.int)) = Y2
      intro s2
      have el2 := s2 _ _ el
      refine ⟨_, rfl, l, rfl, ⟨_, .inl (.inl el2)⟩, fun D nD => ?_⟩
      refine it_gen (walk_list (K := K) (a := l) (xs := xs)) (fun i Z => Same Y2 Z ∧ ∃ ns : List Int, Z D = some (.lst (ns.map V.int)) ∧ ns.length ≤ 6 * i) ⟨sub_same nD, [], upd_same, Nat.le_refl _⟩ (fun i Z _ h => .inl (.inl (h.1 _ _ el2))) ?_ ?_
      · rintro i x Z _ hi ⟨sz, ns, hd, ln⟩ ⟨rfl, ex⟩
        obtain ⟨ws, ew, r, rfl, er⟩ := paired_get pr ex
        rw [lx] at hi
        rw [gb hi] at ew
        obtain rfl := Option.some.inj ew
        refine ⟨rfl, yesT ?_⟩
        have er2 := sz _ _ (s2 _ _ er)
        refine ⟨_, rfl, r, rfl, ⟨_, .inl (.inl er2)⟩, ?_⟩
        refine it_gen (walk_list (K := K) (a := r) (xs := ((rowNs num b (i : Int) (z - 1 - i)).map intS).map V.str)) (fun j Z => Same Y2 Z ∧ ∃ ns : List Int, Z D = some (.lst (ns.map V.int)) ∧ ns.length ≤ 6 * i + j) ⟨sz, ns, hd, ln⟩ (fun j Z _ h => .inl (.inl (h.1 _ _ (s2 _ _ er)))) ?_ ?_
        · rintro j x U _ hj ⟨su, ns2, hd2, ln2⟩ ⟨rfl, ex2⟩
          rw [List.length_map, List.length_map, rowNs_len] at hj
          have en : (rowNs num b (i : Int) (z - 1 - i))[j]? = some (num (b, (i : Int), ((i + 1 + j : Nat) : Int))) := by
            unfold rowNs
            rw [List.getElem?_map, List.getElem?_range hj]
            show some _ = some _
            congr 3
          have ex2 : (((rowNs num b (i : Int) (z - 1 - i)).map intS).map V.str)[j]? = some x := ex2
          rw [List.getElem?_map, List.getElem?_map, en] at ex2
          obtain rfl := Option.some.inj ex2
          have smj := sm i (i + 1 + j) (by omega) (by omega)
          refine ⟨rfl, yesT ⟨_, rfl, _, rfl, ?_, fun U2 s4 => ?_⟩⟩
          · exact Nat.le_trans (intS_le (sm_lo smj)) (by decide)
          · rw [rd_intS smj]
            refine ⟨_, s4 _ _ hd2, ?_, fun k ob e => ?_, ns2 ++ [num (b, (i : Int), ((i + 1 + j : Nat) : Int))], ?_, ?_⟩
            · rw [List.length_map, sizeLine_eq]
              omega
            · rw [upd_ne (fun z => by rw [z, nD] at e; cases e)]
              exact s4 _ _ (su _ _ e)
            · rw [upd_same, List.map_append]
              rfl
            · rw [List.length_append, List.length_singleton]
              omega
        · rintro U ⟨su, ns2, hd2, ln2⟩
          rw [List.length_map, List.length_map, rowNs_len] at ln2
          exact ⟨su, ns2, hd2, by omega⟩
      · rintro Z ⟨sz, ns, hd, ln⟩
        refine ⟨D, _, rfl, .inl (.inl (.inl hd)), rfl, flat_ints ns, ?_⟩
        rw [none_ints]
        exact q Z (s2.trans sz)
end
end K09

/-! # a text taken apart -/
namespace K09
open PySem PySem.Spec PyProof.Rows L2 TL NumText
/-- what is free stays so back in time -/
def Sub (B Z : Hp) : Prop := ∀ b, Z b = none → B b = none
theorem Sub.refl (B : Hp) : Sub B B := fun _ h => h
theorem Sub.trans {A B C : Hp} (x : Sub A B) (y : Sub B C) : Sub A C := fun b h => x b (y b h)
theorem Sub.upd (B : Hp) (p : Addr) (o : HO) : Sub B (upd B p o) := fun b h => by
  by_cases z : b = p
  · rw [z, upd_same] at h
    cases h
  · rwa [upd_ne z] at h
theorem Sub.of {B Z : Hp} (s : Same B Z) : Sub B Z := fun b h => s.free h
/-- new since B -/
def WdsN (B H : Hp) (x : V) (ws : List Str) : Prop := ∃ r, x = .ref r ∧ B r = none ∧ H r = some (.lst (ws.map V.str))
def BlkN (B H : Hp) (x : V) (wss : List (List Str)) : Prop := ∃ l xs, x = .ref l ∧ B l = none ∧ H l = some (.lst xs) ∧ Paired (WdsN B H) xs wss
theorem WdsN.put {B H : Hp} {x : V} {ws : List Str} {D : Addr} {y : HO} (h : WdsN B H x ws) (hD : B D ≠ none) : WdsN B (upd H D y) x ws := let ⟨r, e, n, z⟩ := h; ⟨r, e, n, (upd_ne fun q => hD (by rw [← q]; exact n)).trans z⟩
theorem WdsN.same {B H H' : Hp} {x : V} {ws : List Str} (h : WdsN B H x ws) (s : Same H H') : WdsN B H' x ws := let ⟨r, e, n, z⟩ := h; ⟨r, e, n, s _ _ z⟩
theorem WdsN.since {A B H : Hp} {x : V} {ws : List Str} (h : WdsN B H x ws) (s : Sub A B) : WdsN A H x ws := let ⟨r, e, n, z⟩ := h; ⟨r, e, s _ n, z⟩
theorem BlkN.put {B H : Hp} {x : V} {wss : List (List Str)} {D : Addr} {y : HO} (h : BlkN B H x wss) (hD : B D ≠ none) : BlkN B (upd H D y) x wss := let ⟨l, xs, e, n, z, p⟩ := h; ⟨l, xs, e, n, (upd_ne fun q => hD (by rw [← q]; exact n)).trans z, pmap (fun _ _ w => w.put hD) p⟩
theorem BlkN.same {B H H' : Hp} {x : V} {wss : List (List Str)} (h : BlkN B H x wss) (s : Same H H') : BlkN B H' x wss := let ⟨l, xs, e, n, z, p⟩ := h; ⟨l, xs, e, n, s _ _ z, pmap (fun _ _ w => w.same s) p⟩
theorem BlkN.old {B H : Hp} {x : V} {wss : List (List Str)} (h : BlkN B H x wss) : BlkL H x wss := let ⟨l, xs, e, _, z, p⟩ := h; ⟨l, xs, e, z, pmap (fun _ _ ⟨r, e, _, z⟩ => ⟨r, e, z⟩) p⟩
theorem psnoc {α β : Type} {F : α → β → Prop} {x : α} {y : β} (h : F x y) : ∀ {xs : List α} {ys : List β}, Paired F xs ys → Paired F (xs ++ [x]) (ys ++ [y])
  | _, _, .nil => .cons h .nil
  | _, _, .cons a t => .cons a (psnoc h t)
/-! ### the texts, split -/
theorem row_split {num : Tri → Int} {b i : Int} {k : Nat} (hk : 1 ≤ k) : Txt.split (rowS num b i k) " " = (rowNs num b i k).map intS := by
  have ey : tl (" " : Str) = 32 :: [] := by decide +kernel
  refine split_join ey (by decide +kernel) (fun z => ?_) fun p hp => ?_
  · have l := congrArg List.length z
    rw [List.length_map, rowNs_len] at l
    rw [l] at hk
    exact absurd hk (by decide)
  · obtain ⟨x, _, rfl⟩ := List.mem_map.mp hp
    rw [show tl (intS x) = intL x from tl_int x]
    exact intL_free (by omega)
theorem free_join {c : Nat} {y : Str} {ps : List Str} (hy : c ∉ tl y) (h : ∀ p ∈ ps, c ∉ tl p) : c ∉ tl (Txt.join y ps) := by
  rw [join_eq, tl_join]
  have go : ∀ qs : List (List Nat), (∀ q ∈ qs, c ∉ q) → c ∉ joinL (tl y) qs := fun qs => by
    induction qs with
    | nil => exact fun _ m => by cases m
    | cons q r ih =>
      intro h m
      cases r with
      | nil => exact h q (List.mem_cons_self ..) m
      | cons a r =>
        have m : c ∈ q ++ (tl y ++ joinL (tl y) (a :: r)) := m
        rcases List.mem_append.mp m with m | m
        · exact h q (List.mem_cons_self ..) m
        · rcases List.mem_append.mp m with m | m
          · exact hy m
          · exact ih (fun p hp => h p (List.mem_cons_of_mem _ hp)) m
  refine go _ fun q hq => ?_
  obtain ⟨p, hp, rfl⟩ := List.mem_map.mp hq
  exact h p hp
theorem row_free {num : Tri → Int} {b i : Int} {k c : Nat} (hc : c = 47 ∨ c = 59) : c ∉ tl (rowS num b i k) := by
  refine free_join ?_ fun p hp => ?_
  · rw [show tl (" " : Str) = [32] by decide +kernel, List.mem_singleton]
    omega
  · obtain ⟨x, _, rfl⟩ := List.mem_map.mp hp
    rw [show tl (intS x) = intL x from tl_int x]
    exact intL_free (by omega)
theorem blk_split {num : Tri → Int} {b : Int} {s : Nat} (hs : 2 ≤ s) : Txt.split (blkS num b s) "/" = (List.range (s - 1)).map fun (i : Nat) => rowS num b (i : Int) (s - 1 - i) := by
  have ey : tl ("/" : Str) = 47 :: [] := by decide +kernel
  refine split_join ey (by decide +kernel) (fun z => ?_) fun p hp => ?_
  · have l := congrArg List.length z
    rw [List.length_map, List.length_range] at l
    have l : s - 1 = 0 := l
    omega
  · obtain ⟨x, _, rfl⟩ := List.mem_map.mp hp
    exact row_free (.inl rfl)
theorem blk_free {num : Tri → Int} {b : Int} {s : Nat} : 59 ∉ tl (blkS num b s) := by
  refine free_join ?_ fun p hp => ?_
  · rw [show tl ("/" : Str) = [47] by decide +kernel, List.mem_singleton]
    decide
  · obtain ⟨x, _, rfl⟩ := List.mem_map.mp hp
    exact row_free (.inr rfl)
theorem stair_split {num : Tri → Int} {ns : List Int} (h : 1 ≤ ns.length) : Txt.split (stairS num ns) "; " = (List.range ns.length).map fun (b : Nat) => blkS num (b : Int) (ns.getD b 0).toNat := by
  have ey : tl ("; " : Str) = 59 :: [32] := by decide +kernel
  refine split_join ey (by decide +kernel) (fun z => ?_) fun p hp => ?_
  · have l := congrArg List.length z
    rw [List.length_map, List.length_range] at l
    have l : ns.length = 0 := l
    omega
  · obtain ⟨x, _, rfl⟩ := List.mem_map.mp hp
    exact blk_free
/-- the words of all blocks -/
def stairW (num : Tri → Int) (ns : List Int) : List (List (List Str)) := (List.range ns.length).map fun (b : Nat) => blkW num (b : Int) (ns.getD b 0).toNat
theorem lo_rows {num : Tri → Int} {ns : List Int} (S : Shp ns) (lo : LoN num ns) {b : Nat} (hb : b < ns.length) {i : Nat} : ∀ x ∈ rowNs num (b : Int) (i : Int) ((ns.getD b 0).toNat - 1 - i), Lo x := fun x hx => by
  unfold rowNs at hx
  obtain ⟨c, hc, rfl⟩ := List.mem_map.mp hx
  rw [List.mem_range] at hc
  have z := lo _ (mem_pl S (b := b) (i := i) (j := i + 1 + c) hb (by omega) (by omega))
  have e : ((i + 1 + c : Nat) : Int) = (i : Int) + 1 + (c : Int) := by omega
  rw [e] at z
  exact z
theorem stairS_le {num : Tri → Int} {ns : List Int} (S : Shp ns) (lo : LoN num ns) : (stairS num ns).length ≤ 30000 := by
  have z := (join_le (y := "; ") (ps := (List.range ns.length).map fun (b : Nat) => blkS num (b : Int) (ns.getD b 0).toNat) (m := 8000) (n := 3) (d := 2) (fun p hp => by
    obtain ⟨b, hb, rfl⟩ := List.mem_map.mp hp
    rw [List.mem_range] at hb
    have gd : ns.getD b 0 = ns[b] := by rw [List.getD_eq_getElem?_getD, List.getElem?_eq_getElem hb]; rfl
    have z6 := S.2.1 _ (List.getElem_mem hb)
    exact blkS_le (fun i => lo_rows S lo hb) (by rw [gd]; omega)) (by rw [List.length_map, List.length_range]; exact S.1.2) (by decide +kernel)).1
  exact Nat.le_trans z (by decide)
section
variable {P : Program} {w : World} {K : PySem.W.Frag} {mg : Str → Option Value} {base : Heap} {C CS TL : Addr}
abbrev s_blks : Stmt := topS 49
theorem sc_blks : FnScope ["text", "block", "row"] ["text"] (defScope s_blks) := ⟨rfl, rfl, rfl, by decide +kernel, rfl, by decide +kernel, by decide +kernel⟩
def spBlks (K : PySem.W.Frag) : Sp := fun vs H Q _ => ∃ (num : Tri → Int) (ns : List Int), vs = [.str (stairS num ns)] ∧ Shp ns ∧ LoN num ns ∧ ∀ H' y, Same H H' → BlksL H' y (stairW num ns) → Q y H'
theorem ok_blks {f : Addr} {fd : FuncData} {k : Nat} (d : D K mg "blocks_of" s_blks ["text"] f fd) : FnOk P w K mg base CX0 (k + 1) f fd ["text"] (spBlks K) := by
  refine d.F.ok sc_blks (fun vs H Q E h => ?_) (fun cdv A outer s H vs Q E hr h => ?_)
  · obtain ⟨num, ns, rfl, _⟩ := h
    rfl
  · obtain ⟨num, ns, rfl, S, lo, q⟩ := h
    refine ⟨_, (pss_one (ps_ret (pe_lc (own := [("block", 1)]) (g := gName 1) (tt := tYes) rfl sc_blks.nd (pi_list (pe_split (pv 0) pe_str)) (blkOk_by (own := [("block", 1)]) (N := ["text", "block", "row"]) (sc := defScope s_blks) (by decide +kernel))
            (fun _ _ _ _ _ => (pg_name (i := 1) sc_blks.nd rfl (Or.inl rfl))) (fun _ _ _ _ _ => pts_nil) (fun _ _ _ _ _ => (pe_lc (own := [("row", 2)]) (g := gName 2) (tt := tYes) rfl sc_blks.nd (pi_listK (K := K) rfl (pe_split (pv 1) pe_str)) (blkOk_by (own := [("row", 2)]) (N := ["text", "block", "row"]) (sc := relS _ (defScope s_blks)) (by decide +kernel))
            (fun _ _ _ _ _ => (pg_name (i := 2) sc_blks.nd rfl (Or.inl rfl))) (fun _ _ _ _ _ => pts_nil) (fun _ _ _ _ _ => (pe_split (pv 2) pe_str))))))), ?_⟩
    have sl := stairS_le S lo
    have b3 := S.1.2
    refine ⟨_, rfl, ⟨_, rfl⟩, _, _, rfl, rfl, (by decide +kernel), by rw [sizeLine_eq]; omega, fun p np => ?_⟩
    rw [stair_split S.1.1]
    have s1 := sub_same (o := .lst (((List.range ns.length).map fun (b : Nat) => blkS num (b : Int) (ns.getD b 0).toNat).map V.str)) np
    have e1 : upd H p (.lst (((List.range ns.length).map fun (b : Nat) => blkS num (b : Int) (ns.getD b 0).toNat).map V.str)) p = some (.lst (((List.range ns.length).map fun (b : Nat) => blkS num (b : Int) (ns.getD b 0).toNat).map V.str)) := upd_same
    revert s1 e1
    generalize upd H p (.lst (((List.range ns.length).map fun (b : Nat) => blkS num (b : Int) (ns.getD b 0).toNat).map V.str)) = H1
    intro s1 e1
    have lw : (stairW num ns).length = ns.length := by
      unfold stairW
      rw [List.length_map, List.length_range]
    refine ⟨p, rfl, ⟨_, .inl (.inl e1)⟩, fun D nD => ?_⟩
    have bD : upd H1 D (.lst []) D ≠ none := by
      rw [upd_same]
      intro z
      cases z
    refine lc_list (K := K) (a := p) (xs := ((List.range ns.length).map fun (b : Nat) => blkS num (b : Int) (ns.getD b 0).toNat).map V.str) (fun i Y => Same H1 Y ∧ Sub (upd H1 D (.lst [])) Y ∧ ∃ acc, Y D = some (.lst acc) ∧ Paired (BlkN (upd H1 D (.lst [])) Y) acc ((stairW num ns).take i))
      ⟨sub_same nD, Sub.refl _, [], upd_same, .nil⟩ (fun i Y _ h => .inl (.inl (h.1 _ _ e1))) ?_ ?_
    · generalize hB : upd H1 D (.lst []) = B0 at bD
      rintro i x Y hx ⟨sy, sb, acc, hd, pr⟩
      have il := (List.getElem?_eq_some_iff.mp hx).1
      rw [List.length_map, List.length_map, List.length_range] at il
      rw [List.getElem?_map, List.getElem?_map, List.getElem?_range il] at hx
      have hx : some (V.str (blkS num ((i : Nat) : Int) (ns.getD i 0).toNat)) = some x := hx
      obtain rfl := Option.some.inj hx
      have gd : ns.getD i 0 = ns[i] := by rw [List.getD_eq_getElem?_getD, List.getElem?_eq_getElem il]; rfl
      have z6 := S.2.1 _ (List.getElem_mem il)
      rw [← gd] at z6
      have wi : (stairW num ns)[i]? = some (blkW num (i : Int) (ns.getD i 0).toNat) := by
        unfold stairW
        rw [List.getElem?_map, List.getElem?_range il]
        rfl
      have lor : ∀ {j : Nat}, ∀ x ∈ rowNs num (i : Int) (j : Int) ((ns.getD i 0).toNat - 1 - j), Lo x := lo_rows S lo il
      have two : 2 ≤ (ns.getD i 0).toNat := by omega
      have six : (ns.getD i 0).toNat ≤ 6 := by omega
      revert wi lor two six
      generalize (ns.getD i 0).toNat = z
      intro wi lor two six
      have lb : (blkW num (i : Int) z).length = z - 1 := by
        unfold blkW
        rw [List.length_map, List.length_range]
      refine ⟨rfl, yesT ?_⟩
      refine ⟨_, rfl, ⟨_, rfl⟩, _, _, rfl, rfl, (by decide +kernel), ?_, fun p2 np2 => ?_⟩
      · have := blkS_le (num := num) (b := (i : Int)) (s := z) (fun j => lor) six
        rw [sizeLine_eq]
        omega
      rw [blk_split two]
      have s2 := sub_same (o := .lst (((List.range (z - 1)).map fun (j : Nat) => rowS num (i : Int) (j : Int) (z - 1 - j)).map V.str)) np2
      have b2 := sb.trans (Sub.upd Y p2 (.lst (((List.range (z - 1)).map fun (j : Nat) => rowS num (i : Int) (j : Int) (z - 1 - j)).map V.str)))
      have e2 : upd Y p2 (.lst (((List.range (z - 1)).map fun (j : Nat) => rowS num (i : Int) (j : Int) (z - 1 - j)).map V.str)) p2 = some (.lst (((List.range (z - 1)).map fun (j : Nat) => rowS num (i : Int) (j : Int) (z - 1 - j)).map V.str)) := upd_same
      revert s2 b2 e2
      generalize upd Y p2 (.lst (((List.range (z - 1)).map fun (j : Nat) => rowS num (i : Int) (j : Int) (z - 1 - j)).map V.str)) = Y2
      intro s2 b2 e2
      refine ⟨p2, rfl, ⟨_, .inl (.inl e2)⟩, fun L nL => ?_⟩
      have bL : upd Y2 L (.lst []) L ≠ none := by
        rw [upd_same]
        intro z
        cases z
      have b3' := b2.trans (Sub.upd Y2 L (.lst []))
      have nBL : B0 L = none := b2 _ nL
      refine lc_list (K := K) (a := p2) (xs := ((List.range (z - 1)).map fun (j : Nat) => rowS num (i : Int) (j : Int) (z - 1 - j)).map V.str) (fun j U => Same Y2 U ∧ Sub (upd Y2 L (.lst [])) U ∧ ∃ acc2, U L = some (.lst acc2) ∧ Paired (WdsN (upd Y2 L (.lst [])) U) acc2 ((blkW num (i : Int) z).take j))
        ⟨sub_same nL, Sub.refl _, [], upd_same, .nil⟩ (fun j U _ h => .inl (.inl (h.1 _ _ e2))) ?_ ?_
      · generalize upd Y2 L (.lst []) = B2 at bL b3'
        rintro j x U hx ⟨su, sbu, acc2, hl, pr2⟩
        have jl := (List.getElem?_eq_some_iff.mp hx).1
        rw [List.length_map, List.length_map, List.length_range] at jl
        rw [List.getElem?_map, List.getElem?_map, List.getElem?_range jl] at hx
        have hx : some (V.str (rowS num ((i : Nat) : Int) ((j : Nat) : Int) (z - 1 - j))) = some x := hx
        obtain rfl := Option.some.inj hx
        have wj : (blkW num (i : Int) z)[j]? = some ((rowNs num (i : Int) (j : Int) (z - 1 - j)).map intS) := by
          unfold blkW
          rw [List.getElem?_map, List.getElem?_range jl]
          rfl
        refine ⟨rfl, yesT ?_⟩
        refine ⟨_, rfl, ⟨_, rfl⟩, _, _, rfl, rfl, (by decide +kernel), ?_, fun p3 np3 => ?_⟩
        · have := rowS_le (num := num) (b := (i : Int)) (i := (j : Int)) (k := z - 1 - j) lor (by omega)
          rw [sizeLine_eq]
          omega
        rw [row_split (by omega)]
        have s3 := sub_same (o := .lst (((rowNs num (i : Int) (j : Int) (z - 1 - j)).map intS).map V.str)) np3
        have new : WdsN B2 (upd U p3 (.lst (((rowNs num (i : Int) (j : Int) (z - 1 - j)).map intS).map V.str))) (.ref p3) ((rowNs num (i : Int) (j : Int) (z - 1 - j)).map intS) := ⟨p3, rfl, sbu _ np3, upd_same⟩
        have l2 := Paired.length pr2
        rw [List.length_take] at l2
        refine ⟨acc2, s3 _ _ hl, ?_, fun k ob e => ?_, (sbu.trans (Sub.upd U p3 _)).trans (Sub.upd _ L _), _, upd_same, ?_⟩
        · rw [sizeLine_eq]
          omega
        · rw [upd_ne (fun z => by rw [z, nL] at e; cases e)]
          exact s3 _ _ (su _ _ e)
        · rw [List.take_succ, wj]
          exact psnoc (new.put bL) (pmap (fun _ _ w => (w.same s3).put bL) pr2)
      · rintro U ⟨su, sbu, acc2, hl, pr2⟩
        rw [List.length_map, List.length_map, List.length_range, ← lb, List.take_length] at pr2
        have new : BlkN B0 U (.ref L) (blkW num (i : Int) z) := ⟨L, acc2, rfl, nBL, hl, pmap (fun _ _ w => w.since b3') pr2⟩
        have l2 := Paired.length pr
        rw [List.length_take] at l2
        refine ⟨acc, su _ _ (s2 _ _ hd), ?_, fun k ob e => ?_, ((b3'.trans sbu).trans (Sub.upd U D _)), _, upd_same, ?_⟩
        · rw [sizeLine_eq]
          omega
        · rw [upd_ne (fun z => by rw [z, nD] at e; cases e)]
          exact su _ _ (s2 _ _ (sy _ _ e))
        · rw [List.take_succ, wi]
          exact psnoc (new.put bD) (pmap (fun _ _ w => ((w.same s2).same su).put bD) pr)
    · rintro Y ⟨sy, sb, acc, hd, pr⟩
      rw [List.length_map, List.length_map, List.length_range, ← lw, List.take_length] at pr
      exact q Y _ (s1.trans sy) ⟨D, acc, rfl, hd, pmap (fun _ _ w => w.old) pr⟩
end
end K09

/-! # stairs read -/
namespace K09
open PySem PySem.Spec PyProof.Rows L2 TL NumText
theorem ix_listK {X : Cx} {K : PySem.W.Frag} (h : X.K = K) : IxR X (rIxL K) := by
  rw [← h]
  exact ix_list
section
variable {P : Program} {w : World} {K : PySem.W.Frag} {mg : Str → Option Value} {base : Heap} {C CS TL : Addr}
theorem BlksL.same {H H' : Hp} {x : V} {bss : List (List (List Str))} (h : BlksL H x bss) (s : Same H H') : BlksL H' x bss := let ⟨l, xs, e, z, p⟩ := h; ⟨l, xs, e, s _ _ z, pmap (fun _ _ w => w.same s) p⟩
theorem paired_get2 {α β : Type} {G : α → β → Prop} : ∀ {l₁ : List α} {l₂ : List β}, Paired G l₁ l₂ → ∀ {i : Nat} {b : β}, l₂[i]? = some b → ∃ a, l₁[i]? = some a ∧ G a b
  | _, _, .nil, i, b, h => by cases h
  | _, _, .cons r t, 0, b, h => by
    obtain rfl := Option.some.inj h
    exact ⟨_, rfl, r⟩
  | _, _, .cons r t, i + 1, b, h => paired_get2 t (i := i) h
abbrev s_eof : Stmt := topS 50
theorem sc_eof : FnScope ["shape", "blocks", "b", "i", "j"] ["shape", "blocks"] (defScope s_eof) := ⟨rfl, rfl, rfl, by decide +kernel, rfl, by decide +kernel, by decide +kernel⟩
def spEof (K : PySem.W.Frag) : Sp := fun vs H Q _ => ∃ (sh : Addr) (v : V) (num : Tri → Int) (ns : List Int), vs = [.ref sh, v] ∧ SqT K H sh (ns.map V.int) ∧ BlksL H v (stairW num ns) ∧ Shp ns ∧ SmN num ns ∧ ∀ H' D, Same H H' → H D = none → H' D = some (.dT (dictO (pl ns) num)) → Q (.ref D) H'
theorem ok_eof {f f1 f2 : Addr} {fd fd1 fd2 : FuncData} (d : D K mg "entries_of" s_eof ["shape", "blocks"] f fd) (d1 : D K mg "places" s_places ["shape"] f1 fd1) (G1 : FnOk P w K mg base (L2.CX P w) 5 f1 fd1 ["shape"] (spPlaces K CS))
    (d2 : D K mg "read_integer" s_read_integer ["text"] f2 fd2) (G2 : FnOk P w K mg base CX0 1 f2 fd2 ["text"] spRead) : FnOk P w K mg base CX0 6 f fd ["shape", "blocks"] (spEof K) := by
  refine d.F.ok sc_eof (fun vs H Q E h => ?_) (fun cdv A outer s H vs Q E hr h => ?_)
  · obtain ⟨sh, v, num, ns, rfl, _⟩ := h
    rfl
  · obtain ⟨sh, v, num, ns, rfl, es, bl, S, sm, q⟩ := h
    have un : (A.deeper (envOfC "entries_of" (defScope s_eof) s.heap.objs.size f cdv)).units + 1 < cLine := by have := hr.un; omega
    refine ⟨_, (pss_one (ps_ret (pe_dcT (own := [("b", 2), ("i", 3), ("j", 4)]) (g := gTup K 3 (gCons (gName 2) (gCons (gName 3) (gCons (gName 4) gNil)))) (tt := tYes) rfl un sc_eof.nd (pi_tup (pe_call (E := fun _ _ _ => False) G1 (hr.mono (by decide)) (by rfl) d1.g d1.F.kp d1.b .nil passF (pa_cons (pv 0) pa_nil))) (blkOk_by (own := [("b", 2), ("i", 3), ("j", 4)]) (N := ["shape", "blocks", "b", "i", "j"]) (sc := defScope s_eof) (by decide +kernel))
            (fun _ _ _ _ _ => (pg_tup rfl (pgs_cons (pg_name (i := 2) sc_eof.nd rfl (Or.inl rfl)) (pgs_cons (pg_name (i := 3) sc_eof.nd rfl (Or.inl rfl)) (pgs_cons (pg_name (i := 4) sc_eof.nd rfl (Or.inl rfl)) pgs_nil))))) (fun _ _ _ _ _ => pts_nil) (fun _ _ _ _ _ => (pe_tup (pa_cons (pv 2) (pa_cons (pv 3) (pa_cons (pv 4) pa_nil))))) (fun _ _ _ _ _ => (pe_call G2 (hr.mono (by decide)) (by rfl) d2.g d2.F.kp d2.b .nil pass0 (pa_cons (pe_ix (ix_listK (K := K) rfl) (pe_ix (ix_listK (K := K) rfl) (pe_ix (ix_listK (K := K) rfl) (pv 1) (pv 2) (fun _ _ => rfl)) (pv 3) (fun _ _ => rfl)) (pe_op op_sub (pe_op op_sub (pv 4) (pv 3)) pe_int) (fun _ _ => rfl)) pa_nil)))))), ?_⟩
    obtain ⟨l, bs, rfl, el, pb⟩ := id bl
    have b3 := S.1.2
    refine ⟨_, rfl, _, .tuple (ns.map .int), rfl, .tv (.tup es (tvl_ints ns)), fun ns' en S' H5 y s5 ty => ?_, fun z => absurd (shp_is S) (by rw [z]; decide)⟩
    obtain rfl : ns' = ns := (ints_inj (PyData.tuple.inj en)).symm
    obtain ⟨o, ys, rfl, eo, tl3⟩ := ty
    have ly : ys.length = (pl ns').length := tl3.len
    have M := tables3 ns' (shp_mem S)
    refine ⟨o, rfl, ⟨ys, .inl (.inl eo)⟩, fun D nD => ?_⟩
    refine dcT_it (walk_tup (K := K) (a := o) (xs := ys)) (fun i Z => Same H5 Z ∧ Z D = some (.dT (dictO ((pl ns').take i) num))) ⟨sub_same nD, upd_same⟩ (fun i Z _ h => sqt_same (sqt_new eo) h.1) ?_ ?_
    · rintro i x Y _ hi ⟨sy, hd⟩ ⟨rfl, ex⟩
      obtain ⟨t, c, et, rfl, ec⟩ := tl3.tri ex
      have mt : t ∈ pl ns' := List.mem_of_getElem? et
      obtain ⟨tb, ti, tj, et2, hb, hij, hj⟩ := pl_mem S mt
      have dsn := dictO_snoc (num := num) (not_take M.1 et)
      have tks : (pl ns').take (i + 1) = (pl ns').take i ++ [t] := by rw [List.take_succ, et]; rfl
      have smt := sm t mt
      rw [tks]
      rw [et2] at dsn ec smt ⊢
      have gd : ns'.getD tb 0 = ns'[tb] := by rw [List.getD_eq_getElem?_getD, List.getElem?_eq_getElem hb]; rfl
      have z6 := S.2.1 _ (List.getElem_mem hb)
      have wi : (stairW num ns')[tb]? = some (blkW num (tb : Int) (ns'.getD tb 0).toNat) := by
        unfold stairW
        rw [List.getElem?_map, List.getElem?_range hb]
        rfl
      obtain ⟨bv, ebv, bo, rs, rfl, ebo, pr⟩ := paired_get2 pb wi
      have hz : tj < (ns'.getD tb 0).toNat := by omega
      revert wi pr hz
      generalize (ns'.getD tb 0).toNat = z
      intro wi pr hz
      have wj : (blkW num (tb : Int) z)[ti]? = some ((rowNs num (tb : Int) (ti : Int) (z - 1 - ti)).map intS) := by
        unfold blkW
        rw [List.getElem?_map, List.getElem?_range (by omega)]
        rfl
      obtain ⟨rv, erv, ro, rfl, ero⟩ := paired_get2 pr wj
      have enk : (((rowNs num (tb : Int) (ti : Int) (z - 1 - ti)).map intS).map V.str)[tj - ti - 1]? = some (V.str (intS (num (((tb : Nat) : Int), ((ti : Nat) : Int), ((tj : Nat) : Int))))) := by
        unfold rowNs
        rw [List.getElem?_map, List.getElem?_map, List.getElem?_map, List.getElem?_range (by omega)]
        have e : (ti : Int) + 1 + ((tj - ti - 1 : Nat) : Int) = (tj : Int) := by omega
        show some (V.str (intS (num ((tb : Int), (ti : Int), (ti : Int) + 1 + ((tj - ti - 1 : Nat) : Int))))) = _
        rw [e]
      refine ⟨c, _, rfl, .inl (.inl (sy _ _ ec)), rfl, _, _, rfl, _, _, rfl, _, _, rfl, rfl, rfl, yesT ?_⟩
      refine ⟨_, rfl, _, rfl, _, rfl, (by show 3 ≤ sizeLine; decide), fun p3 n3 => ?_⟩
      have s6 := sub_same (o := .tup [V.int ((tb : Nat) : Int), V.int ((ti : Nat) : Int), V.int ((tj : Nat) : Int)]) n3
      have sA := (s5.trans sy).trans s6
      refine ⟨_, rfl, _, rfl, l, _, tb, _, rfl, rfl, .inl (.inl (sA _ _ el)), atI_nat ebv, _, rfl, bo, _, ti, _, rfl, rfl, .inl (.inl (sA _ _ ebo)), atI_nat erv, _, rfl, _, rfl, _, _, rfl, rfl, _, _, rfl, rfl, ?_⟩
      refine ⟨ro, _, ((tj - ti - 1 : Nat) : Int), _, rfl, ?_, .inl (.inl (sA _ _ ero)), atI_nat enk, ?_⟩
      · show V.int ((tj : Int) - (ti : Int) - 1) = _
        congr 1
        omega
      refine ⟨_, rfl, Nat.le_trans (intS_le (sm_lo smt)) (by decide), fun U sU => ?_⟩
      rw [rd_intS smt]
      refine ⟨_, triK (((tb : Nat) : Int), ((ti : Nat) : Int), ((tj : Nat) : Int)), p3, rfl, sU _ _ upd_same, sU _ _ (s6 _ _ hd), ?_, fun b ob eb => ?_, ?_⟩
      · unfold dictO
        rw [List.length_map, List.length_take, sizeLine_eq]
        omega
      · rw [upd_ne (fun z => by rw [z, nD] at eb; cases eb)]
        exact sU _ _ (s6 _ _ (sy _ _ eb))
      · rw [upd_same]
        exact congrArg (fun z => some (HO.dT z)) dsn
    · rintro Y ⟨sy, hd⟩
      rw [ly, List.take_length] at hd
      exact q Y D (s5.trans sy) (s5.free nD) hd
theorem smN_lo {num : Tri → Int} {ns : List Int} (h : SmN num ns) : LoN num ns := fun t m => sm_lo (h t m)
abbrev s_read : Stmt := inClass (topS 42) 4
theorem sc_read : FnScope ["cls", "text", "blocks", "shape", "rows"] ["cls", "text"] (defScope s_read) := ⟨rfl, rfl, rfl, by decide +kernel, rfl, by decide +kernel, by decide +kernel⟩
def spReadS (K : PySem.W.Frag) (C : Addr) : Sp := fun vs H Q _ => ∃ (num : Tri → Int) (ns : List Int), vs = [.ref C, .str (stairS num ns)] ∧ Shp ns ∧ SmN num ns ∧ ∀ H' c, Same H H' → StairO K H' c C ns (numsL num ns) → Q (.ref c) H'
theorem ok_readS {f f1 f2 f3 f4 fI : Addr} {fd fd1 fd2 fd3 fd4 fdI : FuncData} (T : Txt mg) (N : Nam mg) (d : M K "read" "Stair.read" s_read ["cls", "text"] f fd) (d1 : D K mg "blocks_of" s_blks ["text"] f1 fd1) (G1 : FnOk P w K mg base CX0 1 f1 fd1 ["text"] (spBlks K))
    (d2 : D K mg "is_shape" s_is_shape ["value"] f2 fd2) (G2 : FnOk P w K mg base CX0 3 f2 fd2 ["value"] (spShape K)) (d3 : D K mg "are_rows" s_rows ["rows"] f3 fd3) (G3 : FnOk P w K mg base CX0 2 f3 fd3 ["rows"] (spRows K))
    (d4 : D K mg "entries_of" s_eof ["shape", "blocks"] f4 fd4) (G4 : FnOk P w K mg base CX0 6 f4 fd4 ["shape", "blocks"] (spEof K)) (mk : Mk K C fI) (GI : FnOk P w K mg base CX0 7 fI fdI ["self", "shape", "entries"] (spInit K C)) (bI : Binds K fdI ["self", "shape", "entries"] []) :
    FnOk P w K mg base CX0 9 f fd ["cls", "text"] (spReadS K C) := by
  refine d.F.ok sc_read (fun vs H Q E h => ?_) (fun cdv A outer s H vs Q E hr h => ?_)
  · obtain ⟨num, ns, rfl, _⟩ := h
    rfl
  · obtain ⟨num, ns, rfl, S, sm, q⟩ := h
    refine ⟨_, (pss_cons (ps_set (i := 2) sc_read.nd rfl (.inl rfl) (pe_ifExp (pt_val (pe_callB call_isi (by rfl) T.n_isinstance (by decide +kernel) (pa_cons (pv 1) (pa_cons (pe_bltn (v := .ty "str") (by rfl) N.n_str (by decide +kernel) rfl) pa_nil)))) (pe_call G1 (hr.mono (by decide)) (by rfl) d1.g d1.F.kp d1.b .nil pass0 (pa_cons (pv 1) pa_nil)) (pe_lst pa_nil)))
      (pss_cons (ps_set (i := 3) sc_read.nd rfl (.inl rfl) (pe_tupleOf (by rfl) T.n_tuple (pe_lc (own := [("rows", 4)]) (g := gName 4) (tt := tYes) rfl sc_read.nd (pi_list (pv 2)) (blkOk_by (own := [("rows", 4)]) (N := ["cls", "text", "blocks", "shape", "rows"]) (sc := defScope s_read) (by decide +kernel))
            (fun _ _ _ _ _ => (pg_name (i := 4) sc_read.nd rfl (Or.inl rfl))) (fun _ _ _ _ _ => pts_nil) (fun _ _ _ _ _ => (pe_op op_add (pe_callB (call_len_seqK (K := K) rfl) (by rfl) T.n_len PySem.boot_len (pa_cons (pv 4) pa_nil)) pe_int)))))
      (pss_cons (ps_if (PW.pt (pw_or (pt_not (pt_val (pe_call G2 (hr.mono (by decide)) (by rfl) d2.g d2.F.kp d2.b .nil pass0 (pa_cons (pv 3) pa_nil)))) (pw_or1 (pt_not (pt_val (pe_callB (cr_all rfl) (by rfl) N.n_all (by decide +kernel) (pa_cons (pe_lc (own := [("rows", 4)]) (g := gName 4) (tt := tYes) rfl sc_read.nd (pi_list (pv 2)) (blkOk_by (own := [("rows", 4)]) (N := ["cls", "text", "blocks", "shape", "rows"]) (sc := defScope s_read) (by decide +kernel))
            (fun _ _ _ _ _ => (pg_name (i := 4) sc_read.nd rfl (Or.inl rfl))) (fun _ _ _ _ _ => pts_nil) (fun _ _ _ _ _ => (pe_call G3 (hr.mono (by decide)) (by rfl) d3.g d3.F.kp d3.b .nil pass0 (pa_cons (pv 4) pa_nil)))) pa_nil))))))) dead pss_nil)
      (pss_one (ps_ret (pe_makeL mk GI hr bI .nil pass0 (pv 0) (pa_cons (pv 3) (pa_cons (pe_call G4 (hr.mono (by decide)) (by rfl) d4.g d4.F.kp d4.b .nil pass0 (pa_cons (pv 3) (pa_cons (pv 2) pa_nil))) pa_nil)))))))), ?_⟩
    have b3 := S.1.2
    have lw : (stairW num ns).length = ns.length := by
      unfold stairW
      rw [List.length_map, List.length_range]
    refine ⟨_, rfl, _, _, _, _, _, rfl, .ty _, (Dw.tv (.str (stairS num ns)) : Dw K H _ _).ty, kit_ty (show kitB "str" "str" = some true by decide +kernel), _, rfl, iteT ?_⟩
    refine ⟨_, rfl, num, ns, rfl, S, smN_lo sm, fun H1 y s1 bl => ?_⟩
    obtain ⟨l, bs, rfl, el, pb⟩ := id bl
    have lx : bs.length = ns.length := (Paired.length pb).trans lw
    have zi : ∀ {i : Nat}, i < ns.length → ∃ z : Nat, ns[i]? = some (z : Int) ∧ (stairW num ns)[i]? = some (blkW num (i : Int) z) ∧ 2 ≤ z ∧ z ≤ 6 ∧ ns.getD i 0 = (z : Int) := fun {i} hi => by
      have gd : ns.getD i 0 = ns[i] := by rw [List.getD_eq_getElem?_getD, List.getElem?_eq_getElem hi]; rfl
      have z6 := S.2.1 _ (List.getElem_mem hi)
      refine ⟨ns[i].toNat, by rw [List.getElem?_eq_getElem hi]; congr 1; omega, ?_, by omega, by omega, by rw [gd]; omega⟩
      unfold stairW
      rw [List.getElem?_map, List.getElem?_range hi, ← gd]
      rfl
    refine ⟨_, rfl, l, rfl, ⟨_, .inl (.inl el)⟩, fun L nL => ?_⟩
    refine lc_list (K := K) (a := l) (xs := bs) (fun i Y => Same H1 Y ∧ Y L = some (.lst ((ns.take i).map V.int))) ⟨sub_same nL, upd_same⟩ (fun i Y _ h => .inl (.inl (h.1 _ _ el))) ?_ ?_
    · rintro i x Y hx ⟨sy, hl⟩
      have il := (List.getElem?_eq_some_iff.mp hx).1
      rw [lx] at il
      obtain ⟨z, ez, ew, z2, z6, _⟩ := zi il
      obtain ⟨wss, ew2, bo, rs, rfl, ebo, pr⟩ := paired_get pb hx
      rw [ew] at ew2
      obtain rfl := Option.some.inj ew2
      have lr : rs.length = z - 1 := by
        rw [Paired.length pr]
        unfold blkW
        rw [List.length_map, List.length_range]
      refine ⟨rfl, yesT ⟨_, rfl, bo, rs, rfl, .inl (.inl (.inl (sy _ _ ebo))), _, _, rfl, rfl, _, hl, ?_, fun k ob e => ?_, ?_⟩⟩
      · rw [List.length_map, List.length_take, sizeLine_eq]
        omega
      · rw [upd_ne (fun z => by rw [z, nL] at e; cases e)]
        exact sy _ _ e
      · rw [upd_same, List.take_succ, ez, List.map_append, lr]
        show some (HO.lst (_ ++ [V.int (((z - 1 : Nat) : Int) + 1)])) = _
        rw [show ((z - 1 : Nat) : Int) + 1 = (z : Int) by omega]
        rfl
    · rintro Y ⟨sy, hl⟩
      rw [lx, List.take_length] at hl
      refine .inl ⟨L, _, rfl, .inl (.inl hl), fun p np => ?_⟩
      have s2 := sy.trans (sub_same (o := .tup (ns.map V.int)) np)
      have ep : upd Y p (.tup (ns.map V.int)) p = some (.tup (ns.map V.int)) := upd_same
      revert s2 ep
      generalize upd Y p (.tup (ns.map V.int)) = H2
      intro s2 ep
      refine ⟨_, rfl, _, .tuple (ns.map .int), rfl, .tv (.tup (sqt_new ep) (tvl_ints ns)), fun H3 s3 => ⟨_, rfl, ?_⟩⟩
      rw [shp_is S]
      refine ite2 (fun z => absurd z Bool.false_ne_true) (fun _ => ?_)
      have el3 := s3 _ _ (s2 _ _ el)
      refine ⟨_, rfl, l, rfl, ⟨_, .inl (.inl el3)⟩, fun L2 nL2 => ?_⟩
      refine lc_list (K := K) (a := l) (xs := bs) (fun i Z => Same H3 Z ∧ Z L2 = some (.lst ((List.replicate i true).map V.bl))) ⟨sub_same nL2, upd_same⟩ (fun i Z _ h => .inl (.inl (h.1 _ _ el3))) ?_ ?_
      · rintro i x Z hx ⟨sz, hl2⟩
        have il := (List.getElem?_eq_some_iff.mp hx).1
        rw [lx] at il
        obtain ⟨z, ez, ew, z2, z6, gz⟩ := zi il
        obtain ⟨wss, ew2, bb⟩ := paired_get pb hx
        rw [ew] at ew2
        obtain rfl := Option.some.inj ew2
        refine ⟨rfl, yesT ⟨_, rfl, x, num, _, z, rfl, ((bb.same s2).same s3).same sz, z2, z6, fun a b ab bz => sm _ (mem_pl S il ab (by omega)), fun Z2 s4 => ?_⟩⟩
        refine ⟨_, s4 _ _ hl2, ?_, fun k ob e => ?_, ?_⟩
        · rw [List.length_map, List.length_replicate, sizeLine_eq]
          omega
        · rw [upd_ne (fun z => by rw [z, nL2] at e; cases e)]
          exact s4 _ _ (sz _ _ e)
        · rw [upd_same, List.replicate_succ', List.map_append]
          rfl
      · rintro Z ⟨sz, hl2⟩
        have z1 : (List.replicate bs.length true).all id = true := List.all_eq_true.mpr fun b m => (List.mem_replicate.mp m).2
        refine ⟨L2, List.replicate bs.length true, rfl, .inl (.inl hl2), _, rfl, ?_⟩
        rw [z1]
        refine ite2 (fun z => absurd z Bool.false_ne_true) (fun _ => ?_)
        have sZ := (s2.trans s3).trans sz
        refine ⟨_, rfl, rfl, _, rfl, _, rfl, _, rfl, p, _, num, ns, rfl, sqt_new (sz _ _ (s3 _ _ ep)), bl.same sZ, S, sm, fun H6 D s6 nD eD => ?_⟩
        refine fun a dd na nd ne => ?_
        have sM : Same H6 (upd (upd H6 dd (.own a)) a (.ins C dd [])) := (sub_same nd).trans (sub_same (by rw [upd_ne (Ne.symm ne)]; exact na))
        have M := tables3 ns (shp_mem S)
        have ent : Ent ns (dictO (pl ns) num) := ent_dictO S (fun t m => m) (by omega) sm
        have sA := (s1.trans sZ).trans s6
        refine ⟨a, p, D, dd, ns, _, rfl, upd_same, sqt_same (sqt_new (s6 _ _ (sz _ _ (s3 _ _ ep)))) sM, S, sM _ _ eD, ent, fun H9 o9 st => ⟨rfl, ?_⟩⟩
        rw [nums_dictO (fun t m n => absurd m n)] at st
        refine q H9 a (fun b ob eb => ?_) st
        have e1 := sA _ _ eb
        exact o9 _ _ (fun z => by rw [z, na] at e1; cases e1) (sM _ _ e1)
end
end K09

/-! # one, single -/
namespace K09
open PySem PySem.Spec PyProof.Rows L2 TL NumText
/-- {k: v}, k a tuple -/
def tDisp1 (tk tv : TE) : TE := fun σ H Q => ∀ p, H p = none → tk σ (upd H p (.dT [])) fun x H1 => tv σ H1 fun y H2 => H2 p = some (.dT []) ∧ ∃ b k, x = .ref b ∧ H2 b = some (.tup (k.map kV)) ∧ Q (.ref p) (upd H2 p (.dT [(k, y)]))
theorem pe_disp1 {X : Cx} {k v : Expr} {tk tv : TE} {pos : Pos} (un : X.A.units + 1 < cLine) (hk : PE X k tk) (hv : PE X v tv) : PE X (.Dict [some k] [v] pos) (tDisp1 tk tv) := by
  refine ⟨fun pins s σ H Q I q => ?_⟩
  have hn := I.hok.fresh (Nat.le_refl s.heap.objs.size)
  have I1 := I.laid (a := s.heap.objs.size) (o := .dT []) (h' := s.heap.push { cls := .type "dict", data := .dict #[] }) (t' := s.toks) (fun _ _ q => Heap.get?_push_of_some _ q) (Nat.le_refl _) (dt_empty s.heap I.big)
  refine wpAny_Dict_any rfl rfl (by simp) (by show 1 ≤ 15; decide) ?_
  refine pairTrees_cons_walk (thn (hk.run pins _ σ _ _ I1 (q _ hn)) fun u s1 ⟨x, H1, J1, rx, q1⟩ => thn (hv.run pins s1 σ H1 _ J1 q1) fun w2 s2 ⟨y, H2, J2, ry, e, b, kk, ex, eb, q2⟩ => pairTrees_nil_walk ?_)
  subst ex
  obtain rfl : u = Value.ref b := rx
  unfold storeAll
  rw [List.forIn_cons]
  refine wpAny_bind (wpAny_bind (dset_tup (X := X) un J2 e eb (Nat.zero_lt_of_lt (by decide : 0 < sizeLine)) ry fun s' J3 => wpAny_pure ?_))
  dsimp only
  rw [List.forIn_nil]
  exact wpAny_pure ⟨.ref _, _, J3, rfl, q2⟩
section
variable {P : Program} {w : World} {K : PySem.W.Frag} {mg : Str → Option Value} {base : Heap} {C CS TL : Addr}
def spOne (K : PySem.W.Frag) (C : Addr) : Sp := fun vs H Q _ => ∃ (sh : Addr) (ns : List Int), vs = [.ref C, .ref sh] ∧ SqT K H sh (ns.map V.int) ∧ Shp ns ∧ ∀ H' c, Same H H' → StairO K H' c C ns (numsL (fun _ => 0) ns) → Q (.ref c) H'
theorem ok_one {f fI : Addr} {fd fdI : FuncData} (d : M K "one" "Stair.one" s_one1 ["cls", "shape"] f fd) (mk : Mk K C fI) (GI : FnOk P w K mg base CX0 7 fI fdI ["self", "shape", "entries"] (spInit K C)) (bI : Binds K fdI ["self", "shape", "entries"] []) :
    FnOk P w K mg base CX0 9 f fd ["cls", "shape"] (spOne K C) := by
  refine d.F.ok sc_one1 (fun vs H Q E h => ?_) (fun cdv A outer s H vs Q E hr h => ?_)
  · obtain ⟨sh, ns, rfl, _⟩ := h
    rfl
  · obtain ⟨sh, ns, rfl, es, S, q⟩ := h
    refine ⟨_, (pss_one (ps_ret (pe_makeL mk GI hr bI .nil pass0 (pv 0) (pa_cons (pv 1) (pa_cons pe_dnewT pa_nil))))), ?_⟩
    refine ⟨_, rfl, rfl, _, rfl, fun D nD a dd na nd ne => ?_⟩
    have s1 := sub_same (o := .dT []) nD
    have eD : upd H D (.dT []) D = some (.dT []) := upd_same
    revert s1 eD na nd
    generalize upd H D (.dT []) = H1
    intro na nd s1 eD
    have sM : Same H1 (upd (upd H1 dd (.own a)) a (.ins C dd [])) := (sub_same nd).trans (sub_same (by rw [upd_ne (Ne.symm ne)]; exact na))
    refine ⟨a, sh, D, dd, ns, [], rfl, upd_same, sqt_same es (s1.trans sM), S, sM _ _ eD, ⟨Nat.zero_le _, fun p m => by cases m⟩, fun H9 o9 st => ⟨rfl, ?_⟩⟩
    have e0 : (pl ns).map (numAt []) = numsL (fun _ => 0) ns := nums_dictO (l := []) (num := fun _ => 0) fun _ _ _ => rfl
    rw [e0] at st
    refine q H9 a (fun b ob eb => ?_) st
    have e1 := s1 _ _ eb
    exact o9 _ _ (fun z => by rw [z, na] at e1; cases e1) (sM _ _ e1)
abbrev s_single : Stmt := inClass (topS 42) 2
theorem sc_single : FnScope ["cls", "shape", "place", "number"] ["cls", "shape", "place", "number"] (defScope s_single) := ⟨rfl, rfl, rfl, by decide +kernel, rfl, by decide +kernel, by decide +kernel⟩
def lone (t : Tri) (n : Int) : Tri → Int := fun u => if u = t then n else 0
def spSingle (K : PySem.W.Frag) (C : Addr) : Sp := fun vs H Q _ => ∃ (sh c : Addr) (ns : List Int) (t : Tri) (n : Int), vs = [.ref C, .ref sh, .ref c, .int n] ∧ SqT K H sh (ns.map V.int) ∧ Shp ns ∧ H c = some (.tup (triV t)) ∧ t ∈ pl ns ∧ Sm n ∧
  ∀ H' c, Same H H' → StairO K H' c C ns (numsL (lone t n) ns) → Q (.ref c) H'
theorem ok_single {f f1 f2 fI : Addr} {fd fd1 fd2 fdI : FuncData} (d : M K "single" "Stair.single" s_single ["cls", "shape", "place", "number"] f fd) (d1 : D K mg "is_place" s_place ["shape", "value"] f1 fd1) (G1 : FnOk P w K mg base (L2.CX P w) 5 f1 fd1 ["shape", "value"] (spPlace K CS))
    (d2 : D K mg "is_integer" s_is_integer ["value"] f2 fd2) (G2 : FnOk P w K mg base CX0 2 f2 fd2 ["value"] spInt) (mk : Mk K C fI) (GI : FnOk P w K mg base CX0 7 fI fdI ["self", "shape", "entries"] (spInit K C)) (bI : Binds K fdI ["self", "shape", "entries"] []) :
    FnOk P w K mg base CX0 9 f fd ["cls", "shape", "place", "number"] (spSingle K C) := by
  refine d.F.ok sc_single (fun vs H Q E h => ?_) (fun cdv A outer s H vs Q E hr h => ?_)
  · obtain ⟨sh, c, ns, t, n, rfl, _⟩ := h
    rfl
  · obtain ⟨sh, c, ns, t, n, rfl, es, S, ec, mt, sm, q⟩ := h
    have un : (A.deeper (envOfC "Stair.single" (defScope s_single) s.heap.objs.size f cdv)).units + 1 < cLine := by have := hr.un; omega
    refine ⟨_, (pss_cons (ps_if (pt_not (pt_val (pe_call (E := fun _ _ _ => False) G1 (hr.mono (by decide)) (by rfl) d1.g d1.F.kp d1.b .nil passF (pa_cons (pv 1) (pa_cons (pv 2) pa_nil))))) dead pss_nil)
      (pss_cons (ps_if (pt_not (pt_val (pe_call G2 (hr.mono (by decide)) (by rfl) d2.g d2.F.kp d2.b .nil pass0 (pa_cons (pv 3) pa_nil)))) dead pss_nil)
      (pss_one (ps_ret (pe_makeL mk GI hr bI .nil pass0 (pv 0) (pa_cons (pv 1) (pa_cons (pe_disp1 un (pv 2) (pv 3)) pa_nil))))))), ?_⟩
    refine ⟨_, rfl, _, rfl, _, _, .tuple (ns.map .int), triD t, rfl, .tv (.tup es (tvl_ints ns)), .tv (.tup (sqt_new ec) (tvl_ints (triI t))), fun ns' en S' H1 s1 => ?_, fun z => absurd (shp_is S) (by rw [z]; decide)⟩
    obtain rfl : ns' = ns := (ints_inj (PyData.tuple.inj en)).symm
    rw [(tables2 ns' (shp_mem S)).2.1 t mt]
    refine ⟨_, rfl, ite2 (fun z => absurd z Bool.false_ne_true) (fun _ => ?_)⟩
    refine ⟨_, rfl, n, rfl, sm.1, sm.2, _, rfl, ite2 (fun z => absurd z Bool.false_ne_true) (fun _ => ?_)⟩
    refine ⟨_, rfl, rfl, _, rfl, fun D nD => ⟨_, rfl, _, rfl, upd_same, c, triK t, rfl, sub_same nD _ _ (s1 _ _ ec), fun a dd na nd ne => ?_⟩⟩
    have s2 : Same H1 (upd (upd H1 D (.dT [])) D (.dT [(triK t, .int n)])) := fun b o e => by
      have : b ≠ D := fun z => by rw [z, nD] at e; cases e
      rw [upd_ne this, upd_ne this]
      exact e
    have eD : upd (upd H1 D (.dT [])) D (.dT [(triK t, .int n)]) D = some (.dT [(triK t, .int n)]) := upd_same
    revert s2 eD na nd
    generalize upd (upd H1 D (.dT [])) D (.dT [(triK t, .int n)]) = H2
    intro na nd s2 eD
    have sM : Same H2 (upd (upd H2 dd (.own a)) a (.ins C dd [])) := (sub_same nd).trans (sub_same (by rw [upd_ne (Ne.symm ne)]; exact na))
    have e0 : dictO [t] (lone t n) = [(triK t, .int n)] := by
      show [(triK t, V.int (lone t n t))] = _
      unfold lone
      rw [if_pos rfl]
    have ent : Ent ns' [(triK t, .int n)] := ⟨by show 1 ≤ 100; decide, fun p m => by
      rw [List.mem_singleton.mp m]
      exact ⟨t, mt, rfl, n, rfl, sm⟩⟩
    refine ⟨a, sh, D, dd, ns', _, rfl, upd_same, sqt_same es ((s1.trans s2).trans sM), S, sM _ _ eD, ent, fun H9 o9 st => ⟨rfl, ?_⟩⟩
    have e1 : (pl ns').map (numAt (dictO [t] (lone t n))) = numsL (lone t n) ns' := nums_dictO fun u m nu => by
      unfold lone
      exact if_neg fun z => nu (by rw [z]; exact List.mem_singleton.mpr rfl)
    rw [← e0, e1] at st
    refine q H9 a (fun b ob eb => ?_) st
    have e2 := s2 _ _ (s1 _ _ eb)
    exact o9 _ _ (fun z => by rw [z, na] at e2; cases e2) (sM _ _ e2)
end
end K09

/-! # an error over OverflowError with an own __init__ -/
namespace PySem
namespace MostX
open PySem.W PySem.Calls PyProof.Rows PySem.HandSPX
abbrev tailOV : List Value := [.type "OverflowError", .type "ArithmeticError", .type "Exception", .type "BaseException", .type "object"]
/-! ### the text of __init__ -/
def iA (p1 p2 : Pos) : Arguments := { posonlyargs := [], args := [{ arg := "self", annotation := none, pos := p1 }, { arg := "most", annotation := none, pos := p2 }], vararg := none, kwonlyargs := [], kw_defaults := [], kwarg := none, defaults := [] }
def iB (q1 q2 q3 q4 : Pos) : List Stmt := [.Assign [.Attribute (.Name "self" q1) "most" q2] (.Name "most" q3) q4]
def iS : Scope := { kind := .function, names := [(PySem.Str.ofString "self", .local), (PySem.Str.ofString "most", .local)], isGenerator := false, isCoroutine := false, more := [] }
/-- what the written part says of Low, at C, and of its __init__, at fI -/
structure MostTxt (K : Frag) (mg : Str → Option Value) (C fI : Addr) : Prop where
  gC : mg "TooMany" = some (.ref C)
  cls : ∃ nm q N bs bm sn sub ab col dd k0 k1 k2 k3 k5, K.lookup C = some (excClassObj nm q C N bs bm true sn sub ab col dd k0 k1 k2 k3 k5 "OverflowError.__new__") ∧ PySem.W.excTail tailOV bm = true
  over : excOver K C tailOV = true
  tk : takerIn K C "most" = some none
  sa : findIn K (.ref C) "__setattr__" = some (some (.builtin "object.__setattr__"))
  ga : findIn K (.ref C) "__getattribute__" = some (some (.builtin "BaseException.__getattribute__"))
  gg : findIn K (.ref C) "__getattr__" = some none
  noN : findIn K (.ref C) "most" = some none
  iC : findIn K (.ref C) "__init__" = some (some (.ref fI))
  tC : typeIn K (.ref fI) = some (.type "function")
  kC : keepIn K (.ref C) = true
  exC : subIn K (.ref C) (.type "BaseException") = some true
  tyC : typeIn K (.ref C) = some (.type "type")
  hdC : hasDictIn K C = true
  te : exmOne K (.ref C) (.ref C) = some true
  fn : ∃ (oc : Value) (od : Option Addr) (doc pm : Value) (an : Option Addr) (cdv ct : Value) (osl : Array (Option Value)) (p1 p2 q1 q2 q3 q4 : Pos),
    K.lookup fI = some ⟨oc, od, .func (fnOf "__init__" "TooMany.__init__" (iA p1 p2) (iB q1 q2 q3 q4) iS .none .none doc pm an cdv ct), osl⟩ ∧ codeIn K cdv "TooMany.__init__" = true
section
open Builtin Builtin.ObjectAttr
variable {prog : Program} {w : World} {A : Around} {E : Value → Shared → Prop} {R : Result → Shared → Prop} {hp : Heap} {g : Array GenState} {d : Drawn} {t : Nat} {os : OsState}
/-- the first field of an exception over OverflowError is stored: its dict is made -/
theorem most_osa {K : Frag} {nam : Str} {tok : Tok} {u : Value} {ex C t0 : Addr} {cdt : ClassData} (X : K.In hp) (he : hp.get? ex = some (excO C t0)) (hcl : clsIn K C = some cdt) (hdi : cdt.hasDict = true) (hov : excOver K C tailOV = true) (htk : takerIn K C nam = some none)
    (go : ∀ h' tk' dx, (∀ b o, b ≠ ex → hp.get? b = some o → h'.get? b = some o) → hp.objs.size ≤ dx → dx ≠ ex → h'.get? ex = some { cls := .ref C, dict := some dx, data := .fields #[.ref t0, .none, .none, .none, .bool false, .none] } →
      h'.Ns1 dx (fun y => if y = nam then some u else none) → R (.ok (.ret .none)) ⟨h', g, d, tk', os⟩) :
    codeAny (model prog w) A (.call (.builtin "object.__setattr__") ⟨[.ref ex, .str nam tok, u], []⟩) R ⟨hp, g, d, t, os⟩ := by
  have J : InstAt hp ex (excO C t0) C none := ⟨he, rfl, rfl, trivial⟩
  have away : ex ≠ hp.objs.size := Nat.ne_of_lt (Heap.lt_size he)
  have look : Looks (model prog w) hp (classData C) cdt := looks_clsIn X hcl
  refine osa_openX F.store_OverflowError X J hov htk (fun b => ?_)
  show wpAny _ _ (storeInOwnDict (.ref ex) (.ref C) (.str nam tok) nam u b) _ _ _
  obtain ⟨c1, c2, c3, c4, c5, c6, c7, c8, c9, c10, c11⟩ := cdt
  dsimp only at hdi
  subst hdi
  unfold storeInOwnDict ownDictForStores
  repeat (first | with_reducible refine store_in_new ?_ ?_ | with_reducible refine wpAny_loadPart_at he ?_ | with_reducible refine look.at ?_ | wp_step)
  · exact ⟨_, #[], _, (Heap.get?_update_ne _ _ _ _ away.symm).trans (Heap.get?_push_at rfl rfl), rfl, fun z hz => absurd hz (by simp), fun _ => rfl⟩
  · intro h' tk' hn' same
    have he1 : (hp.push { cls := .type "dict", data := .dict #[] }).get? ex = some (excO C t0) := Heap.get?_push_of_some _ he
    refine go h' tk' hp.objs.size (fun b o hb ho => ?_) (Nat.le_refl _) away.symm ?_ hn'
    · have y := same.2 b (Nat.ne_of_lt (Heap.lt_size ho))
      exact y.trans ((Heap.get?_update_ne _ _ _ _ hb).trans (Heap.get?_push_of_some _ ho))
    · exact (same.2 ex away).trans (Heap.get?_update_self _ he1 rfl)
end
theorem one_size (v : Value) : [v].length ≤ sizeLine := by
  rw [sizeLine_eq]
  exact (by decide : 1 ≤ 16777216)
theorem kept_but {K : Frag} {h h' : Heap} {x : Addr} (X : K.In h) (hx : K.lookup x = none) (k : ∀ b o, b ≠ x → h.get? b = some o → h'.get? b = some o) : K.In h' := fun a o e =>
  k a o (fun z => by rw [z, hx] at e; cases e) (X a o e)
theorem ldC {M : Model} {s : Shared} {name : Str} {scope : Scope} {L a : Addr} {cd : Value} {m : Str → Option Value} {x : Str} {pos : Pos} {v : Value} {Q : Value → Shared → Prop} {A : Around} {E : Value → Shared → Prop} (hn : s.heap.Ns L m) (hv : m x = some v) (h : Q v s)
    (hk : scope.kind = .function := by rfl) (hl : (envOfC name scope L a cd).kindOf x = some .local := by rfl) (hd : (x == ("__debug__" : Str)) = false := by decide) :
    wpAny M A (eval (.Name x pos) (envOfC name scope L a cd)) Q E s := wpAny_Name (wpAny_loadName_local hk hl hn hv h) hd
/-- what __init__ leaves of a fresh exception at x -/
structure InitEnd (h h' : Heap) (x C dx t1 : Addr) (v : Value) : Prop where
  keep : ∀ b o, b ≠ x → h.get? b = some o → h'.get? b = some o
  obj : h'.get? x = some { cls := .ref C, dict := some dx, data := .fields #[.ref t1, .none, .none, .none, .bool false, .none] }
  dbig : h.objs.size ≤ dx
  dne : dx ≠ x
  ns : h'.Ns1 dx (fun y => if y = "most" then some v else none)
/-- a made Low -/
structure OwnMade (h h' : Heap) (e C d : Addr) (v : Value) : Prop where
  keep : ∀ b o, h.get? b = some o → h'.get? b = some o
  new : h.objs.size ≤ e
  obj : ∃ oe vs, h'.get? e = some oe ∧ oe.cls = .ref C ∧ oe.dict = some d ∧ oe.data = .fields vs ∧ vs[1]? = some .none
  dbig : h.objs.size ≤ d
  dne : d ≠ e
  ns : h'.Ns1 d (fun y => if y = "most" then some v else none)
section
variable {prog : Program} {w : World} {A : Around} {E : Value → Shared → Prop} {R : Result → Shared → Prop} {s : Shared} {K : Frag} {mg : Str → Option Value} {C fI : Addr}
theorem most_init (T : MostTxt K mg C fI) {x t0 : Addr} {v : Value} (X : K.In s.heap) (hlim : s.heap.NoLimit) (hx : s.heap.get? x = some (excO C t0)) (hnx : K.lookup x = none) (hroom : A.depth < recursionLimit)
    (hq : ∀ h' tk dx, InitEnd s.heap h' x C dx t0 v → R (.ok (.ret .none)) { s with heap := h', toks := tk }) :
    codeAny (model prog w) A (.call (.ref fI) ⟨[.ref x, v], []⟩) R s := by
  obtain ⟨oc, od, doc, pm, an, cdv, ct, osl, p1, p2, q1, q2, q3, q4, ho, hcd⟩ := T.fn
  obtain ⟨nm, q, N, bs, bm, sn, sub, ab, col, dd, k0, k1, k2, k3, k5, hC, hbm⟩ := T.cls
  have hcl : clsIn K C = some { name := nm, bases := bs, mro := .ref C :: bm, ns := N, qualname := q, hasDict := true, slotNames := sn, subclasses := sub, abstract := ab, collection := col, hasDel := false } := by unfold clsIn; rw [hC] <;> rfl
  refine Att.call_fn (binds := [("self", .ref x), ("most", v)]) X hlim ho hcd hroom (BindsTo.of_eq (by first | rfl | with_unfolding_all rfl)) (by first | rfl | decide | with_unfolding_all rfl) (fun s₁ IC => ?_) rfl rfl rfl
  obtain ⟨h₁, tk₁, rfl⟩ := IC.toInCall.same
  have k : ∀ b o, s.heap.get? b = some o → h₁.get? b = some o := IC.toInCall.keep
  have hn := IC.toInCall.ns
  have hxL : s.heap.objs.size ≠ x := Nat.ne_of_gt (Heap.lt_size hx)
  have X₁ : K.In h₁ := X.keeps k
  have hx₁ := k _ _ hx
  -- self.by = by
  show wpAny _ _ (execs _ _) _ _ _
  refine wpAny_execs_cons (plainObj_wpAny_Assign_Attribute ?_)
  refine ldC (v := v) hn (by first | rfl | with_unfolding_all rfl | kernel_rfl) (ldC (v := .ref x) hn (by first | rfl | with_unfolding_all rfl | kernel_rfl) ?_)
  refine set_plain X₁ (ox := excO C t0) (od := none) ⟨hx₁, rfl, rfl, trivial⟩ T.sa ?_
  refine most_osa X₁ hx₁ hcl rfl T.over T.tk (fun h₃ tk₃ dx k₃ dn dne hx₃ hn₃ => ?_)
  show wpAny _ _ (execs _ _) _ _ _
  have z : s.heap.objs.size < h₁.objs.size := hn.lt
  exact wpAny_execs_nil (hq h₃ tk₃ dx ⟨fun b o hb e => k₃ b o hb (k b o e), hx₃, Nat.le_of_lt (Nat.lt_of_lt_of_le z dn), dne, hn₃⟩)
theorem most_made (T : MostTxt K mg C fI) {v : Value} (X : K.In s.heap) (hlim : s.heap.NoLimit) (hroom : A.depth + 1 < recursionLimit)
    (hq : ∀ h' tk e d, OwnMade s.heap h' e C d v → R (.ok (.ret (.ref e))) { s with heap := h', toks := tk }) :
    codeAny (model prog w) A (.call (.ref C) ⟨[v], []⟩) R s := by
  obtain ⟨nm, q, N, bs, bm, sn, sub, ab, col, dd, k0, k1, k2, k3, k5, hC, hbm⟩ := T.cls
  obtain ⟨hp, g, dr, tk, os⟩ := s
  have k : ∀ b o, hp.get? b = some o → ((hp.push (kdv_tup [v])).push (excO C hp.objs.size)).get? b = some o := fun b o e => Heap.get?_push_of_some _ (Heap.get?_push_of_some _ e)
  have hget : ((hp.push (kdv_tup [v])).push (excO C hp.objs.size)).get? (hp.objs.size + 1) = some (excO C hp.objs.size) := by heap_get
  have hnx : K.lookup (hp.objs.size + 1) = none := by
    cases e : K.lookup (hp.objs.size + 1) with
    | none => rfl
    | some o =>
      have z : hp.get? (hp.objs.size + 1) = some o := X _ _ e
      exact absurd (Nat.lt_of_succ_lt (Heap.lt_size z)) (Nat.lt_irrefl _)
  refine call_own F.excBase_OverflowError (fun X => PySem.W.excTail_contains X bm hbm) (X _ _ hC) (looks_findIn X T.iC) (fun self => bind_fn X self T.tC) (one_size v) ?_
  refine most_init (s := ⟨(hp.push (kdv_tup [v])).push (excO C hp.objs.size), g, dr, tk, os⟩) T (X.keeps k) (hlim.keeps k) hget hnx ?_ fun h' tk' dx ⟨k', hx, dn, dne, hns⟩ => ?_
  · show A.depth + 1 < recursionLimit
    exact hroom
  · have old : ∀ b o, hp.get? b = some o → h'.get? b = some o := fun b o e => k' b o (Nat.ne_of_lt (Nat.lt_succ_of_lt (Heap.lt_size e))) (k b o e)
    have z : hp.objs.size + 1 + 1 ≤ dx := by
      first
        | (simpa only [Heap.size_push] using dn)
        | exact dn
        | (have q := dn; rw [Heap.size_push, Heap.size_push] at q; exact q)
    exact ⟨rfl, hq h' tk' (hp.objs.size + 1) dx ⟨old, Nat.le_succ _, ⟨_, _, hx, rfl, rfl, rfl, rfl⟩, Nat.le_trans (Nat.le_trans (Nat.le_succ _) (Nat.le_succ _)) z, dne, hns⟩⟩
end
end MostX
end PySem
namespace L2
open PySem PySem.Spec PyProof.Rows
theorem relO_most {v : V} {v' : Value} (r : RelV v v') (f : Str) : RelO (List.lookup f [(("most" : Str), v)]) (if f = "most" then some v' else none) := by
  by_cases hw : f = "most"
  · subst hw
    rw [if_pos rfl]
    have q : List.lookup ("most" : Str) [(("most" : Str), v)] = some v := by simp [List.lookup]
    rw [q]
    exact r
  · rw [if_neg hw]
    have qw : (f == ("most" : Str)) = false := by simpa using hw
    have q2 : List.lookup f [(("most" : Str), v)] = none := by simp [List.lookup, qw]
    rw [q2]
    trivial
section
variable {X : Cx} {C fI : Addr}
/-- Low(e) -/
def tMkMost (C : Addr) (ta : TA) : St → Hp → XK → Prop := fun σ H Q => ta σ H fun vs H1 => ∃ v, vs = [v] ∧ ∀ d, H1 d = none → Q (.ref C) (some d) (upd H1 d (.xd [(("most" : Str), v)]))
theorem pmk_most {a : Expr} {ta : TA} {p pos : Pos} {k : Nat} (T : PySem.MostX.MostTxt X.K X.mg C fI) (hr : Room k X.A) (ha : PA X [a] ta) (hg : Gl X "TooMany" := by rfl)
    (he : starEach (a :: []) X.env = (false, eval a X.env) :: starEach [] X.env := by rfl) (hpl : (backTo pos (starEach [] X.env)).any (·.1) = false := by rfl) :
    PMk X (.Call (.Name "TooMany" p) [a] [] pos) (tMkMost C ta) := by
  intro pins s σ H Q I h
  refine wpAny_Call_Name_kw (ld_glob I hg T.gC ?_)
  refine PySem.W.callWith_K (h₀ := X.base) I.ok.mod.kin T.kC (thn (ha.run pos pins s σ H _ I h) fun us s1 hh => ?_) he hpl
  obtain ⟨vs, H1, I1, r1, v, ev, q1⟩ := hh
  subst ev
  refine ⟨I1.kIn, ?_⟩
  cases r1 with
  | cons rv rn =>
    rename_i v' us'
    cases rn
    show wpAny _ _ (call (.ref C) [v']) _ _ _
    have hlim := I1.nolimit
    obtain ⟨hp, g, dr, tk, os⟩ := s1
    refine wpAny_call (PySem.MostX.most_made T I1.kIn hlim (by have := hr.dp; omega) fun h' tk' e d M => ?_)
    show MkP X pins σ Q (.ref e) ⟨h', g, dr, tk', os⟩
    obtain ⟨oe, fv, hoe, hc, hd, hdat, h1⟩ := M.obj
    have hns := M.ns
    obtain ⟨G', g1, g2⟩ := restrict h' fun b => decide (b ≠ e)
    have gk : ∀ b, b ≠ e → G'.get? b = h'.get? b := fun b hb => g1 b (decide_eq_true hb)
    have ge : G'.get? e = none := g2 e (by simp)
    have old : ∀ b o, hp.get? b = some o → G'.get? b = some o := fun b o q => (gk b (Nat.ne_of_lt (Nat.lt_of_lt_of_le (Heap.lt_size q) M.new))).trans (M.keep b o q)
    have ob : ObjOk X.prog X.w (upd H1 d (.xd [(("most" : Str), v)])) G' d (.xd [(("most" : Str), v)]) :=
      ⟨_, hns.at (fun o q => (gk d M.dne).trans q), fun f => relO_most rv f⟩
    have J : Inv X pins σ (upd H1 d (.xd [(("most" : Str), v)])) ⟨G', g, dr, tk', os⟩ := I1.laid (t' := tk') old M.dbig ob
    refine ⟨e, oe, fv, ⟨G', g, dr, tk', os⟩, _, .ref C, some d, rfl, J, fun b o q => ?_, ge, hoe, ⟨hc, hd⟩, hdat, h1, ?_, rfl, I1.bare, raises_own T.exC T.tyC, q1 d (I1.hok.fresh M.dbig)⟩
    · by_cases hb : b = e
      · have q' : G'.get? b = some o := q
        rw [hb, ge] at q'; cases q'
      · exact (gk b hb).symm.trans q
    · rw [upd_ne (Ne.symm M.dne)]
      exact I1.hok.fresh M.new
/-- raise Low(e) -/
def tRaiseMost (C : Addr) (W : WX) (ta : TA) : TS := fun _ σ H => tMkMost C ta σ H fun cls d H' => W cls d σ H'
theorem ps_raiseMost {a : Expr} {ta : TA} {W : WX} {p pos pos2 : Pos} {k : Nat} (hc : X.calm = true) (T : PySem.MostX.MostTxt X.K X.mg C fI) (hr : Room k X.A) (tk : Takes X W) (ha : PA X [a] ta) (hg : Gl X "TooMany" := by rfl)
    (he : starEach (a :: []) X.env = (false, eval a X.env) :: starEach [] X.env := by rfl) (hpl : (backTo pos (starEach [] X.env)).any (·.1) = false := by rfl) :
    PS X (.Raise (some (.Call (.Name "TooMany" p) [a] [] pos)) none pos2) (tRaiseMost C W ta) := ps_raise hc tk (pmk_most T hr ha hg he hpl)
/-- low.by, low the exception that the suite holds (at a; its class cls, its dict d) -/
def tMost (C : Addr) (a : Addr) (cls : Value) (d : Option Addr) (te : TE) : TE := fun σ H Q => te σ H fun x H1 => x = .ref a ∧ cls = .ref C ∧ ∃ (dd : Addr) (v : V), d = some dd ∧ H1 dd = some (.xd [(("most" : Str), v)]) ∧ Q v H1
theorem pe_most {a : Addr} {oe : Obj} {cls : Value} {d : Option Addr} {pn : List (Addr × Obj)} {e : Expr} {te : TE} {pos : Pos} (T : PySem.MostX.MostTxt X.K X.mg C fI) (hz : Zc cls d oe) (hf : ∃ vs, oe.data = .fields vs) (he : PE (X.suite a ((a, oe) :: pn)) e te)
    (hb : attributeBase e "most" X.env (eval e X.env) = eval e X.env := by rfl) :
    PE (X.suite a ((a, oe) :: pn)) (.Attribute e "most" pos) (tMost C a cls d te) := by
  refine ⟨fun pins s σ H Q I h => ?_⟩
  refine attr_of hb (thn (he.run pins s σ H _ I h) fun u s1 hh => ?_)
  obtain ⟨x, H1, I1, rx, ex, ec, dd, v, ed, ea, q⟩ := hh
  subst ex
  obtain rfl : u = Value.ref a := rx
  subst ec
  subst ed
  obtain ⟨ha, _⟩ := I1.pin (a, oe) (List.mem_append_left _ List.mem_cons_self)
  obtain ⟨vs, hd⟩ := hf
  have hx : ObjOk X.prog X.w H1 s1.heap dd (.xd [(("most" : Str), v)]) := I1.hok dd _ ea
  obtain ⟨mA, hns, hr⟩ := hx
  obtain ⟨od, ho, hl⟩ := lookIn_ns hns
  have l : List.lookup ("most" : Str) [(("most" : Str), v)] = some v := by simp [List.lookup]
  obtain ⟨u, hu, ru⟩ := RelO.some_of (v := v) (o := mA "most") (by rw [← l]; exact hr "most")
  have J : PySem.W.InstAt s1.heap a oe C (some od) := ⟨ha, hz.1, by unfold PySem.W.notCls; rw [hd] <;> rfl, by rw [hz.2]; exact ho⟩
  exact HandSPX.exc_get I1.kIn J T.ga T.gg T.exC (PySem.W.findObj_own T.hdC T.noN rfl (by rw [hl, hu])) (handed_of ru) ⟨v, H1, I1.tok _, ru, q⟩
end
end L2


/-! # stairs side by side -/
namespace K09
open PySem PySem.Spec PyProof.Rows L2 TL NumText RZ
/-- a place, its block that many further -/
def shf (k : Nat) (t : Tri) : Tri := ((k : Int) + t.1, t.2.1, t.2.2)
theorem shf_inj {k : Nat} {t u : Tri} (h : shf k t = shf k u) : t = u := by
  obtain ⟨a, b, c⟩ := t
  obtain ⟨d, e, f⟩ := u
  unfold shf at h
  injection h with h1 h2
  injection h2 with h2 h3
  have h1 : (k : Int) + a = (k : Int) + d := h1
  have h2 : b = e := h2
  have h3 : c = f := h3
  rw [show a = d by omega, h2, h3]
/-- the numbers of both -/
def both (k : Nat) (num num2 : Tri → Int) : Tri → Int := fun t => if t.1 < (k : Int) then num t else num2 (t.1 - (k : Int), t.2.1, t.2.2)
theorem both_l {ns : List Int} (S : Shp ns) {num num2 : Tri → Int} {t : Tri} (h : t ∈ pl ns) : both ns.length num num2 t = num t := by
  obtain ⟨b, i, j, rfl, hb, _, _⟩ := pl_mem S h
  unfold both
  rw [if_pos (by show (b : Int) < _; omega)]
theorem both_r {ks : List Int} (S : Shp ks) {k : Nat} {num num2 : Tri → Int} {t : Tri} (h : t ∈ pl ks) : both k num num2 (shf k t) = num2 t := by
  obtain ⟨b, i, j, rfl, hb, _, _⟩ := pl_mem S h
  unfold both shf
  rw [if_neg (by show ¬ ((k : Int) + (b : Int) < _); omega)]
  show num2 ((k : Int) + (b : Int) - (k : Int), (i : Int), (j : Int)) = _
  rw [show (k : Int) + (b : Int) - (k : Int) = (b : Int) by omega]
theorem getD_app (ns ks : List Int) (b : Nat) : (ns ++ ks).getD b 0 = if b < ns.length then ns.getD b 0 else ks.getD (b - ns.length) 0 := by
  rw [List.getD_eq_getElem?_getD, List.getD_eq_getElem?_getD, List.getD_eq_getElem?_getD]
  by_cases h : b < ns.length
  · rw [if_pos h, List.getElem?_append_left h]
  · rw [if_neg h, List.getElem?_append_right (by omega)]
theorem pl_app {ns ks : List Int} (S : Shp ns) (S2 : Shp ks) (SB : Shp (ns ++ ks)) {t : Tri} : t ∈ pl (ns ++ ks) ↔ t ∈ pl ns ++ (pl ks).map (shf ns.length) := by
  constructor
  · intro h
    obtain ⟨b, i, j, rfl, hb, ij, hj⟩ := pl_mem SB h
    rw [getD_app] at hj
    rw [List.length_append] at hb
    by_cases l : b < ns.length
    · rw [if_pos l] at hj
      exact List.mem_append_left _ (mem_pl S l ij hj)
    · rw [if_neg l] at hj
      refine List.mem_append_right _ (List.mem_map.mpr ⟨_, mem_pl S2 (b := b - ns.length) (by omega) ij hj, ?_⟩)
      unfold shf
      show ((ns.length : Int) + ((b - ns.length : Nat) : Int), (i : Int), (j : Int)) = _
      rw [show (ns.length : Int) + ((b - ns.length : Nat) : Int) = (b : Int) by omega]
  · intro h
    rcases List.mem_append.mp h with h | h
    · obtain ⟨b, i, j, rfl, hb, ij, hj⟩ := pl_mem S h
      exact mem_pl SB (by rw [List.length_append]; omega) ij (by rw [getD_app, if_pos hb]; exact hj)
    · obtain ⟨u, hu, rfl⟩ := List.mem_map.mp h
      obtain ⟨b, i, j, rfl, hb, ij, hj⟩ := pl_mem S2 hu
      have z := mem_pl SB (b := ns.length + b) (i := i) (j := j) (by rw [List.length_append]; omega) ij (by rw [getD_app, if_neg (by omega), show ns.length + b - ns.length = b by omega]; exact hj)
      unfold shf
      rw [show ((ns.length + b : Nat) : Int) = (ns.length : Int) + (b : Int) by omega] at z
      exact z
theorem shf_not {ns : List Int} (S : Shp ns) {ks : List Int} (S2 : Shp ks) {u : Tri} (h : u ∈ pl ks) : shf ns.length u ∉ pl ns := fun m => by
  obtain ⟨b, i, j, e, hb, _, _⟩ := pl_mem S m
  obtain ⟨c, i2, j2, rfl, _, _, _⟩ := pl_mem S2 h
  unfold shf at e
  injection e with e1 _
  have e1 : (ns.length : Int) + (c : Int) = (b : Int) := e1
  omega
theorem sqt_oldD {K : PySem.W.Frag} {H H' : Hp} {a D : Addr} {xs : List V} {ps : List (List L2.Key × V)} (h : SqT K H a xs) (e : H D = some (.dT ps)) (o : Old D H H') : SqT K H' a xs := sqt_ne h fun ob ea k => o a _ (fun z => by
  rw [z, e] at ea
  rcases k with k | ⟨_, k⟩ <;> rw [k] at ea <;> cases ea) ea
theorem old_ne {H H' : Hp} {b D : Addr} {ps : List (List L2.Key × V)} {o : HO} (e : H D = some (.dT ps)) (x : Old D H H') (h : H b = some o) (n : ∀ qs, o ≠ .dT qs) : H' b = some o := x b o (fun z => by
  rw [z, e] at h
  exact n _ (Option.some.inj h).symm) h
section
variable {P : Program} {w : World} {K : PySem.W.Frag} {mg : Str → Option Value} {base : Heap} {C CS CM fM TL : Addr}
abbrev s_beside : Stmt := inClass (topS 42) 16
theorem sc_beside : FnScope ["self", "other", "shape", "found", "block", "row", "column", "number", "place"] ["self", "other"] (defScope s_beside) := ⟨rfl, rfl, rfl, by decide +kernel, rfl, by decide +kernel, by decide +kernel⟩
def spBeside (K : PySem.W.Frag) (C CM : Addr) : Sp := fun vs H Q E => ∃ (a b : Addr) (ns ks : List Int) (num num2 : Tri → Int), vs = [.ref a, .ref b] ∧ StairO K H a C ns (numsL num ns) ∧ StairO K H b C ks (numsL num2 ks) ∧ Shp ns ∧ Shp ks ∧
  (Shp (ns ++ ks) → ∀ H' c, Same H H' → StairO K H' c C (ns ++ ks) (numsL (both ns.length num num2) (ns ++ ks)) → Q (.ref c) H') ∧
  (¬ Shp (ns ++ ks) → ∀ H' d, Same H H' → H' d = some (.xd [(("most" : Str), .int 8)]) → E (.ref CM) (some d) H')
theorem ok_beside {f f1 f2 f3 f4 : Addr} {fd fd1 fd2 fd3 fd4 : FuncData} (T : Txt mg) (N : Nam mg) (nz : mg "zip" = none) (R : SC K mg C) (IC : C8.InsC K C) (own : kit K (.ref C) (.ref C) true) (MT : PySem.MostX.MostTxt K mg CM fM) (d : M K "beside" "Stair.beside" s_beside ["self", "other"] f fd)
    (d1 : D K mg "is_shape" s_is_shape ["value"] f1 fd1) (G1 : FnOk P w K mg base CX0 3 f1 fd1 ["value"] (spShape K)) (d2 : D K mg "places" s_places ["shape"] f2 fd2) (G2 : FnOk P w K mg base (L2.CX P w) 5 f2 fd2 ["shape"] (spPlaces K CS))
    (d3 : D K mg "plan_of" s_plan ["shape"] f3 fd3) (G3 : FnOk P w K mg base (L2.CX P w) 6 f3 fd3 ["shape"] (spPlan K)) (d4 : D K mg "stair_with" s_with ["shape", "plan", "numbers"] f4 fd4) (G4 : FnOk P w K mg base CX0 9 f4 fd4 ["shape", "plan", "numbers"] (spWith K C)) :
    FnOk P w K mg base (L2.CX P w) 10 f fd ["self", "other"] (spBeside K C CM) := by
  obtain ⟨tM, cM⟩ := N.cM
  refine d.F.okX sc_beside (fun vs H Q E h => ?_) (fun cdv A outer s H vs Q E hr h => ?_)
  · obtain ⟨a, b, ns, ks, num, num2, rfl, _⟩ := h
    rfl
  · obtain ⟨a, b, ns, ks, num, num2, rfl, sa, sb, S, S2, q, qe⟩ := h
    have un2 : (A.deeper (envOfC "Stair.beside" (defScope s_beside) s.heap.objs.size f cdv)).units + 2 < cLine := by have := hr.un; omega
    have un : (A.deeper (envOfC "Stair.beside" (defScope s_beside) s.heap.objs.size f cdv)).units + 1 < cLine := by have := hr.un; omega
    refine ⟨_, (pss_cons (ps_if (pt_not (pt_val (pe_callB call_isi (by rfl) T.n_isinstance (by decide +kernel) (pa_cons (pv 1) (pa_cons (pe_glob (v := .ref C) rfl R.mC rfl) pa_nil))))) dead pss_nil)
      (pss_cons (ps_set (i := 2) sc_beside.nd rfl (.inl rfl) (pe_op op_catT (pe_fld (pv 0) rfl) (pe_fld (pv 1) rfl)))
      (pss_cons (ps_if (pt_not (pt_val (pe_call G1 (hr.mono (by decide)) (by rfl) d1.g d1.F.kp d1.b .nil pass0 (pa_cons (pv 2) pa_nil)))) (pss_one (ps_raiseMost (k := 2) rfl MT (hr.mono (by decide)) (takes_of rfl rfl rfl rfl) (pa_cons (pe_glob (v := .int 8) rfl cM ⟨_, rfl⟩) pa_nil))) pss_nil)
      (pss_cons (ps_set (i := 3) sc_beside.nd rfl (.inr rfl) (pe_dictZip rfl un2 (by rfl) N.n_dict (by rfl) nz (pa_cons (pe_call (E := fun _ _ _ => False) G2 (hr.mono (by decide)) (by rfl) d2.g d2.F.kp d2.b .nil passF (pa_cons (pe_fld (pv 0) rfl) pa_nil)) (pa_cons (pe_fld (pv 0) rfl) pa_nil))))
      (pss_cons (ps_for (passes_of rfl) rfl (pi_zipA (by rfl) nz (pa_cons (pe_call (E := fun _ _ _ => False) G2 (hr.mono (by decide)) (by rfl) d2.g d2.F.kp d2.b .nil passF (pa_cons (pe_fld (pv 1) rfl) pa_nil)) (pa_cons (pe_fld (pv 1) rfl) pa_nil))) (pg_tup rfl (pgs_cons (pg_tup rfl (pgs_cons (pg_name (i := 4) sc_beside.nd rfl (.inl rfl)) (pgs_cons (pg_name (i := 5) sc_beside.nd rfl (.inl rfl)) (pgs_cons (pg_name (i := 6) sc_beside.nd rfl (.inl rfl)) pgs_nil)))) (pgs_cons (pg_name (i := 7) sc_beside.nd rfl (.inl rfl)) pgs_nil)))
        (pss_one (ps_asg (pv 7) (pg_sub (pv 3) (pe_tup (pa_cons (pe_op op_add (pe_callB call_len_seq (by rfl) T.n_len PySem.boot_len (pa_cons (pe_fld (pv 0) rfl) pa_nil)) (pv 4)) (pa_cons (pv 5) (pa_cons (pv 6) pa_nil)))) (set_dict un)))))
      (pss_one (ps_ret (pe_call G4 hr (by rfl) d4.g d4.F.kp d4.b .nil pass0 (pa_cons (pv 2) (pa_cons (pe_call (E := fun _ _ _ => False) G3 (hr.mono (by decide)) (by rfl) d3.g d3.F.kp d3.b .nil passF (pa_cons (pv 2) pa_nil)) (pa_cons (pe_tupleOf (by rfl) T.n_tuple (pe_lc (own := [("place", 8)]) (g := gName 8) (tt := tYes) rfl sc_beside.nd (pi_tup (pe_call (E := fun _ _ _ => False) G2 (hr.mono (by decide)) (by rfl) d2.g d2.F.kp d2.b .nil passF (pa_cons (pv 2) pa_nil))) (blkOk_by (own := [("place", 8)]) (N := ["self", "other", "shape", "found", "block", "row", "column", "number", "place"]) (sc := defScope s_beside) (by decide +kernel))
            (fun _ _ _ _ _ => (pg_name (i := 8) sc_beside.nd rfl (Or.inl rfl))) (fun _ _ _ _ _ => pts_nil) (fun _ _ _ _ _ => (pe_dget un (pv 3) (pv 8) (fun _ _ => rfl))))) pa_nil))))))))))), ?_⟩
    have ty := sb.ty IC
    obtain ⟨dx, sh, pln, nm, e1, e2, e3, e4⟩ := sa
    obtain ⟨dx2, sh2, pln2, nm2, b1, b2, b3, b4⟩ := sb
    have ln := S.1
    have lk := S2.1
    refine ⟨_, rfl, _, _, _, _, _, rfl, .own C, ty, own, _, rfl, ite2 (fun z => absurd z Bool.false_ne_true) (fun _ => ?_)⟩
    refine ⟨_, rfl, a, C, dx, _, _, rfl, e1, R.cl, R.nS, stF_shape _ _ _, _, rfl, b, C, dx2, _, _, rfl, b1, R.cl, R.nS, stF_shape _ _ _, ?_⟩
    refine ⟨sh, sh2, _, _, rfl, rfl, e2, b2, fun z => ?_, ?_, fun z => ?_, fun _ p np => ?_⟩
    · have l := congrArg List.length z
      rw [List.length_map] at l
      have l : ns.length = 0 := l
      omega
    · rw [List.length_map, List.length_map, sizeLine_eq]
      omega
    · have l := congrArg List.length z
      rw [List.length_map] at l
      have l : ks.length = 0 := l
      omega
    rw [← List.map_append]
    have s1 := sub_same (o := .tup ((ns ++ ks).map V.int)) np
    have ep : upd H p (.tup ((ns ++ ks).map V.int)) p = some (.tup ((ns ++ ks).map V.int)) := upd_same
    revert s1 ep
    generalize upd H p (.tup ((ns ++ ks).map V.int)) = H1
    intro s1 ep
    refine ⟨_, rfl, _, .tuple ((ns ++ ks).map .int), rfl, .tv (.tup (sqt_new ep) (tvl_ints _)), fun H2 s2 => ⟨_, rfl, ?_⟩⟩
    cases hs : isSh (.tuple ((ns ++ ks).map .int)) with
    | false =>
      refine ite2 (fun _ => ?_) (fun z => absurd rfl z)
      have no : ¬ Shp (ns ++ ks) := fun z => by
        rw [shp_is z] at hs
        cases hs
      exact ⟨_, rfl, fun d nd => qe no _ d ((s1.trans s2).trans (sub_same nd)) upd_same⟩
    | true =>
      obtain ⟨zs, ez, SB⟩ := shp_of hs
      obtain rfl : zs = ns ++ ks := (ints_inj (PyData.tuple.inj ez)).symm
      have q' := q SB
      clear q qe ez hs
      refine ite2 (fun z => absurd z Bool.false_ne_true) (fun _ => ?_)
      have sH := s1.trans s2
      have ep2 := s2 _ _ ep
      refine ⟨_, rfl, a, C, dx, _, _, rfl, sH _ _ e1, R.cl, R.nS, stF_shape _ _ _, _, .tuple (ns.map .int), rfl, .tv (.tup (sqt_same e2 sH) (tvl_ints ns)), fun ns' en S' H3 y s3 ty3 => ?_, fun z => absurd (shp_is S) (by rw [z]; decide)⟩
      obtain rfl : ns' = ns := (ints_inj (PyData.tuple.inj en)).symm
      obtain ⟨o, xs, rfl, eo, tl⟩ := ty3
      have M := tables3 ns' (shp_mem S)
      have M2 := tables3 ks (shp_mem S2)
      have lx : xs.length = (pl ns').length := tl.len
      have sH3 := sH.trans s3
      refine ⟨_, rfl, a, C, dx, _, _, rfl, sH3 _ _ e1, R.cl, R.nN, stF_numbers _ _ _, ?_⟩
      refine ⟨o, nm, _, xs, _, rfl, sqt_new eo, trl_keys tl, sqt_new (sH3 _ _ e3), by rw [lx, List.length_map, List.length_map], fun D nD => ?_⟩
      rw [zip_dictO, put_dictO M.1]
      have s4 := sH3.trans (sub_same (o := .dT (dictO (pl ns') num)) nD)
      have eD : upd H3 D (.dT (dictO (pl ns') num)) D = some (.dT (dictO (pl ns') num)) := upd_same
      have ep4 := sub_same (o := .dT (dictO (pl ns') num)) nD _ _ (s3 _ _ ep2)
      have nDH : H D = none := sH3.free nD
      revert s4 eD ep4
      generalize upd H3 D (.dT (dictO (pl ns') num)) = H4
      intro s4 eD ep4
      refine ⟨_, rfl, b, C, dx2, _, _, rfl, s4 _ _ b1, R.cl, R.nS, stF_shape _ _ _, _, .tuple (ks.map .int), rfl, .tv (.tup (sqt_same b2 s4) (tvl_ints ks)), fun ks' en2 S2' H5 y s5 ty5 => ?_, fun z => absurd (shp_is S2) (by rw [z]; decide)⟩
      obtain rfl : ks' = ks := (ints_inj (PyData.tuple.inj en2)).symm
      obtain ⟨o2, xs2, rfl, eo2, tl2⟩ := ty5
      have lx2 : xs2.length = (pl ks').length := tl2.len
      have lxn : xs2.length = ((numsL num2 ks').map V.int).length := by rw [lx2, List.length_map, List.length_map]
      have s45 := s4.trans s5
      have dst : dictO (pl ns') num = dictO (pl ns') (both ns'.length num num2) := List.map_congr_left fun t m => by rw [both_l S m]
      have eD5 := s5 _ _ eD
      rw [dst] at eD5
      have ep5 := s5 _ _ ep4
      refine ⟨_, rfl, b, C, dx2, _, _, rfl, s45 _ _ b1, R.cl, R.nN, stF_numbers _ _ _, o2, nm2, xs2, _, rfl, .inr ⟨sqt_new eo2, sqt_new (s45 _ _ b3), ?_⟩⟩
      have eA := s45 _ _ e1
      have eSh := sqt_same e2 s45
      have eN2 := s45 _ _ b3
      have tl5 := tl2
      refine for_it (walk_zipT (K := K) (a := o2) (b := nm2) lxn) (fun i σ Y => (∃ y4 y5 y6 y7, σ = [some (.ref a), some (.ref b), some (.ref p), some (.ref D), y4, y5, y6, y7, none]) ∧ Old D H5 Y ∧ Y D = some (.dT (dictO (pl ns' ++ ((pl ks').take i).map (shf ns'.length)) (both ns'.length num num2))))
        ⟨⟨_, _, _, _, rfl⟩, fun _ _ _ h => h, by rw [List.take_zero, List.map_nil, List.append_nil]; exact eD5⟩ (fun i σ Y _ h => ⟨sqt_oldD (sqt_new eo2) eD5 h.2.1, sqt_oldD (sqt_new eN2) eD5 h.2.1⟩) ?_ ?_
      · rintro i v σ Y Y' hi ⟨⟨y4, y5, y6, y7, rfl⟩, sy, hd⟩ ⟨Tp, x0, y0, rfl, nT, rfl, ex, ey⟩
        obtain ⟨t, c, et, rfl, ec⟩ := tl2.tri ex
        obtain ⟨m, em, rfl⟩ := int_at ey
        rw [List.getElem?_map, et] at em
        obtain rfl := Option.some.inj em
        have mt : t ∈ pl ks' := List.mem_of_getElem? et
        have s6 := sub_same (o := .tup [V.ref c, V.int (num2 t)]) nT
        have hd2 := s6 _ _ hd
        have sy2 : Old D H5 (upd Y Tp (.tup [V.ref c, V.int (num2 t)])) := fun k ob n e => s6 _ _ (sy k ob n e)
        have hT : upd Y Tp (.tup [V.ref c, V.int (num2 t)]) Tp = some (.tup [V.ref c, V.int (num2 t)]) := upd_same
        revert hd2 sy2 hT
        generalize upd Y Tp (.tup [V.ref c, V.int (num2 t)]) = Y2
        intro hd2 sy2 hT
        have ec2 : Y2 c = some (.tup (triV t)) := old_ne eD5 sy2 ec fun _ z => by cases z
        have eA2 : Y2 a = _ := old_ne eD5 sy2 eA fun _ z => by cases z
        have eSh2 := sqt_oldD eSh eD5 sy2
        refine ⟨Tp, _, rfl, .inl (.inl hT), rfl, _, _, rfl, c, _, rfl, .inl (.inl ec2), rfl, _, _, rfl, _, _, rfl, _, _, rfl, rfl, _, _, rfl, rfl, ?_⟩
        refine ⟨_, rfl, _, rfl, _, rfl, a, C, dx, _, _, rfl, eA2, R.cl, R.nS, stF_shape _ _ _, sh, _, rfl, .inr eSh2, ?_⟩
        rw [List.length_map]
        refine ⟨_, rfl, _, _, rfl, rfl, _, rfl, _, rfl, (by show 3 ≤ sizeLine; decide), fun p3 n3 => ?_⟩
        have s7 := sub_same (o := .tup [V.int (((ns'.length : Nat) : Int) + t.1), V.int t.2.1, V.int t.2.2]) n3
        have nin : shf ns'.length t ∉ pl ns' ++ ((pl ks').take i).map (shf ns'.length) := fun z => by
          rcases List.mem_append.mp z with z | z
          · exact shf_not S S2 mt z
          · obtain ⟨u, hu, e⟩ := List.mem_map.mp z
            exact not_take M2.1 et (by rw [← shf_inj e]; exact hu)
        have put := dictO_snoc (num := both ns'.length num num2) nin
        rw [both_r S2 mt] at put
        refine ⟨D, _, rfl, DPut.t (k := triK (shf ns'.length t)) (s7 _ _ hd2) upd_same ?_, ⟨_, _, _, _, rfl⟩, fun k ob n e => ?_, ?_⟩
        · unfold dictO
          rw [List.length_map, List.length_append, List.length_map, List.length_take, sizeLine_eq]
          have := M.2.1
          have := M2.2.1
          omega
        · rw [upd_ne n]
          exact s7 _ _ (sy2 k ob n e)
        · rw [upd_same, put, List.append_assoc, List.take_succ, et, List.map_append]
          rfl
      · rintro σ Y ⟨⟨y4, y5, y6, y7, rfl⟩, sy, hd⟩
        rw [lx2, List.take_length] at hd
        have epY : Y p = some (.tup ((ns' ++ ks').map V.int)) := old_ne eD5 sy ep5 fun _ z => by cases z
        have sHY : Same H Y := fun k ob e => sy k ob (fun z => by rw [z, nDH] at e; cases e) (s45 _ _ e)
        have MB := tables3 (ns' ++ ks') (shp_mem SB)
        refine ⟨_, rfl, _, rfl, p, ns' ++ ks', rfl, sqt_new epY, SB, fun H6 pn s6 tp6 => ?_⟩
        refine ⟨_, rfl, _, .tuple ((ns' ++ ks').map .int), rfl, .tv (.tup (sqt_new (s6 _ _ epY)) (tvl_ints _)), fun zs en3 S3' H7 y s7 ty7 => ?_, fun z => absurd (shp_is SB) (by rw [z]; decide)⟩
        obtain rfl : zs = ns' ++ ks' := (ints_inj (PyData.tuple.inj en3)).symm
        obtain ⟨o3, xs3, rfl, eo3, tl3⟩ := ty7
        have lx3 : xs3.length = (pl (ns' ++ ks')).length := tl3.len
        have hd7 := s7 _ _ (s6 _ _ hd)
        refine ⟨o3, rfl, ⟨_, .inl (.inl eo3)⟩, fun L nL => ?_⟩
        refine lc_tup (K := K) (a := o3) (xs := xs3) (fun i Z => Same H7 Z ∧ Z L = some (.lst ((((pl (ns' ++ ks')).take i).map (both ns'.length num num2)).map V.int))) ⟨sub_same nL, upd_same⟩ (fun i Z _ h => .inl (.inl (h.1 _ _ eo3))) ?_ ?_
        · rintro i x Z hx ⟨sz, hl⟩
          obtain ⟨t, c, et, rfl, ec⟩ := tl3.tri hx
          have mt := (pl_app S S2 SB).mp (List.mem_of_getElem? et)
          have il := (List.getElem?_eq_some_iff.mp et).1
          refine ⟨rfl, yesT ⟨_, rfl, _, rfl, D, .int (both ns'.length num num2 t), rfl, ?_, ?_⟩⟩
          · have z := DGet.t (k := triK t) (sz _ _ hd7) (sz _ _ ec)
            rw [valV_dictO, if_pos mt] at z
            exact z
          · refine ⟨_, hl, ?_, fun k ob e => ?_, ?_⟩
            · rw [List.length_map, List.length_map, List.length_take, sizeLine_eq]
              have := MB.2.1
              omega
            · rw [upd_ne (fun z => by rw [z, nL] at e; cases e)]
              exact sz _ _ e
            · rw [upd_same, List.take_succ, et, List.map_append, List.map_append]
              rfl
        · rintro Z ⟨sz, hl⟩
          rw [lx3, List.take_length] at hl
          refine .inl ⟨L, _, rfl, .inl (.inl hl), fun r nr => ?_⟩
          have s8 := sub_same (o := .tup ((numsL (both ns'.length num num2) (ns' ++ ks')).map V.int)) nr
          have s68 := ((s6.trans s7).trans sz).trans s8
          refine ⟨p, r, pn, ns' ++ ks', _, rfl, sqt_new (s68 _ _ epY), tp6.same ((s7.trans sz).trans s8), upd_same, fun H9 c s9 _ st => ?_⟩
          exact q' H9 c ((sHY.trans s68).trans s9) st
end
end K09

/-! # try with several clauses, some of them with a name -/
namespace K09
open PySem PySem.Spec PyProof.Rows L2
theorem sp_map {X Y : Cx} {ps qs : List (Addr × Obj)} {D D' : Ends} {f : Flow} {s : Shared} (g : ∀ σ H, Inv X ps σ H s → ∃ τ, Inv Y qs τ H s ∧ (D.nx σ H → D'.nx τ H) ∧ (D.bk σ H → D'.bk τ H) ∧ (D.ct σ H → D'.ct τ H)) (gr : ∀ σ H v, Inv X ps σ H s → D.rt v H → (∃ τ, Inv Y qs τ H s) ∧ D'.rt v H)
    (h : SP X ps D f s) : SP Y qs D' f s := by
  cases f with
  | next => obtain ⟨σ, H, I, q⟩ := h; obtain ⟨τ, J, a, _, _⟩ := g σ H I; exact ⟨τ, H, J, a q⟩
  | brk => obtain ⟨σ, H, I, q⟩ := h; obtain ⟨τ, J, _, a, _⟩ := g σ H I; exact ⟨τ, H, J, a q⟩
  | cont => obtain ⟨σ, H, I, q⟩ := h; obtain ⟨τ, J, _, _, a⟩ := g σ H I; exact ⟨τ, H, J, a q⟩
  | ret u => obtain ⟨v, σ, H, I, r, q⟩ := h; obtain ⟨⟨τ, J⟩, a⟩ := gr σ H v I q; exact ⟨v, τ, H, J, r, a⟩
/-- what a clause wishes: the class, the name's slot where it has one, the suite -/
abbrev Cl := Value × Option Nat × (Addr → Value → Option Addr → TS)
def lose (o : Option Nat) (D : Ends) : Ends := match o with
  | none => D
  | some i => { nx := fun σ H => D.nx (σ.set i none) H, rt := D.rt, bk := fun σ H => D.bk (σ.set i none) H, ct := fun σ H => D.ct (σ.set i none) H }
def gain (o : Option Nat) (a : Addr) (σ : L2.St) : L2.St := match o with
  | none => σ
  | some i => σ.set i (some (.ref a))
def wMix (K : PySem.W.Frag) (W0 : WX) (D : Ends) : List Cl → WX
  | [] => W0
  | (c, o, ts) :: r => fun cls d σ H => ∃ b, PySem.W.exmOne K cls c = some b ∧ (b = true → ∀ a, H a = none → ts a cls d (lose o D) (gain o a σ) H) ∧ (b = false → wMix K W0 D r cls d σ H)
inductive Mix (X : Cx) : List ExceptHandler → List Cl → Prop
  | nil : Mix X [] []
  | plain {x : Str} {c : Value} {ts : Addr → Value → Option Addr → TS} {b : Stmt} {su : List Stmt} {p q : Pos} {hs : List ExceptHandler} {l : List Cl} (nm : Names X x c)
      (run : ∀ (a : Addr) (oe : Obj) (cls : Value) (d : Option Addr) (pn : List (Addr × Obj)), Zc cls d oe → (∃ vs, oe.data = .fields vs) → PSs (X.suite a ((a, oe) :: pn)) (b :: su) (ts a cls d)) (r : Mix X hs l) :
      Mix X (.ExceptHandler (some (.Name x p)) none (b :: su) q :: hs) ((c, none, ts) :: l)
  | named {x n : Str} {i : Nat} {c : Value} {ts : Addr → Value → Option Addr → TS} {b : Stmt} {su : List Stmt} {p q : Pos} {hs : List ExceptHandler} {l : List Cl} (at_ : X.N[i]? = some n) (lo : X.env.kindOf n = some .local) (nm : Names X x c)
      (run : ∀ (a : Addr) (oe : Obj) (cls : Value) (d : Option Addr) (pn : List (Addr × Obj)), Zc cls d oe → (∃ vs, oe.data = .fields vs) → PSs (X.suite a ((a, oe) :: pn)) (b :: su) (ts a cls d)) (r : Mix X hs l) :
      Mix X (.ExceptHandler (some (.Name x p)) (some n) (b :: su) q :: hs) ((c, some i, ts) :: l)
section
variable {X : Cx} {body : List Stmt} {h0 : ExceptHandler} {hs : List ExceptHandler} {l : List Cl} {pos : Pos} {tb : WX → TS} {W0 : WX}
theorem ps_try_mix (st : X.stack = X.env :: X.outer) (fr : X.env.frame = some X.env.locals) (nd : X.N.Nodup) (tk : Takes X W0)
    (bd : ∀ (W : WX) (pn : List (Addr × Obj)) (xe : Value → Shared → Prop), Takes (X.tr pn xe) W → PassesOwn (model X.prog X.w) X.A X.env xe → PSs (X.tr pn xe) body (tb W))
    (mx : Mix X (h0 :: hs) l) : PS X (.Try body (h0 :: hs) [] [] pos) (fun D σ H => tb (wMix X.K W0 D l) D σ H) := by
  refine ⟨fun pins s σ H D I h => wpAny_Try_except ?_⟩
  have ok := I.ok
  have frs_ : X.A.frames = some (X.env :: X.outer) := by rw [ok.frames, st]
  refine wpAny_mono ((bd (wMix X.K W0 D l) (X.pn ++ pins) (fun e s1 => wpAny (model X.prog X.w) X.A (noteFrame e X.env) (fun _ s2 => wpAny (model X.prog X.w) X.A (setFlight e none) (fun _ s3 =>
    wpAny (model X.prog X.w) X.A (handleBy e X.env (h0 :: hs)) (SP X pins D) X.xe s3) X.xe s2) X.xe s1) (fun u s' xx => ?_) PassesOwn.looking).run [] s σ H D (I.toTry _) h)
    (fun f s1 ends => ?_) (fun e s1 he => he)
  · obtain ⟨a, B, sI, pins', σ', H', cls, d, rfl, J', nb, up, sky, na, os, ag, w⟩ := xx
    have J : Inv X pins σ' H' sI := J'.ofTry ok
    rw [st] at sky
    refine Sky.land Zc.steady frs_ fr sky fun hA flA upA => ?_
    have JA : Inv X pins σ' H' { s' with heap := hA } := J.landed nb flA.1 (up.trans upA) os ag
    obtain ⟨oA, vA, eA, zA, dA⟩ := flA.there
    have off : a ∉ frs (X.env :: X.outer) := fun hm => by
      obtain ⟨_, o', e', no⟩ := (flA.2.2.1).mem hm
      rw [eA] at e'
      cases e'
      exact no _ dA
    have nL : a ≠ X.env.locals := fun z => off (List.mem_filterMap.mpr ⟨X.env, List.mem_cons_self, by rw [fr, z]⟩)
    have nF : a ∉ X.fs := fun hm => (List.mem_filterMap.mp hm).elim fun e he => off (List.mem_filterMap.mpr ⟨e, List.mem_cons_of_mem _ he.1, he.2⟩)
    have SA := JA.suite eA dA na nL nF
    have typ : PySem.W.Looks (model X.prog X.w) hA (typeOf (.ref a)) cls := fun _ _ _ _ k q => wpAny_typeOf_ref (k _ _ eA) (by rw [zA.1]; exact q)
    have asked : ∀ {x : Str} {c : Value} {p : Pos} {b : Bool} {Q : Bool → Shared → Prop} {E : Value → Shared → Prop}, Names X x c → PySem.W.exmOne X.K cls c = some b →
        Q b { s' with heap := hA } → wpAny (model X.prog X.w) (X.A.mark (some (.ref a))) (eval (.Name x p) X.env) (fun t s1 => wpAny (model X.prog X.w) (X.A.mark (some (.ref a))) (excMatches (.ref a) t) Q E s1) E { s' with heap := hA } := fun {x c p b Q E} nm eb q => by
      have LM := PySem.W.exm_one (M := model X.prog X.w) (JA.kIn) typ eb
      obtain ⟨hg, hdbg, hm | ⟨hm, hv, hnn⟩⟩ := nm
      · exact ld_glob (X := X.suite a ((a, oA) :: (X.pn ++ pins))) SA hg hm (LM.here q) hdbg
      · exact ld_blt (X := X.suite a ((a, oA) :: (X.pn ++ pins))) SA hg hm hv (LM.here q) hnn hdbg
    have go : ∀ {hs' : List ExceptHandler} {l' : List Cl}, Mix X hs' l' → wMix X.K W0 D l' cls d σ' H' → wpAny (model X.prog X.w) X.A (handleBy (.ref a) X.env hs') (SP X pins D) X.xe { s' with heap := hA } := by
      intro hs' l' hk
      induction hk with
      | nil =>
        intro w
        obtain ⟨k1, k2, k3, oe, vs, T, oT, ts', he, hz, hd, e1, hr⟩ := id flA
        refine wpAny_handleBy_nil ?_
        unfold PySem.passOn
        refine wpAny_bind (wpAny_field he hd e1 ?_)
        rw [if_neg (by simp)]
        have fin : wpAny (model X.prog X.w) X.A (setFlight (.ref a) X.env.frame) (fun _ s4 => wpAny (model X.prog X.w) X.A (throw (.ref a) : Sem Flow) (SP X pins D) X.xe s4) X.xe { s' with heap := hA } := by
          rw [fr]
          exact HandSPX.setFlight_upZ flA fun hB hhB upB => wpAny_throw (tk _ _ ⟨a, B, sI, pins, σ', H', cls, d, rfl, J, nb, (up.trans upA).trans upB, .inr (.inr (by rw [st]; exact hhB)), na, os, ag, w⟩)
        first | exact wpAny_bind fin | exact wpAny_bind (wpAny_pure (wpAny_bind fin))
      | @plain x c ts b su p q hs2 l2 nm run r ih =>
        intro w
        obtain ⟨k, ek, yes, no⟩ := w
        refine wpAny_handleBy_cons (codeAny_handlers_test (asked nm ek ?_)) (by intro q; cases q)
        cases k with
        | false => exact ih (no rfl)
        | true =>
          refine codeAny_handlers_suite (HandSPX.lands_againZ flA fun hB flB upB => ?_)
          have JB : Inv X pins σ' H' { s' with heap := hB } := J.landed nb flB.1 ((up.trans upA).trans upB) os ag
          obtain ⟨oB, vB, eB, zB, dB⟩ := flB.there
          refine wpAny_mono ((run a oB cls d (X.pn ++ pins) zB ⟨_, dB⟩).run [] _ _ H' _ (JB.suite eB dB na nL nF) (yes rfl a na)) (fun f s6 e6 => ?_) (fun _ _ z => False.elim z)
          have z := sp_map (Y := X) (qs := pins) (D' := D) (fun σ H I => ⟨σ, I.unsuite ok, id, id, id⟩) (fun σ H v I q => ⟨⟨σ, I.unsuite ok⟩, q⟩) e6
          cases f <;> exact z
      | @named x n i c ts b su p q hs2 l2 at_ lo nm run r ih =>
        intro w
        obtain ⟨k, ek, yes, no⟩ := w
        refine wpAny_handleBy_cons (codeAny_handlers_test (asked nm ek ?_)) (by intro q; cases q)
        cases k with
        | false => exact ih (no rfl)
        | true =>
          refine codeAny_handlers_suite_as (HandSPX.lands_againZ flA fun hB flB upB => ?_)
          have JB : Inv X pins σ' H' { s' with heap := hB } := J.landed nb flB.1 ((up.trans upA).trans upB) os ag
          obtain ⟨oB, vB, eB, zB, dB⟩ := flB.there
          refine store_ok (X := X.suite a ((a, oB) :: (X.pn ++ pins))) (v := .ref a) (JB.suite eB dB na nL nF) nd at_ (.inl lo) rfl (fun s5 S5 => ?_) (.inr lo)
          refine wpAny_mono ((run a oB cls d (X.pn ++ pins) zB ⟨_, dB⟩).run [] s5 _ H' _ S5 (yes rfl a na)) (fun f s6 e6 => ?_) (fun _ _ z => False.elim z)
          have done : ∀ {σ6 : L2.St} {H6 : Hp} {Q : Shared → Prop}, Inv (X.suite a ((a, oB) :: (X.pn ++ pins))) [] σ6 H6 s6 → (∀ s7, Inv X pins (σ6.set i none) H6 s7 → Q s7) →
              wpAny (model X.prog X.w) X.A (do bindName X.env n .none; unbindBehindTheSuite X.env n q) (fun _ s7 => Q s7) X.xe s6 := fun {σ6 H6 Q} S6 hq => gone_ok (S6.unsuite ok) nd at_ lo hq
          cases f with
          | next => obtain ⟨τ, G, S6, q6⟩ := e6; exact done S6 fun s7 J7 => ⟨_, _, J7, q6⟩
          | brk => obtain ⟨τ, G, S6, q6⟩ := e6; exact done S6 fun s7 J7 => ⟨_, _, J7, q6⟩
          | cont => obtain ⟨τ, G, S6, q6⟩ := e6; exact done S6 fun s7 J7 => ⟨_, _, J7, q6⟩
          | ret u => obtain ⟨v6, τ, G, S6, r6, q6⟩ := e6; exact done S6 fun s7 J7 => ⟨_, _, _, J7, r6, q6⟩
    exact go mx w
  · have z := sp_map (Y := X) (qs := pins) (D' := D) (fun σ H I => ⟨σ, I.ofTry ok, id, id, id⟩) (fun σ H v I q => ⟨⟨σ, I.ofTry ok⟩, q⟩) ends
    cases f with
    | next => exact wpAny_execs_nil z
    | brk => exact z
    | cont => exact z
    | ret u => exact z
end
end K09

namespace PySem
namespace NumX
open PySem.W PySem.Calls PyProof.Rows PySem.HandSPX
abbrev tailIE : List Value := [.type "IndexError", .type "LookupError", .type "Exception", .type "BaseException", .type "object"]
/-! ### the text of __init__ -/
def iA (p1 p2 : Pos) : Arguments := { posonlyargs := [], args := [{ arg := "self", annotation := none, pos := p1 }, { arg := "given", annotation := none, pos := p2 }], vararg := none, kwonlyargs := [], kw_defaults := [], kwarg := none, defaults := [] }
def iB (q1 q2 q3 q4 : Pos) : List Stmt := [.Assign [.Attribute (.Name "self" q1) "given" q2] (.Name "given" q3) q4]
def iS : Scope := { kind := .function, names := [(PySem.Str.ofString "self", .local), (PySem.Str.ofString "given", .local)], isGenerator := false, isCoroutine := false, more := [] }
/-- what the written part says of Low, at C, and of its __init__, at fI -/
structure NumTxt (K : Frag) (mg : Str → Option Value) (C fI : Addr) : Prop where
  gC : mg "InvalidNumber" = some (.ref C)
  cls : ∃ nm q N bs bm sn sub ab col dd k0 k1 k2 k3 k5, K.lookup C = some (excClassObj nm q C N bs bm true sn sub ab col dd k0 k1 k2 k3 k5 "IndexError.__new__") ∧ PySem.W.excTail tailIE bm = true
  over : excOver K C tailIE = true
  tk : takerIn K C "given" = some none
  sa : findIn K (.ref C) "__setattr__" = some (some (.builtin "object.__setattr__"))
  ga : findIn K (.ref C) "__getattribute__" = some (some (.builtin "BaseException.__getattribute__"))
  gg : findIn K (.ref C) "__getattr__" = some none
  noN : findIn K (.ref C) "given" = some none
  iC : findIn K (.ref C) "__init__" = some (some (.ref fI))
  tC : typeIn K (.ref fI) = some (.type "function")
  kC : keepIn K (.ref C) = true
  exC : subIn K (.ref C) (.type "BaseException") = some true
  tyC : typeIn K (.ref C) = some (.type "type")
  hdC : hasDictIn K C = true
  te : exmOne K (.ref C) (.ref C) = some true
  fn : ∃ (oc : Value) (od : Option Addr) (doc pm : Value) (an : Option Addr) (cdv ct : Value) (osl : Array (Option Value)) (p1 p2 q1 q2 q3 q4 : Pos),
    K.lookup fI = some ⟨oc, od, .func (fnOf "__init__" "InvalidNumber.__init__" (iA p1 p2) (iB q1 q2 q3 q4) iS .none .none doc pm an cdv ct), osl⟩ ∧ codeIn K cdv "InvalidNumber.__init__" = true
section
open Builtin Builtin.ObjectAttr
variable {prog : Program} {w : World} {A : Around} {E : Value → Shared → Prop} {R : Result → Shared → Prop} {hp : Heap} {g : Array GenState} {d : Drawn} {t : Nat} {os : OsState}
/-- the first field of an exception over IndexError is stored: its dict is made -/
theorem num_osa {K : Frag} {nam : Str} {tok : Tok} {u : Value} {ex C t0 : Addr} {cdt : ClassData} (X : K.In hp) (he : hp.get? ex = some (excO C t0)) (hcl : clsIn K C = some cdt) (hdi : cdt.hasDict = true) (hov : excOver K C tailIE = true) (htk : takerIn K C nam = some none)
    (go : ∀ h' tk' dx, (∀ b o, b ≠ ex → hp.get? b = some o → h'.get? b = some o) → hp.objs.size ≤ dx → dx ≠ ex → h'.get? ex = some { cls := .ref C, dict := some dx, data := .fields #[.ref t0, .none, .none, .none, .bool false, .none] } →
      h'.Ns1 dx (fun y => if y = nam then some u else none) → R (.ok (.ret .none)) ⟨h', g, d, tk', os⟩) :
    codeAny (model prog w) A (.call (.builtin "object.__setattr__") ⟨[.ref ex, .str nam tok, u], []⟩) R ⟨hp, g, d, t, os⟩ := by
  have J : InstAt hp ex (excO C t0) C none := ⟨he, rfl, rfl, trivial⟩
  have away : ex ≠ hp.objs.size := Nat.ne_of_lt (Heap.lt_size he)
  have look : Looks (model prog w) hp (classData C) cdt := looks_clsIn X hcl
  refine osa_openX F.store_IndexError X J hov htk (fun b => ?_)
  show wpAny _ _ (storeInOwnDict (.ref ex) (.ref C) (.str nam tok) nam u b) _ _ _
  obtain ⟨c1, c2, c3, c4, c5, c6, c7, c8, c9, c10, c11⟩ := cdt
  dsimp only at hdi
  subst hdi
  unfold storeInOwnDict ownDictForStores
  repeat (first | with_reducible refine store_in_new ?_ ?_ | with_reducible refine wpAny_loadPart_at he ?_ | with_reducible refine look.at ?_ | wp_step)
  · exact ⟨_, #[], _, (Heap.get?_update_ne _ _ _ _ away.symm).trans (Heap.get?_push_at rfl rfl), rfl, fun z hz => absurd hz (by simp), fun _ => rfl⟩
  · intro h' tk' hn' same
    have he1 : (hp.push { cls := .type "dict", data := .dict #[] }).get? ex = some (excO C t0) := Heap.get?_push_of_some _ he
    refine go h' tk' hp.objs.size (fun b o hb ho => ?_) (Nat.le_refl _) away.symm ?_ hn'
    · have y := same.2 b (Nat.ne_of_lt (Heap.lt_size ho))
      exact y.trans ((Heap.get?_update_ne _ _ _ _ hb).trans (Heap.get?_push_of_some _ ho))
    · exact (same.2 ex away).trans (Heap.get?_update_self _ he1 rfl)
end
theorem one_size (v : Value) : [v].length ≤ sizeLine := by
  rw [sizeLine_eq]
  exact (by decide : 1 ≤ 16777216)
theorem kept_but {K : Frag} {h h' : Heap} {x : Addr} (X : K.In h) (hx : K.lookup x = none) (k : ∀ b o, b ≠ x → h.get? b = some o → h'.get? b = some o) : K.In h' := fun a o e =>
  k a o (fun z => by rw [z, hx] at e; cases e) (X a o e)
theorem ldC {M : Model} {s : Shared} {name : Str} {scope : Scope} {L a : Addr} {cd : Value} {m : Str → Option Value} {x : Str} {pos : Pos} {v : Value} {Q : Value → Shared → Prop} {A : Around} {E : Value → Shared → Prop} (hn : s.heap.Ns L m) (hv : m x = some v) (h : Q v s)
    (hk : scope.kind = .function := by rfl) (hl : (envOfC name scope L a cd).kindOf x = some .local := by rfl) (hd : (x == ("__debug__" : Str)) = false := by decide) :
    wpAny M A (eval (.Name x pos) (envOfC name scope L a cd)) Q E s := wpAny_Name (wpAny_loadName_local hk hl hn hv h) hd
/-- what __init__ leaves of a fresh exception at x -/
structure InitEnd (h h' : Heap) (x C dx t1 : Addr) (v : Value) : Prop where
  keep : ∀ b o, b ≠ x → h.get? b = some o → h'.get? b = some o
  obj : h'.get? x = some { cls := .ref C, dict := some dx, data := .fields #[.ref t1, .none, .none, .none, .bool false, .none] }
  dbig : h.objs.size ≤ dx
  dne : dx ≠ x
  ns : h'.Ns1 dx (fun y => if y = "given" then some v else none)
/-- a made Low -/
structure OwnMade (h h' : Heap) (e C d : Addr) (v : Value) : Prop where
  keep : ∀ b o, h.get? b = some o → h'.get? b = some o
  new : h.objs.size ≤ e
  obj : ∃ oe vs, h'.get? e = some oe ∧ oe.cls = .ref C ∧ oe.dict = some d ∧ oe.data = .fields vs ∧ vs[1]? = some .none
  dbig : h.objs.size ≤ d
  dne : d ≠ e
  ns : h'.Ns1 d (fun y => if y = "given" then some v else none)
section
variable {prog : Program} {w : World} {A : Around} {E : Value → Shared → Prop} {R : Result → Shared → Prop} {s : Shared} {K : Frag} {mg : Str → Option Value} {C fI : Addr}
theorem num_init (T : NumTxt K mg C fI) {x t0 : Addr} {v : Value} (X : K.In s.heap) (hlim : s.heap.NoLimit) (hx : s.heap.get? x = some (excO C t0)) (hnx : K.lookup x = none) (hroom : A.depth < recursionLimit)
    (hq : ∀ h' tk dx, InitEnd s.heap h' x C dx t0 v → R (.ok (.ret .none)) { s with heap := h', toks := tk }) :
    codeAny (model prog w) A (.call (.ref fI) ⟨[.ref x, v], []⟩) R s := by
  obtain ⟨oc, od, doc, pm, an, cdv, ct, osl, p1, p2, q1, q2, q3, q4, ho, hcd⟩ := T.fn
  obtain ⟨nm, q, N, bs, bm, sn, sub, ab, col, dd, k0, k1, k2, k3, k5, hC, hbm⟩ := T.cls
  have hcl : clsIn K C = some { name := nm, bases := bs, mro := .ref C :: bm, ns := N, qualname := q, hasDict := true, slotNames := sn, subclasses := sub, abstract := ab, collection := col, hasDel := false } := by unfold clsIn; rw [hC] <;> rfl
  refine Att.call_fn (binds := [("self", .ref x), ("given", v)]) X hlim ho hcd hroom (BindsTo.of_eq (by first | rfl | with_unfolding_all rfl)) (by first | rfl | decide | with_unfolding_all rfl) (fun s₁ IC => ?_) rfl rfl rfl
  obtain ⟨h₁, tk₁, rfl⟩ := IC.toInCall.same
  have k : ∀ b o, s.heap.get? b = some o → h₁.get? b = some o := IC.toInCall.keep
  have hn := IC.toInCall.ns
  have hxL : s.heap.objs.size ≠ x := Nat.ne_of_gt (Heap.lt_size hx)
  have X₁ : K.In h₁ := X.keeps k
  have hx₁ := k _ _ hx
  -- self.by = by
  show wpAny _ _ (execs _ _) _ _ _
  refine wpAny_execs_cons (plainObj_wpAny_Assign_Attribute ?_)
  refine ldC (v := v) hn (by first | rfl | with_unfolding_all rfl | kernel_rfl) (ldC (v := .ref x) hn (by first | rfl | with_unfolding_all rfl | kernel_rfl) ?_)
  refine set_plain X₁ (ox := excO C t0) (od := none) ⟨hx₁, rfl, rfl, trivial⟩ T.sa ?_
  refine num_osa X₁ hx₁ hcl rfl T.over T.tk (fun h₃ tk₃ dx k₃ dn dne hx₃ hn₃ => ?_)
  show wpAny _ _ (execs _ _) _ _ _
  have z : s.heap.objs.size < h₁.objs.size := hn.lt
  exact wpAny_execs_nil (hq h₃ tk₃ dx ⟨fun b o hb e => k₃ b o hb (k b o e), hx₃, Nat.le_of_lt (Nat.lt_of_lt_of_le z dn), dne, hn₃⟩)
theorem num_made (T : NumTxt K mg C fI) {v : Value} (X : K.In s.heap) (hlim : s.heap.NoLimit) (hroom : A.depth + 1 < recursionLimit)
    (hq : ∀ h' tk e d, OwnMade s.heap h' e C d v → R (.ok (.ret (.ref e))) { s with heap := h', toks := tk }) :
    codeAny (model prog w) A (.call (.ref C) ⟨[v], []⟩) R s := by
  obtain ⟨nm, q, N, bs, bm, sn, sub, ab, col, dd, k0, k1, k2, k3, k5, hC, hbm⟩ := T.cls
  obtain ⟨hp, g, dr, tk, os⟩ := s
  have k : ∀ b o, hp.get? b = some o → ((hp.push (kdv_tup [v])).push (excO C hp.objs.size)).get? b = some o := fun b o e => Heap.get?_push_of_some _ (Heap.get?_push_of_some _ e)
  have hget : ((hp.push (kdv_tup [v])).push (excO C hp.objs.size)).get? (hp.objs.size + 1) = some (excO C hp.objs.size) := by heap_get
  have hnx : K.lookup (hp.objs.size + 1) = none := by
    cases e : K.lookup (hp.objs.size + 1) with
    | none => rfl
    | some o =>
      have z : hp.get? (hp.objs.size + 1) = some o := X _ _ e
      exact absurd (Nat.lt_of_succ_lt (Heap.lt_size z)) (Nat.lt_irrefl _)
  refine call_own F.excBase_IndexError (fun X => PySem.W.excTail_contains X bm hbm) (X _ _ hC) (looks_findIn X T.iC) (fun self => bind_fn X self T.tC) (one_size v) ?_
  refine num_init (s := ⟨(hp.push (kdv_tup [v])).push (excO C hp.objs.size), g, dr, tk, os⟩) T (X.keeps k) (hlim.keeps k) hget hnx ?_ fun h' tk' dx ⟨k', hx, dn, dne, hns⟩ => ?_
  · show A.depth + 1 < recursionLimit
    exact hroom
  · have old : ∀ b o, hp.get? b = some o → h'.get? b = some o := fun b o e => k' b o (Nat.ne_of_lt (Nat.lt_succ_of_lt (Heap.lt_size e))) (k b o e)
    have z : hp.objs.size + 1 + 1 ≤ dx := by
      first
        | (simpa only [Heap.size_push] using dn)
        | exact dn
        | (have q := dn; rw [Heap.size_push, Heap.size_push] at q; exact q)
    exact ⟨rfl, hq h' tk' (hp.objs.size + 1) dx ⟨old, Nat.le_succ _, ⟨_, _, hx, rfl, rfl, rfl, rfl⟩, Nat.le_trans (Nat.le_trans (Nat.le_succ _) (Nat.le_succ _)) z, dne, hns⟩⟩
end
end NumX
end PySem
namespace L2
open PySem PySem.Spec PyProof.Rows
theorem relO_num {v : V} {v' : Value} (r : RelV v v') (f : Str) : RelO (List.lookup f [(("given" : Str), v)]) (if f = "given" then some v' else none) := by
  by_cases hw : f = "given"
  · subst hw
    rw [if_pos rfl]
    have q : List.lookup ("given" : Str) [(("given" : Str), v)] = some v := by simp [List.lookup]
    rw [q]
    exact r
  · rw [if_neg hw]
    have qw : (f == ("given" : Str)) = false := by simpa using hw
    have q2 : List.lookup f [(("given" : Str), v)] = none := by simp [List.lookup, qw]
    rw [q2]
    trivial
section
variable {X : Cx} {C fI : Addr}
/-- Low(e) -/
def tMkNum (C : Addr) (ta : TA) : St → Hp → XK → Prop := fun σ H Q => ta σ H fun vs H1 => ∃ v, vs = [v] ∧ ∀ d, H1 d = none → Q (.ref C) (some d) (upd H1 d (.xd [(("given" : Str), v)]))
theorem pmk_num {a : Expr} {ta : TA} {p pos : Pos} {k : Nat} (T : PySem.NumX.NumTxt X.K X.mg C fI) (hr : Room k X.A) (ha : PA X [a] ta) (hg : Gl X "InvalidNumber" := by rfl)
    (he : starEach (a :: []) X.env = (false, eval a X.env) :: starEach [] X.env := by rfl) (hpl : (backTo pos (starEach [] X.env)).any (·.1) = false := by rfl) :
    PMk X (.Call (.Name "InvalidNumber" p) [a] [] pos) (tMkNum C ta) := by
  intro pins s σ H Q I h
  refine wpAny_Call_Name_kw (ld_glob I hg T.gC ?_)
  refine PySem.W.callWith_K (h₀ := X.base) I.ok.mod.kin T.kC (thn (ha.run pos pins s σ H _ I h) fun us s1 hh => ?_) he hpl
  obtain ⟨vs, H1, I1, r1, v, ev, q1⟩ := hh
  subst ev
  refine ⟨I1.kIn, ?_⟩
  cases r1 with
  | cons rv rn =>
    rename_i v' us'
    cases rn
    show wpAny _ _ (call (.ref C) [v']) _ _ _
    have hlim := I1.nolimit
    obtain ⟨hp, g, dr, tk, os⟩ := s1
    refine wpAny_call (PySem.NumX.num_made T I1.kIn hlim (by have := hr.dp; omega) fun h' tk' e d M => ?_)
    show MkP X pins σ Q (.ref e) ⟨h', g, dr, tk', os⟩
    obtain ⟨oe, fv, hoe, hc, hd, hdat, h1⟩ := M.obj
    have hns := M.ns
    obtain ⟨G', g1, g2⟩ := restrict h' fun b => decide (b ≠ e)
    have gk : ∀ b, b ≠ e → G'.get? b = h'.get? b := fun b hb => g1 b (decide_eq_true hb)
    have ge : G'.get? e = none := g2 e (by simp)
    have old : ∀ b o, hp.get? b = some o → G'.get? b = some o := fun b o q => (gk b (Nat.ne_of_lt (Nat.lt_of_lt_of_le (Heap.lt_size q) M.new))).trans (M.keep b o q)
    have ob : ObjOk X.prog X.w (upd H1 d (.xd [(("given" : Str), v)])) G' d (.xd [(("given" : Str), v)]) :=
      ⟨_, hns.at (fun o q => (gk d M.dne).trans q), fun f => relO_num rv f⟩
    have J : Inv X pins σ (upd H1 d (.xd [(("given" : Str), v)])) ⟨G', g, dr, tk', os⟩ := I1.laid (t' := tk') old M.dbig ob
    refine ⟨e, oe, fv, ⟨G', g, dr, tk', os⟩, _, .ref C, some d, rfl, J, fun b o q => ?_, ge, hoe, ⟨hc, hd⟩, hdat, h1, ?_, rfl, I1.bare, raises_own T.exC T.tyC, q1 d (I1.hok.fresh M.dbig)⟩
    · by_cases hb : b = e
      · have q' : G'.get? b = some o := q
        rw [hb, ge] at q'; cases q'
      · exact (gk b hb).symm.trans q
    · rw [upd_ne (Ne.symm M.dne)]
      exact I1.hok.fresh M.new
/-- raise Low(e) -/
def tRaiseNum (C : Addr) (W : WX) (ta : TA) : TS := fun _ σ H => tMkNum C ta σ H fun cls d H' => W cls d σ H'
theorem ps_raiseNum {a : Expr} {ta : TA} {W : WX} {p pos pos2 : Pos} {k : Nat} (hc : X.calm = true) (T : PySem.NumX.NumTxt X.K X.mg C fI) (hr : Room k X.A) (tk : Takes X W) (ha : PA X [a] ta) (hg : Gl X "InvalidNumber" := by rfl)
    (he : starEach (a :: []) X.env = (false, eval a X.env) :: starEach [] X.env := by rfl) (hpl : (backTo pos (starEach [] X.env)).any (·.1) = false := by rfl) :
    PS X (.Raise (some (.Call (.Name "InvalidNumber" p) [a] [] pos)) none pos2) (tRaiseNum C W ta) := ps_raise hc tk (pmk_num T hr ha hg he hpl)
/-- low.by, low the exception that the suite holds (at a; its class cls, its dict d) -/
def tGiven (C : Addr) (a : Addr) (cls : Value) (d : Option Addr) (te : TE) : TE := fun σ H Q => te σ H fun x H1 => x = .ref a ∧ cls = .ref C ∧ ∃ (dd : Addr) (v : V), d = some dd ∧ H1 dd = some (.xd [(("given" : Str), v)]) ∧ Q v H1
theorem pe_given {a : Addr} {oe : Obj} {cls : Value} {d : Option Addr} {pn : List (Addr × Obj)} {e : Expr} {te : TE} {pos : Pos} (T : PySem.NumX.NumTxt X.K X.mg C fI) (hz : Zc cls d oe) (hf : ∃ vs, oe.data = .fields vs) (he : PE (X.suite a ((a, oe) :: pn)) e te)
    (hb : attributeBase e "given" X.env (eval e X.env) = eval e X.env := by rfl) :
    PE (X.suite a ((a, oe) :: pn)) (.Attribute e "given" pos) (tGiven C a cls d te) := by
  refine ⟨fun pins s σ H Q I h => ?_⟩
  refine attr_of hb (thn (he.run pins s σ H _ I h) fun u s1 hh => ?_)
  obtain ⟨x, H1, I1, rx, ex, ec, dd, v, ed, ea, q⟩ := hh
  subst ex
  obtain rfl : u = Value.ref a := rx
  subst ec
  subst ed
  obtain ⟨ha, _⟩ := I1.pin (a, oe) (List.mem_append_left _ List.mem_cons_self)
  obtain ⟨vs, hd⟩ := hf
  have hx : ObjOk X.prog X.w H1 s1.heap dd (.xd [(("given" : Str), v)]) := I1.hok dd _ ea
  obtain ⟨mA, hns, hr⟩ := hx
  obtain ⟨od, ho, hl⟩ := lookIn_ns hns
  have l : List.lookup ("given" : Str) [(("given" : Str), v)] = some v := by simp [List.lookup]
  obtain ⟨u, hu, ru⟩ := RelO.some_of (v := v) (o := mA "given") (by rw [← l]; exact hr "given")
  have J : PySem.W.InstAt s1.heap a oe C (some od) := ⟨ha, hz.1, by unfold PySem.W.notCls; rw [hd] <;> rfl, by rw [hz.2]; exact ho⟩
  exact HandSPX.exc_get I1.kIn J T.ga T.gg T.exC (PySem.W.findObj_own T.hdC T.noN rfl (by rw [hl, hu])) (handed_of ru) ⟨v, H1, I1.tok _, ru, q⟩
end
end L2

namespace K09
open PySem PySem.Spec PyProof.Rows L2
/-- x has the data d -/
inductive Shw (H : Hp) : V → PyData → Prop
  | non : Shw H .non .none
  | bl (b : Bool) : Shw H (.bl b) (.bool b)
  | int (i : Int) : Shw H (.int i) (.int i)
  | str (z : Str) : Shw H (.str z) (.str z)
  | tup {a : Addr} {ns : List Int} : H a = some (.tup (ns.map V.int)) → Shw H (.ref a) (.tuple (ns.map PyData.int))
  | lst {a : Addr} {ns : List Int} : H a = some (.lst (ns.map V.int)) → ns.length < 3 → Shw H (.ref a) (.list (ns.map PyData.int))
  | emp {a : Addr} : H a = some (.dK []) → Shw H (.ref a) (.dict [])
theorem Shw.same {H H' : Hp} {x : V} {d : PyData} (h : Shw H x d) (s : Same H H') : Shw H' x d := by
  cases h with
  | non => exact .non
  | bl b => exact .bl b
  | int i => exact .int i
  | str z => exact .str z
  | tup e => exact .tup (s _ _ e)
  | lst e l => exact .lst (s _ _ e) l
  | emp e => exact .emp (s _ _ e)
theorem Shw.old {H H' : Hp} {x : V} {d : PyData} {u : Addr} (h : Shw H x d) (hu : Urn H u) (s : Old u H H') : Shw H' x d := by
  obtain ⟨g, m, c, eu⟩ := hu
  have off : ∀ {a : Addr} {o : HO}, H a = some o → o ≠ .lst [.int g, .int m, .int c] → a ≠ u := fun e ne z => by
    subst z
    rw [e] at eu
    exact ne (Option.some.inj eu)
  cases h with
  | non => exact .non
  | bl b => exact .bl b
  | int i => exact .int i
  | str z => exact .str z
  | tup e => exact .tup (s _ _ (off e (fun z => by cases z)) e)
  | @lst a ns e l =>
    refine .lst (s _ _ (off e (fun z => ?_)) e) l
    have z1 := congrArg List.length (HO.lst.inj z)
    rw [List.length_map] at z1
    have z2 : ns.length = 3 := z1
    omega
  | emp e => exact .emp (s _ _ (off e (fun z => by cases z)) e)
/-- short enough to be shown -/
structure Small (d : PyData) : Prop where
  sh : d.showable = true
  dp : d.depth ≤ 3
  sz : d.shown.length ≤ 400
  sl : (PyData.list [d]).shown.length ≤ sizeLine
theorem nd_ints : ∀ ns : List Int, PyData.hasDictAll (ns.map PyData.int) = false
  | [] => rfl
  | n :: ns => by
    show (PyData.hasDict (.int n) || PyData.hasDictAll (ns.map PyData.int)) = false
    rw [nd_ints ns]
    rfl
section
variable {X : Cx} {pins : List (Addr × Obj)} {σ : L2.St} {H : Hp} {s : Shared}
theorem Shw.reads (I : Inv X pins σ H s) {x : V} {u : Value} {d : PyData} (r : RelV x u) (h : Shw H x d) : ∃ as, Reads s.heap u d as ∧ (d.hasDict = true → sysModules ∉ as) := by
  cases h with
  | non =>
    obtain ⟨as, z⟩ := Dp.reads I .none .non u .non r
    exact ⟨as, z, fun y => nomatch y⟩
  | bl b =>
    obtain ⟨as, z⟩ := Dp.reads I (.bool b) (.bl b) u (.bl b) r
    exact ⟨as, z, fun y => nomatch y⟩
  | int i =>
    obtain ⟨as, z⟩ := Dp.reads I (.int i) (.int i) u (.int i) r
    exact ⟨as, z, fun y => nomatch y⟩
  | str t =>
    obtain ⟨as, z⟩ := Dp.reads I (.str t) (.str t) u (.str t) r
    exact ⟨as, z, fun y => nomatch y⟩
  | @tup a ns e =>
    obtain ⟨as, z⟩ := Dp.reads I _ _ u (.tup (.inl (.inl e)) (dp_ints _ _ ns)) r
    exact ⟨as, z, fun y => by have y' : PyData.hasDictAll (ns.map PyData.int) = true := (by simpa only [PyData.hasDict] using y); rw [nd_ints] at y'; cases y'⟩
  | @lst a ns e _ =>
    obtain ⟨as, z⟩ := Dp.reads I _ _ u (.lst (.inl (.inl e)) (dp_ints _ _ ns)) r
    exact ⟨as, z, fun y => by have y' : PyData.hasDictAll (ns.map PyData.int) = true := (by simpa only [PyData.hasDict] using y); rw [nd_ints] at y'; cases y'⟩
  | @emp a e =>
    obtain rfl : u = Value.ref a := r
    obtain ⟨_, lo, vs, kv, o, es, ep, h1, h2, h3, _, h5, _⟩ := dk_of I.hok e
    cases kv
    have nil : es.toList = [] := by
      generalize es.toList = l at h5
      cases h5
      rfl
    refine ⟨[a] ++ [], Reads.dict (kvs := []) h1 h2.1 h3 ?_ ?_, fun _ z => ?_⟩
    · rw [nil]
      exact ReadsAll.nil
    · rw [nil]
      exact ReadsAll.nil
    · have z1 : sysModules = a := List.mem_singleton.mp (by simpa using z)
      rw [← z1] at lo
      simp at lo
/-- repr(x) -/
theorem call_repr_v (no : X.A.guards = some []) (hu : X.A.units + 100 < cLine) : CallR X (.builtin "repr") (fun xs H Q => ∃ (x : V) (d : PyData), xs = [x] ∧ Shw H x d ∧ Small d ∧ Q (.str d.shown) H) := by
  intro pins s σ H vs us Q I r h
  obtain ⟨x, d, rfl, hs, sm, q⟩ := h
  obtain ⟨u, rfl, rx⟩ := vals1 r
  have ref : ∀ a, x = .ref a → wpAny (model X.prog X.w) X.A (call (.builtin "repr") [u]) (EP X pins σ Q) X.xe s := fun a ex => by
    subst ex
    obtain ⟨as, hr, hm⟩ := hs.reads I rx
    obtain rfl : u = Value.ref a := rx
    have dpt := sm.dp
    exact repr_of_reads' hr sm.sh hm no (by omega) (fun b o e => e) (fun h' t tk k => ⟨.str d.shown, H, I.kept (h' := h') (t' := tk) k, ⟨_, rfl⟩, q⟩) (Nat.le_trans sm.sz (by decide))
  cases hs with
  | non =>
    cases rx
    exact PySem.P.repr_of_none ⟨.str _, H, I.tok _, ⟨_, rfl⟩, q⟩
  | bl b =>
    cases rx
    refine PySem.P.repr_of_bool ⟨.str _, H, I.tok _, ⟨_, rfl⟩, ?_⟩
    cases b <;> exact q
  | int i =>
    obtain ⟨t, rfl⟩ := rx
    have z : i.natAbs.log2 < 1920 := by
      have y := sm.sh
      exact of_decide_eq_true (by simpa only [PyData.showable] using y)
    exact PySem.P.repr_of_int z ⟨.str _, H, I.tok _, ⟨_, rfl⟩, q⟩
  | str z =>
    obtain ⟨t, rfl⟩ := rx
    have y := Nat.le_trans sm.sz (by decide : 400 ≤ sizeLine)
    exact PySem.P.repr_of_str ⟨.str _, H, I.tok _, ⟨_, rfl⟩, q⟩ y
  | tup e => exact ref _ rfl
  | lst e l => exact ref _ rfl
  | emp e => exact ref _ rfl
end
end K09

/-! # where no repr is under way -/
namespace K09
open PySem PySem.Spec PyProof.Rows L2 TL NumText
/-- a def's promise, kept where no repr is under way -/
structure FnG (P : Program) (w : World) (K : PySem.W.Frag) (mg : Str → Option Value) (base : Heap) (CX : CXT) (k : Nat) (f : Addr) (fd : FuncData) (ps : List Str) (sp : Sp) : Prop where
  size : ∀ vs H Q E, sp vs H Q E → vs.length = ps.length
  runs : ∀ (A : Around) (out : List Env) (s : Shared) (H : Hp) (ar : Args) (us : List Value) (vs : List V) (Q : VK) (E : XK), A.guards = some [] → Room k A → Env0 P w K mg base A out s H → BindsTo s fd ar (ps.zip us) → Vals vs us → sp vs H Q E →
    codeAny (model P w) A (.call (.ref f) ar) (CR CX out P w H s Q E) s
theorem deep_guards {A : Around} {env : Env} (h : A.guards = some []) : (A.deeper env).guards = some [] := by
  first | exact h | (simp [Around.deeper, h])
theorem FnG.of {P : Program} {w : World} {K : PySem.W.Frag} {mg : Str → Option Value} {base : Heap} {k : Nat} {x qual : Str} {st : Stmt} {f : Addr} {fd : FuncData} {N ps : List Str} {sp : Sp} (F : Fun K x qual st f fd) (S : FnScope N ps (defScope st))
    (size : ∀ vs H Q E, sp vs H Q E → vs.length = ps.length)
    (body : ∀ (cdv : Value) (A : Around) (out : List Env) (s : Shared) (H : Hp) (vs : List V) (Q : VK) (E : XK), (A.deeper (envOfC qual (defScope st) s.heap.objs.size f cdv)).guards = some [] → Room k (A.deeper (envOfC qual (defScope st) s.heap.objs.size f cdv)) → sp vs H Q E →
      ∃ t, PSs (cxOf CX0 P w K mg base N qual (defScope st) f cdv A out s H E).nox (defBody st) t ∧ t { nx := fun _ H' => Q .non H', rt := Q } (start N vs) H) :
    FnG P w K mg base CX0 (k + 1) f fd ps sp := by
  obtain ⟨oc, od, kV, doc, pm, an, cdv, ct, osl, rfl, lk, hcd⟩ := F.ex
  refine ⟨size, fun A out s H ar us vs Q E hg hr e0 hb r hs => ?_⟩
  have many := size _ _ _ _ hs
  have low : ∀ b o, base.get? b = some o → s.heap.get? b = some o := fun b o e => (e0.bs b o e).1
  refine Att.call_fn (e0.mod.kin.keeps low) (e0.mod.nolimit.keeps low) lk hcd hr.depth hb ?_ (fun s1 x => ?_) S.co S.gen S.kind
  · rw [List.all_eq_true]
    rintro ⟨n, v⟩ hy
    have z := S.par n (List.of_mem_zip hy).1
    rcases z with z | z <;> simp [z]
  · obtain ⟨t, ht, hq⟩ := body cdv A out s H vs Q E (deep_guards hg) (hr.deeper _) hs
    have I : Inv (cxOf CX0 P w K mg base N qual (defScope st) f cdv A out s H E) [] (start N vs) H s1 := inv_start S hr.hd e0 many r x
    refine wpAny_mono (ht.nox.run [] s1 (start N vs) H _ I hq) (fun fl s' ends => ?_) fun e s' z => z
    have fin : ∀ {σ : L2.St} {H' : Hp} {v : V} {u : Value}, Inv (cxOf CX0 P w K mg base N qual (defScope st) f cdv A out s H E) [] σ H' s' → RelV v u → Q v H' → CE out P w H s Q u s' := fun {_ H' v _} J rv q =>
      ⟨v, H', J.os, J.bare, J.base, J.hok, rv, q⟩
    cases fl with
    | ret u =>
      obtain ⟨v, σ, H', J, rv, q⟩ := ends
      exact fin J rv q
    | next =>
      obtain ⟨σ, H', J, q⟩ := ends
      exact fin (v := V.non) (u := Value.none) J rfl q
    | brk =>
      obtain ⟨_, _, _, no⟩ := ends
      exact False.elim no
    | cont =>
      obtain ⟨_, _, _, no⟩ := ends
      exact False.elim no
section
variable {X : Cx} {k : Nat} {f : Addr} {fd : FuncData} {ps : List Str} {sp : Sp} {x : Str} {p pos : Pos} {e : Expr} {es : List Expr} {t : TA}
/-- f(e, ..) where no repr is under way -/
theorem pe_callG (G : FnG X.prog X.w X.K X.mg X.base CX0 k f fd ps sp) (no : X.A.guards = some []) (hr : Room k X.A) (hg : Gl X x) (hm : X.mg x = some (.ref f)) (hk : PySem.W.keepIn X.K (.ref f) = true) (hb : Binds X.K fd ps [])
    (ha : PA X (e :: es) t) (hdb : (x == ("__debug__" : Str)) = false := by decide) (he : starEach (e :: es) X.env = (false, eval e X.env) :: starEach es X.env := by rfl) (hpl : (backTo pos (starEach es X.env)).any (·.1) = false := by rfl) :
    PE X (.Call (.Name x p) (e :: es) [] pos) (tCall sp [] E0 t) := by
  refine ⟨fun pins s σ H Q I h => wpAny_Call_Name_kw (ld_glob I hg hm ?_ hdb)⟩
  refine PySem.W.callWith_K (h₀ := X.base) I.ok.mod.kin hk (thn (ha.run pos pins s σ H _ I h) fun us s1 ⟨vs, H1, I1, r, q⟩ => ⟨I1.kIn, ?_⟩) he hpl
  have q1 : sp vs H1 Q E0 := by
    have q2 : sp (vs ++ []) H1 Q E0 := q
    rwa [List.append_nil] at q2
  have many : (us ++ []).length = ps.length := by
    rw [List.append_nil, ← r.length]
    exact G.size _ _ _ _ q1
  have bnd := hb s1 us I1.kIn many
  rw [List.append_nil] at bnd
  refine wpAny_call (codeAny_mono (G.runs X.A X.stack s1 H1 ⟨us, []⟩ us vs Q E0 no hr I1.env0 bnd r q1) fun res s' z => ?_)
  cases res with
  | error e => exact False.elim z
  | ok fl =>
    cases fl with
    | ret u => exact I1.after z
    | next => exact False.elim z
    | brk => exact False.elim z
    | cont => exact False.elim z
end

/-! ### defs with code tables, where no repr is under way -/
/-- a def whose code object is at c -/
structure FunC (K : PySem.W.Frag) (x : Str) (st : Stmt) (f c : Addr) (fd : FuncData) : Prop where
  ex : ∃ (oc : Value) (od : Option Addr) (kV doc pm : Value) (an : Option Addr) (ct : Value) (osl : Array (Option Value)),
    fd = PySem.W.fnOf x x (defArgs st) (defBody st) (defScope st) .none kV doc pm an (.ref c) ct ∧ K.lookup f = some ⟨oc, od, .func fd, osl⟩ ∧ PySem.W.codeIn K (.ref c) x = true
  kp : PySem.W.keepIn K (.ref f) = true
theorem FnG.ofC {P : Program} {w : World} {K : PySem.W.Frag} {mg : Str → Option Value} {base : Heap} {k : Nat} {x : Str} {st : Stmt} {f c : Addr} {fd : FuncData} {N ps : List Str} {sp : Sp} (F : FunC K x st f c fd) (S : FnScope N ps (defScope st))
    (size : ∀ vs H Q E, sp vs H Q E → vs.length = ps.length)
    (body : ∀ (A : Around) (out : List Env) (s : Shared) (H : Hp) (vs : List V) (Q : VK) (E : XK), (A.deeper (envOfC x (defScope st) s.heap.objs.size f (.ref c))).guards = some [] → Room k (A.deeper (envOfC x (defScope st) s.heap.objs.size f (.ref c))) → sp vs H Q E →
      ∃ t, PSs (cxOf CX0 P w K mg base N x (defScope st) f (.ref c) A out s H E).nox (defBody st) t ∧ t { nx := fun _ H' => Q .non H', rt := Q } (start N vs) H) :
    FnG P w K mg base CX0 (k + 1) f fd ps sp := by
  obtain ⟨oc, od, kV, doc, pm, an, ct, osl, rfl, lk, hcd⟩ := F.ex
  refine ⟨size, fun A out s H ar us vs Q E hg hr e0 hb r hs => ?_⟩
  have many := size _ _ _ _ hs
  have low : ∀ b o, base.get? b = some o → s.heap.get? b = some o := fun b o e => (e0.bs b o e).1
  refine Att.call_fn (e0.mod.kin.keeps low) (e0.mod.nolimit.keeps low) lk hcd hr.depth hb ?_ (fun s1 ic => ?_) S.co S.gen S.kind
  · rw [List.all_eq_true]
    rintro ⟨n, v⟩ hy
    have z := S.par n (List.of_mem_zip hy).1
    rcases z with z | z <;> simp [z]
  · obtain ⟨t, ht, hq⟩ := body A out s H vs Q E (deep_guards hg) (hr.deeper _) hs
    have I : Inv (cxOf CX0 P w K mg base N x (defScope st) f (.ref c) A out s H E) [] (start N vs) H s1 := inv_start S hr.hd e0 many r ic
    refine wpAny_mono (ht.nox.run [] s1 (start N vs) H _ I hq) (fun fl s' ends => ?_) fun e s' z => z
    have fin : ∀ {σ : L2.St} {H' : Hp} {v : V} {u : Value}, Inv (cxOf CX0 P w K mg base N x (defScope st) f (.ref c) A out s H E) [] σ H' s' → RelV v u → Q v H' → CE out P w H s Q u s' := fun {_ H' v _} J rv q =>
      ⟨v, H', J.os, J.bare, J.base, J.hok, rv, q⟩
    cases fl with
    | ret u =>
      obtain ⟨v, σ, H', J, rv, q⟩ := ends
      exact fin J rv q
    | next =>
      obtain ⟨σ, H', J, q⟩ := ends
      exact fin (v := V.non) (u := Value.none) J rfl q
    | brk =>
      obtain ⟨_, _, _, no⟩ := ends
      exact False.elim no
    | cont =>
      obtain ⟨_, _, _, no⟩ := ends
      exact False.elim no
/-- what is taken may lean on the number of the names -/
theorem takes_len {X : Cx} {W : WX} (t : Takes X W) : Takes X (fun cls d σ H => σ.length = X.N.length → W cls d σ H) := fun u s' ⟨a, B, sI, pins, σ, H, cls, d, e, I, nb, up, sky, na, os, ag, w⟩ =>
  t u s' ⟨a, B, sI, pins, σ, H, cls, d, e, I, nb, up, sky, na, os, ag, w I.len⟩
/-! ### the root of a law whose defs have code tables -/
/-- tracked are the tables, and the script where the module does not hold it -/
def onlyT (K : PySem.W.Frag) (cs : List (Addr × Addr)) (a : Addr) (u : HO) : Hp := fun b => if b = a ∧ K.lookup a = none then some u else if b ∈ cs.map (·.2) then some (.tbl #[]) else none
theorem onlyT_at {K : PySem.W.Frag} {cs : List (Addr × Addr)} {a b : Addr} {u v : HO} (h : onlyT K cs a u b = some v) : (b = a ∧ K.lookup a = none ∧ v = u) ∨ (b ∈ cs.map (·.2) ∧ v = .tbl #[]) := by
  unfold onlyT at h
  by_cases c : b = a ∧ K.lookup a = none
  · rw [if_pos c] at h
    exact .inl ⟨c.1, c.2, (Option.some.inj h).symm⟩
  · rw [if_neg c] at h
    by_cases d : b ∈ cs.map (·.2)
    · rw [if_pos d] at h
      exact .inr ⟨d, (Option.some.inj h).symm⟩
    · rw [if_neg d] at h
      cases h
theorem onlyT_off {K : PySem.W.Frag} {cs : List (Addr × Addr)} {a b : Addr} {u : HO} (h : b ≠ a) (h2 : b ∉ cs.map (·.2)) : onlyT K cs a u b = none := (if_neg fun c => h c.1).trans (if_neg h2)
theorem root_ofT {P : Program} {w : World} {K : PySem.W.Frag} {mg mb : Str → Option Value} {k : Nat} {fa a : Addr} {cs : List (Addr × Addr)} {fd : FuncData} {x : Str} {sp : Sp} {s1 : Shared} {us : List Value} {ns : List Int}
    (KX : K.In s1.heap) (main : s1.heap.Ns mainGlobals mg) (blt : s1.heap.Ns builtinsNs mb) (boot : ∀ y : Str, y ≠ "__name__" → mb y = bootBuiltins y) (lim : s1.heap.NoLimit) (gens : s1.gens = #[])
    (tabs : ∀ p ∈ cs, s1.heap.get? p.2 = some { cls := .none, data := .fields #[] }) (off : ∀ p ∈ cs, K.lookup p.2 = none) (heads : ∀ p ∈ cs, PySem.W.CodeHd s1.heap p.1 p.2)
    (bm : ∃ (bm : Addr) (ob : Obj), mg "__builtins__" = some (.ref bm) ∧ bm ≠ builtinsNs ∧ s1.heap.get? bm = some ob ∧ ob.cls = .type "module" ∧ ob.dict = some builtinsNs ∧ ob.data = .plain)
    (ha : s1.heap.get? a = some { cls := .type "list", data := .seq us.toArray }) (hi : IntsAre us ns) (hl : ns.length ≤ sizeLine) (hr : Room k callerA)
    (G : ∀ base : Heap, K.In base → base.Ns mainGlobals mg → (∀ p ∈ cs, LamX.TabB base mg p.1 p.2) → FnG P w K mg base CX0 k fa fd [x] sp) (bnd : ∀ (s : Shared) (u : Value), BindsTo s fd ⟨[u], []⟩ [(x, u)])
    (hsp : ∀ H : Hp, (∀ p ∈ cs, H p.2 = some (.tbl #[])) → SqL K H a (ns.map V.int) → sp [.ref a] H (fun v _ => v = .bl true) E0) :
    codeAny (model P w) callerA (.call (.ref fa) ⟨[.ref a], []⟩) (fun r s' => r = .ok (.ret (.bool true)) ∧ OldK s1.heap s'.heap ∧ s'.os = s1.os ∧ AllBare s'.gens) s1 := by
  have rv := vals_ints hi
  have sized : (ns.map V.int).length ≤ sizeLine := by rwa [List.length_map]
  have mem2 : ∀ {b : Addr}, b ∈ cs.map (·.2) → ∃ p ∈ cs, p.2 = b := fun h => List.mem_map.mp h
  have at2 : ∀ {b : Addr}, b ∈ cs.map (·.2) → s1.heap.get? b = some { cls := .none, data := .fields #[] } := fun h => by
    obtain ⟨p, m, rfl⟩ := mem2 h
    exact tabs p m
  have aNot : a ∉ cs.map (·.2) := fun z => by
    have y := at2 z
    rw [ha] at y
    have y2 : Data.seq us.toArray _ = Data.fields #[] := congrArg Obj.data (Option.some.inj y)
    cases y2
  generalize hu : HO.frz { cls := .type "list", data := .seq us.toArray } (.lst (ns.map V.int)) = u
  -- what is neither a list nor an empty table is not tracked
  have far : ∀ {b : Addr} {o : Obj}, s1.heap.get? b = some o → (∀ zs n, o.data ≠ .seq zs n) → o.data ≠ .fields #[] → onlyT K cs a u b = none := fun {b o} e n1 n2 => by
    refine onlyT_off (fun z => ?_) fun z => ?_
    · subst z
      rw [ha] at e
      cases e
      exact n1 _ _ rfl
    · rw [at2 z] at e
      cases e
      exact n2 rfl
  have space : ∀ {b : Addr} {m : Str → Option Value}, s1.heap.Ns b m → (hidT s1.heap (onlyT K cs a u)).Ns b m := fun {b m} ⟨o, es, ep, e, d, r⟩ =>
    ⟨o, es, ep, hidT_get e (far e (fun _ _ z => by rw [d] at z; cases z) fun z => by rw [d] at z; cases z), d, r⟩
  have KB : K.In (hidT s1.heap (onlyT K cs a u)) := fun b o e => hidT_get (KX b o e) (by
    cases q : onlyT K cs a u b with
    | none => rfl
    | some v =>
      rcases onlyT_at q with ⟨rfl, z, _⟩ | ⟨z, _⟩
      · rw [z] at e
        cases e
      · obtain ⟨p, m, rfl⟩ := mem2 z
        rw [off p m] at e
        cases e)
  have M : Mod K mg (hidT s1.heap (onlyT K cs a u)) := ⟨KB, space main, ⟨mb, space blt, boot⟩, let ⟨mc, h1, h2⟩ := lim; ⟨mc, space h1, h2⟩⟩
  have TB : ∀ p ∈ cs, LamX.TabB (hidT s1.heap (onlyT K cs a u)) mg p.1 p.2 := fun p hp => by
    refine ⟨?_, ?_, fun z => ?_⟩
    · obtain ⟨o, us2, file, tf, flags, tg, inF, text, tt, e1, r1, r2, r3, r4, r5, r6, r7, r8, hne⟩ := heads p hp
      refine ⟨o, us2, file, tf, flags, tg, inF, text, tt, hidT_get e1 (far e1 (fun _ _ z => by rw [r2] at z; cases z) fun z => ?_), r1, r2, r3, r4, r5, r6, r7, r8, hne⟩
      rw [r2] at z
      cases z
      simp at r3
    · obtain ⟨b, ob, b1, b2, b3, b4, b5, b6⟩ := bm
      refine ⟨b, ob, b1, b2, fun q => ?_, fun q => ?_, hidT_get b3 (far b3 (fun _ _ z => by rw [b6] at z; cases z) fun z => by rw [b6] at z; cases z), b4, b5, b6⟩
      · obtain ⟨o, es, ep, e, hd, _⟩ := main
        rw [q, e] at b3
        cases b3
        rw [hd] at b6
        cases b6
      · rw [q, tabs p hp] at b3
        cases b3
        cases b6
    · obtain ⟨o, es, ep, e, hd, _⟩ := main
      rw [z, tabs p hp] at e
      cases e
      cases hd
  have ok : HOk P w (onlyT K cs a u) s1.heap := fun b v e => by
    rcases onlyT_at e with ⟨rfl, _, rfl⟩ | ⟨z, rfl⟩
    · subst hu
      exact ⟨ha, sized, us, _, rv, ha⟩
    · exact at2 z
  have tbl : ∀ p ∈ cs, onlyT K cs a u p.2 = some (.tbl #[]) := fun p hp => by
    have m2 : p.2 ∈ cs.map (·.2) := List.mem_map.mpr ⟨p, hp, rfl⟩
    exact (if_neg (show ¬ (p.2 = a ∧ K.lookup a = none) from fun c => aNot (c.1 ▸ m2))).trans (if_pos m2)
  have list : SqL K (onlyT K cs a u) a (ns.map V.int) := by
    cases hk : K.lookup a with
    | none =>
      refine .inl (.inr ⟨{ cls := .type "list", data := .seq us.toArray }, ?_⟩)
      rw [hu]
      exact if_pos ⟨rfl, hk⟩
    | some o =>
      have e := KX a o hk
      rw [ha] at e
      cases e
      exact .inr ⟨_, us.toArray, _, hk, rfl, rfl, rfl, by rw [List.size_toArray, hi.length]; exact hl, by simpa using rv⟩
  have e0 : Env0 P w K mg (hidT s1.heap (onlyT K cs a u)) callerA [] s1 (onlyT K cs a u) :=
    ⟨rfl, M, fun b o e => of_hidT e, Nat.le_of_eq (hidT_size _ _), trivial, fun b hb => absurd (show b ∈ ([] : List Addr) from hb) (by simp), ok, .of_eq gens⟩
  refine codeAny_mono ((G _ KB (space main) TB).runs callerA [] s1 _ ⟨[.ref a], []⟩ [.ref a] [.ref a] _ _ rfl hr e0 (bnd s1 (.ref a)) (.cons rfl .nil) (hsp _ tbl list)) fun r s' z => ?_
  cases r with
  | error e => exact False.elim z
  | ok fl =>
    cases fl with
    | next => exact False.elim z
    | brk => exact False.elim z
    | cont => exact False.elim z
    | ret out =>
      obtain ⟨v, H', os, bare, un, ok', r', q⟩ := z
      obtain rfl : v = .bl true := q
      obtain rfl : out = Value.bool true := r'
      have stay : ∀ b o, b ∉ cs.map (·.2) → s1.heap.get? b = some o → s'.heap.get? b = some o := fun b o nb e => by
        cases q : onlyT K cs a u b with
        | none => exact un.keep b o e q (fun y => absurd (show b ∈ ([] : List Addr) from y) (by simp)) (by simp)
        | some v =>
          rcases onlyT_at q with ⟨rfl, _, rfl⟩ | ⟨z, _⟩
          · subst hu
            rw [ha] at e
            cases e
            exact (ok' _ _ (un.frzs _ _ _ q)).1
          · exact absurd z nb
      have more : ∀ p ∈ cs, ∃ ms : Array Value, s'.heap.get? p.2 = some { cls := .none, data := .fields ms } := fun p hp => by
        obtain ⟨ms, z⟩ := un.tbls p.2 #[] (tbl p hp)
        exact ⟨_, ok' p.2 _ z⟩
      refine ⟨rfl, ⟨fun b o e => ?_, fun b o e => ?_⟩, os, bare⟩
      · by_cases hb : b ∈ cs.map (·.2)
        · obtain ⟨p, hp, rfl⟩ := mem2 hb
          obtain ⟨ms, hm⟩ := more p hp
          rw [tabs p hp] at e
          cases e
          exact .inr (.inl ⟨((heads p hp).tab (tabs p hp)).isCodeTable, rfl, #[], ms, rfl, by rw [Array.empty_append]; exact hm⟩)
        · exact .inl (stay b o hb e)
      · by_cases hb : b ∈ cs.map (·.2)
        · obtain ⟨p, hp, rfl⟩ := mem2 hb
          obtain ⟨ms, hm⟩ := more p hp
          exact ⟨_, hm⟩
        · exact ⟨o, stay b o hb e⟩
/-- what is known of the law's promise at the heap h -/
def LawAtT (l : PySem.W.OpenLaw) (w : World) (K : PySem.W.Frag) (k n : Nat) (x : Str) (mg : Str → Option Value) (fa : Addr) (h : Heap) : Prop :=
  ∃ (fd : FuncData) (cs : List (Addr × Addr)) (sp : Sp), (∀ p ∈ cs, h.get? p.2 = some { cls := .none, data := .fields #[] }) ∧ (∀ p ∈ cs, K.lookup p.2 = none) ∧ (∀ p ∈ cs, PySem.W.CodeHd h p.1 p.2) ∧ (∀ (s : Shared) (u : Value), BindsTo s fd ⟨[u], []⟩ [(x, u)]) ∧
    (∀ (H : Hp) (a : Addr) (ns : List Int), ns.length ≤ n → (∀ p ∈ cs, H p.2 = some (.tbl #[])) → SqL K H a (ns.map V.int) → sp [.ref a] H (fun v _ => v = .bl true) E0) ∧
    ∀ base : Heap, K.In base → base.Ns mainGlobals mg → (∀ p ∈ cs, LamX.TabB base mg p.1 p.2) → FnG l.prog w K mg base CX0 k fa fd [x] sp
theorem walk_ofT {l : PySem.W.OpenLaw} {n k : Nat} {q : Program} {loose : List Str} {XP : (Str → Option Value) → Heap → Prop} {YP : World → Heap → Prop} {d : DefRec} {K : Params → PySem.W.Frag} {x : Str}
    (most : l.most = some n) (fits : n ≤ sizeLine) (plain : d.params.defaults = []) (hr : Room k callerA) (hY : ∀ (w : World) (h : Heap), YP w h → (K w.params).In h)
    (F : ∀ (w : World) (mg : Str → Option Value) (fa : Addr) (h : Heap), YP w h → (K w.params).In h → h.Ns mainGlobals mg → mg d.name = some (.ref fa) → LawAtT l w (K w.params) k n x mg fa h) :
    PySem.W.WalkO q loose XP YP l.row.toRowW d [] (fun f vs => PySem.call f vs) := by
  refine Att.attach_call most plain fun w s0 s1 mg mb fa o pm cd doc a vs ns G Y ho hd hcd hmg hobj hints hlen hg => ?_
  have KX := hY w _ Y
  obtain ⟨fd, cs, sp, t1, t2, t3, hb, hs, hF⟩ := F w mg fa _ Y KX G.T.g hmg
  exact root_ofT KX G.T.g G.T.b G.T.builtins G.T.nolimit hg t1 t2 t3 G.T.bmain hobj hints (Nat.le_trans hlen fits) hr hF hb fun H hT hS => hs H a ns hlen hT hS
end K09

/-! # the word for the error of a call -/
namespace K09
open PySem PySem.Spec PyProof.Rows L2 LamX
abbrev s_word : Stmt := topS 64
theorem sc_word : FnScope ["_law_call", "error"] ["_law_call"] (defScope s_word) := ⟨rfl, rfl, rfl, by decide +kernel, rfl, by decide +kernel, by decide +kernel⟩
/-- the classes that the law tells apart -/
structure WdX (K : PySem.W.Frag) (mg : Str → Option Value) (CS CT CO CN CM fN fM : Addr) : Prop where
  gS : mg "InvalidShape" = some (.ref CS)
  gT : mg "InvalidStair" = some (.ref CT)
  gO : mg "InvalidOperation" = some (.ref CO)
  NT : PySem.NumX.NumTxt K mg CN fN
  MT : PySem.MostX.MostTxt K mg CM fM
  eSS : PySem.W.exmOne K (.ref CS) (.ref CS) = some true
  eTS : PySem.W.exmOne K (.ref CT) (.ref CS) = some false
  eTT : PySem.W.exmOne K (.ref CT) (.ref CT) = some true
  eOS : PySem.W.exmOne K (.ref CO) (.ref CS) = some false
  eOT : PySem.W.exmOne K (.ref CO) (.ref CT) = some false
  eOO : PySem.W.exmOne K (.ref CO) (.ref CO) = some true
  eNS : PySem.W.exmOne K (.ref CN) (.ref CS) = some false
  eNT : PySem.W.exmOne K (.ref CN) (.ref CT) = some false
  eNO : PySem.W.exmOne K (.ref CN) (.ref CO) = some false
  eMS : PySem.W.exmOne K (.ref CM) (.ref CS) = some false
  eMT : PySem.W.exmOne K (.ref CM) (.ref CT) = some false
  eMO : PySem.W.exmOne K (.ref CM) (.ref CO) = some false
  eMN : PySem.W.exmOne K (.ref CM) (.ref CN) = some false
/-- the word for what was let out -/
def WdE (CS CT CO CN CM : Addr) (Q : VK) : XK := fun cls d H => (cls = .ref CS ∧ Q (.str "shape") H) ∨ (cls = .ref CT ∧ Q (.str "stair") H) ∨ (cls = .ref CO ∧ Q (.str "operation") H) ∨
  (cls = .ref CN ∧ ∃ dd x D, d = some dd ∧ H dd = some (.xd [(("given" : Str), x)]) ∧ Shw H x D ∧ Small D ∧ Q (.str ("number " ++ D.shown)) H) ∨
  (cls = .ref CM ∧ ∃ dd, d = some dd ∧ H dd = some (.xd [(("most" : Str), .int 8)]) ∧ Q (.str "many 8") H)
def TWord (CS CT CO CN CM : Addr) : (XK → Hp → VK → Prop) → Hp → VK → Prop := fun tl H Q => tl (WdE CS CT CO CN CM Q) H (fun _ H' => Q (.str "fine") H')
theorem small8 : Small (.int 8) := by
  refine ⟨?_, ?_, ?_, ?_⟩ <;> decide +kernel
theorem many8 : ("many " : Str) ++ (PyData.int 8).shown = "many 8" := by decide +kernel
theorem word_gives {X : Cx} {g CS CT CO CN CM fN fM : Addr} {cdg : Value} {q : Str} (T : Txt X.mg) (W : WdX X.K X.mg CS CT CO CN CM fN fM) (hn : X.A.guards = some []) (hr : ∀ s : Shared, Room 4 (X.A.deeper (envOfC "_law_word" (defScope s_word) s.heap.objs.size g cdg))) :
    GivesTo X ["_law_call", "error"] "_law_word" (defScope s_word) g cdg (defBody s_word) "_law_call" q (TWord CS CT CO CN CM) := by
  intro f c' s H Q tl act hc h
  have hn' : (X.A.deeper (envOfC "_law_word" (defScope s_word) s.heap.objs.size g cdg)).guards = some [] := deep_guards hn
  have un : (X.A.deeper (envOfC "_law_word" (defScope s_word) s.heap.objs.size g cdg)).units + 100 < cLine := by have := (hr s).un; omega
  have l7 : ("number " : Str).length = 7 := by decide +kernel
  refine ⟨_, pss_cons (ps_try_mix (X := (cxOf C8.CX0 X.prog X.w X.K X.mg X.base ["_law_call", "error"] "_law_word" (defScope s_word) g cdg X.A X.stack s H C8.E0).nox) (W0 := fun _ _ _ _ => False)
      (tb := fun W D σ H => ∃ Ech : XK, (∀ cls d σ' H', σ'.length = 2 → Ech cls d H' → W cls d σ' H') ∧ σ[0]? = some (some (.ref f)) ∧ H c' = some (CodeO c' q) ∧ tl Ech H (fun _ H' => D.nx σ H'))
      rfl rfl sc_word.nd L2.takes0 (fun W pn xe tk _ => ?_)
      (.plain ⟨rfl, by decide, .inl W.gS⟩ (fun a oe cls d pn _ _ => pss_one (ps_ret pe_str))
      (.plain ⟨rfl, by decide, .inl W.gT⟩ (fun a oe cls d pn _ _ => pss_one (ps_ret pe_str))
      (.plain ⟨rfl, by decide, .inl W.gO⟩ (fun a oe cls d pn _ _ => pss_one (ps_ret pe_str))
      (.named (i := 1) rfl rfl ⟨rfl, by decide, .inl W.NT.gC⟩ (fun a oe cls d pn hz hf => pss_one (ps_ret (pe_op op_add_str pe_str (pe_callB (call_repr_v hn' un) (by rfl) T.n_repr (by decide +kernel) (pa_cons (pe_given W.NT hz hf (pv 1)) pa_nil)))))
      (.named (i := 1) rfl rfl ⟨rfl, by decide, .inl W.MT.gC⟩ (fun a oe cls d pn hz hf => pss_one (ps_ret (pe_op op_add_str pe_str (pe_callB (call_repr_v hn' un) (by rfl) T.n_repr (by decide +kernel) (pa_cons (pe_most W.MT hz hf (pv 1)) pa_nil)))))
      .nil)))))) (pss_one (ps_ret pe_str)), ?_⟩
  · refine ⟨fun pins s' σ H' D I h' => ?_⟩
    obtain ⟨Ech, hW, h1, h2, h3⟩ := h'
    exact (pss_one (ps_expr (act _ pn xe Ech _ _ (takes_len tk) fun cls d σ' H' e l => hW cls d σ' H' l e))).run pins s' σ H' D I ⟨h1, h2, h3⟩
  · refine ⟨WdE CS CT CO CN CM Q, fun cls d σ' H' l e => ?_, rfl, hc, h⟩
    obtain ⟨x0, x1, rfl⟩ : ∃ x0 x1, σ' = [x0, x1] := by
      match σ', l with
      | [x0, x1], _ => exact ⟨x0, x1, rfl⟩
    rcases e with ⟨rfl, qq⟩ | ⟨rfl, qq⟩ | ⟨rfl, qq⟩ | ⟨rfl, dd, x, D, rfl, ed, sw, sm, qq⟩ | ⟨rfl, dd, rfl, ed, qq⟩
    · exact ⟨true, W.eSS, fun _ a0 _ => qq, fun z => Bool.noConfusion z⟩
    · exact ⟨false, W.eTS, fun z => Bool.noConfusion z, fun _ => ⟨true, W.eTT, fun _ a0 _ => qq, fun z => Bool.noConfusion z⟩⟩
    · exact ⟨false, W.eOS, fun z => Bool.noConfusion z, fun _ => ⟨false, W.eOT, fun z => Bool.noConfusion z, fun _ => ⟨true, W.eOO, fun _ a0 _ => qq, fun z => Bool.noConfusion z⟩⟩⟩
    · refine ⟨false, W.eNS, fun z => Bool.noConfusion z, fun _ => ⟨false, W.eNT, fun z => Bool.noConfusion z, fun _ => ⟨false, W.eNO, fun z => Bool.noConfusion z, fun _ => ⟨true, W.NT.te, fun _ a0 _ => ?_, fun z => Bool.noConfusion z⟩⟩⟩⟩
      have sz : ("number " : Str).length + D.shown.length ≤ sizeLine := by
        have z := sm.sz
        rw [l7]
        exact Nat.le_trans (show 7 + D.shown.length ≤ 1000 by omega) (by decide)
      exact ⟨_, rfl, rfl, rfl, dd, x, rfl, ed, x, D, rfl, sw, sm, _, _, rfl, rfl, sz, qq⟩
    · refine ⟨false, W.eMS, fun z => Bool.noConfusion z, fun _ => ⟨false, W.eMT, fun z => Bool.noConfusion z, fun _ => ⟨false, W.eMO, fun z => Bool.noConfusion z, fun _ => ⟨false, W.eMN, fun z => Bool.noConfusion z, fun _ => ⟨true, W.MT.te, fun _ a0 _ => ?_, fun z => Bool.noConfusion z⟩⟩⟩⟩⟩
      have sz : ("many " : Str).length + (PyData.int 8).shown.length ≤ sizeLine := by
        have z := small8.sz
        have l5 : ("many " : Str).length = 5 := by decide +kernel
        rw [l5]
        exact Nat.le_trans (show 5 + (PyData.int 8).shown.length ≤ 1000 by omega) (by decide)
      refine ⟨_, rfl, rfl, rfl, dd, .int 8, rfl, ed, .int 8, .int 8, rfl, .int 8, small8, _, _, rfl, rfl, sz, ?_⟩
      rw [many8]
      exact qq
end K09

/-! # values by their kinds; integers of any kind; dicts that are read alone -/
namespace K09
open PySem PySem.Spec PyProof.Rows L2
/-- the type of x, and x where it is an int -/
structure Shl (K : PySem.W.Frag) (H : Hp) (x : V) (d : PyData) : Prop where
  ty : TyX K H x (.type (tyN d))
  int : ∀ n, d = .int n → x = .int n
theorem Tv.shl {K : PySem.W.Frag} {H : Hp} {x : V} {d : PyData} (h : Tv K H x d) : Shl K H x d := ⟨h.ty, fun n e => by
  subst e
  cases h
  rfl⟩
theorem Dw.shl {K : PySem.W.Frag} {H : Hp} {x : V} {d : PyData} (h : Dw K H x d) : Shl K H x d := ⟨h.ty, fun n e => by
  subst e
  cases h with
  | tv t => cases t; rfl⟩
theorem Shw.shl {K : PySem.W.Frag} {H : Hp} {x : V} {d : PyData} (h : Shw H x d) : Shl K H x d := by
  cases h with
  | non => exact ⟨.base .non, fun _ e => by cases e⟩
  | bl b => exact ⟨.base (.bl b), fun _ e => by cases e⟩
  | int i => exact ⟨.base (.int i), fun _ e => by cases e; rfl⟩
  | str z => exact ⟨.base (.str z), fun _ e => by cases e⟩
  | tup e => exact ⟨.base (.tup e), fun _ e => by cases e⟩
  | lst e _ => exact ⟨.base (.lst e), fun _ e => by cases e⟩
  | emp e => exact ⟨.base (.dK e), fun _ e => by cases e⟩
theorem tyx_same {K : PySem.W.Frag} {H H' : Hp} {x : V} {t : Value} (h : TyX K H x t) (s : Same H H') : TyX K H' x t := by
  cases h with
  | base b =>
    cases b with
    | non => exact .base .non
    | bl b => exact .base (.bl b)
    | int i => exact .base (.int i)
    | str z => exact .base (.str z)
    | flt z => exact .base (.flt z)
    | lst e => exact .base (.lst (s _ _ e))
    | frz e => exact .base (.frz (s _ _ e))
    | tup e => exact .base (.tup (s _ _ e))
    | dK e => exact .base (.dK (s _ _ e))
    | dT e => exact .base (.dT (s _ _ e))
    | ins e a b c d f => exact .base (.ins (s _ _ e) a b c d f)
  | byt b => exact .byt b
  | set e => exact .set (s _ _ e)
  | kList e c => exact .kList e c
  | kTuple e c => exact .kTuple e c
  | kDict e c => exact .kDict e c
  | fTuple e => exact .fTuple (s _ _ e)
  | fDict e => exact .fDict (s _ _ e)
theorem Shl.same {K : PySem.W.Frag} {H H' : Hp} {x : V} {d : PyData} (h : Shl K H x d) (s : Same H H') : Shl K H' x d := ⟨tyx_same h.ty s, h.int⟩
/-- an integer that is not too long -/
def isEn : PyData → Bool
  | .int n => decide ((if n < 0 then -n else n) < (10 ^ 60 : Int))
  | _ => false
section
variable {P : Program} {w : World} {K : PySem.W.Frag} {mg : Str → Option Value} {base : Heap}
def spWholeS (K : PySem.W.Frag) : Sp := fun vs H Q _ => ∃ (x : V) (d : PyData), vs = [x] ∧ Shl K H x d ∧ Q (.bl (isW d)) H
theorem ok_wholeS {f : Addr} {fd : FuncData} {k : Nat} (T : Txt mg) (d : D K mg "is_whole" s_is_whole ["value"] f fd) : FnOk P w K mg base CX0 (k + 1) f fd ["value"] (spWholeS K) := by
  refine d.F.ok sc_is_whole (fun vs H Q E h => ?_) (fun cdv A outer s H vs Q E hr h => ?_)
  · obtain ⟨x, d, rfl, _⟩ := h
    rfl
  · obtain ⟨x, d, rfl, hd, q⟩ := h
    refine ⟨_, (pss_one (ps_ret (pe_and (pe_callB call_isi (by rfl) T.n_isinstance (by decide +kernel) (pa_cons (pv 0) (pa_cons (pe_bltn (v := .ty "int") (by rfl) T.n_int (by decide +kernel) rfl) pa_nil)))
      (pe_one (pe_not (pe_callB call_isi (by rfl) T.n_isinstance (by decide +kernel) (pa_cons (pv 0) (pa_cons (pe_bltn (v := .ty "bool") (by rfl) T.n_bool (by decide +kernel) rfl) pa_nil)))))))), ?_⟩
    refine ⟨_, rfl, _, _, _, _, _, rfl, .ty _, hd.ty, kitI d, _, rfl, ?_⟩
    rw [← isW_eq] at q
    cases e : isI d with
    | false =>
      rw [e] at q
      exact iteF q
    | true =>
      rw [e] at q
      exact iteT ⟨_, rfl, _, _, _, _, _, rfl, .ty _, hd.ty, kitB' d, _, rfl, q⟩
def spIntS (K : PySem.W.Frag) : Sp := fun vs H Q _ => ∃ (x : V) (d : PyData), vs = [x] ∧ Shl K H x d ∧ Q (.bl (isEn d)) H
theorem ok_integerS {f f1 : Addr} {fd fd1 : FuncData} {k : Nat} (T : Txt mg) (N : Nam mg) (d : D K mg "is_integer" s_is_integer ["value"] f fd) (d1 : D K mg "is_whole" s_is_whole ["value"] f1 fd1) : FnOk P w K mg base CX0 (k + 2) f fd ["value"] (spIntS K) := by
  have G1 : FnOk P w K mg base CX0 (k + 1) f1 fd1 ["value"] (spWholeS K) := ok_wholeS T d1
  obtain ⟨tI, cI⟩ := N.cI
  refine d.F.ok sc_is_integer (fun vs H Q E h => ?_) (fun cdv A outer s H vs Q E hr h => ?_)
  · obtain ⟨x, d, rfl, _⟩ := h
    rfl
  · obtain ⟨x, d, rfl, hd, q⟩ := h
    refine ⟨_, (pss_one (ps_ret (pe_and (pe_call G1 hr (by rfl) d1.g d1.F.kp d1.b .nil pass0 (pa_cons (pv 0) pa_nil)) (pe_one (pe_cmpR op_lt (pe_callB call_abs (by rfl) T.n_abs (by decide +kernel) (pa_cons (pv 0) pa_nil)) (pe_glob (v := .int (10 ^ 60)) rfl cI ⟨_, rfl⟩) (nomark _)))))), ?_⟩
    refine ⟨_, rfl, x, d, rfl, hd, _, rfl, ?_⟩
    cases d with
    | int n =>
      obtain rfl := hd.int n rfl
      exact iteT ⟨_, rfl, _, rfl, _, _, rfl, rfl, q⟩
    | _ => exact iteF q
end
/-! ### dicts that are only read from their making on -/
def keyD : L2.Key → PyData
  | .inl i => .int i
  | .inr z => .str z
theorem keyD_tv {K : PySem.W.Frag} {H : Hp} : ∀ k : L2.Key, Tv K H (kV k) (keyD k)
  | .inl i => .int i
  | .inr z => .str z
theorem keyDs_tv {K : PySem.W.Frag} {H : Hp} : ∀ ks : List L2.Key, TvL K H (ks.map kV) (ks.map keyD)
  | [] => .nil
  | k :: r => .cons (keyD_tv k) (keyDs_tv r)
/-- what the dict of the object o holds -/
inductive Its (K : PySem.W.Frag) (H : Hp) (o : Obj) : HO → List (PyData × PyData) → Prop
  | k {k : L2.Key} {v : V} {vd : PyData} : Tv K H v vd → Its K H o (.dK [(k, v)]) [(keyD k, vd)]
  | t {kvs : List (List L2.Key × V)} {pds : List (PyData × PyData)} : Paired (fun (p : List L2.Key × V) (q : PyData × PyData) => q.1 = .tuple (p.1.map keyD) ∧ Tv K H p.2 q.2) kvs pds → Its K H o (.dT kvs) pds
  | s {x q : Addr} {hs : Int} {t : Tok} {ep : Nat} : o.ExactDict → o.data = .dict #[⟨hs, .ref q, .int 1 t⟩] ep → H q = some (.tup [.int 0, .bl false, .int 1]) → Its K H o (.own x) [(.tuple [.int 0, .bool false, .int 1], .int 1)]
/-- a dict that is only read -/
def FrD (K : PySem.W.Frag) (H : Hp) (d : Addr) (pds : List (PyData × PyData)) : Prop := ∃ o u, H d = some (.frz o u) ∧ (d == sysModules) = false ∧ Its K H o u pds
theorem Its.same {K : PySem.W.Frag} {H H' : Hp} {o : Obj} {u : HO} {pds : List (PyData × PyData)} (h : Its K H o u pds) (s : Same H H') : Its K H' o u pds := by
  cases h with
  | k t => exact .k (t.same s)
  | t p => exact .t (Paired.mapP p fun _ _ z => ⟨z.1, z.2.same s⟩)
  | s a b c => exact .s a b (s _ _ c)
theorem FrD.same {K : PySem.W.Frag} {H H' : Hp} {d : Addr} {pds : List (PyData × PyData)} (h : FrD K H d pds) (s : Same H H') : FrD K H' d pds := let ⟨o, u, e, n, i⟩ := h; ⟨o, u, s _ _ e, n, i.same s⟩
section
variable {X : Cx} {pins : List (Addr × Obj)} {σ : L2.St} {H : Hp} {s : Shared}
theorem frd_raw {d : Addr} {o : Obj} {u : HO} {pds : List (PyData × PyData)} (I : Inv X pins σ H s) (e : H d = some (.frz o u)) (its : Its X.K H o u pds) :
    s.heap.get? d = some o ∧ o.ExactDict ∧ ∃ (es : Array DictEntry) (ep : Nat), o.data = .dict es ep ∧ es.size = pds.length ∧
      ∀ (i : Nat) (kd vd : PyData) (li : i < es.size), pds[i]? = some (kd, vd) → ∃ kx vx : V, RelV kx es[i].key ∧ RelV vx es[i].val ∧ Tv X.K H kx kd ∧ Tv X.K H vx vd := by
  obtain ⟨ob, z⟩ := I.hok d _ e
  cases its with
  | @k k v vd tv =>
    obtain ⟨_, _, vs, kv, o2, es, ep, h1, h2, h3, _, h5, _⟩ := z
    obtain rfl : o2 = o := Option.some.inj (h1.symm.trans ob)
    cases kv with
    | @cons _ b _ vs2 r rn =>
      cases rn
      have n1 := h5
      generalize hl : es.toList = l at n1
      cases n1 with
      | @cons en _ _ _ ki ve rest =>
        cases rest
        have ez : es = #[en] := by
          have z : es.toList = (#[en] : Array DictEntry).toList := hl
          exact Array.toList_inj.mp z
        refine ⟨ob, h2, es, ep, h3, by rw [ez]; rfl, fun i kd vd2 li ek => ?_⟩
        have i0 : i = 0 := by
          rw [ez] at li
          have : i < 1 := li
          omega
        subst i0
        have y := Option.some.inj ek
        cases y
        subst ez
        obtain ⟨rk, rv⟩ := r
        have rk' : k = b.1 := rk
        refine ⟨kV k, v, ?_, ?_, keyD_tv k, tv⟩
        · show RelV (kV k) en.key
          rw [rk']
          rcases keyIs_shape (show keyIs b.1 en.key = true from ki) with ⟨i, t, e1, e2⟩ | ⟨x, t, e1, e2⟩
          · rw [e1, e2]
            exact ⟨t, rfl⟩
          · rw [e1, e2]
            exact ⟨t, rfl⟩
        · show RelV v en.val
          rw [ve]
          exact rv
  | @t kvs _ pd =>
    obtain ⟨_, sm, xs, pr, o2, es, ep, h1, h2, h3, h4, _⟩ := z
    obtain rfl : o2 = o := Option.some.inj (h1.symm.trans ob)
    have n1 : es.size = xs.length := size_of_entries h4
    have n2 : kvs.length = xs.length := Paired.length pr
    have n3 : kvs.length = pds.length := Paired.length pd
    refine ⟨ob, h2, es, ep, h3, by omega, fun i kd vd li ek => ?_⟩
    obtain ⟨⟨k, v⟩, ek2⟩ : ∃ p, kvs[i]? = some p := ⟨kvs[i], List.getElem?_eq_getElem (by omega)⟩
    obtain ⟨b, hb, e1, e2, e3⟩ := paired_get pr ek2
    obtain ⟨c, hc, f1, f2⟩ := paired_get pd ek2
    rw [ek] at hc
    obtain rfl := Option.some.inj hc
    have y := entry_at h4 i
    rw [hb, Array.getElem?_eq_getElem li] at y
    have w := Option.some.inj y
    have f1 : kd = .tuple (k.map keyD) := f1
    subst f1
    exact ⟨.ref b.2.1, v, by rw [w]; rfl, by rw [w]; exact e3, .tup (.inl (.inl e2)) (keyDs_tv k), f2⟩
  | @s x q hs t ep ex dat eq =>
    refine ⟨ob, ex, _, ep, dat, rfl, fun i kd vd li ek => ?_⟩
    have i0 : i = 0 := by
      have : i < 1 := li
      omega
    subst i0
    have y := Option.some.inj ek
    cases y
    exact ⟨.ref q, .int 1, rfl, ⟨t, rfl⟩, .tup (.inl (.inl eq)) (.cons (.int 0) (.cons (.bl false) (.cons (.int 1) .nil))), .int 1⟩
/-- the pairs, each a new tuple -/
def ItiD (K : PySem.W.Frag) (d : Addr) (o : Obj) (u : HO) (pds : List (PyData × PyData)) : It :=
  ⟨fun i H => H d = some (.frz o u) ∧ Its K H o u pds ∧ i < pds.length, fun i H x H' => ∃ (T : Addr) (kx vx : V) (kd vd : PyData), pds[i]? = some (kd, vd) ∧ Tv K H kx kd ∧ Tv K H vx vd ∧ x = .ref T ∧ H T = none ∧ H' = upd H T (.tup [kx, vx]), fun i H => H d = some (.frz o u) ∧ Its K H o u pds ∧ pds.length ≤ i⟩
theorem turn_itemsD {P : Program} {w : World} {K : PySem.W.Frag} {pds : List (PyData × PyData)} {elts : List Expr} {kk : Nat} {tpos : Pos} {d : Addr} {o : Obj} {u : HO} {es : Array DictEntry} {ep : Nat} (it : Addr) (od : o.data = .dict es ep) :
    Turn P w K (.Tuple elts kk tpos) (ItiD K d o u pds) [it] it (fun i h => ∃ a b, IsItemIter h it d i pds.length ep a b) where
  mem := List.mem_singleton.mpr rfl
  obj := fun i h st b m => by
    rw [List.mem_singleton.mp m]
    obtain ⟨_, _, e⟩ := st
    exact ⟨_, e, fun v z => nomatch z⟩
  keep := fun i h h' st k => by
    obtain ⟨a, b, e⟩ := st
    exact ⟨a, b, k it (List.mem_singleton.mpr rfl) _ e⟩
  item := by
    intro X e1 e2 e3 hc i pins s σ H E I hf st go
    subst e1 e2 e3
    obtain ⟨hd, hits, li⟩ := go
    obtain ⟨ob, ox, es2, ep2, dat, n, all⟩ := frd_raw I hd hits
    obtain ⟨rfl, rfl⟩ := dict_ep od dat
    obtain ⟨a, b, hi⟩ := st
    rw [← n] at hi li
    obtain ⟨⟨kd, vd⟩, ek⟩ : ∃ p, pds[i]? = some p := ⟨pds[i], List.getElem?_eq_getElem (by omega)⟩
    obtain ⟨kx, vx, k1, k2, k3, k4⟩ := all i kd vd li ek
    have low : it < s.heap.objs.size := Heap.lt_size hi
    refine DT.nextI hi ⟨o, ob, ox, od⟩ li fun h' out hT _ hk => ?_
    refine ⟨_, rfl, wpAny_letOwnedTupleGo_items (s := { s with heap := h' }) out fun h2 in2 sb => ?_⟩
    have T2 : h2.get? s.heap.objs.size = some { cls := .type "tuple", data := .seq #[es2[i].key, es2[i].val] } := (sb.2 _ (Nat.ne_of_gt low)).trans hT
    have new : ObjOk X.prog X.w (upd H s.heap.objs.size (.tup [kx, vx])) h2 s.heap.objs.size (.tup [kx, vx]) :=
      ⟨by show 2 ≤ sizeLine; decide, [es2[i].key, es2[i].val], .cons k1 (.cons k2 .nil), ⟨_, T2, rfl, _, rfl⟩⟩
    have J : Inv X pins σ (upd H s.heap.objs.size (.tup [kx, vx])) { s with heap := h2 } :=
      I.turnedNew (t' := s.toks) (ch := [it]) (fun c ob hb e => (sb.2 c (fun z => hb (by rw [z]; exact List.mem_singleton.mpr rfl))).trans (hk c ob (fun z => hb (by rw [z]; exact List.mem_singleton.mpr rfl)) e)) hf (Nat.le_refl _) new
    refine ⟨.ref s.heap.objs.size, _, J, rfl, ⟨_, kx, vx, kd, vd, ek, k3, k4, rfl, I.hok.fresh (Nat.le_refl _), rfl⟩, ⟨es2[i].key, es2[i].val, ?_⟩, fun c m => ?_⟩
    · rw [← n]; exact in2
    · rw [List.mem_singleton.mp m, upd_ne (Nat.ne_of_lt low)]
      exact (hf it (List.mem_singleton.mpr rfl)).1
  done := by
    intro X e1 e2 e3 hc i pins s σ H E I hf st go
    subst e1 e2 e3
    obtain ⟨hd, hits, li⟩ := go
    obtain ⟨ob, ox, es2, ep2, dat, n, _⟩ := frd_raw I hd hits
    obtain ⟨rfl, rfl⟩ := dict_ep od dat
    obtain ⟨f0, f1, f2, f3, f4, f5⟩ := hf it (List.mem_singleton.mpr rfl)
    obtain ⟨a, b, hi⟩ := st
    rw [← n] at hi li
    exact DT.endI (I.ok.hd hc) hi ⟨o, ob, ox, od⟩ li fun h' eb => ⟨rfl, I.turned (t' := s.toks) (fun c o2 ne e => eb c o2 ne e) f0 f1 f3 f4 f5⟩
  self := fun A i s Q E st h => by
    obtain ⟨_, _, e⟩ := st
    exact PySem.W.kcp_self e h
/-- d.items() -/
def iItemsD (K : PySem.W.Frag) (td : TE) : TI := fun σ H R => td σ H fun x H1 => ∃ d o u pds, x = .ref d ∧ H1 d = some (.frz o u) ∧ (d == sysModules) = false ∧ Its K H1 o u pds ∧ R (ItiD K d o u pds) H1
theorem pi_itemsD {e : Expr} {td : TE} {apos cpos tpos : Pos} {elts : List Expr} {kk : Nat} (src : PE X e td) (base : attributeBase e "items" X.env (eval e X.env) = eval e X.env := by rfl) (line : (apos.endLine == cpos.line) = true := by rfl) :
    PI X (.Tuple elts kk tpos) (.Call (.Attribute e "items" apos) [] [] cpos) (iItemsD X.K td) := by
  constructor
  intro pins s σ H R I h
  refine wpAny_Call_method (T := "dict") (id := "dict.items") base rfl line F.plainAttrs_dict F.slot_dict_items F.type_dict_items (thn (src.run pins s σ H _ I h) fun u s1 w1 => ?_)
  obtain ⟨x, H1, I1, rx, d, o, u2, pds, rfl, hd, sm, its, q⟩ := w1
  obtain rfl : u = Value.ref d := rx
  obtain ⟨ob, ox, es, ep, dat, n, _⟩ := frd_raw I1 hd its
  have raw : DT.Raw s1.heap d es ep := ⟨o, ob, ox, dat⟩
  refine ⟨raw.typeIs, fun b z => ?_, ?_⟩
  · cases z
    exact ⟨o, ob, ox.2.1⟩
  · have I2 : Inv X pins σ H1 { s1 with heap := s1.heap.push { cls := .type "dict_items", data := .fields #[.ref d] } } := I1.kept (t' := s1.toks) fun b ob q => Heap.get?_push_of_some _ q
    show wpAny _ _ (callWith cpos (.builtin "dict.items") [.ref d] [] []) _ X.xe s1
    refine method_meetsIn F.slot_dict_items F.entry_dict_items rfl (PySem.evalArgs_none ⟨rfl, raw.typeIs, F.args_dict_items_1 _, _, DT.meetsItems (es := es) (ep := ep) sm, raw, ?_⟩)
    refine DT.iterI (d := d) (es := es) (ep := ep) ⟨_, Heap.get?_push_size _ rfl, rfl, rfl⟩ (raw.push _) (pi_one (tk := s1.toks) I2 _ (turn_itemsD _ dat) ⟨.none, .none, ?_⟩ q)
    rw [← n]
    exact Heap.get?_push_size _ rfl
/-- isinstance(d, c), d such a dict, or any other thing -/
def AnyT (K : PySem.W.Frag) (H : Hp) (x : V) (t : Value) : Prop := TyX K H x t ∨ ∃ d pds, x = .ref d ∧ FrD K H d pds ∧ t = .type "dict"
theorem call_isiD : CallR X (.builtin "isinstance") (fun xs H Q => ∃ (x c : V) (t u : Value) (b : Bool), xs = [x, c] ∧ ClsV c u ∧ AnyT X.K H x t ∧ PySem.W.kitOne X.K t u = some b ∧ Q (.bl b) H) := by
  intro pins s σ H xs us Q I r h
  obtain ⟨x, c, t, u, b, rfl, k, ty, e, q⟩ := h
  rcases ty with ty | ⟨d, pds, rfl, ⟨o, u2, ed, sm, its⟩, rfl⟩
  · exact call_isi pins s σ H _ us Q I r ⟨x, c, t, u, b, rfl, k, ty, e, q⟩
  · obtain ⟨u1, u2, rfl, r1, r2⟩ := vals2 r
    have e2 := k.eq r2
    subst e2
    obtain rfl : u1 = Value.ref d := r1
    obtain ⟨ob, ox, _⟩ := frd_raw I ed its
    exact PySem.W.kia_one PySem.W.kitx_dict I.kIn ⟨o, ob, ox.1⟩ e (fun z => nomatch z) fun tk => ⟨.bl b, H, I.tok tk, rfl, q⟩
end
end K09

/-! # what are no entries; stairs that can't be made -/
namespace K09
open PySem PySem.Spec PyProof.Rows L2
/-- whether a dict of these pairs holds entries -/
def enD (ns : List Int) (pds : List (PyData × PyData)) : Bool := pds.all fun p => isPl ns p.1 && isEn p.2
section
variable {P : Program} {w : World} {K : PySem.W.Frag} {mg : Str → Option Value} {base : Heap} {C CS CT : Addr}
def spEntsD (K : PySem.W.Frag) : Sp := fun vs H Q _ => ∃ (a : Addr) (y : V) (ns : List Int), vs = [.ref a, y] ∧ SqT K H a (ns.map V.int) ∧ Shp ns ∧
  ((∃ D pds, y = .ref D ∧ FrD K H D pds ∧ pds.length ≤ 100 ∧ ∀ H', Same H H' → Q (.bl (enD ns pds)) H') ∨ (∃ t, TyX K H y t ∧ kit K t (.type "dict") false ∧ Q (.bl false) H))
theorem ok_entsD {f f1 f2 : Addr} {fd fd1 fd2 : FuncData} (T : Txt mg) (N : Nam mg) (d : D K mg "are_entries" s_ents ["shape", "value"] f fd) (d1 : D K mg "is_place" s_place ["shape", "value"] f1 fd1) (d2 : D K mg "is_integer" s_is_integer ["value"] f2 fd2)
    (G1 : FnOk P w K mg base (L2.CX P w) 5 f1 fd1 ["shape", "value"] (spPlace K CS)) (G2 : FnOk P w K mg base CX0 2 f2 fd2 ["value"] (spIntS K)) : FnOk P w K mg base (L2.CX P w) 6 f fd ["shape", "value"] (spEntsD K) := by
  refine d.F.okX sc_ents (fun vs H Q E h => ?_) (fun cdv A outer s H vs Q E hr h => ?_)
  · obtain ⟨a, y, ns, rfl, _⟩ := h
    rfl
  · obtain ⟨a, y, ns, rfl, e, S, q⟩ := h
    refine ⟨_, (pss_cons (ps_if (pt_not (pt_val (pe_callB call_isiD (by rfl) T.n_isinstance (by decide +kernel) (pa_cons (pv 1) (pa_cons (pe_bltn (v := .ty "dict") (by rfl) N.n_dict (by decide +kernel) rfl) pa_nil))))) (pss_one (ps_ret pe_bl)) pss_nil)
      (pss_one (ps_ret (pe_callB (cr_all rfl) (by rfl) N.n_all (by decide +kernel) (pa_cons (pe_lc (own := [("place", 2), ("number", 3)]) (g := gTup K 2 (gCons (gName 2) (gCons (gName 3) gNil))) (tt := tYes) rfl sc_ents.nd (pi_itemsD (pv 1)) (blkOk_by (own := [("place", 2), ("number", 3)]) (N := ["shape", "value", "place", "number"]) (sc := defScope s_ents) (by decide +kernel))
            (fun _ _ _ _ _ => (pg_tup rfl (pgs_cons (pg_name (i := 2) sc_ents.nd rfl (Or.inl rfl)) (pgs_cons (pg_name (i := 3) sc_ents.nd rfl (Or.inl rfl)) pgs_nil)))) (fun _ _ _ _ _ => pts_nil) (fun _ _ _ _ _ => (pe_and (pe_call (E := fun _ _ _ => False) G1 (hr.mono (by decide)) (by rfl) d1.g d1.F.kp d1.b .nil passF (pa_cons (pv 0) (pa_cons (pv 2) pa_nil))) (pe_one (pe_call G2 (hr.mono (by decide)) (by rfl) d2.g d2.F.kp d2.b .nil pass0 (pa_cons (pv 3) pa_nil)))))) pa_nil))))), ?_⟩
    rcases q with ⟨D, pds, rfl, fr, lp, q⟩ | ⟨t, ty, kt, q⟩
    case inr => exact ⟨_, rfl, _, _, _, _, _, rfl, .ty _, .inl ty, kt, _, rfl, ite2 (fun _ => q) (fun z => absurd rfl z)⟩
    refine ⟨_, rfl, _, _, _, _, _, rfl, .ty _, .inr ⟨D, pds, rfl, fr, rfl⟩, kit_dict, _, rfl, ite2 (fun z => absurd z Bool.false_ne_true) (fun _ => ?_)⟩
    obtain ⟨o, u, eD, sm, its⟩ := fr
    refine ⟨_, rfl, D, o, u, pds, rfl, eD, sm, its, fun L nL => ?_⟩
    have wk : Walk (ItiD K D o u pds) pds.length (fun Z => Z D = some (.frz o u) ∧ Its K Z o u pds) (ItiD K D o u pds).yld := ⟨fun i Z l h => ⟨h.1, h.2, l⟩, fun Z h => ⟨h.1, h.2, Nat.le_refl _⟩, fun i Z x Z' l h y => y⟩
    refine lc_it wk (fun i Z => Same H Z ∧ Z L = some (.lst (((pds.take i).map fun p => isPl ns p.1 && isEn p.2).map V.bl))) ⟨sub_same nL, upd_same⟩ (fun i Z _ h => ⟨h.1 _ _ eD, its.same h.1⟩) ?_ ?_
    · rintro i x Z Z' hi ⟨sz, hl⟩ ⟨Tp, kx, vx, kd, vd, ek, tk, tv, rfl, nT, rfl⟩
      have s2 := sub_same (o := .tup [kx, vx]) nT
      have hl2 := s2 _ _ hl
      have tk2 := tk.same s2
      have tv2 := tv.same s2
      have sm2 := sz.trans s2
      have hT : upd Z Tp (.tup [kx, vx]) Tp = some (.tup [kx, vx]) := upd_same
      revert hl2 tk2 tv2 sm2 hT
      generalize upd Z Tp (.tup [kx, vx]) = Z2
      intro hl2 tk2 tv2 sm2 hT
      refine ⟨Tp, _, rfl, .inl (.inl hT), rfl, _, _, rfl, _, _, rfl, rfl, rfl, yesT ?_⟩
      refine ⟨_, rfl, _, rfl, _, kx, .tuple (ns.map .int), kd, rfl, .tv (.tup (sqt_same e sm2) (tvl_ints ns)), .tv tk2, fun ns' en S' Z3 s3 => ?_, fun z => absurd (shp_is S) (by rw [z]; decide)⟩
      obtain rfl : ns' = ns := (ints_inj (PyData.tuple.inj en)).symm
      have fin : ∀ Z4 (b : Bool), Same Z2 Z4 → b = (isPl ns' kd && isEn vd) → ∃ xs, Z4 L = some (.lst xs) ∧ xs.length < sizeLine ∧ Same H (upd Z4 L (.lst (xs ++ [.bl b]))) ∧ upd Z4 L (.lst (xs ++ [.bl b])) L = some (.lst (((pds.take (i + 1)).map fun p => isPl ns' p.1 && isEn p.2).map V.bl)) := fun Z4 b s4 eb => by
        refine ⟨_, s4 _ _ hl2, ?_, fun c ob ec => ?_, ?_⟩
        · rw [List.length_map, List.length_map, List.length_take, sizeLine_eq]
          omega
        · rw [upd_ne (fun z => by rw [z, nL] at ec; cases ec)]
          exact s4 _ _ (sm2 _ _ ec)
        · rw [upd_same, List.take_succ, ek, List.map_append, List.map_append, eb]
          rfl
      cases cp : isPl ns' kd with
      | false => exact ⟨_, rfl, iteF (fin Z3 false s3 (by rw [cp, Bool.false_and]))⟩
      | true => exact ⟨_, rfl, iteT ⟨_, rfl, vx, vd, rfl, (tv2.same s3).shl, fin Z3 _ s3 (by rw [cp, Bool.true_and])⟩⟩
    · rintro Z ⟨sz, hl⟩
      rw [List.take_length] at hl
      refine ⟨L, pds.map fun p => isPl ns p.1 && isEn p.2, rfl, .inl (.inl hl), ?_⟩
      have z : (pds.map fun p => isPl ns p.1 && isEn p.2).all id = enD ns pds := by
        unfold enD
        rw [List.all_map]
        rfl
      rw [z]
      exact q _ sz
/-- no stair is made of a right shape and what are no entries -/
def spInitB (K : PySem.W.Frag) (CT : Addr) : Sp := fun vs H Q E => ∃ (a y : V) (sh : Addr) (ns : List Int), vs = [a, .ref sh, y] ∧ SqT K H sh (ns.map V.int) ∧ Shp ns ∧
  ((∃ D pds, y = .ref D ∧ FrD K H D pds ∧ pds.length ≤ 100 ∧ enD ns pds = false) ∨ (∃ t, TyX K H y t ∧ kit K t (.type "dict") false)) ∧ ∀ H', Same H H' → E (.ref CT) none H'
theorem ok_initB {f f1 f2 : Addr} {fd fd1 fd2 : FuncData} (T : Txt mg) (OT : OpX K mg "InvalidStair" CT) (d : M K "__init__" "Stair.__init__" s_init ["self", "shape", "entries"] f fd)
    (d1 : D K mg "check_shape" s_check ["shape"] f1 fd1) (G1 : FnOk P w K mg base (L2.CX P w) 4 f1 fd1 ["shape"] (spCheck K CS)) (d2 : D K mg "are_entries" s_ents ["shape", "value"] f2 fd2) (G2 : FnOk P w K mg base (L2.CX P w) 6 f2 fd2 ["shape", "value"] (spEntsD K)) :
    FnOk P w K mg base (L2.CX P w) 7 f fd ["self", "shape", "entries"] (spInitB K CT) := by
  refine d.F.okX sc_init (fun vs H Q E h => ?_) (fun cdv A outer s H vs Q E hr h => ?_)
  · obtain ⟨a, y, sh, ns, rfl, _⟩ := h
    rfl
  · obtain ⟨a, y, sh, ns, rfl, es, S, bad, q⟩ := h
    refine ⟨_, (pss_cons (ps_expr (pe_call (E := fun _ _ _ => False) G1 (hr.mono (by decide)) (by rfl) d1.g d1.F.kp d1.b .nil passF (pa_cons (pv 1) pa_nil)))
      (pss_cons (ps_if (pt_not (pt_val (pe_call (E := fun _ _ _ => False) G2 hr (by rfl) d2.g d2.F.kp d2.b .nil passF (pa_cons (pv 1) (pa_cons (pv 2) pa_nil))))) (pss_one (ps_raise rfl (takes_of rfl rfl rfl rfl) (by exact (pmk_own PySem.F.excBase_ValueError OT.x OT.g OT.k (raises_own OT.b OT.t) rfl)))) pss_nil) dead)), ?_⟩
    refine ⟨_, rfl, _, .tuple (ns.map .int), rfl, .tv (.tup es (tvl_ints ns)), fun _ H1 s1 => ?_, fun z => absurd (shp_is S) (by rw [z]; decide)⟩
    refine ⟨_, rfl, _, rfl, sh, y, ns, rfl, sqt_same es s1, S, ?_⟩
    rcases bad with ⟨D, pds, rfl, fr, lp, no⟩ | ⟨t, ty, kt⟩
    · exact .inl ⟨D, pds, rfl, fr.same s1, lp, fun H2 s2 => ⟨_, rfl, ite2 (fun _ => q _ (s1.trans s2)) (fun z => absurd (by rw [no]; rfl) z)⟩⟩
    · exact .inr ⟨t, tyx_same ty s1, kt, _, rfl, ite2 (fun _ => q _ s1) (fun z => absurd rfl z)⟩
end
end K09

/-! # what is no table -/
namespace K09
open PySem PySem.Spec PyProof.Rows L2 TL NumText
/-- a row, or what stands for one -/
def Rw (K : PySem.W.Frag) (H : Hp) (x : V) (d : PyData) : Prop := Tv K H x d ∨ ∃ a xs, x = .ref a ∧ H a = some (.lst xs) ∧ d = .list []
theorem Rw.same {K : PySem.W.Frag} {H H' : Hp} {x : V} {d : PyData} (h : Rw K H x d) (s : Same H H') : Rw K H' x d := by
  rcases h with t | ⟨a, xs, e, l, e2⟩
  · exact .inl (t.same s)
  · exact .inr ⟨a, xs, e, s _ _ l, e2⟩
theorem Rw.ty {K : PySem.W.Frag} {H : Hp} {x : V} {d : PyData} (h : Rw K H x d) : TyX K H x (.type (tyN d)) := by
  rcases h with t | ⟨a, xs, rfl, l, rfl⟩
  · exact t.ty
  · exact .base (.lst l)
/-- a table, or what stands for one -/
inductive Tb (K : PySem.W.Frag) (H : Hp) : V → PyData → Prop
  | rw {x : V} {d : PyData} : Rw K H x d → Tb K H x d
  | tup {a : Addr} {xs : List V} {ds : List PyData} : SqT K H a xs → Paired (Rw K H) xs ds → Tb K H (.ref a) (.tuple ds)
theorem Tb.same {K : PySem.W.Frag} {H H' : Hp} {x : V} {d : PyData} (h : Tb K H x d) (s : Same H H') : Tb K H' x d := by
  cases h with
  | rw r => exact .rw (r.same s)
  | tup e p => exact .tup (sqt_same e s) (Paired.mapP p fun _ _ z => Rw.same z s)
theorem Tb.ty {K : PySem.W.Frag} {H : Hp} {x : V} {d : PyData} (h : Tb K H x d) : TyX K H x (.type (tyN d)) := by
  cases h with
  | rw r => exact r.ty
  | tup e p =>
    rcases e with (e | ⟨od, e⟩) | ⟨o, its, n, e, c, _⟩
    · exact .base (.tup e)
    · exact .fTuple e
    · exact .kTuple e c
theorem rows_of {K : PySem.W.Frag} {H : Hp} : ∀ {xs : List V} {ds : List PyData}, TvL K H xs ds → Paired (Rw K H) xs ds
  | _, _, .nil => .nil
  | _, _, .cons a l => .cons (.inl a) (rows_of l)
theorem Tb.tuple {K : PySem.W.Frag} {H : Hp} {x : V} {ds : List PyData} (h : Tb K H x (.tuple ds)) : ∃ a xs, x = .ref a ∧ SqT K H a xs ∧ Paired (Rw K H) xs ds := by
  cases h with
  | rw r =>
    rcases r with t | ⟨a, xs, _, _, e⟩
    · cases t with
      | tup e l => exact ⟨_, _, rfl, e, rows_of l⟩
    · cases e
  | tup e p => exact ⟨_, _, rfl, e, p⟩
def intD : PyData → Int
  | .int n => n
  | _ => 5
/-- whether it is the row i of n -/
def sqR (i n : Nat) : PyData → Bool
  | .tuple es => decide (es.length = n) && (es.all isEn && (decide (intD (es.getD i .none) = 1) && !((es.take i).any fun d => intD d != 0)))
  | _ => false
/-- whether it is a table -/
def sqD : PyData → Bool
  | .tuple ds => (List.range ds.length).all fun i => sqR i ds.length (ds.getD i .none)
  | _ => false
def isTp : PyData → Bool
  | .tuple _ => true
  | _ => false
theorem en_ints : ∀ {es : List PyData}, es.all isEn = true → ∃ r : List Int, es = r.map .int
  | [], _ => ⟨[], rfl⟩
  | d :: es, h => by
    rw [List.all_cons, Bool.and_eq_true] at h
    obtain ⟨r, rfl⟩ := en_ints h.2
    cases d with
    | int n => exact ⟨n :: r, rfl⟩
    | _ => exact absurd h.1 Bool.false_ne_true
section
variable {P : Program} {w : World} {K : PySem.W.Frag} {mg : Str → Option Value} {base : Heap} {C CS CT TL : Addr}
def spSqRowS (K : PySem.W.Frag) : Sp := fun vs H Q _ => ∃ (v : V) (i n : Nat) (d : PyData), vs = [v, .int i, .int n] ∧ Rw K H v d ∧ i < n ∧ n ≤ 100 ∧ ∀ H', Same H H' → Q (.bl (sqR i n d)) H'
theorem ok_sqrowS {f f1 : Addr} {fd fd1 : FuncData} (T : Txt mg) (N : Nam mg) (d : D K mg "is_square_row" s_sqrow ["value", "at", "size"] f fd) (d1 : D K mg "is_integer" s_is_integer ["value"] f1 fd1) (G1 : FnOk P w K mg base CX0 2 f1 fd1 ["value"] (spIntS K)) :
    FnOk P w K mg base CX0 3 f fd ["value", "at", "size"] (spSqRowS K) := by
  refine d.F.ok sc_sqrow (fun vs H Q E h => ?_) (fun cdv A outer s H vs Q E hr h => ?_)
  · obtain ⟨v, i, n, d, rfl, _⟩ := h
    rfl
  · obtain ⟨v, i, n, d, rfl, tv, il, n100, q⟩ := h
    refine ⟨_, (pss_cons (ps_if (PW.pt (pw_or (pt_not (pt_val (pe_callB call_isi (by rfl) T.n_isinstance (by decide +kernel) (pa_cons (pv 0) (pa_cons (pe_bltn (v := .ty "tuple") (by rfl) T.n_tuple (by decide +kernel) rfl) pa_nil))))) (pw_or1 (pt_cmpR op_ne (pe_callB call_len_seq (by rfl) T.n_len PySem.boot_len (pa_cons (pv 0) pa_nil)) (pv 2) (nomark _))))) (pss_one (ps_ret pe_bl)) pss_nil)
      (pss_cons (ps_if (pt_not (pt_val (pe_callB (cr_all rfl) (by rfl) N.n_all (by decide +kernel) (pa_cons (pe_lc (own := [("number", 3)]) (g := gName 3) (tt := tYes) rfl sc_sqrow.nd (pi_tup (pv 0)) (blkOk_by (own := [("number", 3)]) (N := ["value", "at", "size", "number"]) (sc := defScope s_sqrow) (by decide +kernel))
            (fun _ _ _ _ _ => (pg_name (i := 3) sc_sqrow.nd rfl (Or.inl rfl))) (fun _ _ _ _ _ => pts_nil) (fun _ _ _ _ _ => (pe_call G1 (hr.mono (by decide)) (by rfl) d1.g d1.F.kp d1.b .nil pass0 (pa_cons (pv 3) pa_nil)))) pa_nil)))) (pss_one (ps_ret pe_bl)) pss_nil)
      (pss_one (ps_ret (pe_and (pe_cmpR op_eq (pe_ix ix_tup (pv 0) (pv 1) (fun _ _ => rfl)) pe_int (nomark _)) (pe_one (pe_not (pe_callB (cr_anyT rfl) (by rfl) N.n_any (by decide +kernel) (pa_cons (pe_slice sl_tup (pv 0) po_none (po_some (pv 1))) pa_nil))))))))), ?_⟩
    refine ⟨_, rfl, _, _, _, _, _, rfl, .ty _, tv.ty, kitT d, _, rfl, ?_⟩
    cases d with
    | tuple es =>
      obtain ⟨o, xs, rfl, eo, tl⟩ : ∃ o xs, v = .ref o ∧ SqT K H o xs ∧ TvL K H xs es := by
        rcases tv with t | ⟨_, _, _, _, e⟩
        · cases t with
          | tup e l => exact ⟨_, _, rfl, e, l⟩
        · cases e
      have lx := tl.len
      refine ite2 (fun z => absurd z Bool.false_ne_true) (fun _ => ?_)
      refine ⟨_, rfl, o, _, rfl, .inr eo, _, rfl, rfl, _, rfl, ?_⟩
      have q' : ∀ H', Same H H' → Q (.bl (decide (es.length = n) && (es.all isEn && (decide (intD (es.getD i .none) = 1) && !((es.take i).any fun d => intD d != 0))))) H' := q
      by_cases ln : es.length = n
      case neg =>
        rw [decide_eq_false ln] at q'
        refine ite2 (fun _ => q' H (Same.refl H)) (fun z => absurd ?_ z)
        rw [lx, decide_eq_false (fun z => ln (by have := V.int.inj z; omega))]
        rfl
      rw [decide_eq_true ln] at q'
      refine ite2 (fun z => ?_) (fun _ => ?_)
      · rw [lx, ln, decide_eq_true rfl] at z
        cases z
      refine ⟨_, rfl, o, rfl, ⟨_, eo⟩, fun D hD => ?_⟩
      have off : ∀ {Z : Hp} {o : HO}, Same H Z → Same H (upd Z D o) := fun sz b o h => by
        rw [upd_ne (ne_of_none h hD)]
        exact sz b o h
      refine lc_tup (K := K) (a := o) (xs := xs) (fun j H' => Same H H' ∧ H' D = some (.lst (((es.take j).map isEn).map V.bl))) ⟨off (Same.refl H), upd_same⟩ (fun j H' _ h => sqt_same eo h.1) ?_ ?_
      · rintro j x H' hx ⟨sm, hl⟩
        obtain ⟨d0, hd0, t0⟩ := tl.get hx
        have jl : j < es.length := (List.getElem?_eq_some_iff.mp hd0).1
        refine ⟨rfl, yesT ?_⟩
        refine ⟨_, rfl, x, d0, rfl, (t0.same sm).shl, ?_⟩
        refine ⟨_, hl, Nat.lt_of_lt_of_le (show _ < 101 by rw [List.length_map, List.length_map, List.length_take]; omega) (by decide), off sm, ?_⟩
        have tk : es.take (j + 1) = es.take j ++ [d0] := by rw [List.take_succ, hd0]; rfl
        rw [upd_same, tk, List.map_append, List.map_append]
        rfl
      · rintro H' ⟨sm, hl⟩
        rw [lx, List.take_length] at hl
        refine ⟨D, es.map isEn, rfl, .inl (.inl hl), _, rfl, ?_⟩
        have e1 : (es.map isEn).all id = es.all isEn := by
          rw [List.all_map]
          rfl
        rw [e1]
        cases ea : es.all isEn with
        | false =>
          rw [ea] at q'
          exact ite2 (fun _ => q' H' sm) (fun z => absurd rfl z)
        | true =>
          rw [ea, Bool.true_and, Bool.true_and] at q'
          refine ite2 (fun z => absurd z Bool.false_ne_true) (fun _ => ?_)
          obtain ⟨r, rfl⟩ := en_ints ea
          rw [List.length_map] at ln
          have tz := tl.ints
          subst tz
          have lr : (r.map V.int).length = r.length := List.length_map _
          have ri : i < r.length := by omega
          have g1 : (r.map V.int)[i]? = some (V.int r[i]) := by rw [List.getElem?_map, List.getElem?_eq_getElem ri]; rfl
          have gd : intD ((r.map PyData.int).getD i .none) = r[i] := by
            rw [List.getD_eq_getElem?_getD, List.getElem?_map, List.getElem?_eq_getElem ri]
            rfl
          rw [gd] at q'
          have eo' := sqt_same eo sm
          refine ⟨_, rfl, _, rfl, o, _, (i : Int), _, rfl, rfl, eo', atI_nat g1, rfl, _, rfl, ?_⟩
          by_cases r1 : r[i] = 1
          case neg =>
            rw [decide_eq_false r1] at q'
            refine ite2 (fun z => absurd z ?_) (fun _ => ?_)
            · rw [decide_eq_false (fun y => r1 (V.int.inj y))]
              exact Bool.false_ne_true
            · exact q' H' sm
          rw [decide_eq_true r1, Bool.true_and] at q'
          refine ite2 (fun _ => ?_) (fun z => absurd (by rw [r1]; exact decide_eq_true rfl) z)
          have hi : HT.sIx (r.map V.int).length (r.map V.int).length (some (i : Int)) = i := by
            rw [lr]
            exact sIx_nat (by omega)
          refine ⟨_, rfl, _, rfl, _, rfl, o, _, rfl, eo', fun z => ?_, fun p np => ⟨p, r.take i, rfl, .inl (.inl ?_), _, rfl, ?_⟩⟩
          · rw [hi, lr] at z
            omega
          · rw [upd_same]
            unfold cutV
            rw [hi]
            show some (HO.tup (((r.map V.int).drop 0).take (i - 0))) = _
            rw [List.drop_zero, Nat.sub_zero, List.map_take]
          · have e2 : ((r.take i).any fun n => n != 0) = (((r.map PyData.int).take i).any fun d => intD d != 0) := by
              rw [← List.map_take, List.any_map]
              rfl
            rw [e2]
            exact q' _ (sm.trans (sub_same np))
    | _ => exact ite2 (fun _ => ite2 (fun _ => q H (Same.refl H)) (fun z => absurd rfl z)) (fun z => absurd rfl z)
theorem pair_get {α β : Type} {F : α → β → Prop} {xs : List α} {ds : List β} (p : Paired F xs ds) {i : Nat} {x : α} (e : xs[i]? = some x) : ∃ d, ds[i]? = some d ∧ F x d := by
  obtain ⟨d, e2, f⟩ := paired_get p e
  exact ⟨d, e2, f⟩
def spSquareS (K : PySem.W.Frag) : Sp := fun vs H Q _ => ∃ (v : V) (d : PyData), vs = [v] ∧ Tb K H v d ∧ (∀ ds, d = .tuple ds → ds.length ≤ 100) ∧ ∀ H', Same H H' → Q (.bl (sqD d)) H'
theorem ok_squareS {f f1 : Addr} {fd fd1 : FuncData} (T : Txt mg) (N : Nam mg) (d : D K mg "is_square" s_square ["value"] f fd) (d1 : D K mg "is_square_row" s_sqrow ["value", "at", "size"] f1 fd1) (G1 : FnOk P w K mg base CX0 3 f1 fd1 ["value", "at", "size"] (spSqRowS K)) :
    FnOk P w K mg base CX0 4 f fd ["value"] (spSquareS K) := by
  refine d.F.ok sc_square (fun vs H Q E h => ?_) (fun cdv A outer s H vs Q E hr h => ?_)
  · obtain ⟨v, d, rfl, _⟩ := h
    rfl
  · obtain ⟨v, d, rfl, tv, few, q⟩ := h
    refine ⟨_, (pss_cons (ps_if (pt_not (pt_val (pe_callB call_isi (by rfl) T.n_isinstance (by decide +kernel) (pa_cons (pv 0) (pa_cons (pe_bltn (v := .ty "tuple") (by rfl) T.n_tuple (by decide +kernel) rfl) pa_nil))))) (pss_one (ps_ret pe_bl)) pss_nil)
      (pss_one (ps_ret (pe_callB (cr_all rfl) (by rfl) N.n_all (by decide +kernel) (pa_cons (pe_lc (own := [("at", 1), ("row", 2)]) (g := gTup K 2 (gCons (gName 1) (gCons (gName 2) gNil))) (tt := tYes) rfl sc_square.nd (pi_enumT (by rfl) N.n_enumerate (pa_cons (pv 0) pa_nil)) (blkOk_by (own := [("at", 1), ("row", 2)]) (N := ["value", "at", "row"]) (sc := defScope s_square) (by decide +kernel))
            (fun _ _ _ _ _ => (pg_tup rfl (pgs_cons (pg_name (i := 1) sc_square.nd rfl (Or.inl rfl)) (pgs_cons (pg_name (i := 2) sc_square.nd rfl (Or.inl rfl)) pgs_nil)))) (fun _ _ _ _ _ => pts_nil) (fun _ _ _ _ _ => (pe_call G1 (hr.mono (by decide)) (by rfl) d1.g d1.F.kp d1.b .nil pass0 (pa_cons (pv 2) (pa_cons (pv 1) (pa_cons (pe_callB (call_len_seqK (K := K) rfl) (by rfl) T.n_len PySem.boot_len (pa_cons (pv 0) pa_nil)) pa_nil)))))) pa_nil))))), ?_⟩
    refine ⟨_, rfl, _, _, _, _, _, rfl, .ty _, tv.ty, kitT d, _, rfl, ?_⟩
    cases d with
    | tuple ds =>
      obtain ⟨o, xs, rfl, eo, tl⟩ := tv.tuple
      have lx : xs.length = ds.length := Paired.length tl
      have l100 := few ds rfl
      refine ite2 (fun z => absurd z Bool.false_ne_true) (fun _ => ?_)
      refine ⟨_, rfl, o, _, rfl, eo, fun D hD => ?_⟩
      have off : ∀ {Z : Hp} {o : HO}, Same H Z → Same H (upd Z D o) := fun sz b o h => by
        rw [upd_ne (ne_of_none h hD)]
        exact sz b o h
      refine lc_it (walk_enumT (K := K) (a := o) (xs := xs)) (fun j Z => Same H Z ∧ Z D = some (.lst (((List.range j).map fun i => sqR i ds.length (ds.getD i .none)).map V.bl))) ⟨off (Same.refl H), upd_same⟩ (fun j Z _ h => sqt_same eo h.1) ?_ ?_
      · rintro i v Z Z' hi ⟨sm, hl⟩ ⟨Tp, x0, y0, rfl, nT, rfl, ex, ey⟩
        obtain rfl := Option.some.inj ex
        obtain ⟨d0, ed, td⟩ := pair_get tl ey
        have il : i < ds.length := (List.getElem?_eq_some_iff.mp ed).1
        have gd : ds.getD i .none = d0 := by rw [List.getD_eq_getElem?_getD, ed]; rfl
        have s2 := sub_same (o := .tup [V.int (i : Nat), y0]) nT
        have hl2 := s2 _ _ hl
        have sm2 := sm.trans s2
        have hT : upd Z Tp (.tup [V.int (i : Nat), y0]) Tp = some (.tup [V.int (i : Nat), y0]) := upd_same
        revert hl2 sm2 hT
        generalize upd Z Tp (.tup [V.int (i : Nat), y0]) = Z2
        intro hl2 sm2 hT
        refine ⟨Tp, _, rfl, .inl (.inl hT), rfl, _, _, rfl, _, _, rfl, rfl, rfl, yesT ?_⟩
        refine ⟨_, rfl, _, rfl, _, rfl, o, _, rfl, .inr (sqt_same eo sm2), y0, i, xs.length, d0, rfl, Rw.same td sm2, by omega, by omega, fun Z3 s3 => ?_⟩
        refine ⟨_, s3 _ _ hl2, Nat.lt_of_lt_of_le (show _ < 101 by rw [List.length_map, List.length_map, List.length_range]; omega) (by decide), off (sm2.trans s3), ?_⟩
        rw [upd_same, List.range_succ, List.map_append, List.map_append, lx]
        show _ = some (HO.lst (_ ++ [V.bl (sqR i ds.length (ds.getD i .none))]))
        rw [gd]
      · rintro Z ⟨sm, hl⟩
        rw [lx] at hl
        refine ⟨D, _, rfl, .inl (.inl hl), ?_⟩
        have e1 : ((List.range ds.length).map fun i => sqR i ds.length (ds.getD i .none)).all id = sqD (.tuple ds) := by
          rw [List.all_map]
          rfl
        rw [e1]
        exact q Z sm
    | _ => exact ite2 (fun _ => q H (Same.refl H)) (fun z => absurd rfl z)
end
end K09

/-! # what refuses tables, places, numbers -/
namespace K09
open PySem PySem.Spec PyProof.Rows L2 TL NumText
theorem ub_laid {fs : List Addr} {H H' : Hp} {h B h' : Heap} {o : HO} {ob : Obj} (free : H h.objs.size = none) (u : UB fs (upd H h.objs.size o) H' (h.push ob) B h') : UB fs H H' h B h' := by
  have kk : ∀ b z, h.get? b = some z → (h.push ob).get? b = some z := fun b z q => Heap.get?_push_of_some _ q
  have ne : ∀ {b z}, h.get? b = some z → b ≠ h.objs.size := fun q => Nat.ne_of_lt (Heap.lt_size q)
  have nh : ∀ {b z}, H b = some z → upd H h.objs.size o b = some z := fun {b z} q => (upd_ne (fun e => by rw [e, free] at q; cases q)).trans q
  exact ⟨fun b z q n m => u.keep b z (kk b z q) ((upd_ne (ne q)).trans n) m, fun b z q m => u.slot b z (kk b z q) m, fun b z q n => u.free b z (kk b z q) ((upd_ne (ne q)).trans n), fun b z q m => u.there b z (kk b z q) m,
    fun b xs q => u.tups b xs (nh q), fun b z xs q => u.frzs b z xs (nh q), fun b ps q => u.tbls b ps (nh q)⟩
/-- a def of one parameter and a row of further ones, which may raise -/
theorem fn_starX {P : Program} {w : World} {K : PySem.W.Frag} {mg : Str → Option Value} {base : Heap} {k : Nat} {x qual a v : Str} {st : Stmt} {f : Addr} {fd : FuncData} {N : List Str} {sp : Sp} (F : Fun K x qual st f fd) (S : FnScope N [a, v] (defScope st))
    (hb : ∀ (u : Value) (us : List Value), us.length ≤ 4 → bindArgs fd ⟨u :: us, []⟩ = (newTuple us >>= fun t => pure [(a, u), (v, t)])) (len : ∀ vs H Q E, sp vs H Q E → vs.length = 2)
    (hbody : ∀ (cdv : Value) (A : Around) (outer : List Env) (s : Shared) (H : Hp) (vs : List V) (Q : VK) (E : XK), Room k (A.deeper (envOfC qual (defScope st) s.heap.objs.size f cdv)) → sp vs H Q E →
      ∃ t, PSs (cxOf (L2.CX P w) P w K mg base N qual (defScope st) f cdv A outer s H E) (defBody st) t ∧ t { nx := fun _ H' => Q .non H', rt := Q } (L2.start N vs) H) :
    FnR P w K mg base (L2.CX P w) (k + 1) f (fun vs H Q E => ∃ (y : V) (rest : List V), vs = y :: rest ∧ rest.length ≤ 4 ∧ ∀ T, H T = none → sp [y, .ref T] (upd H T (.tup rest)) Q E) := by
  obtain ⟨oc, od, kV, doc, pm, an, cdv, ct, osl, rfl, lk, hcd⟩ := F.ex
  rintro A outer s H us vs Q E hr e0 r ⟨y, rest, rfl, l4, hsp⟩
  cases r with
  | cons r1 rr =>
    rename_i u urest
    have KX : K.In s.heap := e0.mod.kin.keeps fun b o e => (e0.bs b o e).1
    have lr : urest.length ≤ 4 := by rw [← rr.length]; exact l4
    have new : ObjOk P w (upd H s.heap.objs.size (.tup rest)) (s.heap.push { cls := .type "tuple", data := .seq urest.toArray }) s.heap.objs.size (.tup rest) := ⟨Nat.le_trans l4 (by decide), _, rr, IsTup.new _ _⟩
    have e1 := env0_laid e0 new
    have free : H s.heap.objs.size = none := e0.hok.fresh (Nat.le_refl _)
    have un0 : Un (frs outer) [] H (upd H s.heap.objs.size (.tup rest)) s.heap (s.heap.push { cls := .type "tuple", data := .seq urest.toArray }) := Un.laid (fun b u q => Heap.get?_push_of_some _ q) (Nat.le_refl _) free
    have sp1 := hsp _ free
    have r2 : Vals [y, V.ref s.heap.objs.size] [u, Value.ref s.heap.objs.size] := .cons r1 (.cons rfl .nil)
    have hl := len _ _ _ _ sp1
    have lim : ({ s with heap := s.heap.push { cls := .type "tuple", data := .seq urest.toArray } } : Shared).heap.NoLimit := e1.mod.nolimit.keeps fun b o e => (e1.bs b o e).1
    refine codeAny_mono (R := fun r s' => CR (L2.CX P w) outer P w (upd H s.heap.objs.size (.tup rest)) { s with heap := s.heap.push { cls := .type "tuple", data := .seq urest.toArray } } Q E r s') ?_ fun r s' hq => ?_
    · refine codeAny_call_function hr.depth (KX _ _ lk) rfl S.co S.gen rfl (PySem.W.codeRec_of KX hcd) ?_
      rw [hb u urest lr]
      refine wpAny_bind (wpAny_newTuple ?_ (Nat.le_trans lr (by decide)))
      refine wpAny_pure ?_
      have hp1 : s.heap.push { cls := .type "tuple", data := .seq urest.toArray } = ({ s with heap := s.heap.push { cls := .type "tuple", data := .seq urest.toArray } } : Shared).heap := rfl
      have os1 : s.os = ({ s with heap := s.heap.push { cls := .type "tuple", data := .seq urest.toArray } } : Shared).os := rfl
      clear un0 new hp1 os1
      revert e1 sp1 lim
      generalize ({ s with heap := s.heap.push { cls := .type "tuple", data := .seq urest.toArray } } : Shared) = s1
      intro e1 sp1 lim
      revert e1 sp1
      generalize upd H s.heap.objs.size (.tup rest) = H1
      intro e1 sp1
      have hz : [a, v].zip [u, Value.ref s.heap.objs.size] = [(a, u), (v, Value.ref s.heap.objs.size)] := rfl
      have hkind : ∀ z ∈ [(a, u), (v, Value.ref s.heap.objs.size)], (defScope st).names.lookup z.1 = some .local ∨ ((defScope st).names.lookup z.1 = some .cell ∧ ((cellsFrom (s1.heap.objs.size + 1) (defScope st).names []).lookup z.1).isSome = true) := fun ⟨n, z⟩ hz' => by
        rcases S.par n (List.of_mem_zip (hz ▸ hz')).1 with q | q
        · exact .inl q
        · exact .inr ⟨q, PySem.W.cellsFrom_some _ _ _ (.inl q)⟩
      refine wpAny_newFunctionEnv_cells S.kind hkind fun env he s2 x => ?_
      subst he
      refine ⟨lim.keeps x.toInCall.keep, codeAny_func ?_⟩
      obtain ⟨t, ht, hq⟩ := hbody cdv A outer s1 H1 [y, V.ref s.heap.objs.size] Q E (hr.deeper _) sp1
      have I := inv_start (CX := L2.CX P w) (qual := qual) (f := f) (cd := cdv) (E := E) S hr.hd e1 hl r2 x
      refine wpAny_mono (ht.run [] s2 _ H1 _ I hq) (fun fl s' hs => ?_) fun e s' hs => hs
      have fin : ∀ {σ' : L2.St} {H' : Hp} {z : V} {b : Value}, Inv (cxOf (L2.CX P w) P w K mg base N qual (defScope st) f cdv A outer s1 H1 E) [] σ' H' s' → RelV z b → Q z H' → CE outer P w H1 s1 Q b s' :=
        fun {σ' H' z b} J rv q => ⟨z, H', J.os, J.bare, J.base, J.hok, rv, q⟩
      cases fl with
      | ret b =>
        obtain ⟨z, σ', H', J, rv, q⟩ := hs
        exact fin J rv q
      | next =>
        obtain ⟨σ', H', J, q⟩ := hs
        exact fin (z := V.non) (b := Value.none) J rfl q
      | brk =>
        obtain ⟨_, _, _, q⟩ := hs
        exact False.elim q
      | cont =>
        obtain ⟨_, _, _, q⟩ := hs
        exact False.elim q
    · cases r with
      | error e =>
        obtain ⟨a1, B, H', cls, d, rfl, fl, ok, ub, na, os, bare, ee⟩ := hq
        exact ⟨a1, B, H', cls, d, rfl, fl, ok, ub_laid free ub, na, os, bare, ee⟩
      | ok fl =>
        cases fl with
        | ret b =>
          obtain ⟨z, H', os, bare, un, hok, rv, q⟩ := hq
          exact ⟨z, H', os, bare, un0.trans un, hok, rv, q⟩
        | next => exact False.elim hq
        | brk => exact False.elim hq
        | cont => exact False.elim hq
def lenD : PyData → Int
  | .tuple es => es.length
  | _ => 0
theorem sq_tup {d : PyData} (h : sqD d = true) : ∃ es, d = .tuple es := by
  cases d with
  | tuple es => exact ⟨es, rfl⟩
  | _ => exact absurd h Bool.false_ne_true
section
variable {P : Program} {w : World} {K : PySem.W.Frag} {mg : Str → Option Value} {base : Heap} {C CS CT CN fN TL : Addr}
/-- what are no tables of a stair -/
def spOfX (K : PySem.W.Frag) (C CT : Addr) : Sp := fun vs H Q E => ∃ (T : Addr) (xs : List V) (ds : List PyData), vs = [.ref C, .ref T] ∧ H T = some (.tup xs) ∧ Paired (Tb K H) xs ds ∧ ds.length ≤ 4 ∧ (∀ es, PyData.tuple es ∈ ds → es.length ≤ 100) ∧
  (ds.all sqD = true → isSh (.tuple ((ds.map lenD).map .int)) = false) ∧ ∀ H', Same H H' → E (.ref CT) none H'
theorem ok_ofX {f f1 f2 : Addr} {fd fd1 fd2 : FuncData} (T : Txt mg) (N : Nam mg) (OT : OpX K mg "InvalidStair" CT) (F : Fun K "of" "Stair.of" s_of f fd) (hb : ∀ (u : Value) (us : List Value), us.length ≤ 4 → bindArgs fd ⟨u :: us, []⟩ = (newTuple us >>= fun t => pure [(("cls" : Str), u), (("tables" : Str), t)]))
    (d1 : D K mg "is_square" s_square ["value"] f1 fd1) (G1 : FnOk P w K mg base CX0 4 f1 fd1 ["value"] (spSquareS K)) (d2 : D K mg "is_shape" s_is_shape ["value"] f2 fd2) (G2 : FnOk P w K mg base CX0 3 f2 fd2 ["value"] (spShape K)) :
    FnR P w K mg base (L2.CX P w) 9 f (fun vs H Q E => ∃ (y : V) (rest : List V), vs = y :: rest ∧ rest.length ≤ 4 ∧ ∀ T, H T = none → spOfX K C CT [y, .ref T] (upd H T (.tup rest)) Q E) := by
  refine fn_starX F sc_of hb (fun vs H Q E h => ?_) (fun cdv A outer s H vs Q E hr h => ?_)
  · obtain ⟨T, xs, ds, rfl, _⟩ := h
    rfl
  · obtain ⟨TT, xs, ds, rfl, eT, tl, l4, few, bad, q⟩ := h
    refine ⟨_, (pss_cons (ps_if (pt_not (pt_val (pe_callB (cr_all rfl) (by rfl) N.n_all (by decide +kernel) (pa_cons (pe_lc (own := [("table", 3)]) (g := gName 3) (tt := tYes) rfl sc_of.nd (pi_tup (pv 1)) (blkOk_by (own := [("table", 3)]) (N := ["cls", "tables", "shape", "table", "b", "i", "j"]) (sc := defScope s_of) (by decide +kernel))
            (fun _ _ _ _ _ => (pg_name (i := 3) sc_of.nd rfl (Or.inl rfl))) (fun _ _ _ _ _ => pts_nil) (fun _ _ _ _ _ => (pe_call G1 (hr.mono (by decide)) (by rfl) d1.g d1.F.kp d1.b .nil pass0 (pa_cons (pv 3) pa_nil)))) pa_nil)))) (pss_one (ps_raise rfl (takes_of rfl rfl rfl rfl) (by exact (pmk_own PySem.F.excBase_ValueError OT.x OT.g OT.k (raises_own OT.b OT.t) rfl)))) pss_nil)
      (pss_cons (ps_set (i := 2) sc_of.nd rfl (.inl rfl) (pe_tupleOf (by rfl) T.n_tuple (pe_lc (own := [("table", 3)]) (g := gName 3) (tt := tYes) rfl sc_of.nd (pi_tup (pv 1)) (blkOk_by (own := [("table", 3)]) (N := ["cls", "tables", "shape", "table", "b", "i", "j"]) (sc := defScope s_of) (by decide +kernel))
            (fun _ _ _ _ _ => (pg_name (i := 3) sc_of.nd rfl (Or.inl rfl))) (fun _ _ _ _ _ => pts_nil) (fun _ _ _ _ _ => (pe_callB (call_len_seqK (K := K) rfl) (by rfl) T.n_len PySem.boot_len (pa_cons (pv 3) pa_nil))))))
      (pss_cons (ps_if (pt_not (pt_val (pe_call G2 (hr.mono (by decide)) (by rfl) d2.g d2.F.kp d2.b .nil pass0 (pa_cons (pv 2) pa_nil)))) (pss_one (ps_raise rfl (takes_of rfl rfl rfl rfl) (by exact (pmk_own PySem.F.excBase_ValueError OT.x OT.g OT.k (raises_own OT.b OT.t) rfl)))) pss_nil) dead))), ?_⟩
    have lx : xs.length = ds.length := Paired.length tl
    refine ⟨_, rfl, TT, rfl, ⟨_, sqt_new eT⟩, fun L nL => ?_⟩
    refine lc_tup (K := K) (a := TT) (xs := xs) (fun i Z => Same H Z ∧ Z L = some (.lst (((ds.take i).map sqD).map V.bl))) ⟨sub_same nL, upd_same⟩ (fun i Z _ h => sqt_same (sqt_new eT) h.1) ?_ ?_
    · rintro i x Z hx ⟨sz, hl⟩
      obtain ⟨d0, ed, td⟩ := pair_get tl hx
      refine ⟨rfl, yesT ⟨_, rfl, x, d0, rfl, Tb.same td sz, fun es e => few es (by rw [← e]; exact List.mem_of_getElem? ed), fun Z2 s2 => ?_⟩⟩
      refine ⟨_, s2 _ _ hl, ?_, fun k ob e => ?_, ?_⟩
      · rw [List.length_map, List.length_map, List.length_take, sizeLine_eq]
        omega
      · rw [upd_ne (fun z => by rw [z, nL] at e; cases e)]
        exact s2 _ _ (sz _ _ e)
      · rw [upd_same, List.take_succ, ed, List.map_append, List.map_append]
        rfl
    · rintro Z ⟨sz, hl⟩
      rw [lx, List.take_length] at hl
      refine ⟨L, ds.map sqD, rfl, .inl (.inl hl), _, rfl, ?_⟩
      have z1 : (ds.map sqD).all id = ds.all sqD := by
        rw [List.all_map]
        rfl
      rw [z1]
      cases ea : ds.all sqD with
      | false => exact ite2 (fun _ => q Z sz) (fun z => absurd rfl z)
      | true =>
        have bd := bad ea
        refine ite2 (fun z => absurd z Bool.false_ne_true) (fun _ => ?_)
        refine ⟨_, rfl, TT, rfl, ⟨_, sqt_same (sqt_new eT) sz⟩, fun L2 nL2 => ?_⟩
        refine lc_tup (K := K) (a := TT) (xs := xs) (fun i Y => Same Z Y ∧ Y L2 = some (.lst (((ds.take i).map lenD).map V.int))) ⟨sub_same nL2, upd_same⟩ (fun i Y _ h => sqt_same (sqt_new eT) (sz.trans h.1)) ?_ ?_
        · rintro i x Y hx ⟨sy, hl2⟩
          obtain ⟨d0, ed, td⟩ := pair_get tl hx
          obtain ⟨es, rfl⟩ := sq_tup (List.all_eq_true.mp ea d0 (List.mem_of_getElem? ed))
          obtain ⟨o, ys, rfl, eo, tl2⟩ := td.tuple
          have ly : ys.length = es.length := Paired.length tl2
          refine ⟨rfl, yesT ⟨_, rfl, o, ys, rfl, .inr (sqt_same eo (sz.trans sy)), ?_⟩⟩
          refine ⟨_, hl2, ?_, fun k ob e => ?_, ?_⟩
          · rw [List.length_map, List.length_map, List.length_take, sizeLine_eq]
            omega
          · rw [upd_ne (fun z => by rw [z, nL2] at e; cases e)]
            exact sy _ _ e
          · rw [upd_same, List.take_succ, ed, List.map_append, List.map_append, ly]
            rfl
        · rintro Y ⟨sy, hl2⟩
          rw [lx, List.take_length] at hl2
          refine .inl ⟨L2, _, rfl, .inl (.inl hl2), fun p np => ?_⟩
          have s3 := (sz.trans sy).trans (sub_same (o := .tup ((ds.map lenD).map V.int)) np)
          have ep : upd Y p (.tup ((ds.map lenD).map V.int)) p = some (.tup ((ds.map lenD).map V.int)) := upd_same
          revert s3 ep
          generalize upd Y p (.tup ((ds.map lenD).map V.int)) = H3
          intro s3 ep
          refine ⟨_, rfl, _, .tuple ((ds.map lenD).map .int), rfl, .tv (.tup (sqt_new ep) (tvl_ints _)), fun H4 s4 => ⟨_, rfl, ?_⟩⟩
          rw [bd]
          exact ite2 (fun _ => q _ (s3.trans s4)) (fun z => absurd rfl z)
/-- no single of these -/
def spSingleX (K : PySem.W.Frag) (C CS CT CN : Addr) : Sp := fun vs H Q E => ∃ (x y n : V) (d e : PyData), vs = [.ref C, x, y, n] ∧ Dw K H x d ∧ Dw K H y e ∧
  ((isSh d = false ∧ ∀ H', Same H H' → E (.ref CS) none H') ∨ ∃ ns, d = .tuple (ns.map .int) ∧ Shp ns ∧
    ((isPl ns e = false ∧ ∀ H', Same H H' → E (.ref CT) none H') ∨ (isPl ns e = true ∧ ∃ f, Shl K H n f ∧ isEn f = false ∧ ∀ H' dd, Same H H' → H' dd = none → E (.ref CN) (some dd) (upd H' dd (.xd [(("given" : Str), n)])))))
theorem ok_singleX {f f1 f2 : Addr} {fd fd1 fd2 : FuncData} (OT : OpX K mg "InvalidStair" CT) (NT : PySem.NumX.NumTxt K mg CN fN) (d : M K "single" "Stair.single" s_single ["cls", "shape", "place", "number"] f fd) (d1 : D K mg "is_place" s_place ["shape", "value"] f1 fd1) (G1 : FnOk P w K mg base (L2.CX P w) 5 f1 fd1 ["shape", "value"] (spPlace K CS))
    (d2 : D K mg "is_integer" s_is_integer ["value"] f2 fd2) (G2 : FnOk P w K mg base CX0 2 f2 fd2 ["value"] (spIntS K)) :
    FnOk P w K mg base (L2.CX P w) 9 f fd ["cls", "shape", "place", "number"] (spSingleX K C CS CT CN) := by
  refine d.F.okX sc_single (fun vs H Q E h => ?_) (fun cdv A outer s H vs Q E hr h => ?_)
  · obtain ⟨x, y, n, d, e, rfl, _⟩ := h
    rfl
  · obtain ⟨x, y, n, d, e, rfl, dx, dy, h⟩ := h
    refine ⟨_, (pss_cons (ps_if (pt_not (pt_val (pe_call (E := E) G1 (hr.mono (by decide)) (by rfl) d1.g d1.F.kp d1.b .nil (passes_call (takes_of rfl rfl rfl rfl) (fun _ _ _ _ h => h)) (pa_cons (pv 1) (pa_cons (pv 2) pa_nil))))) (pss_one (ps_raise rfl (takes_of rfl rfl rfl rfl) (by exact (pmk_own PySem.F.excBase_ValueError OT.x OT.g OT.k (raises_own OT.b OT.t) rfl)))) pss_nil)
      (pss_cons (ps_if (pt_not (pt_val (pe_call G2 (hr.mono (by decide)) (by rfl) d2.g d2.F.kp d2.b .nil pass0 (pa_cons (pv 3) pa_nil)))) (pss_one (ps_raiseNum (k := 2) rfl NT (hr.mono (by decide)) (takes_of rfl rfl rfl rfl) (pa_cons (pv 3) pa_nil))) pss_nil) dead)), ?_⟩
    rcases h with ⟨no, qe⟩ | ⟨ns, rfl, S, h⟩
    · exact ⟨_, rfl, _, rfl, x, y, d, e, rfl, dx, dy, (fun ns en S => by rw [en, shp_is S] at no; cases no), fun _ H1 s1 => qe H1 s1⟩
    · refine ⟨_, rfl, _, rfl, x, y, _, e, rfl, dx, dy, fun ns' en S' H1 s1 => ?_, fun z => absurd (shp_is S) (by rw [z]; decide)⟩
      obtain rfl : ns' = ns := (ints_inj (PyData.tuple.inj en)).symm
      rcases h with ⟨no, qe⟩ | ⟨yes, fD, sf, nf, qe⟩
      · rw [no]
        exact ⟨_, rfl, ite2 (fun _ => qe H1 s1) (fun z => absurd rfl z)⟩
      · rw [yes]
        refine ⟨_, rfl, ite2 (fun z => absurd z Bool.false_ne_true) (fun _ => ?_)⟩
        refine ⟨_, rfl, n, fD, rfl, sf.same s1, _, rfl, ite2 (fun _ => ?_) (fun z => absurd (by rw [nf]; rfl) z)⟩
        exact ⟨_, rfl, n, rfl, fun dd nd => qe H1 dd s1 nd⟩
end
end K09

/-! # what the methods refuse -/
namespace K09
open PySem PySem.Spec PyProof.Rows L2 TL NumText
/-- a stair of another shape, or no stair -/
def NoSt (K : PySem.W.Frag) (C : Addr) (ns : List Int) (H : Hp) (y : V) : Prop := (∃ b ks ms, y = .ref b ∧ StairO K H b C ks ms ∧ ks ≠ ns) ∨ ∃ t, TyX K H y t ∧ kit K t (.ref C) false
section
variable {P : Program} {w : World} {K : PySem.W.Frag} {mg : Str → Option Value} {base : Heap} {C CS CT CN fN TL : Addr}
def spIsStX (K : PySem.W.Frag) (C : Addr) : Sp := fun vs H Q _ => ∃ (sh : Addr) (y : V) (ns : List Int), vs = [.ref sh, y] ∧ SqT K H sh (ns.map V.int) ∧ NoSt K C ns H y ∧ Q (.bl false) H
theorem ok_isstX {f : Addr} {fd : FuncData} {k : Nat} (T : Txt mg) (R : SC K mg C) (IC : C8.InsC K C) (own : kit K (.ref C) (.ref C) true) (d : D K mg "is_stair" s_isst ["shape", "value"] f fd) : FnOk P w K mg base CX0 (k + 1) f fd ["shape", "value"] (spIsStX K C) := by
  refine d.F.ok sc_isst (fun vs H Q E h => ?_) (fun cdv A outer s H vs Q E hr h => ?_)
  · obtain ⟨sh, y, ns, rfl, _⟩ := h
    rfl
  · obtain ⟨sh, y, ns, rfl, es, no, q⟩ := h
    have un : (A.deeper (envOfC "is_stair" (defScope s_isst) s.heap.objs.size f cdv)).units + 64 < cLine := by have := hr.un; omega
    refine ⟨_, (pss_one (ps_ret (pe_and (pe_callB call_isi (by rfl) T.n_isinstance (by decide +kernel) (pa_cons (pv 1) (pa_cons (pe_glob (v := .ref C) rfl R.mC rfl) pa_nil))) (pe_one (pe_cmpR (op_eqD un) (pe_fld (pv 1) rfl) (pv 0) (nomark _)))))), ?_⟩
    rcases no with ⟨a, ks, ms, rfl, st, ne⟩ | ⟨t, ty, kt⟩
    · have ty := st.ty IC
      obtain ⟨dx, sh2, pln, nm, e1, e2, e3, e4⟩ := st
      refine ⟨_, rfl, _, _, _, _, _, rfl, .own C, ty, own, _, rfl, iteT ?_⟩
      refine ⟨_, rfl, a, C, dx, _, _, rfl, e1, R.cl, R.nS, stF_shape _ _ _, _, rfl, _, _, .tup e2 (dp_ints K H ks), .tup es (dp_ints K H ns), shaped_ints _, shaped_ints _, ?_⟩
      rw [eqv_tups, decide_eq_false ne]
      exact q
    · exact ⟨_, rfl, _, _, _, _, _, rfl, .own C, ty, kt, _, rfl, iteF q⟩
def spCkStX (K : PySem.W.Frag) (C CT : Addr) : Sp := fun vs H Q E => ∃ (sh : Addr) (y : V) (ns : List Int), vs = [.ref sh, y] ∧ SqT K H sh (ns.map V.int) ∧ NoSt K C ns H y ∧ E (.ref CT) none H
theorem ok_ckstX {f f1 : Addr} {fd fd1 : FuncData} {k : Nat} (OT : OpX K mg "InvalidStair" CT) (d : D K mg "check_stair" s_ckst ["shape", "value"] f fd) (d1 : D K mg "is_stair" s_isst ["shape", "value"] f1 fd1) (G1 : FnOk P w K mg base CX0 (k + 1) f1 fd1 ["shape", "value"] (spIsStX K C)) :
    FnOk P w K mg base (L2.CX P w) (k + 2) f fd ["shape", "value"] (spCkStX K C CT) := by
  refine d.F.okX sc_ckst (fun vs H Q E h => ?_) (fun cdv A outer s H vs Q E hr h => ?_)
  · obtain ⟨sh, y, ns, rfl, _⟩ := h
    rfl
  · obtain ⟨sh, y, ns, rfl, es, no, q⟩ := h
    refine ⟨_, pss_one (ps_if (pt_not (pt_val (pe_call G1 hr (by rfl) d1.g d1.F.kp d1.b .nil pass0 (pa_cons (pv 0) (pa_cons (pv 1) pa_nil))))) (pss_one (ps_raise rfl (takes_of rfl rfl rfl rfl) (by exact (pmk_own PySem.F.excBase_ValueError OT.x OT.g OT.k (raises_own OT.b OT.t) rfl)))) pss_nil), ?_⟩
    exact ⟨_, rfl, _, rfl, sh, y, ns, rfl, es, no, _, rfl, ite2 (fun _ => q) (fun z => absurd rfl z)⟩
/-- a method that asks its stair first -/
def spMethX (K : PySem.W.Frag) (C CT : Addr) : Sp := fun vs H Q E => ∃ (a : Addr) (y : V) (ns ms : List Int), vs = [.ref a, y] ∧ StairO K H a C ns ms ∧ NoSt K C ns H y ∧ E (.ref CT) none H
theorem ok_mulX {f f1 : Addr} {fd fd1 : FuncData} (T : Txt mg) (R : SC K mg C) (IC : C8.InsC K C) (own : kit K (.ref C) (.ref C) true) (d : M K "__mul__" "Stair.__mul__" s_mul ["self", "other"] f fd)
    (d1 : D K mg "check_stair" s_ckst ["shape", "value"] f1 fd1) (G1 : FnOk P w K mg base (L2.CX P w) 2 f1 fd1 ["shape", "value"] (spCkStX K C CT)) :
    FnOk P w K mg base (L2.CX P w) 10 f fd ["self", "other"] (fun vs H Q E => ∃ (a b : Addr) (ns ms ks ls : List Int), vs = [.ref a, .ref b] ∧ StairO K H a C ns ms ∧ StairO K H b C ks ls ∧ ks ≠ ns ∧ E (.ref CT) none H) := by
  refine d.F.okX sc_mul (fun vs H Q E h => ?_) (fun cdv A outer s H vs Q E hr h => ?_)
  · obtain ⟨a, b, ns, ms, ks, ls, rfl, _⟩ := h
    rfl
  · obtain ⟨a, b, ns, ms, ks, ls, rfl, sa, sb, ne, q⟩ := h
    refine ⟨_, (pss_cons (ps_if (pt_not (pt_val (pe_callB call_isi (by rfl) T.n_isinstance (by decide +kernel) (pa_cons (pv 1) (pa_cons (pe_glob (v := .ref C) rfl R.mC rfl) pa_nil))))) dead pss_nil)
      (pss_cons (ps_expr (pe_call (E := E) G1 (hr.mono (by decide)) (by rfl) d1.g d1.F.kp d1.b .nil (passes_call (takes_of rfl rfl rfl rfl) (fun _ _ _ _ h => h)) (pa_cons (pe_fld (pv 0) rfl) (pa_cons (pv 1) pa_nil)))) dead)), ?_⟩
    have ty := sb.ty IC
    obtain ⟨dx, sh, pln, nm, e1, e2, e3, e4⟩ := sa
    refine ⟨_, rfl, _, _, _, _, _, rfl, .own C, ty, own, _, rfl, ite2 (fun z => absurd z Bool.false_ne_true) (fun _ => ?_)⟩
    exact ⟨_, rfl, a, C, dx, _, _, rfl, e1, R.cl, R.nS, stF_shape _ _ _, _, rfl, sh, .ref b, ns, rfl, e2, .inl ⟨b, ks, ls, rfl, sb, ne⟩, q⟩
abbrev s_brack : Stmt := inClass (topS 42) 13
theorem sc_brack : FnScope ["self", "other"] ["self", "other"] (defScope s_brack) := ⟨rfl, rfl, rfl, by decide +kernel, rfl, by decide +kernel, by decide +kernel⟩
theorem ok_brackX {f f1 : Addr} {fd fd1 : FuncData} (R : SC K mg C) (d : M K "bracket" "Stair.bracket" s_brack ["self", "other"] f fd)
    (d1 : D K mg "check_stair" s_ckst ["shape", "value"] f1 fd1) (G1 : FnOk P w K mg base (L2.CX P w) 2 f1 fd1 ["shape", "value"] (spCkStX K C CT)) : FnOk P w K mg base (L2.CX P w) 10 f fd ["self", "other"] (spMethX K C CT) := by
  refine d.F.okX sc_brack (fun vs H Q E h => ?_) (fun cdv A outer s H vs Q E hr h => ?_)
  · obtain ⟨a, y, ns, ms, rfl, _⟩ := h
    rfl
  · obtain ⟨a, y, ns, ms, rfl, sa, no, q⟩ := h
    refine ⟨_, (pss_cons (ps_expr (pe_call (E := E) G1 (hr.mono (by decide)) (by rfl) d1.g d1.F.kp d1.b .nil (passes_call (takes_of rfl rfl rfl rfl) (fun _ _ _ _ h => h)) (pa_cons (pe_fld (pv 0) rfl) (pa_cons (pv 1) pa_nil)))) dead), ?_⟩
    obtain ⟨dx, sh, pln, nm, e1, e2, e3, e4⟩ := sa
    exact ⟨_, rfl, a, C, dx, _, _, rfl, e1, R.cl, R.nS, stF_shape _ _ _, _, rfl, sh, y, ns, rfl, e2, no, q⟩
abbrev s_mled : Stmt := inClass (topS 42) 14
theorem sc_mled : FnScope ["self", "other"] ["self", "other"] (defScope s_mled) := ⟨rfl, rfl, rfl, by decide +kernel, rfl, by decide +kernel, by decide +kernel⟩
theorem ok_ledX {f f1 : Addr} {fd fd1 : FuncData} (R : SC K mg C) (d : M K "led" "Stair.led" s_mled ["self", "other"] f fd)
    (d1 : D K mg "check_stair" s_ckst ["shape", "value"] f1 fd1) (G1 : FnOk P w K mg base (L2.CX P w) 2 f1 fd1 ["shape", "value"] (spCkStX K C CT)) : FnOk P w K mg base (L2.CX P w) 10 f fd ["self", "other"] (spMethX K C CT) := by
  refine d.F.okX sc_mled (fun vs H Q E h => ?_) (fun cdv A outer s H vs Q E hr h => ?_)
  · obtain ⟨a, y, ns, ms, rfl, _⟩ := h
    rfl
  · obtain ⟨a, y, ns, ms, rfl, sa, no, q⟩ := h
    refine ⟨_, (pss_cons (ps_expr (pe_call (E := E) G1 (hr.mono (by decide)) (by rfl) d1.g d1.F.kp d1.b .nil (passes_call (takes_of rfl rfl rfl rfl) (fun _ _ _ _ h => h)) (pa_cons (pe_fld (pv 0) rfl) (pa_cons (pv 1) pa_nil)))) dead), ?_⟩
    obtain ⟨dx, sh, pln, nm, e1, e2, e3, e4⟩ := sa
    exact ⟨_, rfl, a, C, dx, _, _, rfl, e1, R.cl, R.nS, stF_shape _ _ _, _, rfl, sh, y, ns, rfl, e2, no, q⟩
abbrev s_power : Stmt := inClass (topS 42) 12
theorem sc_power : FnScope ["self", "number"] ["self", "number"] (defScope s_power) := ⟨rfl, rfl, rfl, by decide +kernel, rfl, by decide +kernel, by decide +kernel⟩
def spPowerX (K : PySem.W.Frag) (CN : Addr) : Sp := fun vs H Q E => ∃ (a y : V) (d : PyData), vs = [a, y] ∧ Shl K H y d ∧ isEn d = false ∧ ∀ dd, H dd = none → E (.ref CN) (some dd) (upd H dd (.xd [(("given" : Str), y)]))
theorem ok_powerX {f f1 : Addr} {fd fd1 : FuncData} (NT : PySem.NumX.NumTxt K mg CN fN) (d : M K "power" "Stair.power" s_power ["self", "number"] f fd) (d1 : D K mg "is_integer" s_is_integer ["value"] f1 fd1) (G1 : FnOk P w K mg base CX0 2 f1 fd1 ["value"] (spIntS K)) :
    FnOk P w K mg base (L2.CX P w) 10 f fd ["self", "number"] (spPowerX K CN) := by
  refine d.F.okX sc_power (fun vs H Q E h => ?_) (fun cdv A outer s H vs Q E hr h => ?_)
  · obtain ⟨a, y, d, rfl, _⟩ := h
    rfl
  · obtain ⟨a, y, d, rfl, sy, no, q⟩ := h
    refine ⟨_, (pss_cons (ps_if (pt_not (pt_val (pe_call G1 (hr.mono (by decide)) (by rfl) d1.g d1.F.kp d1.b .nil pass0 (pa_cons (pv 1) pa_nil)))) (pss_one (ps_raiseNum (k := 2) rfl NT (hr.mono (by decide)) (takes_of rfl rfl rfl rfl) (pa_cons (pv 1) pa_nil))) pss_nil) dead), ?_⟩
    exact ⟨_, rfl, y, d, rfl, sy, _, rfl, ite2 (fun _ => ⟨_, rfl, y, rfl, q⟩) (fun z => absurd (by rw [no]; rfl) z)⟩
def spBlockX (K : PySem.W.Frag) (C CN : Addr) : Sp := fun vs H Q E => ∃ (a : Addr) (y : V) (d : PyData) (ns ms : List Int), vs = [.ref a, y] ∧ StairO K H a C ns ms ∧ Dw K H y d ∧ btw d 0 ((ns.length : Int) - 1) = false ∧ ∀ dd, H dd = none → E (.ref CN) (some dd) (upd H dd (.xd [(("given" : Str), y)]))
theorem ok_blockX {f f1 : Addr} {fd fd1 : FuncData} (T : Txt mg) (R : SC K mg C) (NT : PySem.NumX.NumTxt K mg CN fN) (d : M K "block" "Stair.block" s_block ["self", "index"] f fd) (d1 : D K mg "is_index" s_is_index ["value", "many"] f1 fd1) (G1 : FnOk P w K mg base CX0 3 f1 fd1 ["value", "many"] (spIdx K)) :
    FnOk P w K mg base (L2.CX P w) 10 f fd ["self", "index"] (spBlockX K C CN) := by
  refine d.F.okX sc_block (fun vs H Q E h => ?_) (fun cdv A outer s H vs Q E hr h => ?_)
  · obtain ⟨a, y, d, ns, ms, rfl, _⟩ := h
    rfl
  · obtain ⟨a, y, d, ns, ms, rfl, sa, dy, no, q⟩ := h
    refine ⟨_, (pss_cons (ps_if (pt_not (pt_val (pe_call G1 (hr.mono (by decide)) (by rfl) d1.g d1.F.kp d1.b .nil pass0 (pa_cons (pv 1) (pa_cons (pe_callB call_len_seq (by rfl) T.n_len PySem.boot_len (pa_cons (pe_fld (pv 0) rfl) pa_nil)) pa_nil))))) (pss_one (ps_raiseNum (k := 2) rfl NT (hr.mono (by decide)) (takes_of rfl rfl rfl rfl) (pa_cons (pv 1) pa_nil))) pss_nil) dead), ?_⟩
    obtain ⟨dx, sh, pln, nm, e1, e2, e3, e4⟩ := sa
    refine ⟨_, rfl, _, rfl, a, C, dx, _, _, rfl, e1, R.cl, R.nS, stF_shape _ _ _, sh, _, rfl, .inr e2, y, d, _, rfl, dy, _, rfl, ite2 (fun _ => ⟨_, rfl, y, rfl, q⟩) (fun z => absurd ?_ z)⟩
    rw [List.length_map, no]
    rfl
def spBesideX (K : PySem.W.Frag) (C CT : Addr) : Sp := fun vs H Q E => ∃ (a y : V) (t : Value), vs = [a, y] ∧ TyX K H y t ∧ kit K t (.ref C) false ∧ E (.ref CT) none H
theorem ok_besideX {f : Addr} {fd : FuncData} (T : Txt mg) (R : SC K mg C) (OT : OpX K mg "InvalidStair" CT) (d : M K "beside" "Stair.beside" s_beside ["self", "other"] f fd) : FnOk P w K mg base (L2.CX P w) 10 f fd ["self", "other"] (spBesideX K C CT) := by
  refine d.F.okX sc_beside (fun vs H Q E h => ?_) (fun cdv A outer s H vs Q E hr h => ?_)
  · obtain ⟨a, y, t, rfl, _⟩ := h
    rfl
  · obtain ⟨a, y, t, rfl, ty, kt, q⟩ := h
    refine ⟨_, (pss_cons (ps_if (pt_not (pt_val (pe_callB call_isi (by rfl) T.n_isinstance (by decide +kernel) (pa_cons (pv 1) (pa_cons (pe_glob (v := .ref C) rfl R.mC rfl) pa_nil))))) (pss_one (ps_raise rfl (takes_of rfl rfl rfl rfl) (by exact (pmk_own PySem.F.excBase_ValueError OT.x OT.g OT.k (raises_own OT.b OT.t) rfl)))) pss_nil) dead), ?_⟩
    exact ⟨_, rfl, _, _, _, _, _, rfl, .own C, ty, kt, _, rfl, ite2 (fun _ => q) (fun z => absurd rfl z)⟩
end
/-! ### an own operator that may raise -/
section
variable {X : Cx} {C g : Addr} {n : Nat} {fd : FuncData} {ps : List Str} {sp : Sp} {CX : CXT} {E : XK}
/-- x op y, both of the class -/
def rMineE (C : Addr) (sp : Sp) (E : XK) : R2 := fun x y H Q => ∃ a b, x = .ref a ∧ y = .ref b ∧ Ins H a C ∧ Ins H b C ∧ sp [x, y] H Q E
theorem op_mineE {op : Operator} (hc : PySem.W.selfFirst X.K C = true) (hs : PySem.W.findIn X.K (.ref C) (PySem.dunder op.info.2) = some (some (.ref g))) (hf : PySem.W.isFn X.K (.ref g) = true) (F : FnOk X.prog X.w X.K X.mg X.base CX n g fd ps sp)
    (hr : Room n X.A) (hb : Binds X.K fd ps []) (hx : Passes CX X E) : OpR X (binaryOp op) (rMineE C sp E) := by
  intro pins s σ H x y v u Q I rx ry h
  obtain ⟨a, b, rfl, rfl, ha, hb', q⟩ := h
  cases (show v = Value.ref a from rx)
  cases (show u = Value.ref b from ry)
  obtain ⟨ox, od, J⟩ := ins_look I ha
  obtain ⟨oy, od', J'⟩ := ins_look I hb'
  obtain ⟨m, hF⟩ := I.fr
  have q' : sp ([V.ref a, V.ref b] ++ []) H Q E := q
  refine PySem.W.binop_K hF I.ok.mod.kin J J'.type hc hs hf (wpAny_mono (run_fn (us := [.ref a, .ref b]) (vs := [.ref a, .ref b]) F hr hb .nil hx I (.cons rfl (.cons rfl .nil)) q') (fun w s' z => ?_) fun _ _ x => x)
  obtain ⟨z', H', I', rz, qz⟩ := z
  exact SlX.cmpback rz ⟨z', H', I', rz, qz⟩
/-- C.m(), m a class method -/
def tCMeth0 (C : Addr) (sp : Sp) (E : XK) (ta : TE) : TE := fun σ H Q => ta σ H fun x H1 => x = .ref C ∧ sp [.ref C] H1 Q E
theorem pe_cmeth0 {o : Expr} {ta : TE} {mc : Value} {m : Str} {p : Addr} {k : Nat} {pos apos : Pos} {pl : Sem Bool} (he : PE X o ta) (r : ClX.CRead X.K C mc) (c : ClX.CMet X.K C mc m p g) (F : FnR X.prog X.w X.K X.mg X.base CX k g sp) (hr : Room k X.A) (hx : Passes CX X E)
    (ht : eval (.Call (.Attribute o m apos) [] [] pos) X.env = (do
      let ov ← eval o X.env
      standAt apos.atName
      let (f, first) ← holding [ov] (getMethod ov m pl)
      callWith pos f first (backTo pos (starEach [] X.env)) (backToKw pos (keywordEach [] X.env))) := by rfl) :
    PE X (.Call (.Attribute o m apos) [] [] pos) (tCMeth0 C sp E ta) := by
  refine ⟨fun pins s σ H Q I h => ?_⟩
  refine PySem.W.methodCall_KW (pl := pl) (thn (he.run pins s σ H _ I h) fun u s1 ⟨x, H1, I1, rx, ex, q⟩ => ?_) ht
  subst ex
  obtain rfl : u = Value.ref C := rx
  refine ClX.getmethcm_ok I1 r c fun s2 I2 => ?_
  exact PySem.W.callWith_M0 (first := []) ⟨ClX.pin_at I2, I2.kIn⟩ c.fi (wpAny_mono (ClX.run_cm (us := []) (vs := []) F hr hx I2 .nil q) (fun u s' z => z) fun _ _ z => z)
end
end K09

/-! # ones, lone, check_backwards -/
namespace K09
open PySem PySem.Spec PyProof.Rows L2 TL NumText RZ
theorem us_tup {K : PySem.W.Frag} {H : Hp} {y : V} {us : List (List (Int × Int))} (h : Tv K H y (usD us)) : ∃ o ws, y = .ref o ∧ SqT K H o ws ∧ ws.length = us.length := by
  unfold usD at h
  cases h with
  | tup e l => exact ⟨_, _, rfl, e, by rw [l.len, List.length_map]⟩
section
variable {P : Program} {w : World} {K : PySem.W.Frag} {mg : Str → Option Value} {base : Heap} {C CS TL : Addr}
abbrev s_ones : Stmt := topS 29
theorem sc_ones : FnScope ["plan", "_"] ["plan"] (defScope s_ones) := ⟨rfl, rfl, rfl, by decide +kernel, rfl, by decide +kernel, by decide +kernel⟩
def spOnes (K : PySem.W.Frag) : Sp := fun vs H Q _ => ∃ (y : V) (us : List (List (Int × Int))), vs = [y] ∧ Tv K H y (usD us) ∧ us.length ≤ 100 ∧ ∀ H' p, Same H H' → H p = none → H' p = some (.tup ((List.replicate us.length (0 : Int)).map V.int)) → Q (.ref p) H'
theorem ok_ones {f : Addr} {fd : FuncData} {k : Nat} (T : Txt mg) (d : D K mg "ones" s_ones ["plan"] f fd) : FnOk P w K mg base CX0 (k + 1) f fd ["plan"] (spOnes K) := by
  refine d.F.ok sc_ones (fun vs H Q E h => ?_) (fun cdv A outer s H vs Q E hr h => ?_)
  · obtain ⟨y, us, rfl, _⟩ := h
    rfl
  · obtain ⟨y, us, rfl, ty, l100, q⟩ := h
    refine ⟨_, (pss_one (ps_ret (pe_tupleOf (by rfl) T.n_tuple (pe_lc (own := [("_", 1)]) (g := gName 1) (tt := tYes) rfl sc_ones.nd (pi_tup (pv 0)) (blkOk_by (own := [("_", 1)]) (N := ["plan", "_"]) (sc := defScope s_ones) (by decide +kernel))
            (fun _ _ _ _ _ => (pg_name (i := 1) sc_ones.nd rfl (Or.inl rfl))) (fun _ _ _ _ _ => pts_nil) (fun _ _ _ _ _ => pe_int))))), ?_⟩
    obtain ⟨o, ws, rfl, eo, lw⟩ := us_tup ty
    refine ⟨_, rfl, o, rfl, ⟨_, eo⟩, fun L nL => ?_⟩
    refine lc_tup (K := K) (a := o) (xs := ws) (fun i Z => Same H Z ∧ Z L = some (.lst ((List.replicate i (0 : Int)).map V.int))) ⟨sub_same nL, upd_same⟩ (fun i Z _ h => sqt_same eo h.1) ?_ ?_
    · rintro i x Z hx ⟨sz, hl⟩
      have il := (List.getElem?_eq_some_iff.mp hx).1
      refine ⟨rfl, yesT ⟨_, hl, ?_, fun b ob e => ?_, ?_⟩⟩
      · rw [List.length_map, List.length_replicate, sizeLine_eq]
        omega
      · rw [upd_ne (fun z => by rw [z, nL] at e; cases e)]
        exact sz _ _ e
      · rw [upd_same, List.replicate_succ', List.map_append]
        rfl
    · rintro Z ⟨sz, hl⟩
      rw [lw] at hl
      exact .inl ⟨L, _, rfl, .inl (.inl hl), fun p np => q _ p (sz.trans (sub_same np)) (sz.free np) upd_same⟩
abbrev s_lone : Stmt := topS 30
theorem sc_lone : FnScope ["plan", "at", "number", "index"] ["plan", "at", "number"] (defScope s_lone) := ⟨rfl, rfl, rfl, by decide +kernel, rfl, by decide +kernel, by decide +kernel⟩
def spLoneN (K : PySem.W.Frag) : Sp := fun vs H Q _ => ∃ (y : V) (us : List (List (Int × Int))) (a n : Int), vs = [y, .int a, .int n] ∧ Tv K H y (usD us) ∧ us.length ≤ 100 ∧ ∀ H' p, Same H H' → H p = none → H' p = some (.tup (((List.range us.length).map fun (i : Nat) => if (i : Int) = a then n else 0).map V.int)) → Q (.ref p) H'
theorem ok_loneN {f : Addr} {fd : FuncData} {k : Nat} (T : Txt mg) (d : D K mg "lone" s_lone ["plan", "at", "number"] f fd) : FnOk P w K mg base CX0 (k + 1) f fd ["plan", "at", "number"] (spLoneN K) := by
  refine d.F.ok sc_lone (fun vs H Q E h => ?_) (fun cdv A outer s H vs Q E hr h => ?_)
  · obtain ⟨y, us, a, n, rfl, _⟩ := h
    rfl
  · obtain ⟨y, us, a, n, rfl, ty, l100, q⟩ := h
    refine ⟨_, (pss_one (ps_ret (pe_tupleOf (by rfl) T.n_tuple (pe_lc (own := [("index", 3)]) (g := gName 3) (tt := tYes) rfl sc_lone.nd (pi_range1 (by rfl) T.n_range (pa_cons (pe_callB call_len_seq (by rfl) T.n_len PySem.boot_len (pa_cons (pv 0) pa_nil)) pa_nil)) (blkOk_by (own := [("index", 3)]) (N := ["plan", "at", "number", "index"]) (sc := defScope s_lone) (by decide +kernel))
            (fun _ _ _ _ _ => (pg_name (i := 3) sc_lone.nd rfl (Or.inl rfl))) (fun _ _ _ _ _ => pts_nil) (fun _ _ _ _ _ => (pe_ifExp (pt_cmpR op_eq (pv 3) (pv 1) (nomark _)) (pv 2) pe_int)))))), ?_⟩
    obtain ⟨o, ws, rfl, eo, lw⟩ := us_tup ty
    refine ⟨_, rfl, o, _, rfl, .inr eo, ?_⟩
    rw [lw]
    refine ⟨(us.length : Int), rfl, by omega, by omega, fun L nL => ?_⟩
    rw [Int.toNat_natCast]
    refine lc_range (lo := 0) (n := us.length) (fun i Z => Same H Z ∧ Z L = some (.lst (((List.range i).map fun (i : Nat) => if (i : Int) = a then n else 0).map V.int))) ⟨sub_same nL, upd_same⟩ ?_ ?_
    · rintro i Z hi ⟨sz, hl⟩
      rw [Int.zero_add]
      refine ⟨rfl, yesT ⟨_, rfl, _, rfl, rfl, _, rfl, ?_⟩⟩
      have add : ∀ v : Int, v = (if (i : Int) = a then n else 0) → ∃ acc, Z L = some (.lst acc) ∧ acc.length < sizeLine ∧ Same H (upd Z L (.lst (acc ++ [V.int v]))) ∧ upd Z L (.lst (acc ++ [V.int v])) L = some (.lst (((List.range (i + 1)).map fun (i : Nat) => if (i : Int) = a then n else 0).map V.int)) := fun v e => by
        refine ⟨_, hl, ?_, fun b ob e => ?_, ?_⟩
        · rw [List.length_map, List.length_map, List.length_range, sizeLine_eq]
          omega
        · rw [upd_ne (fun z => by rw [z, nL] at e; cases e)]
          exact sz _ _ e
        · rw [upd_same, List.range_succ, List.map_append, List.map_append, e]
          rfl
      by_cases e : (i : Int) = a
      · exact ite2 (fun _ => ⟨_, rfl, add n (by rw [if_pos e])⟩) (fun z => absurd (by rw [e]; exact decide_eq_true rfl) z)
      · exact ite2 (fun z => absurd (V.int.inj (of_decide_eq_true z)) e) (fun _ => add 0 (by rw [if_neg e]))
    · rintro Z ⟨sz, hl⟩
      exact .inl ⟨L, _, rfl, .inl (.inl hl), fun p np => q _ p (sz.trans (sub_same np)) (sz.free np) upd_same⟩
abbrev s_ckb : Stmt := topS 58
theorem sc_ckb : FnScope ["backwards"] ["backwards"] (defScope s_ckb) := ⟨rfl, rfl, rfl, by decide +kernel, rfl, by decide +kernel, by decide +kernel⟩
def spCkB : Sp := fun vs H Q _ => ∃ b : Bool, vs = [.bl b] ∧ Q .non H
theorem ok_ckb {f : Addr} {fd : FuncData} {k : Nat} (T : Txt mg) (d : D K mg "check_backwards" s_ckb ["backwards"] f fd) : FnOk P w K mg base CX0 (k + 1) f fd ["backwards"] spCkB := by
  refine d.F.ok sc_ckb (fun vs H Q E h => ?_) (fun cdv A outer s H vs Q E hr h => ?_)
  · obtain ⟨b, rfl, _⟩ := h
    rfl
  · obtain ⟨b, rfl, q⟩ := h
    refine ⟨_, (pss_one (ps_if (pt_not (pt_val (pe_callB call_isi (by rfl) T.n_isinstance (by decide +kernel) (pa_cons (pv 0) (pa_cons (pe_bltn (v := .ty "bool") (by rfl) T.n_bool (by decide +kernel) rfl) pa_nil))))) dead pss_nil)), ?_⟩
    exact ⟨_, rfl, _, _, _, _, _, rfl, .ty _, .base (.bl b), (show kit K (.type "bool") (.type "bool") true by rfl), _, rfl, ite2 (fun z => absurd z Bool.false_ne_true) (fun _ => q)⟩
end
section
variable {P : Program} {w : World} {K : PySem.W.Frag} {mg : Str → Option Value} {base : Heap} {C CS TL : Addr}
abbrev s_join : Stmt := topS 59
theorem sc_join : FnScope ["plan", "one", "other", "backwards"] ["plan", "one", "other", "backwards"] (defScope s_join) := ⟨rfl, rfl, rfl, by decide +kernel, rfl, by decide +kernel, by decide +kernel⟩
def spJoin (K : PySem.W.Frag) : Sp := fun vs H Q _ => ∃ (pln : V) (a b : Addr) (xs ys : List Int) (us : List (List (Int × Int))) (bk : Bool), vs = [pln, .ref a, .ref b, .bl bk] ∧ Tv K H pln (usD us) ∧ H a = some (.tup (xs.map V.int)) ∧ H b = some (.tup (ys.map V.int)) ∧
  xs.length = us.length ∧ ys.length = xs.length ∧ xs.length ≤ 100 ∧ InR xs.length us ∧ (∀ x ∈ xs, x.natAbs < 2 ^ 400) ∧ (∀ y ∈ ys, y.natAbs < 2 ^ 400) ∧
  ∀ H' p, Same H H' → H p = none → H' p = some (.tup ((if bk then prodL ys xs us else prodL xs ys us).map V.int)) → Q (.ref p) H'
theorem ok_join {f fT : Addr} {fd fdT : FuncData} {ds : List Value} (d : D K mg "joined" s_join ["plan", "one", "other", "backwards"] f fd)
    (gT : mg "times" = some (.ref fT)) (kT : PySem.W.keepIn K (.ref fT) = true) (bT : Binds K fdT ["plan", "one", "other", "modulus"] ds) (vT : Vals [.int 0] ds) (G3 : FnOk P w K mg base CX0 2 fT fdT ["plan", "one", "other", "modulus"] (spTimes K)) :
    FnOk P w K mg base CX0 3 f fd ["plan", "one", "other", "backwards"] (spJoin K) := by
  refine d.F.ok sc_join (fun vs H Q E h => ?_) (fun cdv A outer s H vs Q E hr h => ?_)
  · obtain ⟨pln, a, b, xs, ys, us, bk, rfl, _⟩ := h
    rfl
  · obtain ⟨pln, a, b, xs, ys, us, bk, rfl, tp, ea, eb, lu, ly, l100, inr, bx, by_, q⟩ := h
    refine ⟨_, (pss_one (ps_ret (pe_ifExp (pt_val (pv 3)) (pe_call G3 hr (by rfl) gT kT bT vT pass0 (pa_cons (pv 0) (pa_cons (pv 2) (pa_cons (pv 1) pa_nil)))) (pe_call G3 hr (by rfl) gT kT bT vT pass0 (pa_cons (pv 0) (pa_cons (pv 1) (pa_cons (pv 2) pa_nil))))))), ?_⟩
    cases bk with
    | true =>
      refine ⟨_, rfl, _, rfl, ite2 (fun _ => ?_) (fun z => absurd rfl z)⟩
      exact ⟨_, rfl, _, rfl, _, rfl, pln, b, a, ys, xs, us, rfl, tp, eb, ea, ly.trans lu, ly.symm, by omega, by rw [ly]; exact inr, by_, bx, fun H' p s n e => q H' p s n e⟩
    | false =>
      refine ⟨_, rfl, _, rfl, ite2 (fun z => absurd z Bool.false_ne_true) (fun _ => ?_)⟩
      exact ⟨_, rfl, _, rfl, _, rfl, pln, a, b, xs, ys, us, rfl, tp, ea, eb, lu, ly, l100, inr, bx, by_, fun H' p s n e => q H' p s n e⟩
end
end K09

/-! # what singles and from_singles refuse -/
namespace K09
open PySem PySem.Spec PyProof.Rows L2 TL NumText RZ
/-- whether these are integers, one for each place -/
def nbOk (ns : List Int) : PyData → Bool
  | .tuple ds => decide (ds.length = (pl ns).length) && ds.all isEn
  | _ => false
/-- a tuple of such data, or what is no tuple -/
def Nk (K : PySem.W.Frag) (H : Hp) (n : V) (d : PyData) : Prop := Tv K H n d ∨ (isT d = false ∧ ∃ t, TyX K H n t ∧ kit K t (.type "tuple") false)
theorem Nk.same {K : PySem.W.Frag} {H H' : Hp} {n : V} {d : PyData} (h : Nk K H n d) (s : Same H H') : Nk K H' n d := by
  rcases h with h | ⟨e, t, ty, k⟩
  · exact .inl (h.same s)
  · exact .inr ⟨e, t, tyx_same ty s, k⟩
/-- the numbers behind i singles of the shape (3,), the last one first -/
def fk : Nat → List Int
  | 0 => List.replicate (usL [3]).length 0
  | i + 1 => prodL ((List.range (usL [3]).length).map fun (j : Nat) => if (j : Int) = (i : Int) then (((i + 1 : Nat) : Int)) else 0) (fk i) (usL [3])
theorem fk_ok : (∀ i ∈ List.range 4, (fk i).length = 3 ∧ ∀ x ∈ fk i, x.natAbs < 2 ^ 400) ∧ (∀ i ∈ List.range 3, ∀ x ∈ (List.range (usL [3]).length).map fun (j : Nat) => if (j : Int) = (i : Int) then (((i + 1 : Nat) : Int)) else 0, x.natAbs < 2 ^ 400) ∧ (usL [3]).length = 3 ∧ (pl [3]).length = 3 ∧ isSh (.tuple ([3].map .int)) = true := by decide +kernel
section
variable {P : Program} {w : World} {K : PySem.W.Frag} {mg : Str → Option Value} {base : Heap} {C CS CT CO TL : Addr}
/-- the rule of a def with a default that may raise -/
def BodyX (P : Program) (w : World) (K : PySem.W.Frag) (mg : Str → Option Value) (base : Heap) (N ps : List Str) (x : Str) (st : Stmt) (f : Addr) (fd : FuncData) : Prop := ∀ (sp : Sp) (j : Nat), (∀ vs H Q E, sp vs H Q E → vs.length = ps.length) →
  (∀ (cdv : Value) (A : Around) (outer : List Env) (s : Shared) (H : Hp) (vs : List V) (Q : VK) (E : XK), Room j (A.deeper (envOfC x (defScope st) s.heap.objs.size f cdv)) → sp vs H Q E →
    ∃ t, PSs (cxOf (L2.CX P w) P w K mg base N x (defScope st) f cdv A outer s H E) (defBody st) t ∧ t { nx := fun _ H' => Q .non H', rt := Q } (L2.start N vs) H) →
  FnOk P w K mg base (L2.CX P w) (j + 1) f fd ps sp
def spCkBX (K : PySem.W.Frag) (CO : Addr) : Sp := fun vs H Q E => ∃ (z : V) (t : Value), vs = [z] ∧ TyX K H z t ∧ kit K t (.type "bool") false ∧ E (.ref CO) none H
theorem ok_ckbX {f : Addr} {fd : FuncData} {k : Nat} (T : Txt mg) (OO : OpX K mg "InvalidOperation" CO) (d : D K mg "check_backwards" s_ckb ["backwards"] f fd) : FnOk P w K mg base (L2.CX P w) (k + 1) f fd ["backwards"] (spCkBX K CO) := by
  refine d.F.okX sc_ckb (fun vs H Q E h => ?_) (fun cdv A outer s H vs Q E hr h => ?_)
  · obtain ⟨z, t, rfl, _⟩ := h
    rfl
  · obtain ⟨z, t, rfl, ty, kt, q⟩ := h
    refine ⟨_, (pss_one (ps_if (pt_not (pt_val (pe_callB call_isi (by rfl) T.n_isinstance (by decide +kernel) (pa_cons (pv 0) (pa_cons (pe_bltn (v := .ty "bool") (by rfl) T.n_bool (by decide +kernel) rfl) pa_nil))))) (pss_one (ps_raise rfl (takes_of rfl rfl rfl rfl) (by exact (pmk_own PySem.F.excBase_ValueError OO.x OO.g OO.k (raises_own OO.b OO.t) rfl)))) pss_nil)), ?_⟩
    exact ⟨_, rfl, _, _, _, _, _, rfl, .ty _, ty, kt, _, rfl, ite2 (fun _ => q) (fun z => absurd rfl z)⟩
abbrev s_sings : Stmt := topS 56
theorem sc_sings : FnScope ["stair", "backwards", "plan", "left", "found", "at"] ["stair", "backwards"] (defScope s_sings) := ⟨rfl, rfl, rfl, by decide +kernel, rfl, by decide +kernel, by decide +kernel⟩
def spSingsX (K : PySem.W.Frag) (C CT CO : Addr) : Sp := fun vs H Q E => ∃ (y z : V), vs = [y, z] ∧ ((∃ t, TyX K H y t ∧ kit K t (.ref C) false ∧ E (.ref CT) none H) ∨ (TyX K H y (.ref C) ∧ ∃ t, TyX K H z t ∧ kit K t (.type "bool") false ∧ E (.ref CO) none H))
theorem ok_singsX {f f1 : Addr} {fd fd1 : FuncData} (T : Txt mg) (R : SC K mg C) (own : kit K (.ref C) (.ref C) true) (OT : OpX K mg "InvalidStair" CT)
    (body : BodyX P w K mg base ["stair", "backwards", "plan", "left", "found", "at"] ["stair", "backwards"] "singles" s_sings f fd)
    (d1 : D K mg "check_backwards" s_ckb ["backwards"] f1 fd1) (G1 : FnOk P w K mg base (L2.CX P w) 1 f1 fd1 ["backwards"] (spCkBX K CO)) : FnOk P w K mg base (L2.CX P w) 7 f fd ["stair", "backwards"] (spSingsX K C CT CO) := by
  refine body (spSingsX K C CT CO) 6 (fun vs H Q E h => ?_) (fun cdv A outer s H vs Q E hr h => ?_)
  · obtain ⟨y, z, rfl, _⟩ := h
    rfl
  · obtain ⟨y, z, rfl, h⟩ := h
    refine ⟨_, (pss_cons (ps_if (pt_not (pt_val (pe_callB call_isi (by rfl) T.n_isinstance (by decide +kernel) (pa_cons (pv 0) (pa_cons (pe_glob (v := .ref C) rfl R.mC rfl) pa_nil))))) (pss_one (ps_raise rfl (takes_of rfl rfl rfl rfl) (by exact (pmk_own PySem.F.excBase_ValueError OT.x OT.g OT.k (raises_own OT.b OT.t) rfl)))) pss_nil)
      (pss_cons (ps_expr (pe_call (E := E) G1 (hr.mono (by decide)) (by rfl) d1.g d1.F.kp d1.b .nil (passes_call (takes_of rfl rfl rfl rfl) (fun _ _ _ _ h => h)) (pa_cons (pv 1) pa_nil))) dead)), ?_⟩
    rcases h with ⟨t, ty, kt, q⟩ | ⟨ty, t, tz, kt, q⟩
    · exact ⟨_, rfl, _, _, _, _, _, rfl, .own C, ty, kt, _, rfl, ite2 (fun _ => q) (fun z => absurd rfl z)⟩
    · exact ⟨_, rfl, _, _, _, _, _, rfl, .own C, ty, own, _, rfl, ite2 (fun z => absurd z Bool.false_ne_true) (fun _ => ⟨_, rfl, z, t, rfl, tz, kt, q⟩)⟩
abbrev s_fsing : Stmt := topS 57
theorem sc_fsing : FnScope ["shape", "numbers", "backwards", "plan", "found", "at", "number"] ["shape", "numbers", "backwards"] (defScope s_fsing) := ⟨rfl, rfl, rfl, by decide +kernel, rfl, by decide +kernel, by decide +kernel⟩
def spFSingX (K : PySem.W.Frag) (CS CO : Addr) : Sp := fun vs H Q E => ∃ (x n z : V) (d e : PyData), vs = [x, n, z] ∧ Dw K H x d ∧
  ((isSh d = false ∧ ∀ H', Same H H' → E (.ref CS) none H') ∨ ∃ ns, d = .tuple (ns.map .int) ∧ Shp ns ∧ Nk K H n e ∧ (∀ ds, e = .tuple ds → ds.length ≤ 100) ∧ (nbOk ns e = true → ∃ t, TyX K H z t ∧ kit K t (.type "bool") false) ∧ ∀ H', Same H H' → E (.ref CO) none H')
theorem ok_fsingX {f f0 f1 f2 f7 : Addr} {fd fd0 fd1 fd2 fd7 : FuncData} (T : Txt mg) (N : Nam mg) (OO : OpX K mg "InvalidOperation" CO)
    (body : BodyX P w K mg base ["shape", "numbers", "backwards", "plan", "found", "at", "number"] ["shape", "numbers", "backwards"] "from_singles" s_fsing f fd)
    (d0 : D K mg "check_shape" s_check ["shape"] f0 fd0) (G0 : FnOk P w K mg base (L2.CX P w) 4 f0 fd0 ["shape"] (spCheck K CS))
    (d1 : D K mg "check_backwards" s_ckb ["backwards"] f1 fd1) (G1 : FnOk P w K mg base (L2.CX P w) 1 f1 fd1 ["backwards"] (spCkBX K CO)) (d2 : D K mg "plan_of" s_plan ["shape"] f2 fd2) (G2 : FnOk P w K mg base (L2.CX P w) 6 f2 fd2 ["shape"] (spPlan K))
    (d7 : D K mg "is_integer" s_is_integer ["value"] f7 fd7) (G7 : FnOk P w K mg base CX0 2 f7 fd7 ["value"] (spIntS K)) :
    FnOk P w K mg base (L2.CX P w) 10 f fd ["shape", "numbers", "backwards"] (spFSingX K CS CO) := by
  refine body (spFSingX K CS CO) 9 (fun vs H Q E h => ?_) (fun cdv A outer s H vs Q E hr h => ?_)
  · obtain ⟨x, n, z, d, e, rfl, _⟩ := h
    rfl
  · obtain ⟨x, n, z, d, e, rfl, dx, h⟩ := h
    refine ⟨_, (pss_cons (ps_expr (pe_call (E := E) G0 (hr.mono (by decide)) (by rfl) d0.g d0.F.kp d0.b .nil (passes_call (takes_of rfl rfl rfl rfl) (fun _ _ _ _ h => h)) (pa_cons (pv 0) pa_nil)))
      (pss_cons (ps_set (i := 3) sc_fsing.nd rfl (.inl rfl) (pe_call (E := fun _ _ _ => False) G2 (hr.mono (by decide)) (by rfl) d2.g d2.F.kp d2.b .nil passF (pa_cons (pv 0) pa_nil)))
      (pss_cons (ps_if (PW.pt (pw_or (pt_not (pt_val (pe_callB call_isi (by rfl) T.n_isinstance (by decide +kernel) (pa_cons (pv 1) (pa_cons (pe_bltn (v := .ty "tuple") (by rfl) T.n_tuple (by decide +kernel) rfl) pa_nil))))) (pw_or1 (pt_cmpR op_ne (pe_callB call_len_seq (by rfl) T.n_len PySem.boot_len (pa_cons (pv 1) pa_nil)) (pe_callB call_len_seq (by rfl) T.n_len PySem.boot_len (pa_cons (pv 3) pa_nil)) (nomark _))))) (pss_one (ps_raise rfl (takes_of rfl rfl rfl rfl) (by exact (pmk_own PySem.F.excBase_ValueError OO.x OO.g OO.k (raises_own OO.b OO.t) rfl)))) pss_nil)
      (pss_cons (ps_if (pt_not (pt_val (pe_callB (cr_all rfl) (by rfl) N.n_all (by decide +kernel) (pa_cons (pe_lc (own := [("number", 6)]) (g := gName 6) (tt := tYes) rfl sc_fsing.nd (pi_tup (pv 1)) (blkOk_by (own := [("number", 6)]) (N := ["shape", "numbers", "backwards", "plan", "found", "at", "number"]) (sc := defScope s_fsing) (by decide +kernel))
            (fun _ _ _ _ _ => (pg_name (i := 6) sc_fsing.nd rfl (Or.inl rfl))) (fun _ _ _ _ _ => pts_nil) (fun _ _ _ _ _ => (pe_call G7 (hr.mono (by decide)) (by rfl) d7.g d7.F.kp d7.b .nil pass0 (pa_cons (pv 6) pa_nil)))) pa_nil)))) (pss_one (ps_raise rfl (takes_of rfl rfl rfl rfl) (by exact (pmk_own PySem.F.excBase_ValueError OO.x OO.g OO.k (raises_own OO.b OO.t) rfl)))) pss_nil)
      (pss_cons (ps_expr (pe_call (E := E) G1 (hr.mono (by decide)) (by rfl) d1.g d1.F.kp d1.b .nil (passes_call (takes_of rfl rfl rfl rfl) (fun _ _ _ _ h => h)) (pa_cons (pv 2) pa_nil))) dead))))), ?_⟩
    rcases h with ⟨no, qe⟩ | ⟨ns, rfl, S, nk, few, zb, qe⟩
    · exact ⟨_, rfl, x, d, rfl, dx, (fun y => by rw [no] at y; cases y), fun _ H1 s1 => qe H1 s1⟩
    have M := tables3 ns (shp_mem S)
    have l30 := M.2.1
    have u9 : (usL ns).length = (pl ns).length := usL_len ns
    obtain ⟨sh, rfl, es⟩ : ∃ a, x = .ref a ∧ SqT K H a (ns.map V.int) := by
      cases dx with
      | tv t =>
        cases t with
        | tup e l =>
          rw [l.ints] at e
          exact ⟨_, rfl, e⟩
    refine ⟨_, rfl, _, .tuple (ns.map .int), rfl, dx, fun _ H1 s1 => ?_, fun z => absurd (shp_is S) (by rw [z]; decide)⟩
    refine ⟨_, rfl, sh, ns, rfl, sqt_same es s1, S, fun H2 y s2 ty2 => ?_⟩
    rw [planD_us] at ty2
    have s12 := s1.trans s2
    obtain ⟨o, ws, rfl, eo, lw⟩ := us_tup ty2
    rcases nk with tn | ⟨nt, t, tyn, kn⟩
    case inr => exact ⟨_, rfl, _, _, _, _, _, rfl, .ty _, tyx_same tyn s12, kn, _, rfl, ite2 (fun _ => ite2 (fun _ => qe H2 s12) (fun z => absurd rfl z)) (fun z => absurd rfl z)⟩
    have tn2 := tn.same s12
    refine ⟨_, rfl, _, _, _, _, _, rfl, .ty _, tn2.ty, kitT e, _, rfl, ?_⟩
    cases e with
    | tuple ds =>
      have d100 := few ds rfl
      obtain ⟨b, xs, rfl, eb, tl⟩ : ∃ b xs, n = .ref b ∧ SqT K H2 b xs ∧ TvL K H2 xs ds := by
        cases tn2 with
        | tup e l => exact ⟨_, _, rfl, e, l⟩
      have lx := tl.len
      refine ite2 (fun z => absurd z Bool.false_ne_true) (fun _ => ?_)
      refine ⟨_, rfl, b, _, rfl, .inr eb, _, rfl, o, _, rfl, .inr eo, rfl, _, rfl, ?_⟩
      by_cases ln : ds.length = (pl ns).length
      case neg =>
        refine ite2 (fun _ => qe H2 s12) (fun z => absurd ?_ z)
        rw [decide_eq_false (fun z => ln (by have := V.int.inj z; omega))]
        rfl
      refine ite2 (fun z => absurd z ?_) (fun _ => ?_)
      · rw [show xs.length = ws.length by omega, decide_eq_true rfl]
        exact Bool.false_ne_true
      refine ⟨_, rfl, b, rfl, ⟨_, eb⟩, fun L nL => ?_⟩
      refine lc_tup (K := K) (a := b) (xs := xs) (fun i Z => Same H2 Z ∧ Z L = some (.lst (((ds.take i).map isEn).map V.bl))) ⟨sub_same nL, upd_same⟩ (fun i Z _ h => sqt_same eb h.1) ?_ ?_
      · rintro i x Z hx ⟨sz, hl⟩
        obtain ⟨d0, ed, t0⟩ := tl.get hx
        refine ⟨rfl, yesT ⟨_, rfl, x, d0, rfl, (t0.same sz).shl, _, hl, ?_, fun k ob e => ?_, ?_⟩⟩
        · rw [List.length_map, List.length_map, List.length_take, sizeLine_eq]
          omega
        · rw [upd_ne (fun z => by rw [z, nL] at e; cases e)]
          exact sz _ _ e
        · rw [upd_same, List.take_succ, ed, List.map_append, List.map_append]
          rfl
      · rintro Z ⟨sz, hl⟩
        rw [lx, List.take_length] at hl
        refine ⟨L, ds.map isEn, rfl, .inl (.inl hl), _, rfl, ?_⟩
        have z1 : (ds.map isEn).all id = ds.all isEn := by
          rw [List.all_map]
          rfl
        rw [z1]
        have s13 := s12.trans sz
        cases ea : ds.all isEn with
        | false => exact ite2 (fun _ => qe Z s13) (fun z => absurd rfl z)
        | true =>
          refine ite2 (fun z => absurd z Bool.false_ne_true) (fun _ => ?_)
          obtain ⟨t, tz, kz⟩ := zb (by
            show (decide (ds.length = (pl ns).length) && ds.all isEn) = true
            rw [ea, decide_eq_true ln]
            rfl)
          exact ⟨_, rfl, z, t, rfl, tyx_same tz s13, kz, qe Z s13⟩
    | _ => exact ite2 (fun _ => ite2 (fun _ => qe H2 s12) (fun z => absurd rfl z)) (fun z => absurd rfl z)
/-- the stair of the singles 1, 2, 3 -/
def spFSingF (K : PySem.W.Frag) (C : Addr) : Sp := fun vs H Q _ => ∃ (sh b : Addr), vs = [.ref sh, .ref b, .bl true] ∧ SqT K H sh ([3].map V.int) ∧ SqT K H b ([1, 2, 3].map V.int) ∧ ∀ H' c, Same H H' → Q (.ref c) H'
theorem ok_fsingF {f f0 f1 f2 f3 f4 f5 f6 f7 : Addr} {fd fd0 fd1 fd2 fd3 fd4 fd5 fd6 fd7 : FuncData} (T : Txt mg) (N : Nam mg) (R : SC K mg C)
    (body : BodyX P w K mg base ["shape", "numbers", "backwards", "plan", "found", "at", "number"] ["shape", "numbers", "backwards"] "from_singles" s_fsing f fd)
    (d0 : D K mg "check_shape" s_check ["shape"] f0 fd0) (G0 : FnOk P w K mg base (L2.CX P w) 4 f0 fd0 ["shape"] (spCheck K CS))
    (d1 : D K mg "check_backwards" s_ckb ["backwards"] f1 fd1) (G1 : FnOk P w K mg base CX0 1 f1 fd1 ["backwards"] spCkB) (d2 : D K mg "plan_of" s_plan ["shape"] f2 fd2) (G2 : FnOk P w K mg base (L2.CX P w) 6 f2 fd2 ["shape"] (spPlan K))
    (d3 : D K mg "lone" s_lone ["plan", "at", "number"] f3 fd3) (G3 : FnOk P w K mg base CX0 1 f3 fd3 ["plan", "at", "number"] (spLoneN K)) (d4 : D K mg "joined" s_join ["plan", "one", "other", "backwards"] f4 fd4) (G4 : FnOk P w K mg base CX0 3 f4 fd4 ["plan", "one", "other", "backwards"] (spJoin K))
    (d5 : D K mg "ones" s_ones ["plan"] f5 fd5) (G5 : FnOk P w K mg base CX0 1 f5 fd5 ["plan"] (spOnes K)) (d6 : D K mg "stair_with" s_with ["shape", "plan", "numbers"] f6 fd6) (G6 : FnOk P w K mg base CX0 9 f6 fd6 ["shape", "plan", "numbers"] (spWith K C))
    (d7 : D K mg "is_integer" s_is_integer ["value"] f7 fd7) (G7 : FnOk P w K mg base CX0 2 f7 fd7 ["value"] spInt) :
    FnOk P w K mg base (L2.CX P w) 10 f fd ["shape", "numbers", "backwards"] (spFSingF K C) := by
  refine body (spFSingF K C) 9 (fun vs H Q E h => ?_) (fun cdv A outer s H vs Q E hr h => ?_)
  · obtain ⟨sh, b, rfl, _⟩ := h
    rfl
  · obtain ⟨sh, b, rfl, es, eb, q⟩ := h
    refine ⟨_, (pss_cons (ps_expr (pe_call (E := fun _ _ _ => False) G0 (hr.mono (by decide)) (by rfl) d0.g d0.F.kp d0.b .nil passF (pa_cons (pv 0) pa_nil)))
      (pss_cons (ps_set (i := 3) sc_fsing.nd rfl (.inl rfl) (pe_call (E := fun _ _ _ => False) G2 (hr.mono (by decide)) (by rfl) d2.g d2.F.kp d2.b .nil passF (pa_cons (pv 0) pa_nil)))
      (pss_cons (ps_if (PW.pt (pw_or (pt_not (pt_val (pe_callB call_isi (by rfl) T.n_isinstance (by decide +kernel) (pa_cons (pv 1) (pa_cons (pe_bltn (v := .ty "tuple") (by rfl) T.n_tuple (by decide +kernel) rfl) pa_nil))))) (pw_or1 (pt_cmpR op_ne (pe_callB call_len_seq (by rfl) T.n_len PySem.boot_len (pa_cons (pv 1) pa_nil)) (pe_callB call_len_seq (by rfl) T.n_len PySem.boot_len (pa_cons (pv 3) pa_nil)) (nomark _))))) dead pss_nil)
      (pss_cons (ps_if (pt_not (pt_val (pe_callB (cr_all rfl) (by rfl) N.n_all (by decide +kernel) (pa_cons (pe_lc (own := [("number", 6)]) (g := gName 6) (tt := tYes) rfl sc_fsing.nd (pi_tup (pv 1)) (blkOk_by (own := [("number", 6)]) (N := ["shape", "numbers", "backwards", "plan", "found", "at", "number"]) (sc := defScope s_fsing) (by decide +kernel))
            (fun _ _ _ _ _ => (pg_name (i := 6) sc_fsing.nd rfl (Or.inl rfl))) (fun _ _ _ _ _ => pts_nil) (fun _ _ _ _ _ => (pe_call G7 (hr.mono (by decide)) (by rfl) d7.g d7.F.kp d7.b .nil pass0 (pa_cons (pv 6) pa_nil)))) pa_nil)))) dead pss_nil)
      (pss_cons (ps_expr (pe_call G1 (hr.mono (by decide)) (by rfl) d1.g d1.F.kp d1.b .nil pass0 (pa_cons (pv 2) pa_nil)))
      (pss_cons (ps_set (i := 4) sc_fsing.nd rfl (.inl rfl) (pe_call G5 (hr.mono (by decide)) (by rfl) d5.g d5.F.kp d5.b .nil pass0 (pa_cons (pv 3) pa_nil)))
      (pss_cons (ps_for (passes_of rfl) rfl (pi_enumT (by rfl) N.n_enumerate (pa_cons (pv 1) pa_nil)) (pg_tup rfl (pgs_cons (pg_name (i := 5) sc_fsing.nd rfl (.inl rfl)) (pgs_cons (pg_name (i := 6) sc_fsing.nd rfl (.inl rfl)) pgs_nil)))
        (pss_one (ps_set (i := 4) sc_fsing.nd rfl (.inl rfl) (pe_call G4 (hr.mono (by decide)) (by rfl) d4.g d4.F.kp d4.b .nil pass0 (pa_cons (pv 3) (pa_cons (pv 4) (pa_cons (pe_call G3 (hr.mono (by decide)) (by rfl) d3.g d3.F.kp d3.b .nil pass0 (pa_cons (pv 3) (pa_cons (pv 5) (pa_cons (pv 6) pa_nil)))) (pa_cons (pv 2) pa_nil))))))))
      (pss_one (ps_ret (pe_call G6 (hr.mono (by decide)) (by rfl) d6.g d6.F.kp d6.b .nil pass0 (pa_cons (pv 0) (pa_cons (pv 3) (pa_cons (pv 4) pa_nil))))))))))))), ?_⟩
    obtain ⟨fkl, lnl, u3, plq, sh3⟩ := fk_ok
    obtain ⟨ns, en, S⟩ := shp_of sh3
    obtain rfl : [3] = ns := ints_inj (PyData.tuple.inj en)
    refine ⟨_, rfl, _, .tuple ([3].map .int), rfl, .tv (.tup es (tvl_ints [3])), fun _ H1 s1 => ?_, fun z => absurd (shp_is S) (by rw [z]; decide)⟩
    have es1 := sqt_same es s1
    have eb1 := sqt_same eb s1
    refine ⟨_, rfl, sh, [3], rfl, es1, S, fun H2 y s2 ty2 => ?_⟩
    rw [planD_us] at ty2
    have es2 := sqt_same es1 s2
    have eb2 := sqt_same eb1 s2
    obtain ⟨o, ws, rfl, eo, lw⟩ := us_tup ty2
    rw [u3] at lw
    refine ⟨_, rfl, _, _, _, _, _, rfl, .ty _, (Dw.tv (.tup eb2 (tvl_ints [1, 2, 3]))).ty, kitT _, _, rfl, ?_⟩
    refine ite2 (fun z => absurd z Bool.false_ne_true) (fun _ => ?_)
    refine ⟨_, rfl, b, _, rfl, .inr eb2, _, rfl, o, _, rfl, .inr eo, rfl, _, rfl, ?_⟩
    refine ite2 (fun z => absurd z (by rw [lw]; decide)) (fun _ => ?_)
    refine ⟨_, rfl, b, rfl, ⟨_, eb2⟩, fun L nL => ?_⟩
    refine lc_tup (K := K) (a := b) (xs := [1, 2, 3].map V.int) (fun i Z => Same H2 Z ∧ Z L = some (.lst ((List.replicate i true).map V.bl))) ⟨sub_same nL, upd_same⟩ (fun i Z _ h => sqt_same eb2 h.1) ?_ ?_
    · rintro i x Z hx ⟨sz, hl⟩
      obtain ⟨m, em, rfl⟩ := int_at hx
      have il : i < 3 := (List.getElem?_eq_some_iff.mp em).1
      have mm : m ∈ ([1, 2, 3] : List Int) := List.mem_of_getElem? em
      have sm1 : -(10 ^ 60) < m ∧ m < 10 ^ 60 := by
        have z : ∀ m ∈ ([1, 2, 3] : List Int), -(10 ^ 60) < m ∧ m < 10 ^ 60 := by decide +kernel
        exact z m mm
      refine ⟨rfl, yesT ⟨_, rfl, m, rfl, sm1.1, sm1.2, _, hl, ?_, fun k ob e => ?_, ?_⟩⟩
      · rw [List.length_map, List.length_replicate, sizeLine_eq]
        omega
      · rw [upd_ne (fun z => by rw [z, nL] at e; cases e)]
        exact sz _ _ e
      · rw [upd_same, List.replicate_succ', List.map_append]
        rfl
    · rintro Z ⟨sz, hl⟩
      refine ⟨L, List.replicate 3 true, rfl, .inl (.inl hl), _, rfl, ?_⟩
      refine ite2 (fun z => absurd z (by decide)) (fun _ => ?_)
      refine ⟨_, rfl, true, rfl, ?_⟩
      have ty3 := ty2.same sz
      have eb3 := sqt_same eb2 sz
      refine ⟨_, rfl, .ref o, usL [3], rfl, ty3, by omega, fun H4 p s4 np ep => ?_⟩
      have s04 := ((s1.trans s2).trans sz).trans s4
      have ty4 := ty3.same s4
      have eb4 := sqt_same eb3 s4
      refine ⟨_, rfl, b, _, rfl, eb4, ?_⟩
      refine for_it (walk_enumT (K := K) (a := b) (xs := [1, 2, 3].map V.int)) (fun i σ Y => (∃ l y5 y6, σ = [some (.ref sh), some (.ref b), some (.bl true), some (.ref o), some (.ref l), y5, y6] ∧ Y l = some (.tup ((fk i).map V.int))) ∧ Same H Y ∧ Tv K Y (.ref o) (usD (usL [3])))
        ⟨⟨p, _, _, rfl, ep⟩, s04, ty4⟩ (fun i σ Y _ h => sqt_same eb h.2.1) ?_ ?_
      · rintro i v σ Y Y' hi ⟨⟨l, y5, y6, rfl, el⟩, sy, tyY⟩ ⟨Tp, x0, y0, rfl, nT2, rfl, ex, ey⟩
        have hi : i < 3 := hi
        obtain rfl := Option.some.inj ex
        obtain ⟨m, em, rfl⟩ := int_at ey
        have em2 : m = ((i + 1 : Nat) : Int) := by
          have z : ∀ i ∈ List.range 3, ([1, 2, 3] : List Int)[i]? = some (((i + 1 : Nat) : Int)) := by decide +kernel
          rw [z i (List.mem_range.mpr hi)] at em
          exact (Option.some.inj em).symm
        subst em2
        have s2 := sub_same (o := .tup [V.int (i : Nat), V.int ((i + 1 : Nat) : Int)]) nT2
        have el2 := s2 _ _ el
        have sy2 := sy.trans s2
        have tyY2 := tyY.same s2
        have hT : upd Y Tp (.tup [V.int (i : Nat), V.int ((i + 1 : Nat) : Int)]) Tp = some (.tup [V.int (i : Nat), V.int ((i + 1 : Nat) : Int)]) := upd_same
        revert el2 sy2 tyY2 hT
        generalize upd Y Tp (.tup [V.int (i : Nat), V.int ((i + 1 : Nat) : Int)]) = Y2
        intro el2 sy2 tyY2 hT
        refine ⟨Tp, _, rfl, .inl (.inl hT), rfl, _, _, rfl, _, _, rfl, rfl, ?_⟩
        obtain ⟨l3, b3⟩ := fkl i (List.mem_range.mpr (by omega))
        refine ⟨_, rfl, _, rfl, _, rfl, _, rfl, _, rfl, .ref o, usL [3], (i : Int), ((i + 1 : Nat) : Int), rfl, tyY2, by omega, fun Y3 p3 s3 np3 ep3 => ?_⟩
        refine ⟨_, rfl, .ref o, l, p3, fk i, _, usL [3], true, rfl, tyY2.same s3, s3 _ _ el2, ep3, by rw [l3, u3], by rw [List.length_map, List.length_range, l3, u3], by omega, ?_, b3, lnl i (List.mem_range.mpr hi), fun Y4 p4 s4 np4 ep4 => ?_⟩
        · rw [l3, ← plq]
          exact inR_plan S
        · exact ⟨⟨p4, _, _, rfl, ep4⟩, sy2.trans (s3.trans s4), tyY2.same (s3.trans s4)⟩
      · rintro σ Y ⟨⟨l, y5, y6, rfl, el⟩, sy, tyY⟩
        have tyP : Tv K Y (.ref o) (planD [3]) := by rw [planD_us]; exact tyY
        exact ⟨_, rfl, _, rfl, _, rfl, sh, l, .ref o, [3], _, rfl, sqt_same es sy, tyP, el, fun H5 c s5 _ _ => q H5 c (sy.trans s5)⟩
end
end K09

/-! # dicts that are made to be read alone; what a list of values lays -/
namespace K09
open PySem PySem.Spec PyProof.Rows L2 TL NumText RZ
section
variable {X : Cx} {pins : List (Addr × Obj)} {σ : L2.St} {H : Hp} {s : Shared}
/-- e, a dict; from now on it is only read -/
def tFrz (t : TE) : TE := fun σ H Q => t σ H fun x H1 => ∃ d u, x = .ref d ∧ H1 d = some u ∧ ((∃ l, u = .dK l) ∨ ∃ l, u = .dT l) ∧ ((d == sysModules) = false → ∀ o, Q x (upd H1 d (.frz o u)))
theorem pe_frz {e : Expr} {t : TE} (h : PE X e t) : PE X e (tFrz t) := by
  refine ⟨fun pins s σ H Q I hw => ?_⟩
  refine thn (h.run pins s σ H _ I hw) fun v s1 ⟨x, H1, I1, rx, d, u, ex, ed, k, q⟩ => ?_
  have mu : Mut (some u) := by
    rcases k with ⟨l, rfl⟩ | ⟨l, rfl⟩ <;> trivial
  have sm : (d == sysModules) = false := by
    rcases k with ⟨l, rfl⟩ | ⟨l, rfl⟩
    · exact (dk_of I1.hok ed).2.1
    · exact (dt_of I1.hok ed).2.1
  obtain ⟨o, I2⟩ := I1.lock ed mu
  exact ⟨x, _, I2, rx, q sm o⟩
/-- {k: v, l: w}, k and l tuples -/
def tDisp2 (tk tv tl tw : TE) : TE := fun σ H Q => ∀ p, H p = none → tk σ (upd H p (.dT [])) fun x H1 => tv σ H1 fun y H2 => tl σ H2 fun z H3 => tw σ H3 fun v H4 => H4 p = some (.dT []) ∧ ∃ b k c l, x = .ref b ∧ H4 b = some (.tup (k.map kV)) ∧ z = .ref c ∧ H4 c = some (.tup (l.map kV)) ∧ c ≠ p ∧ Q (.ref p) (upd (upd H4 p (.dT [(k, y)])) p (.dT (putK [(k, y)] l v)))
theorem pe_disp2 {k v l w : Expr} {tk tv tl tw : TE} {pos : Pos} (un : X.A.units + 1 < cLine) (hk : PE X k tk) (hv : PE X v tv) (hl : PE X l tl) (hw : PE X w tw) : PE X (.Dict [some k, some l] [v, w] pos) (tDisp2 tk tv tl tw) := by
  refine ⟨fun pins s σ H Q I q => ?_⟩
  have hn := I.hok.fresh (Nat.le_refl s.heap.objs.size)
  have I1 := I.laid (a := s.heap.objs.size) (o := .dT []) (h' := s.heap.push { cls := .type "dict", data := .dict #[] }) (t' := s.toks) (fun _ _ q => Heap.get?_push_of_some _ q) (Nat.le_refl _) (dt_empty s.heap I.big)
  refine wpAny_Dict_any rfl rfl (by simp) (by show 2 ≤ 15; decide) ?_
  refine pairTrees_cons_walk (thn (hk.run pins _ σ _ _ I1 (q _ hn)) fun u s1 ⟨x, H1, J1, rx, q1⟩ => thn (hv.run pins s1 σ H1 _ J1 q1) fun w2 s2 ⟨y, H2, J2, ry, q2⟩ =>
    pairTrees_cons_walk (thn (hl.run pins s2 σ H2 _ J2 q2) fun u3 s3 ⟨z, H3, J3, rz, q3⟩ => thn (hw.run pins s3 σ H3 _ J3 q3) fun w4 s4 ⟨v4, H4, J4, rv, e, b, kk, c, ll, ex, eb, ez, ec, ne, q5⟩ => pairTrees_nil_walk ?_))
  subst ex ez
  obtain rfl : u = Value.ref b := rx
  obtain rfl : u3 = Value.ref c := rz
  unfold storeAll
  rw [List.forIn_cons]
  refine wpAny_bind (wpAny_bind (dset_tup (X := X) un J4 e eb (Nat.zero_lt_of_lt (by decide : 0 < sizeLine)) ry fun s' J5 => wpAny_pure ?_))
  dsimp only
  rw [List.forIn_cons]
  refine wpAny_bind (wpAny_bind (dset_tup (X := X) un J5 upd_same ((upd_ne ne).trans ec) (by show 1 < sizeLine; decide) rv fun s' J6 => wpAny_pure ?_))
  dsimp only
  rw [List.forIn_nil]
  exact wpAny_pure ⟨.ref _, _, J6, rfl, q5⟩
/-- {(0, False, 1): 1} -/
def tDispS (tk tv : TE) : TE := fun σ H Q => ∀ p, H p = none → tk σ (upd H p (.dT [])) fun x H1 => tv σ H1 fun y H2 => H2 p = some (.dT []) ∧ ∃ b, x = .ref b ∧ H2 b = some (.tup [.int 0, .bl false, .int 1]) ∧ y = .int 1 ∧
  ((p == sysModules) = false → ∀ o hs t ep, o.ExactDict → o.data = .dict #[⟨hs, .ref b, .int 1 t⟩] ep → Q (.ref p) (upd H2 p (.frz o (.own p))))
theorem pe_dispS {k v : Expr} {tk tv : TE} {pos : Pos} (un : X.A.units + 8 < cLine) (hk : PE X k tk) (hv : PE X v tv) : PE X (.Dict [some k] [v] pos) (tDispS tk tv) := by
  refine ⟨fun pins s σ H Q I q => ?_⟩
  have hn := I.hok.fresh (Nat.le_refl s.heap.objs.size)
  have I1 := I.laid (a := s.heap.objs.size) (o := .dT []) (h' := s.heap.push { cls := .type "dict", data := .dict #[] }) (t' := s.toks) (fun _ _ q => Heap.get?_push_of_some _ q) (Nat.le_refl _) (dt_empty s.heap I.big)
  refine wpAny_Dict_any rfl rfl (by simp) (by show 1 ≤ 15; decide) ?_
  refine pairTrees_cons_walk (thn (hk.run pins _ σ _ _ I1 (q _ hn)) fun u s1 ⟨x, H1, J1, rx, q1⟩ => thn (hv.run pins s1 σ H1 _ J1 q1) fun w2 s2 ⟨y, H2, J2, ry, e, b, ex, eb, ey, q2⟩ => pairTrees_nil_walk ?_)
  subst ex ey
  obtain rfl : u = Value.ref b := rx
  obtain ⟨t1, rfl⟩ : ∃ t, w2 = Value.int 1 t := ry
  -- the key as it stands
  obtain ⟨_, its, rv, ok, h1, h2, n, h3⟩ := (show ObjOk X.prog X.w H2 s2.heap b (.tup [.int 0, .bl false, .int 1]) from J2.hok b _ eb)
  obtain ⟨i1, i2, i3, rfl, r1, r2, r3⟩ : ∃ i1 i2 i3, its = [i1, i2, i3] ∧ RelV (.int 0) i1 ∧ RelV (.bl false) i2 ∧ RelV (.int 1) i3 := by
    cases rv with
    | cons a l => cases l with
      | cons b l => cases l with
        | cons c l =>
          cases l
          exact ⟨_, _, _, rfl, a, b, c⟩
  obtain ⟨k1, rfl⟩ : ∃ t, i1 = Value.int 0 t := r1
  obtain rfl : i2 = Value.bool false := r2
  obtain ⟨k3, rfl⟩ : ∃ t, i3 = Value.int 1 t := r3
  have key : (nestedKind X.prog X.w).is s2.heap (.tup [.num 0, .num 0, .num 1]) b :=
    ⟨.tup h1 h2 h3 (by
      show NestedAll s2.heap _ [Value.int 0 k1, Value.bool false, Value.int 1 k3]
      exact .cons (.int 0 k1) (.cons (.bool rfl) (.cons (.int 1 k3) .nil))), by decide⟩
  obtain ⟨_, sm, xs, pr, o0, es0, ep0, d1, d2, d3, d4, d5, d6⟩ := dt_of J2.hok e
  cases pr
  have dd : s2.heap.DictOfH (nestedKind X.prog X.w) s.heap.objs.size [] := ⟨o0, es0, ep0, d1, d2, d3, d4, fun x m => absurd m List.not_mem_nil, List.nodup_nil⟩
  unfold storeAll
  rw [List.forIn_cons]
  refine wpAny_bind (wpAny_bind (wpAny_dictSet_heap (knd := nestedKind X.prog X.w) (by show X.A.units + 8 < cLine; omega) key dd (fun h' new sb => ?_) (Nat.zero_le _)))
  obtain ⟨o, es, ep, n1, n2, n3, n4, n5, n6⟩ := new
  have n4' : es.toList = [⟨(nestedKind X.prog X.w).hash (.tup [.num 0, .num 0, .num 1]), .ref b, .int 1 t1⟩] := n4
  have ez : es = #[⟨(nestedKind X.prog X.w).hash (.tup [.num 0, .num 0, .num 1]), .ref b, .int 1 t1⟩] := Array.toList_inj.mp n4'
  subst ez
  refine wpAny_pure ?_
  dsimp only
  rw [List.forIn_nil]
  refine wpAny_pure ⟨.ref _, _, d_write J2 (by rw [e]; trivial) sb ⟨o, n1⟩ (show ObjOk X.prog X.w (upd H2 s.heap.objs.size (.frz o (.own s.heap.objs.size))) h' s.heap.objs.size (.frz o (.own s.heap.objs.size)) from ⟨n1, o, n1⟩), rfl, q2 sm o _ t1 ep n2 n3⟩
end
/-! ### what is laid anew -/
/-- what is new in H', but no tables -/
def fr (H H' : Hp) : Hp := fun b => match H b with
  | some _ => none
  | none => match H' b with
    | some (.tbl _) => none
    | o => o
theorem fr_of {H H' : Hp} {b : Addr} {o : HO} (n : H b = none) (e : H' b = some o) (k : ∀ ps, o ≠ .tbl ps) : fr H H' b = some o := by
  unfold fr
  rw [n, e]
  cases o with
  | tbl ps => exact absurd rfl (k ps)
  | _ => rfl
theorem fr_at {H H' : Hp} {b : Addr} {o : HO} (e : fr H H' b = some o) : H b = none ∧ H' b = some o ∧ ∀ ps, o ≠ .tbl ps := by
  unfold fr at e
  cases h : H b with
  | some x => rw [h] at e; cases e
  | none =>
    rw [h] at e
    cases h2 : H' b with
    | none => rw [h2] at e; cases e
    | some x =>
      rw [h2] at e
      cases x with
      | tbl ps => cases e
      | _ =>
        cases e
        exact ⟨rfl, rfl, fun ps z => by cases z⟩
theorem fr_in {H H' : Hp} : Same (fr H H') H' := fun b o e => (fr_at e).2.1
theorem fr_up {H H1 H2 : Hp} (s : Same H1 H2) : Same (fr H H1) (fr H H2) := fun b o e => let ⟨a, b1, c⟩ := fr_at e; fr_of a (s _ _ b1) c
theorem fr_low {H H1 H2 : Hp} (s : Same H H1) : Same (fr H1 H2) (fr H H2) := fun b o e => let ⟨a, b1, c⟩ := fr_at e; fr_of (s.free a) b1 c
theorem fr_old {H H1 H2 : Hp} {u : Addr} (hu : H u ≠ none) (o : Old u H1 H2) : Same (fr H H1) (fr H H2) := fun b ob e => let ⟨a, b1, c⟩ := fr_at e; fr_of a (o b ob (fun z => hu (by rw [← z]; exact a)) b1) c
theorem fr_ext {H H1 H2 : Hp} (o : LamX.ExtN H1 H2) : Same (fr H H1) H2 := fun b ob e => let ⟨_, b1, c⟩ := fr_at e; o b ob b1 c
/-- a kind of values -/
abbrev Kd := Hp → V → PyData → Prop
def Mono (R : Kd) : Prop := ∀ (H H' : Hp) (x : V) (d : PyData), Same H H' → R H x d → R H' x d
def LayN (R : Kd) (σ : L2.St) (t : TE) (d : PyData) : Prop := ∀ (H : Hp) (Q : VK), (∀ x H', Same H H' → R (fr H H') x d → Q x H') → t σ H Q
def LayNA (R : Kd) (σ : L2.St) (t : TA) (ds : List PyData) : Prop := ∀ (H : Hp) (Q : List V → Hp → Prop), (∀ xs H', Same H H' → Paired (R (fr H H')) xs ds → Q xs H') → t σ H Q
section
variable {σ : L2.St} {R S : Kd} {K : PySem.W.Frag}
theorem LayN.imp (h : ∀ G x d, R G x d → S G x d) {t : TE} {d : PyData} (l : LayN R σ t d) : LayN S σ t d := fun H Q q => l H Q fun x H' s r => q x H' s (h _ _ _ r)
theorem LayNA.nil : LayNA R σ tNil [] := fun H Q q => q _ _ (Same.refl H) .nil
theorem LayNA.cons (m : Mono R) {t : TE} {ts : TA} {d : PyData} {ds : List PyData} (h : LayN R σ t d) (hs : LayNA R σ ts ds) : LayNA R σ (tCons t ts) (d :: ds) := fun H Q q =>
  h H _ fun x H1 s1 t1 => hs H1 _ fun xs H2 s2 t2 => q (x :: xs) H2 (s1.trans s2) (.cons (m _ _ _ _ (fr_up s2) t1) (Paired.mapP t2 fun _ _ z => m _ _ _ _ (fr_low s1) z))
theorem mono_tv : Mono (Tv K) := fun _ _ _ _ s h => h.same s
theorem tvl_of {G : Hp} : ∀ {xs : List V} {ds : List PyData}, Paired (Tv K G) xs ds → TvL K G xs ds
  | _, _, .nil => .nil
  | _, _, .cons a l => .cons a (tvl_of l)
theorem LayN.int (n : Int) : LayN (Tv K) σ (tC (.int n)) (.int n) := fun H Q q => q _ _ (Same.refl H) (.int n)
theorem LayN.str (z : Str) : LayN (Tv K) σ (tC (.str z)) (.str z) := fun H Q q => q _ _ (Same.refl H) (.str z)
theorem LayN.bl (b : Bool) : LayN (Tv K) σ (tC (.bl b)) (.bool b) := fun H Q q => q _ _ (Same.refl H) (.bl b)
theorem LayN.non : LayN (Tv K) σ (tC .non) .none := fun H Q q => q _ _ (Same.refl H) .non
theorem LayN.pow (i j : Int) (h : CPowW i j) : LayN (Tv K) σ (tOp (rI CPowW fun i j => .int (i ^ j.toNat)) (tC (.int i)) (tC (.int j))) (.int (i ^ j.toNat)) := fun H Q q => ⟨_, _, rfl, rfl, h, q _ _ (Same.refl H) (.int _)⟩
/-- a new tuple of values of a kind -/
theorem LayN.tupP (m : Mono R) {ts : TA} {ds : List PyData} (hs : LayNA R σ ts ds) (l : ds.length ≤ 100) {S : Kd} {d : PyData} (h : ∀ G a xs, G a = some (.tup xs) → Paired (R G) xs ds → S G (.ref a) d) : LayN S σ (tTup ts) d := fun H Q q =>
  hs H _ fun xs H1 s1 t1 => ⟨by rw [Paired.length t1]; exact Nat.le_trans l (by decide), fun p np => q _ _ (s1.trans (sub_same np)) (h _ _ xs (fr_of (s1.free np) upd_same fun _ z => by cases z) (Paired.mapP t1 fun _ _ z => m _ _ _ _ (fr_up (sub_same np)) z))⟩
theorem LayN.lstP (m : Mono R) {ts : TA} {ds : List PyData} (hs : LayNA R σ ts ds) (l : ds.length ≤ 100) {S : Kd} {d : PyData} (h : ∀ G a xs, G a = some (.lst xs) → Paired (R G) xs ds → S G (.ref a) d) : LayN S σ (tLst ts) d := fun H Q q =>
  hs H _ fun xs H1 s1 t1 => ⟨by rw [Paired.length t1]; exact Nat.le_trans l (by decide), fun p np => q _ _ (s1.trans (sub_same np)) (h _ _ xs (fr_of (s1.free np) upd_same fun _ z => by cases z) (Paired.mapP t1 fun _ _ z => m _ _ _ _ (fr_up (sub_same np)) z))⟩
theorem LayN.tup {ts : TA} {ds : List PyData} (hs : LayNA (Tv K) σ ts ds) (l : ds.length ≤ 100) : LayN (Tv K) σ (tTup ts) (.tuple ds) := LayN.tupP mono_tv hs l fun G a xs e p => .tup (sqt_new e) (tvl_of p)
/-- the list of such values is picked from -/
theorem pick_lay (m : Mono R) {ts : TA} {ds : List PyData} (hs : LayNA R σ ts ds) (l : ds.length ≤ 100) (ne : ds ≠ []) {H : Hp} {Q : VK} {u : Addr} (uu : Urn H u)
    (q : ∀ x d H', d ∈ ds → Urn H' u → Old u H H' → R (fr H H') x d → Q x H') : ts σ H fun xs H1 => xs.length ≤ sizeLine ∧ ∀ b, H1 b = none → spSome ([.ref u, .ref b] ++ []) (upd H1 b (.lst xs)) Q E0 :=
  hs H _ fun xs H1 s1 t1 => ⟨by rw [Paired.length t1]; exact Nat.le_trans l (by decide), fun b nb => by
    have lx : xs.length = ds.length := Paired.length t1
    have u1 := uu.same s1
    have bu : b ≠ u := urn_ne u1 nb
    have hu : H u ≠ none := by
      obtain ⟨g, mm, c, e⟩ := uu
      rw [e]
      exact fun z => by cases z
    refine ⟨u, b, xs, rfl, u1.same (sub_same nb), upd_same, bu, fun z => ?_, by omega, fun i v H2 ev u2 b2 => ?_⟩
    · rw [z] at lx
      exact ne (List.length_eq_zero_iff.mp lx.symm)
    · obtain ⟨d, ed, rd⟩ := pair_get t1 ev
      have o2 : Old u H1 H2 := (Old.of_same (sub_same nb)).trans (Old.of_but b2)
      exact q v d H2 (List.mem_of_getElem? ed) u2 ((Old.of_same s1).trans o2) (m _ _ _ _ (fr_old hu o2) rd)⟩
end
end K09

/-! # the kinds of what is drawn -/
namespace K09
open PySem PySem.Spec PyProof.Rows L2 TL NumText RZ
/-- entries, or what are none -/
inductive Ev (K : PySem.W.Frag) (G : Hp) : V → PyData → Prop
  | oth {x : V} {d : PyData} {t : Value} : TyX K G x t → kit K t (.type "dict") false → Ev K G x d
  | dic {a : Addr} {pds : List (PyData × PyData)} : FrD K G a pds → Ev K G (.ref a) (.dict pds)
theorem Ev.same {K : PySem.W.Frag} {H H' : Hp} {x : V} {d : PyData} (h : Ev K H x d) (s : Same H H') : Ev K H' x d := by
  cases h with
  | oth t k => exact .oth (tyx_same t s) k
  | dic f => exact .dic (f.same s)
def isDc : PyData → Bool
  | .dict _ => true
  | _ => false
theorem kitDc {K : PySem.W.Frag} : ∀ d : PyData, kit K (.type (tyN d)) (.type "dict") (isDc d)
  | .none => kit_ty (show kitB "NoneType" "dict" = some false by decide +kernel)
  | .bool _ => kit_ty (show kitB "bool" "dict" = some false by decide +kernel)
  | .int _ => kit_ty (show kitB "int" "dict" = some false by decide +kernel)
  | .str _ => kit_ty (show kitB "str" "dict" = some false by decide +kernel)
  | .list _ => kit_ty (show kitB "list" "dict" = some false by decide +kernel)
  | .tuple _ => kit_ty (show kitB "tuple" "dict" = some false by decide +kernel)
  | .dict _ => kit_ty (show kitB "dict" "dict" = some true by decide +kernel)
section
variable {σ : L2.St} {K : PySem.W.Frag}
theorem mono_dw : Mono (Dw K) := fun _ _ _ _ s h => h.same s
theorem mono_ev : Mono (Ev K) := fun _ _ _ _ s h => h.same s
theorem mono_rw : Mono (Rw K) := fun _ _ _ _ s h => Rw.same h s
theorem mono_tb : Mono (Tb K) := fun _ _ _ _ s h => h.same s
theorem mono_shw : Mono Shw := fun _ _ _ _ s h => h.same s
theorem mono_shl : Mono (Shl K) := fun _ _ _ _ s h => h.same s
theorem LayN.impD {R S : Kd} {t : TE} {d d' : PyData} (h : ∀ G x, R G x d → S G x d') (l : LayN R σ t d) : LayN S σ t d' := fun H Q q => l H Q fun x H' s r => q x H' s (h _ _ r)
theorem LayN.neg {t : TE} {n : Int} (l : LayN (Tv K) σ t (.int n)) : LayN (Tv K) σ (tUn (rU fun i => .int (-i)) t) (.int (-n)) := fun H Q q => l H _ fun x H' s r => by
  cases r
  exact ⟨_, rfl, q _ _ s (.int _)⟩
theorem LayN.add {t t' : TE} {m n : Int} (l : LayN (Tv K) σ t (.int m)) (l' : LayN (Tv K) σ t' (.int n)) : LayN (Tv K) σ (tOp (rI0 fun i j => .int (i + j)) t t') (.int (m + n)) := fun H Q q => l H _ fun x H1 s r => l' H1 _ fun y H2 s2 r2 => by
  cases r
  cases r2
  exact ⟨_, _, rfl, rfl, q _ _ (s.trans s2) (.int _)⟩
theorem LayN.sub {t t' : TE} {m n : Int} (l : LayN (Tv K) σ t (.int m)) (l' : LayN (Tv K) σ t' (.int n)) : LayN (Tv K) σ (tOp (rI0 fun i j => .int (i - j)) t t') (.int (m - n)) := fun H Q q => l H _ fun x H1 s r => l' H1 _ fun y H2 s2 r2 => by
  cases r
  cases r2
  exact ⟨_, _, rfl, rfl, q _ _ (s.trans s2) (.int _)⟩
theorem LayN.eq12 : LayN (Tv K) σ (tOp rEq (tC (.int 1)) (tC (.int 2))) (.bool false) := fun H Q q => ⟨rfl, q _ _ (Same.refl H) (.bl false)⟩
theorem LayN.dw {t : TE} {d : PyData} (l : LayN (Tv K) σ t d) : LayN (Dw K) σ t d := l.impD fun _ _ r => .tv r
theorem LayN.dwl {ts : TA} {ns : List Int} (l : LayNA (Tv K) σ ts (ns.map .int)) (n : (ns.map PyData.int).length ≤ 100) : LayN (Dw K) σ (tLst ts) (.list (ns.map .int)) := LayN.lstP mono_tv l n fun G a xs e p => .lst (by rw [e, (tvl_of p).ints])
theorem LayN.dwd (m n : Int) : LayN (Dw K) σ (tDisp [(tC (.int m), tC (.int n))]) (.dict [(.int m, .int n)]) := fun H Q q p np => by
  refine ⟨upd_same, [(.inl m, .int n)], rfl, (by decide : 1 ≤ 15), q _ _ (fun b o e => ?_) (.dic (fr_of np upd_same fun _ z => by cases z))⟩
  rw [upd_ne (ne_of_none e np), upd_ne (ne_of_none e np)]
  exact e
theorem LayN.evt {t : TE} {d : PyData} (l : LayN (Tv K) σ t d) (h : isDc d = false) : LayN (Ev K) σ t d := l.impD fun _ _ r => .oth r.ty (by have z := kitDc (K := K) d; rw [h] at z; exact z)
theorem LayN.evl {ts : TA} {ds : List PyData} (l : LayNA (Tv K) σ ts ds) (n : ds.length ≤ 100) : LayN (Ev K) σ (tLst ts) (.list []) := LayN.lstP mono_tv l n fun G a xs e p => .oth (.base (.lst e)) (kitDc (.list []))
theorem keys_eq {G : Hp} : ∀ {xs : List V} {k : List L2.Key}, TvL K G xs (k.map keyD) → xs = k.map kV
  | _, [], h => by
    cases h
    rfl
  | _, k :: r, h => by
    cases h with
    | cons a l =>
      rw [keys_eq l]
      cases k <;> cases a <;> rfl
/-- what is built behind a new thing at p, and p written last -/
theorem same_put {H H2 : Hp} {p : Addr} {o o' : HO} (np : H p = none) (s : Same (upd H p o) H2) : Same H (upd H2 p o') := fun b x e => by
  have n := ne_of_none e np
  rw [upd_ne n]
  exact s _ _ ((upd_ne n).trans e)
theorem fr_put {H Hx H2 : Hp} {p : Addr} {o o' : HO} (np : H p = none) (s : Same (upd H p o) Hx) : Same (fr Hx H2) (fr H (upd H2 p o')) := fun b x e => by
  obtain ⟨a, b1, c⟩ := fr_at e
  have n : b ≠ p := fun z => by
    have y := s p o upd_same
    rw [z, y] at a
    cases a
  refine fr_of ?_ ((upd_ne n).trans b1) c
  have y := s.free a
  rwa [upd_ne n] at y
theorem LayN.ev1 {ts : TA} {tv : TE} {k : List L2.Key} {vd : PyData} (l : LayNA (Tv K) σ ts (k.map keyD)) (lv : LayN (Tv K) σ tv vd) (n : (k.map keyD).length ≤ 100) : LayN (Ev K) σ (tFrz (tDisp1 (tTup ts) tv)) (.dict [(.tuple (k.map keyD), vd)]) := fun H Q q p np => by
  refine l (upd H p (.dT [])) _ fun xs H1 s1 r1 => ⟨by rw [Paired.length r1]; exact Nat.le_trans n (by decide), fun b nb => lv _ _ fun y H2 s2 r2 => ?_⟩
  have s12 : Same (upd H p (.dT [])) H2 := (s1.trans (sub_same nb)).trans s2
  refine ⟨s12 _ _ upd_same, b, k, rfl, ?_, p, _, rfl, upd_same, .inr ⟨_, rfl⟩, fun sm o => ?_⟩
  · rw [← keys_eq (tvl_of r1)]
    exact s2 _ _ upd_same
  · rw [upd_upd]
    exact q _ _ (same_put np s12) (.dic ⟨o, _, fr_of np upd_same (fun _ z => by cases z), sm, .t (.cons ⟨rfl, r2.same (fr_put np (s1.trans (sub_same nb)))⟩ .nil)⟩)
theorem LayN.ev2 {ts ts' : TA} {tv tw : TE} {k l : List L2.Key} {vd wd : PyData} (la : LayNA (Tv K) σ ts (k.map keyD)) (lv : LayN (Tv K) σ tv vd) (lb : LayNA (Tv K) σ ts' (l.map keyD)) (lw : LayN (Tv K) σ tw wd) (n : (k.map keyD).length ≤ 100) (n2 : (l.map keyD).length ≤ 100) (kl : k ≠ l) :
    LayN (Ev K) σ (tFrz (tDisp2 (tTup ts) tv (tTup ts') tw)) (.dict [(.tuple (k.map keyD), vd), (.tuple (l.map keyD), wd)]) := fun H Q q p np => by
  refine la (upd H p (.dT [])) _ fun xs H1 s1 r1 => ⟨by rw [Paired.length r1]; exact Nat.le_trans n (by decide), fun b nb => lv _ _ fun y H2 s2 r2 => ?_⟩
  refine lb H2 _ fun zs H3 s3 r3 => ⟨by rw [Paired.length r3]; exact Nat.le_trans n2 (by decide), fun c nc => lw _ _ fun v H4 s4 r4 => ?_⟩
  have s12 : Same (upd H p (.dT [])) H2 := (s1.trans (sub_same nb)).trans s2
  have s14 : Same (upd H p (.dT [])) H4 := ((s12.trans s3).trans (sub_same nc)).trans s4
  have cp : c ≠ p := fun z => by
    rw [z, s3 _ _ (s12 _ _ upd_same)] at nc
    cases nc
  refine ⟨s14 _ _ upd_same, b, k, c, l, rfl, ?_, rfl, ?_, cp, p, _, rfl, upd_same, .inr ⟨_, rfl⟩, fun sm o => ?_⟩
  · rw [← keys_eq (tvl_of r1)]
    exact s4 _ _ (sub_same nc _ _ (s3 _ _ (s2 _ _ upd_same)))
  · rw [← keys_eq (tvl_of r3)]
    exact s4 _ _ upd_same
  · rw [upd_upd, upd_upd]
    have e0 : putK [(k, y)] l v = [(k, y), (l, v)] := by
      unfold putK
      simp [kl]
    rw [e0]
    exact q _ _ (same_put np s14) (.dic ⟨o, _, fr_of np upd_same (fun _ z => by cases z), sm, .t (.cons ⟨rfl, (r2.same (fr_up ((s3.trans (sub_same nc)).trans s4))).same (fr_put np (s1.trans (sub_same nb)))⟩ (.cons ⟨rfl, r4.same (fr_put np ((s12.trans s3).trans (sub_same nc)))⟩ .nil))⟩)
theorem LayN.evk {tv : TE} {k : L2.Key} {vd : PyData} (lv : LayN (Tv K) σ tv vd) : LayN (Ev K) σ (tFrz (tDisp [(tC (kV k), tv)])) (.dict [(keyD k, vd)]) := fun H Q q p np => by
  refine lv (upd H p (.dK [])) _ fun y H1 s1 r1 => ?_
  refine ⟨s1 _ _ upd_same, [(k, y)], rfl, (by show 1 ≤ 15; decide), p, _, rfl, upd_same, .inl ⟨_, rfl⟩, fun sm o => ?_⟩
  rw [upd_upd]
  exact q _ _ (same_put np s1) (.dic ⟨o, _, fr_of np upd_same (fun _ z => by cases z), sm, .k (r1.same (fr_put np (Same.refl _)))⟩)
theorem LayN.evS : LayN (Ev K) σ (tDispS (tTup (tCons (tC (.int 0)) (tCons (tC (.bl false)) (tCons (tC (.int 1)) tNil)))) (tC (.int 1))) (.dict [(.tuple [.int 0, .bool false, .int 1], .int 1)]) := fun H Q q p np => by
  refine ⟨by show 3 ≤ sizeLine; decide, fun b nb => ?_⟩
  have s1 := sub_same (o := .tup [V.int 0, V.bl false, V.int 1]) nb
  have nbp : b ≠ p := fun z => by rw [z, upd_same] at nb; cases nb
  refine ⟨s1 _ _ upd_same, b, rfl, upd_same, rfl, fun sm o hs t ep ex dat => ?_⟩
  have nH : H b = none := by rwa [upd_ne nbp] at nb
  exact q _ _ (same_put np s1) (.dic ⟨o, _, fr_of np upd_same (fun _ z => by cases z), sm, .s ex dat (fr_of nH ((upd_ne nbp).trans upd_same) fun _ z => by cases z)⟩)
theorem LayN.rwt {t : TE} {d : PyData} (l : LayN (Tv K) σ t d) : LayN (Rw K) σ t d := l.impD fun _ _ r => .inl r
theorem LayN.rwl {ts : TA} {ds : List PyData} (l : LayNA (Tv K) σ ts ds) (n : ds.length ≤ 100) : LayN (Rw K) σ (tLst ts) (.list []) := LayN.lstP mono_tv l n fun G a xs e p => .inr ⟨a, xs, rfl, e, rfl⟩
theorem LayN.tbt {t : TE} {d : PyData} (l : LayN (Tv K) σ t d) : LayN (Tb K) σ t d := l.impD fun _ _ r => .rw (.inl r)
theorem LayN.tbl {ts : TA} {ds : List PyData} (l : LayNA (Rw K) σ ts ds) (n : ds.length ≤ 100) : LayN (Tb K) σ (tLst ts) (.list []) := LayN.lstP mono_rw l n fun G a xs e p => .rw (.inr ⟨a, xs, rfl, e, rfl⟩)
theorem LayN.tbp {ts : TA} {ds : List PyData} (l : LayNA (Rw K) σ ts ds) (n : ds.length ≤ 100) : LayN (Tb K) σ (tTup ts) (.tuple ds) := LayN.tupP mono_rw l n fun G a xs e p => .tup (sqt_new e) p
theorem LayN.shwp {ts : TA} {ns : List Int} (l : LayNA (Tv K) σ ts (ns.map .int)) (n : (ns.map PyData.int).length ≤ 100) : LayN Shw σ (tTup ts) (.tuple (ns.map .int)) := LayN.tupP mono_tv l n fun G a xs e p => .tup (by rw [e, (tvl_of p).ints])
theorem LayN.shwl {ts : TA} {ns : List Int} (l : LayNA (Tv K) σ ts (ns.map .int)) (n : ns.length < 3) : LayN Shw σ (tLst ts) (.list (ns.map .int)) := LayN.lstP mono_tv l (by rw [List.length_map]; omega) fun G a xs e p => .lst (by rw [e, (tvl_of p).ints]) n
theorem LayN.shwe : LayN Shw σ tDNewK (.dict []) := fun H Q q p np => q _ _ (sub_same np) (.emp (fr_of np upd_same fun _ z => by cases z))
def isC : PyData → Bool
  | .list _ => false
  | .tuple _ => false
  | .dict _ => false
  | _ => true
theorem LayN.shwc {t : TE} {d : PyData} (l : LayN (Tv K) σ t d) (h : isC d = true) : LayN Shw σ t d := l.impD fun _ _ r => by
  cases r with
  | non => exact .non
  | bl b => exact .bl b
  | int i => exact .int i
  | str z => exact .str z
  | tup _ _ => exact absurd h Bool.false_ne_true
theorem LayN.shlt {t : TE} {d : PyData} (l : LayN (Tv K) σ t d) : LayN (Shl K) σ t d := l.impD fun _ _ r => r.shl
theorem LayN.shll {ts : TA} {ds : List PyData} (l : LayNA (Tv K) σ ts ds) (n : ds.length ≤ 100) : LayN (Shl K) σ (tLst ts) (.list []) := LayN.lstP mono_tv l n fun G a xs e p => ⟨.base (.lst e), fun _ z => by cases z⟩
theorem LayN.shle : LayN (Shl K) σ tDNewK (.dict []) := fun H Q q p np => q _ _ (sub_same np) ⟨.base (.dK (fr_of np upd_same fun _ z => by cases z)), fun _ z => by cases z⟩
end
/-! ### what is kept, apart from the pot and the tables -/
def mxu (u : Addr) (H : Hp) : Hp := fun b => if b = u then none else match H b with
  | some (.tbl _) => none
  | o => o
theorem mxu_of {u b : Addr} {H : Hp} {o : HO} (n : b ≠ u) (e : H b = some o) (k : ∀ ps, o ≠ .tbl ps) : mxu u H b = some o := by
  unfold mxu
  rw [if_neg n, e]
  cases o with
  | tbl ps => exact absurd rfl (k ps)
  | _ => rfl
theorem mxu_at {u b : Addr} {H : Hp} {o : HO} (e : mxu u H b = some o) : b ≠ u ∧ H b = some o ∧ ∀ ps, o ≠ .tbl ps := by
  unfold mxu at e
  by_cases z : b = u
  · rw [if_pos z] at e
    cases e
  · rw [if_neg z] at e
    cases h2 : H b with
    | none => rw [h2] at e; cases e
    | some x =>
      rw [h2] at e
      cases x with
      | tbl ps => cases e
      | _ =>
        cases e
        exact ⟨z, rfl, fun ps z => by cases z⟩
theorem mxu_u (u : Addr) (H : Hp) : mxu u H u = none := by
  unfold mxu
  rw [if_pos rfl]
theorem mxu_in {u : Addr} {H : Hp} : Same (mxu u H) H := fun b o e => (mxu_at e).2.1
theorem mxu_up {u : Addr} {H H' : Hp} (s : Same H H') : Same (mxu u H) (mxu u H') := fun b o e => let ⟨a, c, d⟩ := mxu_at e; mxu_of a (s _ _ c) d
theorem mxu_old {u : Addr} {H H' : Hp} (s : Old u H H') : Same (mxu u H) (mxu u H') := fun b o e => let ⟨a, c, d⟩ := mxu_at e; mxu_of a (s _ _ a c) d
theorem mxu_ext {u : Addr} {H H' : Hp} (s : LamX.ExtN H H') : Same (mxu u H) (mxu u H') := fun b o e => let ⟨a, c, d⟩ := mxu_at e; mxu_of a (s _ _ c d) d
theorem mxu_none {u b : Addr} {H : Hp} (n : H b = none) : mxu u H b = none := by
  unfold mxu
  by_cases z : b = u
  · rw [if_pos z]
  · rw [if_neg z, n]
theorem fr_mx {u : Addr} {H H' : Hp} (hu : H u ≠ none) : Same (fr H H') (mxu u H') := fun b o e => let ⟨a, c, d⟩ := fr_at e; mxu_of (fun z => hu (by rw [← z]; exact a)) c d
theorem urn_some {H : Hp} {u : Addr} (uu : Urn H u) : H u ≠ none := by
  obtain ⟨g, m, c, e⟩ := uu
  rw [e]
  exact fun z => by cases z
def LayF (Pr : Hp → Prop) (u : Addr) (R : Kd) (σ : L2.St) (t : TE) (d : PyData) : Prop := ∀ (H : Hp) (Q : VK), Pr H → (∀ x H', Same H H' → R (mxu u H') x d → Q x H') → t σ H Q
def LayFA (Pr : Hp → Prop) (u : Addr) (R : Kd) (σ : L2.St) (t : TA) (ds : List PyData) : Prop := ∀ (H : Hp) (Q : List V → Hp → Prop), Pr H → (∀ xs H', Same H H' → Paired (R (mxu u H')) xs ds → Q xs H') → t σ H Q
section
variable {σ : L2.St} {K : PySem.W.Frag} {Pr : Hp → Prop} {u : Addr} {R : Kd}
theorem LayF.of (m : Mono R) (h : ∀ H, Pr H → Urn H u) {t : TE} {d : PyData} (l : LayN R σ t d) : LayF Pr u R σ t d := fun H Q p q => l H Q fun x H' s r => q x H' s (m _ _ _ _ (fr_mx (urn_some (h H p))) r)
theorem LayFA.of (m : Mono R) (h : ∀ H, Pr H → Urn H u) {t : TA} {ds : List PyData} (l : LayNA R σ t ds) : LayFA Pr u R σ t ds := fun H Q p q => l H Q fun xs H' s r => q xs H' s (Paired.mapP r fun _ _ z => m _ _ _ _ (fr_mx (urn_some (h H p))) z)
theorem LayFA.nil : LayFA Pr u R σ tNil [] := fun H Q _ q => q _ _ (Same.refl H) .nil
theorem LayFA.cons (m : Mono R) (pm : ∀ H H', Same H H' → Pr H → Pr H') {t : TE} {ts : TA} {d : PyData} {ds : List PyData} (h : LayF Pr u R σ t d) (hs : LayFA Pr u R σ ts ds) : LayFA Pr u R σ (tCons t ts) (d :: ds) := fun H Q p q =>
  h H _ p fun x H1 s1 t1 => hs H1 _ (pm _ _ s1 p) fun xs H2 s2 t2 => q (x :: xs) H2 (s1.trans s2) (.cons (m _ _ _ _ (mxu_up s2) t1) t2)
theorem pickF (m : Mono R) {ts : TA} {ds : List PyData} (hs : LayFA Pr u R σ ts ds) (l : ds.length ≤ 100) (ne : ds ≠ []) {H : Hp} {Q : VK} (p : Pr H) (uu : Urn H u)
    (q : ∀ x d H', d ∈ ds → Urn H' u → Old u H H' → R (mxu u H') x d → Q x H') : ts σ H fun xs H1 => xs.length ≤ sizeLine ∧ ∀ b, H1 b = none → spSome ([.ref u, .ref b] ++ []) (upd H1 b (.lst xs)) Q E0 :=
  hs H _ p fun xs H1 s1 t1 => ⟨by rw [Paired.length t1]; exact Nat.le_trans l (by decide), fun b nb => by
    have lx : xs.length = ds.length := Paired.length t1
    have u1 := uu.same s1
    have bu : b ≠ u := urn_ne u1 nb
    refine ⟨u, b, xs, rfl, u1.same (sub_same nb), upd_same, bu, fun z => ?_, by omega, fun i v H2 ev u2 b2 => ?_⟩
    · rw [z] at lx
      exact ne (List.length_eq_zero_iff.mp lx.symm)
    · obtain ⟨d, ed, rd⟩ := pair_get t1 ev
      have o2 : Old u H1 H2 := (Old.of_same (sub_same nb)).trans (Old.of_but b2)
      exact q v d H2 (List.mem_of_getElem? ed) u2 ((Old.of_same s1).trans o2) (m _ _ _ _ (mxu_old o2) rd)⟩
end
end K09

/-! # what is drawn -/
namespace K09
open PySem PySem.Spec PyProof.Rows L2 TL NumText RZ
theorem paired_app {α β : Type} {F : α → β → Prop} : ∀ {xs zs : List α} {as bs : List β}, Paired F xs as → Paired F zs bs → Paired F (xs ++ zs) (as ++ bs)
  | _, _, _, _, .nil, h => h
  | _, _, _, _, .cons a t, h => .cons a (paired_app t h)
theorem lst_new {σ : L2.St} {R : Kd} {ts : TA} {ds : List PyData} (hs : LayNA R σ ts ds) (l : ds.length ≤ 50) {H : Hp} {Q : VK} (q : ∀ xs H1 b, Same H H1 → H1 b = none → Paired (R (fr H H1)) xs ds → Q (.ref b) (upd H1 b (.lst xs))) : tLst ts σ H Q :=
  hs H _ fun xs H1 s1 t1 => ⟨by rw [Paired.length t1]; exact Nat.le_trans l (by decide), fun b nb => q xs H1 b s1 nb t1⟩
section
variable {P : Program} {w : World} {K : PySem.W.Frag} {mg : Str → Option Value} {base : Heap}
/-- a value of a kind, one of a row of data -/
def spDraw (R : Kd) (L : List PyData) : Sp := fun vs H Q _ => ∃ u, vs = [.ref u] ∧ Urn H u ∧ ∀ x d H', d ∈ L → Urn H' u → Old u H H' → R (mxu u H') x d → Q x H'
abbrev s_lbad : Stmt := topS 65
theorem sc_lbad : FnScope ["_law_pot_here"] ["_law_pot_here"] (defScope s_lbad) := ⟨rfl, rfl, rfl, by decide +kernel, rfl, by decide +kernel, by decide +kernel⟩
def badL : List PyData := [.none, (.int 4), (.str "4"), (.list [(.int 4)]), (.tuple []), (.tuple [(.int 1)]), (.tuple [(.int 7)]), (.tuple [(.int 4), (.int 5)]), (.tuple [(.int 2), (.int 2), (.int 2), (.int 2)]), (.tuple [(.bool true), (.int 3)]), (.tuple [(.str "4")]), (.dict [((.int 4), (.int 1))]), (.tuple [(.tuple [(.int 4)])]), (.tuple [(.int 4), .none])]
theorem ok_lbad {f fs : Addr} {fd fds : FuncData} (T : Txt mg) (d : D K mg "_law_shapes" s_lbad ["_law_pot_here"] f fd) (ds : D K mg "_law_pick" s_pick ["_law_pot_here", "_law_items"] fs fds) (Gs : FnOk P w K mg base CX0 2 fs fds ["_law_pot_here", "_law_items"] spSome) :
    FnOk P w K mg base CX0 3 f fd ["_law_pot_here"] (spDraw (Dw K) badL) := by
  refine d.F.ok sc_lbad (fun vs H Q E h => ?_) (fun cdv A outer s H vs Q E hr h => ?_)
  · obtain ⟨u, rfl, _⟩ := h
    rfl
  · obtain ⟨u, rfl, uu, q⟩ := h
    refine ⟨_, pss_one (ps_ret (pe_call Gs hr (by rfl) ds.g ds.F.kp ds.b .nil pass0 (pa_cons (pv 0) (pa_cons (pe_lst (pa_cons pe_non (pa_cons pe_int (pa_cons pe_str (pa_cons (pe_lst (pa_cons pe_int pa_nil)) (pa_cons (pe_tup pa_nil) (pa_cons (pe_tup (pa_cons pe_int pa_nil)) (pa_cons (pe_tup (pa_cons pe_int pa_nil)) (pa_cons (pe_tup (pa_cons pe_int (pa_cons pe_int pa_nil))) (pa_cons (pe_tup (pa_cons pe_int (pa_cons pe_int (pa_cons pe_int (pa_cons pe_int pa_nil))))) (pa_cons (pe_tup (pa_cons pe_bl (pa_cons pe_int pa_nil))) (pa_cons (pe_tup (pa_cons pe_str pa_nil)) (pa_cons (pe_disp (pps_cons pe_int pe_int pps_nil) (by rfl) (by rfl) (fun z => by cases z) (by decide)) (pa_cons (pe_tup (pa_cons (pe_tup (pa_cons pe_int pa_nil)) pa_nil)) (pa_cons (pe_tup (pa_cons pe_int (pa_cons pe_non pa_nil))) pa_nil))))))))))))))) pa_nil)))), ?_⟩
    have la : ∀ σ, LayNA (Dw K) σ _ badL := fun σ => (LayNA.cons mono_dw (LayN.dw LayN.non) (LayNA.cons mono_dw (LayN.dw (LayN.int 4)) (LayNA.cons mono_dw (LayN.dw (LayN.str "4")) (LayNA.cons mono_dw (LayN.dwl (ns := [4]) (LayNA.cons mono_tv (LayN.int 4) LayNA.nil) (by decide)) (LayNA.cons mono_dw (LayN.dw (LayN.tup LayNA.nil (by decide))) (LayNA.cons mono_dw (LayN.dw (LayN.tup (LayNA.cons mono_tv (LayN.int 1) LayNA.nil) (by decide))) (LayNA.cons mono_dw (LayN.dw (LayN.tup (LayNA.cons mono_tv (LayN.int 7) LayNA.nil) (by decide))) (LayNA.cons mono_dw (LayN.dw (LayN.tup (LayNA.cons mono_tv (LayN.int 4) (LayNA.cons mono_tv (LayN.int 5) LayNA.nil)) (by decide))) (LayNA.cons mono_dw (LayN.dw (LayN.tup (LayNA.cons mono_tv (LayN.int 2) (LayNA.cons mono_tv (LayN.int 2) (LayNA.cons mono_tv (LayN.int 2) (LayNA.cons mono_tv (LayN.int 2) LayNA.nil)))) (by decide))) (LayNA.cons mono_dw (LayN.dw (LayN.tup (LayNA.cons mono_tv (LayN.bl true) (LayNA.cons mono_tv (LayN.int 3) LayNA.nil)) (by decide))) (LayNA.cons mono_dw (LayN.dw (LayN.tup (LayNA.cons mono_tv (LayN.str "4") LayNA.nil) (by decide))) (LayNA.cons mono_dw (LayN.dwd 4 1) (LayNA.cons mono_dw (LayN.dw (LayN.tup (LayNA.cons mono_tv (LayN.tup (LayNA.cons mono_tv (LayN.int 4) LayNA.nil) (by decide)) LayNA.nil) (by decide))) (LayNA.cons mono_dw (LayN.dw (LayN.tup (LayNA.cons mono_tv (LayN.int 4) (LayNA.cons mono_tv LayN.non LayNA.nil)) (by decide))) LayNA.nil))))))))))))))
    exact ⟨_, rfl, pickF (Pr := fun H => Urn H u) mono_dw (LayFA.of mono_dw (fun _ h => h) (la _)) (by decide) (List.cons_ne_nil _ _) uu uu q⟩
abbrev s_lnoe : Stmt := topS 66
theorem sc_lnoe : FnScope ["_law_pot_here", "_law_some"] ["_law_pot_here"] (defScope s_lnoe) := ⟨rfl, rfl, rfl, by decide +kernel, rfl, by decide +kernel, by decide +kernel⟩
def evL1 : List PyData := [.none, (.tuple []), (.int 0), (.str "x"), (.list []), (.dict [((.tuple [(.int 0), (.int 0)]), (.int 1))]), (.dict [((.tuple [(.int 0), (.int 1), (.int 1)]), (.int 1))]), (.dict [((.tuple [(.int 0), (.int 2), (.int 1)]), (.int 1))]), (.dict [((.tuple [(.int 1), (.int 0), (.int 1)]), (.int 1))]), (.dict [((.tuple [(.int 0), (.int 0), (.int 4)]), (.int 1))]), (.dict [((.tuple [(.int 0), (.int 0), (.int 1)]), .none)])]
def evL2 : List PyData := [(.dict [((.tuple [(.int 0), (.int 0), (.int 1)]), (.bool true))]), (.dict [((.tuple [(.int 0), (.int 0), (.int 1)]), (.int (10 ^ (60 : Int).toNat)))]), (.dict [((.tuple [(.int 0), (.int 0), (.int 1)]), (.str "1"))]), (.dict [((.int 0), (.int 1))]), (.dict [((.tuple [(.int 0), (.int 0), (.int 1)]), (.int 1)), ((.tuple [(.int 0), (.int 1), (.int 0)]), (.int 0))]), (.dict [((.tuple [(.int 0), (.bool false), (.int 1)]), (.int 1))]), (.dict [((.str "a"), (.int 2))])]
theorem ok_lnoe {f fs : Addr} {fd fds : FuncData} (T : Txt mg) (d : D K mg "_law_no_entries" s_lnoe ["_law_pot_here"] f fd) (ds : D K mg "_law_pick" s_pick ["_law_pot_here", "_law_items"] fs fds) (Gs : FnOk P w K mg base CX0 2 fs fds ["_law_pot_here", "_law_items"] spSome) :
    FnOk P w K mg base CX0 3 f fd ["_law_pot_here"] (spDraw (Ev K) (evL1 ++ evL2)) := by
  refine d.F.ok sc_lnoe (fun vs H Q E h => ?_) (fun cdv A outer s H vs Q E hr h => ?_)
  · obtain ⟨u, rfl, _⟩ := h
    rfl
  · obtain ⟨u, rfl, uu, q⟩ := h
    have un1 : (A.deeper (envOfC "_law_no_entries" (defScope s_lnoe) s.heap.objs.size f cdv)).units + 1 < cLine := by have := hr.un; omega
    have un8 : (A.deeper (envOfC "_law_no_entries" (defScope s_lnoe) s.heap.objs.size f cdv)).units + 8 < cLine := by have := hr.un; omega
    refine ⟨_, pss_cons (ps_set (i := 1) sc_lnoe.nd rfl (.inl rfl) (pe_lst (pa_cons pe_non (pa_cons (pe_tup pa_nil) (pa_cons pe_int (pa_cons pe_str (pa_cons (pe_lst pa_nil) (pa_cons (pe_frz (pe_disp1 un1 (pe_tup (pa_cons pe_int (pa_cons pe_int pa_nil))) pe_int)) (pa_cons (pe_frz (pe_disp1 un1 (pe_tup (pa_cons pe_int (pa_cons pe_int (pa_cons pe_int pa_nil)))) pe_int)) (pa_cons (pe_frz (pe_disp1 un1 (pe_tup (pa_cons pe_int (pa_cons pe_int (pa_cons pe_int pa_nil)))) pe_int)) (pa_cons (pe_frz (pe_disp1 un1 (pe_tup (pa_cons pe_int (pa_cons pe_int (pa_cons pe_int pa_nil)))) pe_int)) (pa_cons (pe_frz (pe_disp1 un1 (pe_tup (pa_cons pe_int (pa_cons pe_int (pa_cons pe_int pa_nil)))) pe_int)) (pa_cons (pe_frz (pe_disp1 un1 (pe_tup (pa_cons pe_int (pa_cons pe_int (pa_cons pe_int pa_nil)))) pe_non)) pa_nil)))))))))))))
      (pss_cons (ps_set (i := 1) sc_lnoe.nd rfl (.inl rfl) (pe_op op_cat (pv 1) (pe_lst (pa_cons (pe_frz (pe_disp1 un1 (pe_tup (pa_cons pe_int (pa_cons pe_int (pa_cons pe_int pa_nil)))) pe_bl)) (pa_cons (pe_frz (pe_disp1 un1 (pe_tup (pa_cons pe_int (pa_cons pe_int (pa_cons pe_int pa_nil)))) (pe_op op_powW pe_int pe_int))) (pa_cons (pe_frz (pe_disp1 un1 (pe_tup (pa_cons pe_int (pa_cons pe_int (pa_cons pe_int pa_nil)))) pe_str)) (pa_cons (pe_frz (pe_disp (pps_cons pe_int pe_int pps_nil) (by rfl) (by rfl) (fun z => by cases z) (by decide))) (pa_cons (pe_frz (pe_disp2 un1 (pe_tup (pa_cons pe_int (pa_cons pe_int (pa_cons pe_int pa_nil)))) pe_int (pe_tup (pa_cons pe_int (pa_cons pe_int (pa_cons pe_int pa_nil)))) pe_int)) (pa_cons (pe_dispS un8 (pe_tup (pa_cons pe_int (pa_cons pe_bl (pa_cons pe_int pa_nil)))) pe_int) (pa_cons (pe_frz (pe_disp (pps_cons pe_str pe_int pps_nil) (by rfl) (by rfl) (fun z => by cases z) (by decide))) pa_nil))))))))))
      (pss_one (ps_ret (pe_call Gs hr (by rfl) ds.g ds.F.kp ds.b .nil pass0 (pa_cons (pv 0) (pa_cons (pv 1) pa_nil)))))), ?_⟩
    have la : ∀ σ, LayNA (Ev K) σ _ evL1 := fun σ => (LayNA.cons mono_ev (LayN.evt LayN.non (by decide +kernel)) (LayNA.cons mono_ev (LayN.evt (LayN.tup LayNA.nil (by decide)) (by decide +kernel)) (LayNA.cons mono_ev (LayN.evt (LayN.int 0) (by decide +kernel)) (LayNA.cons mono_ev (LayN.evt (LayN.str "x") (by decide +kernel)) (LayNA.cons mono_ev (LayN.evl LayNA.nil (by decide)) (LayNA.cons mono_ev (LayN.ev1 (k := [.inl 0, .inl 0]) (LayNA.cons mono_tv (LayN.int 0) (LayNA.cons mono_tv (LayN.int 0) LayNA.nil)) (LayN.int 1) (by decide)) (LayNA.cons mono_ev (LayN.ev1 (k := [.inl 0, .inl 1, .inl 1]) (LayNA.cons mono_tv (LayN.int 0) (LayNA.cons mono_tv (LayN.int 1) (LayNA.cons mono_tv (LayN.int 1) LayNA.nil))) (LayN.int 1) (by decide)) (LayNA.cons mono_ev (LayN.ev1 (k := [.inl 0, .inl 2, .inl 1]) (LayNA.cons mono_tv (LayN.int 0) (LayNA.cons mono_tv (LayN.int 2) (LayNA.cons mono_tv (LayN.int 1) LayNA.nil))) (LayN.int 1) (by decide)) (LayNA.cons mono_ev (LayN.ev1 (k := [.inl 1, .inl 0, .inl 1]) (LayNA.cons mono_tv (LayN.int 1) (LayNA.cons mono_tv (LayN.int 0) (LayNA.cons mono_tv (LayN.int 1) LayNA.nil))) (LayN.int 1) (by decide)) (LayNA.cons mono_ev (LayN.ev1 (k := [.inl 0, .inl 0, .inl 4]) (LayNA.cons mono_tv (LayN.int 0) (LayNA.cons mono_tv (LayN.int 0) (LayNA.cons mono_tv (LayN.int 4) LayNA.nil))) (LayN.int 1) (by decide)) (LayNA.cons mono_ev (LayN.ev1 (k := [.inl 0, .inl 0, .inl 1]) (LayNA.cons mono_tv (LayN.int 0) (LayNA.cons mono_tv (LayN.int 0) (LayNA.cons mono_tv (LayN.int 1) LayNA.nil))) LayN.non (by decide)) LayNA.nil)))))))))))
    have lb : ∀ σ, LayNA (Ev K) σ _ evL2 := fun σ => (LayNA.cons mono_ev (LayN.ev1 (k := [.inl 0, .inl 0, .inl 1]) (LayNA.cons mono_tv (LayN.int 0) (LayNA.cons mono_tv (LayN.int 0) (LayNA.cons mono_tv (LayN.int 1) LayNA.nil))) (LayN.bl true) (by decide)) (LayNA.cons mono_ev (LayN.ev1 (k := [.inl 0, .inl 0, .inl 1]) (LayNA.cons mono_tv (LayN.int 0) (LayNA.cons mono_tv (LayN.int 0) (LayNA.cons mono_tv (LayN.int 1) LayNA.nil))) (LayN.pow 10 60 ⟨by decide, by decide +kernel⟩) (by decide)) (LayNA.cons mono_ev (LayN.ev1 (k := [.inl 0, .inl 0, .inl 1]) (LayNA.cons mono_tv (LayN.int 0) (LayNA.cons mono_tv (LayN.int 0) (LayNA.cons mono_tv (LayN.int 1) LayNA.nil))) (LayN.str "1") (by decide)) (LayNA.cons mono_ev (LayN.evk (k := .inl 0) (LayN.int 1)) (LayNA.cons mono_ev (LayN.ev2 (k := [.inl 0, .inl 0, .inl 1]) (l := [.inl 0, .inl 1, .inl 0]) (LayNA.cons mono_tv (LayN.int 0) (LayNA.cons mono_tv (LayN.int 0) (LayNA.cons mono_tv (LayN.int 1) LayNA.nil))) (LayN.int 1) (LayNA.cons mono_tv (LayN.int 0) (LayNA.cons mono_tv (LayN.int 1) (LayNA.cons mono_tv (LayN.int 0) LayNA.nil))) (LayN.int 0) (by decide) (by decide) (by decide)) (LayNA.cons mono_ev LayN.evS (LayNA.cons mono_ev (LayN.evk (k := .inr "a") (LayN.int 2)) LayNA.nil)))))))
    have n1 : evL1.length ≤ 50 := by decide
    have n2 : evL2.length ≤ 50 := by decide
    dsimp only [tSeq, tAsg]
    refine lst_new (la _) n1 fun xs H1 a s1 na t1 => ?_
    refine ⟨_, rfl, ?_⟩
    refine lst_new (lb _) n2 fun zs H3 c s3 nc t3 => ?_
    have m1 := Paired.length t1
    have m3 := Paired.length t3
    refine ⟨a, c, xs, zs, rfl, rfl, sub_same nc _ _ (s3 _ _ upd_same), upd_same, by rw [sizeLine_eq]; omega, fun p np => ?_⟩
    have s02 := s1.trans (sub_same (o := .lst xs) na)
    have s24 : Same (upd H1 a (.lst xs)) (upd (upd H3 c (.lst zs)) p (.lst (xs ++ zs))) := (s3.trans (sub_same nc)).trans (sub_same np)
    have s04 := s02.trans s24
    have u4 := uu.same s04
    have hu := urn_some uu
    have all : Paired (Ev K (fr H (upd (upd H3 c (.lst zs)) p (.lst (xs ++ zs))))) (xs ++ zs) (evL1 ++ evL2) := paired_app (Paired.mapP t1 fun _ _ z => mono_ev _ _ _ _ (fr_up ((sub_same na).trans s24)) z) (Paired.mapP t3 fun _ _ z => mono_ev _ _ _ _ ((fr_up ((sub_same nc).trans (sub_same np))).trans (fr_low s02)) z)
    refine ⟨_, rfl, _, rfl, u, p, _, rfl, u4, upd_same, urn_ne (uu.same (s02.trans (s3.trans (sub_same nc)))) np, ?_, ?_, fun i v H5 ev5 u5 b5 => ?_⟩
    · intro z
      have y := congrArg List.length z
      rw [List.length_append, m1] at y
      have y1 : evL1.length + zs.length = 0 := y
      have y2 : 0 < evL1.length := by decide
      omega
    · rw [List.length_append]
      omega
    · obtain ⟨d, ed, rd⟩ := pair_get all ev5
      have o5 : Old u H H5 := (Old.of_same s04).trans (Old.of_but b5)
      exact q v d H5 (List.mem_of_getElem? ed) u5 o5 (mono_ev _ _ _ _ ((fr_mx hu).trans (mxu_old (Old.of_but b5))) rd)
abbrev s_lnot : Stmt := topS 67
theorem sc_lnot : FnScope ["_law_pot_here", "_law_some"] ["_law_pot_here"] (defScope s_lnot) := ⟨rfl, rfl, rfl, by decide +kernel, rfl, by decide +kernel, by decide +kernel⟩
def tbL1 : List PyData := [.none, (.tuple []), (.tuple [(.tuple [(.int 1)])]), (.tuple [(.tuple [(.int 1), (.int 2)]), (.tuple [(.int 1), (.int 1)])]), (.tuple [(.tuple [(.int 1), (.int 2)]), (.tuple [(.int 0), (.int 2)])]), (.tuple [(.tuple [(.int 1), (.int 2)])]), (.tuple [(.tuple [(.int 1), (.int 2)]), (.tuple [(.int 0), (.int 1)]), (.tuple [(.int 0), (.int 0)])]), (.list []), (.tuple [(.tuple [(.int 1), (.int 2)]), (.list [])])]
def tbL2 : List PyData := [(.tuple [(.tuple [(.bool true), (.int 2)]), (.tuple [(.int 0), (.int 1)])]), (.tuple [(.tuple [(.int 1), .none]), (.tuple [(.int 0), (.int 1)])]), (.tuple [(.tuple [(.int 1), (.int (10 ^ (60 : Int).toNat))]), (.tuple [(.int 0), (.int 1)])]), (.tuple [(.tuple [(.int 1), (.int 2), (.int 3)]), (.tuple [(.int 0), (.int 1)]), (.tuple [(.int 0), (.int 0), (.int 1)])]), (.str "12"), (.int 5), (.tuple [(.tuple [(.int 1), (.int 2)]), (.tuple [(.bool false), (.int 1)])])]
theorem ok_lnot {f fs : Addr} {fd fds : FuncData} (T : Txt mg) (d : D K mg "_law_no_table" s_lnot ["_law_pot_here"] f fd) (ds : D K mg "_law_pick" s_pick ["_law_pot_here", "_law_items"] fs fds) (Gs : FnOk P w K mg base CX0 2 fs fds ["_law_pot_here", "_law_items"] spSome) :
    FnOk P w K mg base CX0 3 f fd ["_law_pot_here"] (spDraw (Tb K) (tbL1 ++ tbL2)) := by
  refine d.F.ok sc_lnot (fun vs H Q E h => ?_) (fun cdv A outer s H vs Q E hr h => ?_)
  · obtain ⟨u, rfl, _⟩ := h
    rfl
  · obtain ⟨u, rfl, uu, q⟩ := h
    have un1 : (A.deeper (envOfC "_law_no_table" (defScope s_lnot) s.heap.objs.size f cdv)).units + 1 < cLine := by have := hr.un; omega
    have un8 : (A.deeper (envOfC "_law_no_table" (defScope s_lnot) s.heap.objs.size f cdv)).units + 8 < cLine := by have := hr.un; omega
    refine ⟨_, pss_cons (ps_set (i := 1) sc_lnot.nd rfl (.inl rfl) (pe_lst (pa_cons pe_non (pa_cons (pe_tup pa_nil) (pa_cons (pe_tup (pa_cons (pe_tup (pa_cons pe_int pa_nil)) pa_nil)) (pa_cons (pe_tup (pa_cons (pe_tup (pa_cons pe_int (pa_cons pe_int pa_nil))) (pa_cons (pe_tup (pa_cons pe_int (pa_cons pe_int pa_nil))) pa_nil))) (pa_cons (pe_tup (pa_cons (pe_tup (pa_cons pe_int (pa_cons pe_int pa_nil))) (pa_cons (pe_tup (pa_cons pe_int (pa_cons pe_int pa_nil))) pa_nil))) (pa_cons (pe_tup (pa_cons (pe_tup (pa_cons pe_int (pa_cons pe_int pa_nil))) pa_nil)) (pa_cons (pe_tup (pa_cons (pe_tup (pa_cons pe_int (pa_cons pe_int pa_nil))) (pa_cons (pe_tup (pa_cons pe_int (pa_cons pe_int pa_nil))) (pa_cons (pe_tup (pa_cons pe_int (pa_cons pe_int pa_nil))) pa_nil)))) (pa_cons (pe_lst (pa_cons (pe_lst (pa_cons pe_int (pa_cons pe_int pa_nil))) (pa_cons (pe_lst (pa_cons pe_int (pa_cons pe_int pa_nil))) pa_nil))) (pa_cons (pe_tup (pa_cons (pe_tup (pa_cons pe_int (pa_cons pe_int pa_nil))) (pa_cons (pe_lst (pa_cons pe_int (pa_cons pe_int pa_nil))) pa_nil))) pa_nil)))))))))))
      (pss_cons (ps_set (i := 1) sc_lnot.nd rfl (.inl rfl) (pe_op op_cat (pv 1) (pe_lst (pa_cons (pe_tup (pa_cons (pe_tup (pa_cons pe_bl (pa_cons pe_int pa_nil))) (pa_cons (pe_tup (pa_cons pe_int (pa_cons pe_int pa_nil))) pa_nil))) (pa_cons (pe_tup (pa_cons (pe_tup (pa_cons pe_int (pa_cons pe_non pa_nil))) (pa_cons (pe_tup (pa_cons pe_int (pa_cons pe_int pa_nil))) pa_nil))) (pa_cons (pe_tup (pa_cons (pe_tup (pa_cons pe_int (pa_cons (pe_op op_powW pe_int pe_int) pa_nil))) (pa_cons (pe_tup (pa_cons pe_int (pa_cons pe_int pa_nil))) pa_nil))) (pa_cons (pe_tup (pa_cons (pe_tup (pa_cons pe_int (pa_cons pe_int (pa_cons pe_int pa_nil)))) (pa_cons (pe_tup (pa_cons pe_int (pa_cons pe_int pa_nil))) (pa_cons (pe_tup (pa_cons pe_int (pa_cons pe_int (pa_cons pe_int pa_nil)))) pa_nil)))) (pa_cons pe_str (pa_cons pe_int (pa_cons (pe_tup (pa_cons (pe_tup (pa_cons pe_int (pa_cons pe_int pa_nil))) (pa_cons (pe_tup (pa_cons pe_bl (pa_cons pe_int pa_nil))) pa_nil))) pa_nil))))))))))
      (pss_one (ps_ret (pe_call Gs hr (by rfl) ds.g ds.F.kp ds.b .nil pass0 (pa_cons (pv 0) (pa_cons (pv 1) pa_nil)))))), ?_⟩
    have la : ∀ σ, LayNA (Tb K) σ _ tbL1 := fun σ => (LayNA.cons mono_tb (LayN.tbt LayN.non) (LayNA.cons mono_tb (LayN.tbt (LayN.tup LayNA.nil (by decide))) (LayNA.cons mono_tb (LayN.tbt (LayN.tup (LayNA.cons mono_tv (LayN.tup (LayNA.cons mono_tv (LayN.int 1) LayNA.nil) (by decide)) LayNA.nil) (by decide))) (LayNA.cons mono_tb (LayN.tbt (LayN.tup (LayNA.cons mono_tv (LayN.tup (LayNA.cons mono_tv (LayN.int 1) (LayNA.cons mono_tv (LayN.int 2) LayNA.nil)) (by decide)) (LayNA.cons mono_tv (LayN.tup (LayNA.cons mono_tv (LayN.int 1) (LayNA.cons mono_tv (LayN.int 1) LayNA.nil)) (by decide)) LayNA.nil)) (by decide))) (LayNA.cons mono_tb (LayN.tbt (LayN.tup (LayNA.cons mono_tv (LayN.tup (LayNA.cons mono_tv (LayN.int 1) (LayNA.cons mono_tv (LayN.int 2) LayNA.nil)) (by decide)) (LayNA.cons mono_tv (LayN.tup (LayNA.cons mono_tv (LayN.int 0) (LayNA.cons mono_tv (LayN.int 2) LayNA.nil)) (by decide)) LayNA.nil)) (by decide))) (LayNA.cons mono_tb (LayN.tbt (LayN.tup (LayNA.cons mono_tv (LayN.tup (LayNA.cons mono_tv (LayN.int 1) (LayNA.cons mono_tv (LayN.int 2) LayNA.nil)) (by decide)) LayNA.nil) (by decide))) (LayNA.cons mono_tb (LayN.tbt (LayN.tup (LayNA.cons mono_tv (LayN.tup (LayNA.cons mono_tv (LayN.int 1) (LayNA.cons mono_tv (LayN.int 2) LayNA.nil)) (by decide)) (LayNA.cons mono_tv (LayN.tup (LayNA.cons mono_tv (LayN.int 0) (LayNA.cons mono_tv (LayN.int 1) LayNA.nil)) (by decide)) (LayNA.cons mono_tv (LayN.tup (LayNA.cons mono_tv (LayN.int 0) (LayNA.cons mono_tv (LayN.int 0) LayNA.nil)) (by decide)) LayNA.nil))) (by decide))) (LayNA.cons mono_tb (LayN.tbl (LayNA.cons mono_rw (LayN.rwl (LayNA.cons mono_tv (LayN.int 1) (LayNA.cons mono_tv (LayN.int 2) LayNA.nil)) (by decide)) (LayNA.cons mono_rw (LayN.rwl (LayNA.cons mono_tv (LayN.int 0) (LayNA.cons mono_tv (LayN.int 1) LayNA.nil)) (by decide)) LayNA.nil)) (by decide)) (LayNA.cons mono_tb (LayN.tbp (LayNA.cons mono_rw (LayN.rwt (LayN.tup (LayNA.cons mono_tv (LayN.int 1) (LayNA.cons mono_tv (LayN.int 2) LayNA.nil)) (by decide))) (LayNA.cons mono_rw (LayN.rwl (LayNA.cons mono_tv (LayN.int 0) (LayNA.cons mono_tv (LayN.int 1) LayNA.nil)) (by decide)) LayNA.nil)) (by decide)) LayNA.nil)))))))))
    have lb : ∀ σ, LayNA (Tb K) σ _ tbL2 := fun σ => (LayNA.cons mono_tb (LayN.tbt (LayN.tup (LayNA.cons mono_tv (LayN.tup (LayNA.cons mono_tv (LayN.bl true) (LayNA.cons mono_tv (LayN.int 2) LayNA.nil)) (by decide)) (LayNA.cons mono_tv (LayN.tup (LayNA.cons mono_tv (LayN.int 0) (LayNA.cons mono_tv (LayN.int 1) LayNA.nil)) (by decide)) LayNA.nil)) (by decide))) (LayNA.cons mono_tb (LayN.tbt (LayN.tup (LayNA.cons mono_tv (LayN.tup (LayNA.cons mono_tv (LayN.int 1) (LayNA.cons mono_tv LayN.non LayNA.nil)) (by decide)) (LayNA.cons mono_tv (LayN.tup (LayNA.cons mono_tv (LayN.int 0) (LayNA.cons mono_tv (LayN.int 1) LayNA.nil)) (by decide)) LayNA.nil)) (by decide))) (LayNA.cons mono_tb (LayN.tbt (LayN.tup (LayNA.cons mono_tv (LayN.tup (LayNA.cons mono_tv (LayN.int 1) (LayNA.cons mono_tv (LayN.pow 10 60 ⟨by decide, by decide +kernel⟩) LayNA.nil)) (by decide)) (LayNA.cons mono_tv (LayN.tup (LayNA.cons mono_tv (LayN.int 0) (LayNA.cons mono_tv (LayN.int 1) LayNA.nil)) (by decide)) LayNA.nil)) (by decide))) (LayNA.cons mono_tb (LayN.tbt (LayN.tup (LayNA.cons mono_tv (LayN.tup (LayNA.cons mono_tv (LayN.int 1) (LayNA.cons mono_tv (LayN.int 2) (LayNA.cons mono_tv (LayN.int 3) LayNA.nil))) (by decide)) (LayNA.cons mono_tv (LayN.tup (LayNA.cons mono_tv (LayN.int 0) (LayNA.cons mono_tv (LayN.int 1) LayNA.nil)) (by decide)) (LayNA.cons mono_tv (LayN.tup (LayNA.cons mono_tv (LayN.int 0) (LayNA.cons mono_tv (LayN.int 0) (LayNA.cons mono_tv (LayN.int 1) LayNA.nil))) (by decide)) LayNA.nil))) (by decide))) (LayNA.cons mono_tb (LayN.tbt (LayN.str "12")) (LayNA.cons mono_tb (LayN.tbt (LayN.int 5)) (LayNA.cons mono_tb (LayN.tbt (LayN.tup (LayNA.cons mono_tv (LayN.tup (LayNA.cons mono_tv (LayN.int 1) (LayNA.cons mono_tv (LayN.int 2) LayNA.nil)) (by decide)) (LayNA.cons mono_tv (LayN.tup (LayNA.cons mono_tv (LayN.bl false) (LayNA.cons mono_tv (LayN.int 1) LayNA.nil)) (by decide)) LayNA.nil)) (by decide))) LayNA.nil)))))))
    have n1 : tbL1.length ≤ 50 := by decide
    have n2 : tbL2.length ≤ 50 := by decide
    dsimp only [tSeq, tAsg]
    refine lst_new (la _) n1 fun xs H1 a s1 na t1 => ?_
    refine ⟨_, rfl, ?_⟩
    refine lst_new (lb _) n2 fun zs H3 c s3 nc t3 => ?_
    have m1 := Paired.length t1
    have m3 := Paired.length t3
    refine ⟨a, c, xs, zs, rfl, rfl, sub_same nc _ _ (s3 _ _ upd_same), upd_same, by rw [sizeLine_eq]; omega, fun p np => ?_⟩
    have s02 := s1.trans (sub_same (o := .lst xs) na)
    have s24 : Same (upd H1 a (.lst xs)) (upd (upd H3 c (.lst zs)) p (.lst (xs ++ zs))) := (s3.trans (sub_same nc)).trans (sub_same np)
    have s04 := s02.trans s24
    have u4 := uu.same s04
    have hu := urn_some uu
    have all : Paired (Tb K (fr H (upd (upd H3 c (.lst zs)) p (.lst (xs ++ zs))))) (xs ++ zs) (tbL1 ++ tbL2) := paired_app (Paired.mapP t1 fun _ _ z => mono_tb _ _ _ _ (fr_up ((sub_same na).trans s24)) z) (Paired.mapP t3 fun _ _ z => mono_tb _ _ _ _ ((fr_up ((sub_same nc).trans (sub_same np))).trans (fr_low s02)) z)
    refine ⟨_, rfl, _, rfl, u, p, _, rfl, u4, upd_same, urn_ne (uu.same (s02.trans (s3.trans (sub_same nc)))) np, ?_, ?_, fun i v H5 ev5 u5 b5 => ?_⟩
    · intro z
      have y := congrArg List.length z
      rw [List.length_append, m1] at y
      have y1 : tbL1.length + zs.length = 0 := y
      have y2 : 0 < tbL1.length := by decide
      omega
    · rw [List.length_append]
      omega
    · obtain ⟨d, ed, rd⟩ := pair_get all ev5
      have o5 : Old u H H5 := (Old.of_same s04).trans (Old.of_but b5)
      exact q v d H5 (List.mem_of_getElem? ed) u5 o5 (mono_tb _ _ _ _ ((fr_mx hu).trans (mxu_old (Old.of_but b5))) rd)
end
theorem bad_ok : ∀ d ∈ badL, isSh d = false := by decide +kernel
def evOk : PyData → Bool
  | .dict pds => !enD [4] pds && decide (pds.length ≤ 100)
  | _ => true
theorem ev_ok : ∀ d ∈ evL1 ++ evL2, evOk d = true := by decide +kernel
/-- no table, neither alone nor behind one of two rows -/
def tbOk (d : PyData) : Bool := (!sqD d || (!isSh (.tuple [.int (lenD d)]) && !isSh (.tuple [.int 2, .int (lenD d)]))) && (match d with
  | .tuple es => decide (es.length ≤ 100)
  | _ => true)
theorem tb_ok : ∀ d ∈ tbL1 ++ tbL2, tbOk d = true := by decide +kernel
end K09

/-! # the words told; what is made -/
namespace K09
open PySem PySem.Spec PyProof.Rows L2 TL NumText RZ LamX
/-- all but the pot and the tables stays -/
def Fwd (u : Addr) (H H' : Hp) : Prop := ∀ b o, b ≠ u → (∀ ps, o ≠ .tbl ps) → H b = some o → H' b = some o
theorem Fwd.ext {u : Addr} {H H1 H2 : Hp} (f : Fwd u H H1) (o : ExtN H1 H2) : Fwd u H H2 := fun b ob n t e => o _ _ (f b ob n t e) t
theorem Fwd.old {u : Addr} {H H1 H2 : Hp} (f : Fwd u H H1) (o : Old u H1 H2) : Fwd u H H2 := fun b ob n t e => o _ _ n (f b ob n t e)
theorem Fwd.trans {u : Addr} {H H1 H2 : Hp} (f : Fwd u H H1) (o : Fwd u H1 H2) : Fwd u H H2 := fun b ob n t e => o b ob n t (f b ob n t e)
theorem tabs_old {T : List (Addr × Str)} {H H' : Hp} {u : Addr} (hu : Urn H u) (t : Tabs T H) (o : Old u H H') : Tabs T H' := fun p m => by
  obtain ⟨g, mm, c, e⟩ := hu
  obtain ⟨ps, h1, h2, h3⟩ := t p m
  refine ⟨ps, o _ _ (fun z => by rw [z, e] at h1; cases h1) h1, h2, fun pos cv hc => ?_⟩
  obtain ⟨k, e1, e2⟩ := h3 pos cv hc
  exact ⟨k, e1, o _ _ (fun z => by rw [z, e] at e2; cases e2) e2⟩
/-- the words told so far stand at L; what is kept stands in G -/
structure St (TT : List (Addr × Str)) (u L : Addr) (G H0 Z : Hp) (ws : List Str) : Prop where
  g : Same G Z
  uu : Urn Z u
  tb : Tabs TT Z
  fw : Fwd u H0 Z
  hl : Z L = some (.lst (ws.map V.str))
/-- what holds of L and G once for all -/
structure Off (u L : Addr) (G H0 : Hp) : Prop where
  gL : G L = none
  hL : ∀ o, H0 L = some o → ∃ ps, o = .tbl ps
  ne : L ≠ u
  gt : ∀ b ps, G b ≠ some (.tbl ps)
section
variable {TT : List (Addr × Str)} {u L : Addr} {G H0 Z Z' : Hp} {ws : List Str}
theorem St.ext (o : Off u L G H0) (S : St TT u L G H0 Z ws) (e : ExtN Z Z') (t : Tabs TT Z') : St TT u L G H0 Z' ws :=
  ⟨fun b ob h => e _ _ (S.g _ _ h) (fun ps z => o.gt b ps (by rw [h, z])), by
    obtain ⟨g, m, c, x⟩ := S.uu
    exact ⟨g, m, c, e _ _ x fun ps z => by cases z⟩, t, S.fw.ext e, e _ _ S.hl fun ps z => by cases z⟩
theorem St.same (o : Off u L G H0) (S : St TT u L G H0 Z ws) (s : Same Z Z') : St TT u L G H0 Z' ws := S.ext o (ExtN.of s) (S.tb.ext s)
theorem St.put (o : Off u L G H0) (S : St TT u L G H0 Z ws) (w : Str) : St TT u L G H0 (upd Z L (.lst (ws.map V.str ++ [.str w]))) (ws ++ [w]) := by
  refine ⟨fun b ob h => ?_, ?_, fun p m => ?_, fun b ob n t h => ?_, ?_⟩
  · rw [upd_ne (fun z => by rw [z, o.gL] at h; cases h)]
    exact S.g _ _ h
  · obtain ⟨g, m, c, x⟩ := S.uu
    exact ⟨g, m, c, (upd_ne (Ne.symm o.ne)).trans x⟩
  · obtain ⟨ps, h1, h2, h3⟩ := S.tb p m
    refine ⟨ps, (upd_ne (fun z => by rw [z, S.hl] at h1; cases h1)).trans h1, h2, fun pos cv hc => ?_⟩
    obtain ⟨k, e1, e2⟩ := h3 pos cv hc
    exact ⟨k, e1, (upd_ne (fun z => by rw [z, S.hl] at e2; cases e2)).trans e2⟩
  · rw [upd_ne (fun z => by
      rw [z] at h
      obtain ⟨ps, e⟩ := o.hL _ h
      exact t ps e)]
    exact S.fw b ob n t h
  · rw [upd_same, List.map_append]
    rfl
theorem St.start {H7 Z1 Z2 : Hp} (u7 : Urn H7 u) (fw : Fwd u H0 H7) (t : Tabs TT Z1) (e : ExtN H7 Z1) (s : Same Z1 Z2) (nL : Z2 L = none) (w : Str) : Off u L (mxu u H7) H0 ∧ St TT u L (mxu u H7) H0 (upd Z2 L (.lst ([w].map V.str))) [w] := by
  have e2 : ExtN H7 Z2 := ExtN.trans e (ExtN.of s)
  have gL : mxu u H7 L = none := by
    cases h : mxu u H7 L with
    | none => rfl
    | some o =>
      obtain ⟨_, c, k⟩ := mxu_at h
      rw [e2 _ _ c k] at nL
      cases nL
  have Lu : L ≠ u := fun z => by
    obtain ⟨g, m, c, x⟩ := u7
    rw [z, e2 _ _ x fun ps y => by cases y] at nL
    cases nL
  have off : Off u L (mxu u H7) H0 := ⟨gL, fun o h => (by
    cases o with
    | tbl ps => exact ⟨ps, rfl⟩
    | _ =>
      have y := fw L _ Lu (fun ps z => by cases z) h
      rw [e2 _ _ y fun ps z => by cases z] at nL
      cases nL), Lu, fun b ps h => (mxu_at h).2.2 ps rfl⟩
  have S0 : St TT u L (mxu u H7) H0 (upd Z2 L (.lst [])) [] := by
    have s3 := sub_same (o := .lst []) nL
    have e3 := ExtN.trans e2 (ExtN.of s3)
    refine ⟨fun b o h => let ⟨_, c, k⟩ := mxu_at h; e3 b o c k, ?_, (t.ext s).ext s3, fw.ext e3, upd_same⟩
    obtain ⟨g, m, c, x⟩ := u7
    exact ⟨g, m, c, e3 _ _ x fun ps y => by cases y⟩
  have S1 := S0.put off w
  rw [upd_upd] at S1
  exact ⟨off, S1⟩
variable {CS CT CO CN CM : Addr} {σ : L2.St} {i : Nat} {K : PySem.W.Frag} {tb : XK → TE} {rest : TS} {D : Ends} {w : Str}
/-- one word more -/
theorem told_next (o : Off u L G H0) (S : St TT u L G H0 Z ws) (hi : σ[i]? = some (some (.ref L))) (l : ws.length < 50)
    (says : ∀ Z1, Same G Z1 → ∀ Q : VK, (∀ H', Same Z1 H' → Q (.str w) H') → tb (WdE CS CT CO CN CM Q) σ Z1 fun _ H' => Q (.str "fine") H')
    (k : ∀ Z', St TT u L G H0 Z' (ws ++ [w]) → rest D σ Z') : tSeq (tDrop (tBM K "list" rAppend (tVar i) (tCons (tLam TT (TWord CS CT CO CN CM) tb) tNil))) rest D σ Z := by
  refine ⟨_, hi, .inl ⟨rfl, _, .inl (.inl S.hl)⟩, S.tb, fun Z1 e1 t1 => ?_⟩
  have S1 := S.ext o e1 t1
  refine says Z1 S1.g _ fun Z2 s2 => ?_
  have S2 := S1.same o s2
  refine ⟨L, _, _, rfl, rfl, S2.hl, by rw [List.length_map, sizeLine_eq]; omega, k _ (S2.put o w)⟩
end
theorem dp_strs (K : PySem.W.Frag) (H : Hp) : ∀ ws : List Str, DpAll K H (ws.map V.str) (ws.map PyData.str)
  | [] => .nil
  | w :: r => .cons (.str w) (dp_strs K H r)
theorem shaped_strs (ws : List Str) (h : ∀ w ∈ ws, PyData.strOk w = true) : SeqAt.shaped (.list (ws.map .str)) = true := by
  have a : ∀ l : List Str, (∀ w ∈ l, PyData.strOk w = true) → PyData.canLayAll0 (l.map .str) = true := fun l => by
    induction l with
    | nil => exact fun _ => rfl
    | cons x r ih =>
      intro h
      show (PyData.canLay0 (.str x) && PyData.canLayAll0 (r.map .str)) = true
      rw [ih fun w m => h w (List.mem_cons_of_mem _ m), Bool.and_true]
      exact h x List.mem_cons_self
  have b : ∀ l : List Str, PyData.depthAll (l.map .str) = 0 := fun l => by
    induction l with
    | nil => rfl
    | cons x r ih =>
      show max 0 (PyData.depthAll (r.map PyData.str)) = 0
      rw [ih]
      rfl
  show (PyData.canLayAll0 (ws.map .str) && decide (PyData.depthAll (ws.map .str) + 1 ≤ 64)) = true
  rw [a ws h, b]
  rfl
theorem eqv_strs : ∀ ws : List Str, PyData.eqv (.list (ws.map .str)) (.list (ws.map .str)) = true := fun ws => by
  show PyData.eqvAll (ws.map .str) (ws.map .str) = true
  induction ws with
  | nil => rfl
  | cons x r ih =>
    show (PyData.eqv (.str x) (.str x) && PyData.eqvAll (r.map .str) (r.map .str)) = true
    rw [ih, Bool.and_true]
    show (x == x) = true
    exact beq_self_eq_true x
/-- a new list of words -/
theorem lay_strs {σ : L2.St} {t : TE} {ts : TA} {w : Str} {ws : List Str} (h : ∀ (H : Hp) (Q : VK), (∀ H', Same H H' → Q (.str w) H') → t σ H Q) (hs : ∀ (H : Hp) (Q : List V → Hp → Prop), (∀ H', Same H H' → Q (ws.map V.str) H') → ts σ H Q) :
    ∀ (H : Hp) (Q : List V → Hp → Prop), (∀ H', Same H H' → Q ((w :: ws).map V.str) H') → tCons t ts σ H Q := fun H Q q => h H _ fun H1 s1 => hs H1 _ fun H2 s2 => q H2 (s1.trans s2)
def smallB (d : PyData) : Bool := d.showable && decide (d.depth ≤ 3) && decide (d.shown.length ≤ 400) && decide ((PyData.list [d]).shown.length ≤ 400) && PyData.strOk ("number " ++ d.shown)
theorem small_of {d : PyData} (h : smallB d = true) : Small d ∧ PyData.strOk ("number " ++ d.shown) = true := by
  unfold smallB at h
  rw [Bool.and_eq_true, Bool.and_eq_true, Bool.and_eq_true, Bool.and_eq_true] at h
  obtain ⟨⟨⟨⟨a, b⟩, c⟩, e⟩, k⟩ := h
  refine ⟨?_, k⟩
  exact ⟨a, of_decide_eq_true b, of_decide_eq_true c, Nat.le_trans (of_decide_eq_true e) (by decide)⟩
def goodD : PyData := .tuple [.tuple [.int 1, .int 2], .tuple [.int 0, .int 1]]
theorem good3 : (List.range ([2, 2, 2] : List Int).length).map (fun (b : Nat) => tabD (fun _ => 2) (b : Int) (([2, 2, 2] : List Int).getD b 0).toNat) = [goodD, goodD, goodD] := by rfl
theorem good4 : isSh (.tuple (([goodD, goodD, goodD, goodD].map lenD).map .int)) = false ∧ isSh (.tuple ((([] : List PyData).map lenD).map .int)) = false ∧ isSh (.tuple (([2, 2, 2] : List Int).map .int)) = true ∧ isSh (.tuple (([4] : List Int).map .int)) = true ∧ isPl [4] (.tuple [.int 0, .int 1, .int 3]) = true := by decide +kernel
theorem tb_facts {d : PyData} (h : tbOk d = true) : (sqD d = true → isSh (.tuple [.int (lenD d)]) = false ∧ isSh (.tuple [.int 2, .int (lenD d)]) = false) ∧ ∀ es, d = .tuple es → es.length ≤ 100 := by
  unfold tbOk at h
  rw [Bool.and_eq_true] at h
  refine ⟨fun z => ?_, fun es e => ?_⟩
  · have y := h.1
    rw [z, Bool.not_true, Bool.false_or, Bool.and_eq_true] at y
    exact ⟨by simpa using y.1, by simpa using y.2⟩
  · subst e
    exact of_decide_eq_true h.2
theorem ev_bad {K : PySem.W.Frag} {H : Hp} {x : V} {d : PyData} (h : Ev K H x d) (k : evOk d = true) : (∃ D pds, x = .ref D ∧ FrD K H D pds ∧ pds.length ≤ 100 ∧ enD [4] pds = false) ∨ (∃ t, TyX K H x t ∧ kit K t (.type "dict") false) := by
  cases h with
  | oth t k => exact .inr ⟨_, t, k⟩
  | @dic a pds f =>
    have z : (!enD [4] pds && decide (pds.length ≤ 100)) = true := k
    rw [Bool.and_eq_true] at z
    exact .inl ⟨a, pds, rfl, f, of_decide_eq_true z.2, by simpa using z.1⟩
def placeL : List PyData := [.none, (.tuple [(.int 0), (.int 0)]), (.tuple [(.int 0), (.int 1), (.int 1)]), (.tuple [(.int 1), (.int 0), (.int 1)]), (.list [(.int 0), (.int 0), (.int 1)]), (.tuple [(.int 0), (.int 0), (.int 4)]), (.int 0), (.str "p"), (.tuple [(.int 0), (.int 0), (.bool true)]), (.tuple [])]
def numL : List PyData := [.none, (.bool true), (.str "1"), (.int (10 ^ (60 : Int).toNat)), (.int (-(10 ^ (60 : Int).toNat))), (.tuple [(.int 1)]), (.list [])]
theorem place_ok : ∀ d ∈ placeL, isPl [4] d = false := by decide +kernel
theorem num_ok : ∀ d ∈ numL, isEn d = false ∧ smallB d = true := by decide +kernel
theorem same_ins {Z : Hp} {b db C : Addr} (nb : Z b = none) (nd : Z db = none) (ne : db ≠ b) : Same Z (upd (upd Z db (.own b)) b (.ins C db [])) := (sub_same nd).trans (sub_same (by rw [upd_ne (Ne.symm ne)]; exact nb))
section
variable {P : Program} {w : World} {K : PySem.W.Frag} {mg : Str → Option Value} {base : Heap} {C CS CT CO CN CM fN fM TL : Addr}
abbrev s_lmade : Stmt := topS 68
theorem sc_lmade : FnScope ["_law_pot_here", "_law_bad", "_law_odd", "_law_none", "_law_place", "_law_number", "_law_good", "_law_told"] ["_law_pot_here"] (defScope s_lmade) := ⟨rfl, rfl, rfl, by decide +kernel, rfl, by decide +kernel, by decide +kernel⟩
def qMade : Str := ("_law_made_right" : Str) ++ ".<locals>." ++ "<lambda>"
/-- a test of the law -/
def spTest (TT : List (Addr × Str)) : Sp := fun vs H Q _ => ∃ u : Addr, vs = [.ref u] ∧ Urn H u ∧ Tabs TT H ∧ ∀ H', Urn H' u → Tabs TT H' → Fwd u H H' → Q (.bl true) H'
theorem ok_lmade {f c Pt gR fI pO gO pS gS pF gF fb fe ft fs : Addr} {mc : Value} {TT : List (Addr × Str)} {fd fdR fdI fdO fdS fdb fde fdt fds : FuncData} (T : Txt mg) (N : Nam mg) (R : SC K mg C) (WX : WdX K mg CS CT CO CN CM fN fM) (d : FunC K "_law_made_right" s_lmade f c fd)
    (TB : TabB base mg c Pt) (hM : (Pt, qMade) ∈ TT) (hU : ∀ p ∈ TT, p.1 = Pt → p.2 = qMade) (dR : D K mg "_law_word" s_word ["_law_call"] gR fdR)
    (db : D K mg "_law_shapes" s_lbad ["_law_pot_here"] fb fdb) (Gb : FnOk P w K mg base CX0 3 fb fdb ["_law_pot_here"] (spDraw (Dw K) badL))
    (de : D K mg "_law_no_entries" s_lnoe ["_law_pot_here"] fe fde) (Ge : FnOk P w K mg base CX0 3 fe fde ["_law_pot_here"] (spDraw (Ev K) (evL1 ++ evL2)))
    (dt : D K mg "_law_no_table" s_lnot ["_law_pot_here"] ft fdt) (Gt : FnOk P w K mg base CX0 3 ft fdt ["_law_pot_here"] (spDraw (Tb K) (tbL1 ++ tbL2)))
    (ds : D K mg "_law_pick" s_pick ["_law_pot_here", "_law_items"] fs fds) (Gs : FnOk P w K mg base CX0 2 fs fds ["_law_pot_here", "_law_items"] spSome)
    (mk : Mk K C fI) (GIX : FnOk P w K mg base (L2.CX P w) 5 fI fdI ["self", "shape", "entries"] (spInitX K CS)) (GIB : FnOk P w K mg base (L2.CX P w) 7 fI fdI ["self", "shape", "entries"] (spInitB K CT)) (bI : Binds K fdI ["self", "shape", "entries"] [])
    (rd : ClX.CRead K C mc) (cmO : ClX.CMet K C mc "one" pO gO) (G10 : FnOk P w K mg base (L2.CX P w) 7 gO fdO ["cls", "shape"] (spOne1 K C CS)) (b10 : Binds K fdO ["cls", "shape"] [])
    (cmS : ClX.CMet K C mc "single" pS gS) (GSX : FnOk P w K mg base (L2.CX P w) 9 gS fdS ["cls", "shape", "place", "number"] (spSingleX K C CS CT CN)) (bS : Binds K fdS ["cls", "shape", "place", "number"] [])
    (cmF : ClX.CMet K C mc "of" pF gF) (GFX : FnR P w K mg base (L2.CX P w) 9 gF (fun vs H Q E => ∃ (y : V) (rest : List V), vs = y :: rest ∧ rest.length ≤ 4 ∧ ∀ T, H T = none → spOfX K C CT [y, .ref T] (upd H T (.tup rest)) Q E))
    (GFF : FnR P w K mg base CX0 9 gF (fun vs H Q E => ∃ (y : V) (rest : List V), vs = y :: rest ∧ rest.length ≤ 3 ∧ ∀ T, H T = none → spOf K C [y, .ref T] (upd H T (.tup rest)) Q E)) :
    FnG P w K mg base CX0 13 f fd ["_law_pot_here"] (spTest TT) := by
  obtain ⟨⟨⟨ocR, odR, kVR, docR, pmR, anR, cdvR, ctR, oslR, rfl, lkR, hcR⟩, kR⟩, gRm, bR⟩ := dR
  have gR := gRm
  refine FnG.ofC d sc_lmade (fun vs H Q E h => ?_) (fun A outer s H vs Q E hn hr h => ?_)
  · obtain ⟨u, rfl, _⟩ := h
    rfl
  · obtain ⟨u, rfl, uu, tb, q⟩ := h
    have u64 : (A.deeper (envOfC "_law_made_right" (defScope s_lmade) s.heap.objs.size f (.ref c))).units + 64 < cLine := by have := hr.un; omega
    have un : (A.deeper (envOfC "_law_made_right" (defScope s_lmade) s.heap.objs.size f (.ref c))).units + 100 < cLine := by have := hr.un; omega
    refine ⟨_, (pss_cons (ps_asg (pe_tup (pa_cons (pe_call Gb (hr.mono (by decide)) (by rfl) db.g db.F.kp db.b .nil pass0 (pa_cons (pv 0) pa_nil)) (pa_cons (pe_call Ge (hr.mono (by decide)) (by rfl) de.g de.F.kp de.b .nil pass0 (pa_cons (pv 0) pa_nil)) (pa_cons (pe_call Gt (hr.mono (by decide)) (by rfl) dt.g dt.F.kp dt.b .nil pass0 (pa_cons (pv 0) pa_nil)) pa_nil)))) (pg_tup rfl (pgs_cons (pg_name (i := 1) sc_lmade.nd rfl (.inr rfl)) (pgs_cons (pg_name (i := 2) sc_lmade.nd rfl (.inr rfl)) (pgs_cons (pg_name (i := 3) sc_lmade.nd rfl (.inr rfl)) pgs_nil)))))
      (pss_cons (ps_set (i := 4) sc_lmade.nd rfl (.inr rfl) (pe_call Gs (hr.mono (by decide)) (by rfl) ds.g ds.F.kp ds.b .nil pass0 (pa_cons (pv 0) (pa_cons (pe_lst (pa_cons pe_non (pa_cons (pe_tup (pa_cons pe_int (pa_cons pe_int pa_nil))) (pa_cons (pe_tup (pa_cons pe_int (pa_cons pe_int (pa_cons pe_int pa_nil)))) (pa_cons (pe_tup (pa_cons pe_int (pa_cons pe_int (pa_cons pe_int pa_nil)))) (pa_cons (pe_lst (pa_cons pe_int (pa_cons pe_int (pa_cons pe_int pa_nil)))) (pa_cons (pe_tup (pa_cons pe_int (pa_cons pe_int (pa_cons pe_int pa_nil)))) (pa_cons pe_int (pa_cons pe_str (pa_cons (pe_tup (pa_cons pe_int (pa_cons pe_int (pa_cons pe_bl pa_nil)))) (pa_cons (pe_tup pa_nil) pa_nil))))))))))) pa_nil))))
      (pss_cons (ps_set (i := 5) sc_lmade.nd rfl (.inr rfl) (pe_call Gs (hr.mono (by decide)) (by rfl) ds.g ds.F.kp ds.b .nil pass0 (pa_cons (pv 0) (pa_cons (pe_lst (pa_cons pe_non (pa_cons pe_bl (pa_cons pe_str (pa_cons (pe_op op_powW pe_int pe_int) (pa_cons (pe_un un_neg (pe_op op_powW pe_int pe_int)) (pa_cons (pe_tup (pa_cons pe_int pa_nil)) (pa_cons (pe_lst pa_nil) pa_nil)))))))) pa_nil))))
      (pss_cons (ps_set (i := 6) sc_lmade.nd rfl (.inr rfl) (pe_tup (pa_cons (pe_tup (pa_cons pe_int (pa_cons pe_int pa_nil))) (pa_cons (pe_tup (pa_cons pe_int (pa_cons pe_int pa_nil))) pa_nil))))
      (pss_cons (ps_set (i := 7) sc_lmade.nd rfl (.inl rfl) (pe_lst (pa_cons (pe_lamcall (k := 10) (T := TT) (by rfl) gR kR lkR hcR bR sc_word rfl (.inl rfl) (word_gives T WX hn fun _ => (hr.deeper _).mono (by decide)) TB rfl hM hU (hr.mono (by decide)) (lamS_by (sc := defScope s_lmade) (by decide +kernel)) rfl (fun _ _ _ _ _ => rfl) (fun _ _ _ _ E2 _ _ hr2 => (pe_make (E := E2) mk GIX (hr2.mono (by decide)) (by rfl) R.mC bI .nil (passes_call (takes_of rfl rfl rfl rfl) (fun _ _ _ _ h => h)) (pa_cons (pv 1) (pa_cons (pv 2) pa_nil))))) pa_nil)))
      (pss_cons (ps_expr (pe_bm PySem.F.plainAttrs_list PySem.F.slot_list_append PySem.F.type_list_append mt_append (pv 7) (pa_cons (pe_lamcall (k := 10) (T := TT) (by rfl) gR kR lkR hcR bR sc_word rfl (.inl rfl) (word_gives T WX hn fun _ => (hr.deeper _).mono (by decide)) TB rfl hM hU (hr.mono (by decide)) (lamS_by (sc := defScope s_lmade) (by decide +kernel)) rfl (fun _ _ _ _ _ => rfl) (fun _ _ _ _ E2 _ _ hr2 => (pe_make (E := E2) mk GIB (hr2.mono (by decide)) (by rfl) R.mC bI .nil (passes_call (takes_of rfl rfl rfl rfl) (fun _ _ _ _ h => h)) (pa_cons (pe_tup (pa_cons pe_int pa_nil)) (pa_cons (pv 2) pa_nil))))) pa_nil)))
      (pss_cons (ps_expr (pe_bm PySem.F.plainAttrs_list PySem.F.slot_list_append PySem.F.type_list_append mt_append (pv 7) (pa_cons (pe_lamcall (k := 10) (T := TT) (by rfl) gR kR lkR hcR bR sc_word rfl (.inl rfl) (word_gives T WX hn fun _ => (hr.deeper _).mono (by decide)) TB rfl hM hU (hr.mono (by decide)) (lamS_by (sc := defScope s_lmade) (by decide +kernel)) rfl (fun _ _ _ _ _ => rfl) (fun _ _ _ _ E2 _ _ hr2 => (ClX.pe_cmeth (E := E2) (pe_glob (v := .ref C) rfl R.mC rfl) rd cmO (G10.raw b10 .nil) (hr2.mono (by decide)) (passes_call (takes_of rfl rfl rfl rfl) (fun _ _ _ _ h => h)) (pa_cons (pv 1) pa_nil)))) pa_nil)))
      (pss_cons (ps_expr (pe_bm PySem.F.plainAttrs_list PySem.F.slot_list_append PySem.F.type_list_append mt_append (pv 7) (pa_cons (pe_lamcall (k := 10) (T := TT) (by rfl) gR kR lkR hcR bR sc_word rfl (.inl rfl) (word_gives T WX hn fun _ => (hr.deeper _).mono (by decide)) TB rfl hM hU (hr.mono (by decide)) (lamS_by (sc := defScope s_lmade) (by decide +kernel)) rfl (fun _ _ _ _ _ => rfl) (fun _ _ _ _ E2 _ _ hr2 => (ClX.pe_cmeth (E := E2) (pe_glob (v := .ref C) rfl R.mC rfl) rd cmS (GSX.raw bS .nil) (hr2.mono (by decide)) (passes_call (takes_of rfl rfl rfl rfl) (fun _ _ _ _ h => h)) (pa_cons (pv 1) (pa_cons (pv 4) (pa_cons (pv 5) pa_nil)))))) pa_nil)))
      (pss_cons (ps_expr (pe_bm PySem.F.plainAttrs_list PySem.F.slot_list_append PySem.F.type_list_append mt_append (pv 7) (pa_cons (pe_lamcall (k := 10) (T := TT) (by rfl) gR kR lkR hcR bR sc_word rfl (.inl rfl) (word_gives T WX hn fun _ => (hr.deeper _).mono (by decide)) TB rfl hM hU (hr.mono (by decide)) (lamS_by (sc := defScope s_lmade) (by decide +kernel)) rfl (fun _ _ _ _ _ => rfl) (fun _ _ _ _ E2 _ _ hr2 => (ClX.pe_cmeth (E := E2) (pe_glob (v := .ref C) rfl R.mC rfl) rd cmS (GSX.raw bS .nil) (hr2.mono (by decide)) (passes_call (takes_of rfl rfl rfl rfl) (fun _ _ _ _ h => h)) (pa_cons (pe_tup (pa_cons pe_int pa_nil)) (pa_cons (pv 4) (pa_cons (pv 5) pa_nil)))))) pa_nil)))
      (pss_cons (ps_expr (pe_bm PySem.F.plainAttrs_list PySem.F.slot_list_append PySem.F.type_list_append mt_append (pv 7) (pa_cons (pe_lamcall (k := 10) (T := TT) (by rfl) gR kR lkR hcR bR sc_word rfl (.inl rfl) (word_gives T WX hn fun _ => (hr.deeper _).mono (by decide)) TB rfl hM hU (hr.mono (by decide)) (lamS_by (sc := defScope s_lmade) (by decide +kernel)) rfl (fun _ _ _ _ _ => rfl) (fun _ _ _ _ E2 _ _ hr2 => (ClX.pe_cmeth (E := E2) (pe_glob (v := .ref C) rfl R.mC rfl) rd cmS (GSX.raw bS .nil) (hr2.mono (by decide)) (passes_call (takes_of rfl rfl rfl rfl) (fun _ _ _ _ h => h)) (pa_cons (pe_tup (pa_cons pe_int pa_nil)) (pa_cons (pe_tup (pa_cons pe_int (pa_cons pe_int (pa_cons pe_int pa_nil)))) (pa_cons (pv 5) pa_nil)))))) pa_nil)))
      (pss_cons (ps_expr (pe_bm PySem.F.plainAttrs_list PySem.F.slot_list_append PySem.F.type_list_append mt_append (pv 7) (pa_cons (pe_lamcall (k := 10) (T := TT) (by rfl) gR kR lkR hcR bR sc_word rfl (.inl rfl) (word_gives T WX hn fun _ => (hr.deeper _).mono (by decide)) TB rfl hM hU (hr.mono (by decide)) (lamS_by (sc := defScope s_lmade) (by decide +kernel)) rfl (fun _ _ _ _ _ => rfl) (fun _ _ _ _ E2 _ _ hr2 => (ClX.pe_cmeth (E := E2) (pe_glob (v := .ref C) rfl R.mC rfl) rd cmF GFX (hr2.mono (by decide)) (passes_call (takes_of rfl rfl rfl rfl) (fun _ _ _ _ h => h)) (pa_cons (pv 3) pa_nil)))) pa_nil)))
      (pss_cons (ps_expr (pe_bm PySem.F.plainAttrs_list PySem.F.slot_list_append PySem.F.type_list_append mt_append (pv 7) (pa_cons (pe_lamcall (k := 10) (T := TT) (by rfl) gR kR lkR hcR bR sc_word rfl (.inl rfl) (word_gives T WX hn fun _ => (hr.deeper _).mono (by decide)) TB rfl hM hU (hr.mono (by decide)) (lamS_by (sc := defScope s_lmade) (by decide +kernel)) rfl (fun _ _ _ _ _ => rfl) (fun _ _ _ _ E2 _ _ hr2 => (ClX.pe_cmeth (E := E2) (pe_glob (v := .ref C) rfl R.mC rfl) rd cmF GFX (hr2.mono (by decide)) (passes_call (takes_of rfl rfl rfl rfl) (fun _ _ _ _ h => h)) (pa_cons (pv 6) (pa_cons (pv 3) pa_nil))))) pa_nil)))
      (pss_cons (ps_expr (pe_bm PySem.F.plainAttrs_list PySem.F.slot_list_append PySem.F.type_list_append mt_append (pv 7) (pa_cons (pe_lamcall (k := 10) (T := TT) (by rfl) gR kR lkR hcR bR sc_word rfl (.inl rfl) (word_gives T WX hn fun _ => (hr.deeper _).mono (by decide)) TB rfl hM hU (hr.mono (by decide)) (lamS_by (sc := defScope s_lmade) (by decide +kernel)) rfl (fun _ _ _ _ _ => rfl) (fun _ _ _ _ E2 _ _ hr2 => (pe_cmeth0 (E := E2) (pe_glob (v := .ref C) rfl R.mC rfl) rd cmF GFX (hr2.mono (by decide)) (passes_call (takes_of rfl rfl rfl rfl) (fun _ _ _ _ h => h))))) pa_nil)))
      (pss_cons (ps_expr (pe_bm PySem.F.plainAttrs_list PySem.F.slot_list_append PySem.F.type_list_append mt_append (pv 7) (pa_cons (pe_lamcall (k := 10) (T := TT) (by rfl) gR kR lkR hcR bR sc_word rfl (.inl rfl) (word_gives T WX hn fun _ => (hr.deeper _).mono (by decide)) TB rfl hM hU (hr.mono (by decide)) (lamS_by (sc := defScope s_lmade) (by decide +kernel)) rfl (fun _ _ _ _ _ => rfl) (fun _ _ _ _ E2 _ _ hr2 => (ClX.pe_cmeth (E := E2) (pe_glob (v := .ref C) rfl R.mC rfl) rd cmF GFX (hr2.mono (by decide)) (passes_call (takes_of rfl rfl rfl rfl) (fun _ _ _ _ h => h)) (pa_cons (pv 6) (pa_cons (pv 6) (pa_cons (pv 6) (pa_cons (pv 6) pa_nil))))))) pa_nil)))
      (pss_cons (ps_expr (pe_bm PySem.F.plainAttrs_list PySem.F.slot_list_append PySem.F.type_list_append mt_append (pv 7) (pa_cons (pe_lamcall (k := 10) (T := TT) (by rfl) gR kR lkR hcR bR sc_word rfl (.inl rfl) (word_gives T WX hn fun _ => (hr.deeper _).mono (by decide)) TB rfl hM hU (hr.mono (by decide)) (lamS_by (sc := defScope s_lmade) (by decide +kernel)) rfl (fun _ _ _ _ _ => rfl) (fun _ _ _ _ E2 _ _ hr2 => (ClX.pe_cmeth (pe_glob (v := .ref C) rfl R.mC rfl) rd cmF GFF (hr2.mono (by decide)) pass0 (pa_cons (pv 6) (pa_cons (pv 6) (pa_cons (pv 6) pa_nil)))))) pa_nil)))
      (pss_one (ps_ret (pe_cmpR (op_eqD u64) (pv 7) (pe_lst (pa_cons pe_str (pa_cons pe_str (pa_cons pe_str (pa_cons pe_str (pa_cons pe_str (pa_cons (pe_op op_add_str pe_str (pe_callB (call_repr_v hn un) (by rfl) T.n_repr (by decide +kernel) (pa_cons (pv 5) pa_nil))) (pa_cons pe_str (pa_cons pe_str (pa_cons pe_str (pa_cons pe_str (pa_cons pe_str pa_nil)))))))))))) (nomark _))))))))))))))))))), ?_⟩
    dsimp only [tSeq, tAsg]
    obtain ⟨no4, no0, sh222, sh4, yes013⟩ := good4
    refine ⟨_, rfl, u, rfl, uu, fun x1 d1 H1 m1 u1 o1 r1 => ⟨_, rfl, u, rfl, u1, fun x2 d2 H2 m2 u2 o2 r2 => ⟨_, rfl, u, rfl, u2, fun x3 d3 H3 m3 u3 o3 r3 => ⟨by show 3 ≤ sizeLine; decide, fun p np => ?_⟩⟩⟩⟩
    have s4 := sub_same (o := .tup [x1, x2, x3]) np
    have e4 : upd H3 p (.tup [x1, x2, x3]) p = some (.tup [x1, x2, x3]) := upd_same
    have o4 : Old u H (upd H3 p (.tup [x1, x2, x3])) := ((o1.trans o2).trans o3).trans (.of_same s4)
    have u4 := u3.same s4
    have r1' := mono_dw _ _ _ _ (mxu_old ((o2.trans o3).trans (.of_same s4))) r1
    have r2' := mono_ev _ _ _ _ (mxu_old (o3.trans (.of_same s4))) r2
    have r3' := mono_tb _ _ _ _ (mxu_old (.of_same s4)) r3
    revert e4 o4 u4 r1' r2' r3'
    generalize upd H3 p (.tup [x1, x2, x3]) = H4
    intro e4 o4 u4 r1' r2' r3'
    refine ⟨p, _, rfl, .inl (.inl e4), rfl, _, _, rfl, _, _, rfl, _, _, rfl, rfl, ?_⟩
    have la : ∀ σ, LayNA (Dw K) σ _ placeL := fun σ => (LayNA.cons mono_dw (LayN.dw LayN.non) (LayNA.cons mono_dw (LayN.dw (LayN.tup (LayNA.cons mono_tv (LayN.int 0) (LayNA.cons mono_tv (LayN.int 0) LayNA.nil)) (by decide))) (LayNA.cons mono_dw (LayN.dw (LayN.tup (LayNA.cons mono_tv (LayN.int 0) (LayNA.cons mono_tv (LayN.int 1) (LayNA.cons mono_tv (LayN.int 1) LayNA.nil))) (by decide))) (LayNA.cons mono_dw (LayN.dw (LayN.tup (LayNA.cons mono_tv (LayN.int 1) (LayNA.cons mono_tv (LayN.int 0) (LayNA.cons mono_tv (LayN.int 1) LayNA.nil))) (by decide))) (LayNA.cons mono_dw (LayN.dwl (ns := [0, 0, 1]) (LayNA.cons mono_tv (LayN.int 0) (LayNA.cons mono_tv (LayN.int 0) (LayNA.cons mono_tv (LayN.int 1) LayNA.nil))) (by decide)) (LayNA.cons mono_dw (LayN.dw (LayN.tup (LayNA.cons mono_tv (LayN.int 0) (LayNA.cons mono_tv (LayN.int 0) (LayNA.cons mono_tv (LayN.int 4) LayNA.nil))) (by decide))) (LayNA.cons mono_dw (LayN.dw (LayN.int 0)) (LayNA.cons mono_dw (LayN.dw (LayN.str "p")) (LayNA.cons mono_dw (LayN.dw (LayN.tup (LayNA.cons mono_tv (LayN.int 0) (LayNA.cons mono_tv (LayN.int 0) (LayNA.cons mono_tv (LayN.bl true) LayNA.nil))) (by decide))) (LayNA.cons mono_dw (LayN.dw (LayN.tup LayNA.nil (by decide))) LayNA.nil))))))))))
    have lb : ∀ σ, LayNA Shw σ _ numL := fun σ => (LayNA.cons mono_shw (LayN.shwc (K := K) LayN.non (by decide)) (LayNA.cons mono_shw (LayN.shwc (K := K) (LayN.bl true) (by decide)) (LayNA.cons mono_shw (LayN.shwc (K := K) (LayN.str "1") (by decide)) (LayNA.cons mono_shw (LayN.shwc (K := K) (LayN.pow 10 60 ⟨by decide, by decide +kernel⟩) (by decide)) (LayNA.cons mono_shw (LayN.shwc (K := K) (LayN.neg (LayN.pow 10 60 ⟨by decide, by decide +kernel⟩)) (by decide)) (LayNA.cons mono_shw (LayN.shwp (K := K) (ns := [1]) (LayNA.cons mono_tv (LayN.int 1) LayNA.nil) (by decide)) (LayNA.cons mono_shw (LayN.shwl (K := K) (ns := []) LayNA.nil (by decide)) LayNA.nil)))))))
    refine ⟨_, rfl, pickF (Pr := fun H => Urn H u) mono_dw (LayFA.of mono_dw (fun _ h => h) (la _)) (by decide) (List.cons_ne_nil _ _) u4 u4 fun y1 e1 H5 n1 u5 o5 t1 => ?_⟩
    refine ⟨_, rfl, pickF (Pr := fun H => Urn H u) mono_shw (LayFA.of mono_shw (fun _ h => h) (lb _)) (by decide) (List.cons_ne_nil _ _) u5 u5 fun y2 e2 H6 n2 u6 o6 t2 => ?_⟩
    clear la lb
    dsimp only [tSeq, tAsg, gName]
    have lg : ∀ σ, LayN (Tv K) σ _ goodD := fun σ => LayN.tup (LayNA.cons mono_tv (LayN.tup (LayNA.cons mono_tv (LayN.int 1) (LayNA.cons mono_tv (LayN.int 2) LayNA.nil)) (by decide)) (LayNA.cons mono_tv (LayN.tup (LayNA.cons mono_tv (LayN.int 0) (LayNA.cons mono_tv (LayN.int 1) LayNA.nil)) (by decide)) LayNA.nil)) (by decide)
    refine lg _ H6 _ fun xg H7 s7 rg => ?_
    clear lg
    have o7 : Old u H H7 := ((o4.trans o5).trans o6).trans (.of_same s7)
    have u7 := u6.same s7
    have o47 : Old u H4 H7 := (o5.trans o6).trans (.of_same s7)
    have o57 : Old u H5 H7 := o6.trans (.of_same s7)
    -- what is kept from here on
    have kb : Dw K (mxu u H7) x1 d1 := mono_dw _ _ _ _ (mxu_old o47) r1'
    have ko : Ev K (mxu u H7) x2 d2 := mono_ev _ _ _ _ (mxu_old o47) r2'
    have kn : Tb K (mxu u H7) x3 d3 := mono_tb _ _ _ _ (mxu_old o47) r3'
    have kp : Dw K (mxu u H7) y1 e1 := mono_dw _ _ _ _ (mxu_old o57) t1
    have km : Shw (mxu u H7) y2 e2 := mono_shw _ _ _ _ (mxu_old (.of_same s7)) t2
    have kg : Tv K (mxu u H7) xg goodD := rg.same (fr_mx (urn_some u6))
    have b1 := bad_ok d1 m1
    have b2 := ev_ok d2 m2
    obtain ⟨b3, f3⟩ := tb_facts (tb_ok d3 m3)
    have b4 := place_ok e1 n1
    obtain ⟨b5, b5'⟩ := num_ok e2 n2
    obtain ⟨b6, b7⟩ := small_of b5'
    obtain ⟨zs4, ez4, S4⟩ := shp_of sh4
    obtain rfl : [4] = zs4 := ints_inj (PyData.tuple.inj ez4)
    obtain ⟨zs2, ez2, S222⟩ := shp_of sh222
    obtain rfl : [2, 2, 2] = zs2 := ints_inj (PyData.tuple.inj ez2)
    have tb7 : Tabs TT H7 := tabs_old uu tb o7
    have fw7 : Fwd u H H7 := fun b o n _ e => o7 b o n e
    have hG7 : ∀ {Z}, ExtN H7 Z → Same (mxu u H7) Z := fun e b o h => let ⟨_, c, k⟩ := mxu_at h; e b o c k
    have gd2 : ∀ es, goodD = .tuple es → es.length ≤ 100 := fun es e => by
      cases e
      decide
    clear t1 t2 r1' r2' r3' r1 r2 r3 rg tb uu
    -- the first word
    refine ⟨tb7, fun Z1 e1x t1x => ?_⟩
    have g1 := hG7 e1x
    refine ⟨_, rfl, _, rfl, fun b db nb ndb neb => ?_⟩
    have sM := same_ins (C := C) nb ndb neb
    refine ⟨_, x1, x2, d1, rfl, kb.same (g1.trans sM), b1, fun Z2 s2 => .inl ⟨rfl, ?_⟩⟩
    refine ⟨by show 1 ≤ sizeLine; decide, fun L nL => ?_⟩
    obtain ⟨off, S⟩ := St.start (TT := TT) (w := "shape") u7 fw7 t1x e1x (sM.trans s2) nL
    have ev : ∀ {Z}, Same (mxu u H7) Z → (∃ D pds, x2 = .ref D ∧ FrD K Z D pds ∧ pds.length ≤ 100 ∧ enD [4] pds = false) ∨ (∃ t, TyX K Z x2 t ∧ kit K t (.type "dict") false) := fun g => ev_bad (ko.same g) b2
    -- Stair((4,), odd)
    refine told_next (w := "stair") off S rfl (by simp) (fun Z g Q q => ?_) fun Z2 S => ?_
    · refine ⟨by show 1 ≤ sizeLine; decide, fun p1 np1 => ⟨_, rfl, fun b db nb ndb neb => ?_⟩⟩
      have s5 := (sub_same (o := .tup [V.int 4]) np1).trans (same_ins (C := C) nb ndb neb)
      exact ⟨_, x2, p1, [4], rfl, sqt_same (sqt_new upd_same) (same_ins nb ndb neb), S4, ev (g.trans s5), fun H' s' => .inr (.inl ⟨rfl, q _ (s5.trans s')⟩)⟩
    -- Stair.one(bad)
    refine told_next (w := "shape") off S rfl (by simp) (fun Z g Q q => ?_) fun Z2 S => ?_
    · exact ⟨rfl, _, rfl, x1, d1, rfl, kb.same g, b1, fun H' s' => .inl ⟨rfl, q _ s'⟩⟩
    -- Stair.single(bad, place, number)
    refine told_next (w := "shape") off S rfl (by simp) (fun Z g Q q => ?_) fun Z2 S => ?_
    · exact ⟨rfl, _, rfl, _, rfl, _, rfl, x1, y1, y2, d1, e1, rfl, kb.same g, kp.same g, .inl ⟨b1, fun H' s' => .inl ⟨rfl, q _ s'⟩⟩⟩
    -- Stair.single((4,), place, number)
    refine told_next (w := "stair") off S rfl (by simp) (fun Z g Q q => ?_) fun Z2 S => ?_
    · refine ⟨rfl, by show 1 ≤ sizeLine; decide, fun p1 np1 => ?_⟩
      have s5 := sub_same (o := .tup [V.int 4]) np1
      exact ⟨_, rfl, _, rfl, .ref p1, y1, y2, .tuple ([4].map .int), e1, rfl, .tv (.tup (sqt_new upd_same) (tvl_ints [4])), kp.same (g.trans s5), .inr ⟨[4], rfl, S4, .inl ⟨b4, fun H' s' => .inr (.inl ⟨rfl, q _ (s5.trans s')⟩)⟩⟩⟩
    -- Stair.single((4,), (0, 1, 3), number)
    refine told_next (w := ("number " ++ e2.shown)) off S rfl (by simp) (fun Z g Q q => ?_) fun Z2 S => ?_
    · refine ⟨rfl, by show 1 ≤ sizeLine; decide, fun p1 np1 => ⟨by show 3 ≤ sizeLine; decide, fun p2 np2 => ?_⟩⟩
      have s5 := sub_same (o := .tup [V.int 4]) np1
      have s6 := sub_same (o := .tup [V.int 0, V.int 1, V.int 3]) np2
      refine ⟨_, rfl, .ref p1, .ref p2, y2, .tuple ([4].map .int), .tuple ([0, 1, 3].map .int), rfl, .tv (.tup (sqt_new (s6 _ _ upd_same)) (tvl_ints [4])), .tv (.tup (sqt_new upd_same) (tvl_ints [0, 1, 3])), .inr ⟨[4], rfl, S4, .inr ⟨yes013, e2, (km.same (g.trans (s5.trans s6))).shl, b5, fun H' dd s' nd => ?_⟩⟩⟩
      exact .inr (.inr (.inr (.inl ⟨rfl, dd, y2, e2, rfl, upd_same, km.same ((g.trans (s5.trans s6)).trans (s'.trans (sub_same nd))), b6, q _ ((s5.trans s6).trans (s'.trans (sub_same nd)))⟩)))
    -- Stair.of(none)
    refine told_next (w := "stair") off S rfl (by simp) (fun Z g Q q => ?_) fun Z2 S => ?_
    · refine ⟨rfl, _, rfl, .ref C, [x3], rfl, by simp, fun T9 nT => ?_⟩
      exact ⟨T9, [x3], [d3], rfl, upd_same, .cons (kn.same (g.trans (sub_same nT))) .nil, by simp, fun es m => f3 es (List.mem_singleton.mp m).symm, fun z => (b3 (by simpa using z)).1, fun H' s' => .inr (.inl ⟨rfl, q _ ((sub_same nT).trans s')⟩)⟩
    -- Stair.of(good, none)
    refine told_next (w := "stair") off S rfl (by simp) (fun Z g Q q => ?_) fun Z2 S => ?_
    · refine ⟨rfl, _, rfl, _, rfl, .ref C, [xg, x3], rfl, by simp, fun T9 nT => ?_⟩
      refine ⟨T9, [xg, x3], [goodD, d3], rfl, upd_same, .cons (.rw (.inl (kg.same (g.trans (sub_same nT))))) (.cons (kn.same (g.trans (sub_same nT))) .nil), by simp, fun es m => ?_, fun z => (b3 ?_).2, fun H' s' => .inr (.inl ⟨rfl, q _ ((sub_same nT).trans s')⟩)⟩
      · rcases List.mem_cons.mp m with h | h
        · exact gd2 es h.symm
        · exact f3 es (List.mem_singleton.mp h).symm
      · rw [List.all_cons, Bool.and_eq_true, List.all_cons, Bool.and_eq_true] at z
        exact z.2.1
    -- Stair.of()
    refine told_next (w := "stair") off S rfl (by simp) (fun Z g Q q => ?_) fun Z2 S => ?_
    · refine ⟨rfl, .ref C, [], rfl, by decide, fun T9 nT => ?_⟩
      exact ⟨T9, [], [], rfl, upd_same, .nil, by decide, fun es m => (by cases m), fun _ => no0, fun H' s' => .inr (.inl ⟨rfl, q _ ((sub_same nT).trans s')⟩)⟩
    -- Stair.of(good, good, good, good)
    refine told_next (w := "stair") off S rfl (by simp) (fun Z g Q q => ?_) fun Z2 S => ?_
    · refine ⟨rfl, _, rfl, _, rfl, _, rfl, _, rfl, .ref C, [xg, xg, xg, xg], rfl, by simp, fun T9 nT => ?_⟩
      have tg : Tb K _ xg goodD := .rw (.inl (kg.same (g.trans (sub_same (o := .tup [xg, xg, xg, xg]) nT))))
      refine ⟨T9, [xg, xg, xg, xg], [goodD, goodD, goodD, goodD], rfl, upd_same, .cons tg (.cons tg (.cons tg (.cons tg .nil))), by decide, fun es m => gd2 es ?_, fun _ => no4, fun H' s' => .inr (.inl ⟨rfl, q _ ((sub_same nT).trans s')⟩)⟩
      simp only [List.mem_cons, List.not_mem_nil, or_false, or_self] at m
      exact m.symm
    -- Stair.of(good, good, good)
    refine told_next (w := "fine") off S rfl (by simp) (fun Z g Q q => ?_) fun Z2 S => ?_
    · refine ⟨rfl, _, rfl, _, rfl, _, rfl, .ref C, [xg, xg, xg], rfl, by simp, fun T9 nT => ?_⟩
      have tg := kg.same (g.trans (sub_same (o := .tup [xg, xg, xg]) nT))
      refine ⟨T9, [xg, xg, xg], [2, 2, 2], fun _ => 2, rfl, upd_same, ?_, S222, fun t _ => (show Sm 2 from by unfold Sm; decide +kernel), fun H' c' s' st => q _ ((sub_same nT).trans s')⟩
      rw [good3]
      exact .cons tg (.cons tg (.cons tg .nil))
    -- all words
    have kmz := km.same S.g
    refine ⟨_, rfl, ?_⟩
    refine ⟨_, rfl, _, _, rfl, kmz, b6, _, _, rfl, rfl, ?_, by show 11 ≤ sizeLine; decide, fun pp npp => ?_⟩
    · have z := b6.sz
      have l7 : ("number " : Str).length = 7 := by decide +kernel
      rw [l7]
      exact Nat.le_trans (show 7 + e2.shown.length ≤ 1000 by omega) (by decide)
    have sp := sub_same (o := .lst (([("shape" : Str), "stair", "shape", "shape", "stair", "number " ++ e2.shown, "stair", "stair", "stair", "stair", "fine"] : List Str).map V.str)) npp
    have SZ := S.same off sp
    have sh := shaped_strs ([("shape" : Str), "stair", "shape", "shape", "stair", "number " ++ e2.shown, "stair", "stair", "stair", "stair", "fine"] : List Str) (fun w m => by
      simp only [List.mem_cons, List.not_mem_nil, or_false] at m
      rcases m with rfl | rfl | rfl | rfl | rfl | rfl | rfl | rfl | rfl | rfl | rfl
      all_goals first | exact b7 | decide +kernel)
    refine ⟨_, _, .lst (.inl (.inl (sp _ _ S.hl))) (dp_strs K _ ["shape", "stair", "shape", "shape", "stair", "number " ++ e2.shown, "stair", "stair", "stair", "stair", "fine"]), .lst (.inl (.inl upd_same)) (dp_strs K _ ["shape", "stair", "shape", "shape", "stair", "number " ++ e2.shown, "stair", "stair", "stair", "stair", "fine"]), sh, sh, ?_⟩
    rw [eqv_strs]
    exact q _ SZ.uu SZ.tb SZ.fw
end
end K09


/-! # singles told -/
namespace K09
open PySem PySem.Spec PyProof.Rows L2 TL NumText RZ LamX
section
variable {σ : L2.St} {K : PySem.W.Frag}
theorem mono_nk : Mono (Nk K) := fun _ _ _ _ s h => Nk.same h s
theorem LayN.nkt {t : TE} {d : PyData} (l : LayN (Tv K) σ t d) : LayN (Nk K) σ t d := l.impD fun _ _ r => .inl r
theorem LayN.nkl {ts : TA} {ds : List PyData} (l : LayNA (Tv K) σ ts ds) (n : ds.length ≤ 100) : LayN (Nk K) σ (tLst ts) (.list []) := LayN.lstP mono_tv l n fun G a xs e p => .inr ⟨rfl, _, .base (.lst e), kitT (.list [])⟩
theorem LayN.nke : LayN (Nk K) σ tDNewK (.dict []) := fun H Q q p np => q _ _ (sub_same np) (.inr ⟨rfl, _, .base (.dK (fr_of np upd_same fun _ z => by cases z)), kitT (.dict [])⟩)
end
def oddL : List PyData := [.none, (.int 0), (.str "1 2/3"), (.tuple [(.tuple [(.int 1), (.int 2)]), (.tuple [(.int 0), (.int 1)])]), (.tuple []), (.list []), (.dict [])]
def wordL : List PyData := [.none, (.int 0), (.int 1), (.str "yes"), (.tuple []), (.list [])]
def nbL : List PyData := [.none, (.tuple []), (.tuple [(.int 1), (.int 2)]), (.tuple [(.int 1), (.int 2), (.int 3), (.int 4)]), (.list []), (.tuple [(.int 1), (.int 2), (.bool true)]), (.tuple [(.int 1), (.int 2), .none]), (.tuple [(.int 1), (.int 2), (.int (10 ^ (60 : Int).toNat))]), (.str "123"), (.dict [])]
theorem word_ok : ∀ d ∈ wordL, isB d = false := by decide +kernel
def nbBad (d : PyData) : Bool := !nbOk [3] d && (match d with
  | .tuple ds => decide (ds.length ≤ 100)
  | _ => true)
theorem nb_ok : ∀ d ∈ nbL, nbBad d = true := by decide +kernel
def num3 (t : Tri) : Int := if t.2.1 = 0 then t.2.2 else 3
theorem text3 : stairS num3 [3] = "1 2/3" ∧ isSh (.tuple (([3] : List Int).map .int)) = true := by decide +kernel
theorem sm3 : SmN num3 [3] := by
  have z : ∀ t ∈ pl [3], -(10 ^ 60) < num3 t ∧ num3 t < 10 ^ 60 := by decide +kernel
  exact z
section
variable {P : Program} {w : World} {K : PySem.W.Frag} {mg : Str → Option Value} {base : Heap} {C CS CT CO CN CM fN fM TL : Addr}
abbrev s_lsing : Stmt := topS 70
theorem sc_lsing : FnScope ["_law_pot_here", "_law_odd", "_law_bad", "_law_word_here", "_law_numbers", "_law_told"] ["_law_pot_here"] (defScope s_lsing) := ⟨rfl, rfl, rfl, by decide +kernel, rfl, by decide +kernel, by decide +kernel⟩
def qSing : Str := ("_law_singles_right" : Str) ++ ".<locals>." ++ "<lambda>"
theorem ok_lsing {f c Pt gR fb fs pD gD fS fF : Addr} {mc : Value} {TT : List (Addr × Str)} {fd fdR fdb fds fdD fdS fdF : FuncData} {gg gf : List Value → List Value → List Value} (T : Txt mg) (N : Nam mg) (R : SC K mg C) (IC : C8.InsC K C) (noC : ∀ d : PyData, kit K (.type (tyN d)) (.ref C) false) (WX : WdX K mg CS CT CO CN CM fN fM) (d : FunC K "_law_singles_right" s_lsing f c fd)
    (TB : TabB base mg c Pt) (hM : (Pt, qSing) ∈ TT) (hU : ∀ p ∈ TT, p.1 = Pt → p.2 = qSing) (dR : D K mg "_law_word" s_word ["_law_call"] gR fdR)
    (db : D K mg "_law_shapes" s_lbad ["_law_pot_here"] fb fdb) (Gb : FnOk P w K mg base CX0 3 fb fdb ["_law_pot_here"] (spDraw (Dw K) badL))
    (ds : D K mg "_law_pick" s_pick ["_law_pot_here", "_law_items"] fs fds) (Gs : FnOk P w K mg base CX0 2 fs fds ["_law_pot_here", "_law_items"] spSome)
    (rd : ClX.CRead K C mc) (cmD : ClX.CMet K C mc "read" pD gD) (GD : FnOk P w K mg base CX0 9 gD fdD ["cls", "text"] (spReadS K C)) (bD : Binds K fdD ["cls", "text"] [])
    (gSG : mg "singles" = some (.ref fS)) (kSG : PySem.W.keepIn K (.ref fS) = true) (GSG : FnOk P w K mg base (L2.CX P w) 7 fS fdS ["stair", "backwards"] (spSingsX K C CT CO)) (bKSG : KBn K fdS ["stair", "backwards"] 1 ["backwards"] gg fun vs zs => vs ++ zs)
    (gFS : mg "from_singles" = some (.ref fF)) (kFS : PySem.W.keepIn K (.ref fF) = true) (GFS : FnOk P w K mg base (L2.CX P w) 10 fF fdF ["shape", "numbers", "backwards"] (spFSingX K CS CO)) (bKFS : KBn K fdF ["shape", "numbers", "backwards"] 2 ["backwards"] gf fun vs zs => vs ++ zs)
    (GFF : FnOk P w K mg base (L2.CX P w) 10 fF fdF ["shape", "numbers", "backwards"] (spFSingF K C)) :
    FnG P w K mg base CX0 13 f fd ["_law_pot_here"] (spTest TT) := by
  obtain ⟨⟨⟨ocR, odR, kVR, docR, pmR, anR, cdvR, ctR, oslR, rfl, lkR, hcR⟩, kR⟩, gRm, bR⟩ := dR
  have gR := gRm
  refine FnG.ofC d sc_lsing (fun vs H Q E h => ?_) (fun A outer s H vs Q E hn hr h => ?_)
  · obtain ⟨u, rfl, _⟩ := h
    rfl
  · obtain ⟨u, rfl, uu, tb, q⟩ := h
    have u64 : (A.deeper (envOfC "_law_singles_right" (defScope s_lsing) s.heap.objs.size f (.ref c))).units + 64 < cLine := by have := hr.un; omega
    refine ⟨_, (pss_cons (ps_set (i := 1) sc_lsing.nd rfl (.inr rfl) (pe_call Gs (hr.mono (by decide)) (by rfl) ds.g ds.F.kp ds.b .nil pass0 (pa_cons (pv 0) (pa_cons (pe_lst (pa_cons pe_non (pa_cons pe_int (pa_cons pe_str (pa_cons (pe_tup (pa_cons (pe_tup (pa_cons pe_int (pa_cons pe_int pa_nil))) (pa_cons (pe_tup (pa_cons pe_int (pa_cons pe_int pa_nil))) pa_nil))) (pa_cons (pe_tup pa_nil) (pa_cons (pe_lst (pa_cons pe_int pa_nil)) (pa_cons pe_dnewK pa_nil)))))))) pa_nil))))
      (pss_cons (ps_asg (pe_tup (pa_cons (pe_call Gb (hr.mono (by decide)) (by rfl) db.g db.F.kp db.b .nil pass0 (pa_cons (pv 0) pa_nil)) (pa_cons (pe_call Gs (hr.mono (by decide)) (by rfl) ds.g ds.F.kp ds.b .nil pass0 (pa_cons (pv 0) (pa_cons (pe_lst (pa_cons pe_non (pa_cons pe_int (pa_cons pe_int (pa_cons pe_str (pa_cons (pe_tup pa_nil) (pa_cons (pe_lst pa_nil) pa_nil))))))) pa_nil))) pa_nil))) (pg_tup rfl (pgs_cons (pg_name (i := 2) sc_lsing.nd rfl (.inr rfl)) (pgs_cons (pg_name (i := 3) sc_lsing.nd rfl (.inr rfl)) pgs_nil))))
      (pss_cons (ps_set (i := 4) sc_lsing.nd rfl (.inr rfl) (pe_call Gs (hr.mono (by decide)) (by rfl) ds.g ds.F.kp ds.b .nil pass0 (pa_cons (pv 0) (pa_cons (pe_lst (pa_cons pe_non (pa_cons (pe_tup pa_nil) (pa_cons (pe_tup (pa_cons pe_int (pa_cons pe_int pa_nil))) (pa_cons (pe_tup (pa_cons pe_int (pa_cons pe_int (pa_cons pe_int (pa_cons pe_int pa_nil))))) (pa_cons (pe_lst (pa_cons pe_int (pa_cons pe_int (pa_cons pe_int pa_nil)))) (pa_cons (pe_tup (pa_cons pe_int (pa_cons pe_int (pa_cons pe_bl pa_nil)))) (pa_cons (pe_tup (pa_cons pe_int (pa_cons pe_int (pa_cons pe_non pa_nil)))) (pa_cons (pe_tup (pa_cons pe_int (pa_cons pe_int (pa_cons (pe_op op_powW pe_int pe_int) pa_nil)))) (pa_cons pe_str (pa_cons pe_dnewK pa_nil))))))))))) pa_nil))))
      (pss_cons (ps_set (i := 5) sc_lsing.nd rfl (.inl rfl) (pe_lst (pa_cons (pe_lamcall (k := 10) (T := TT) (by rfl) gR kR lkR hcR bR sc_word rfl (.inl rfl) (word_gives T WX hn fun _ => (hr.deeper _).mono (by decide)) TB rfl hM hU (hr.mono (by decide)) (lamS_by (sc := defScope s_lsing) (by decide +kernel)) rfl (fun _ _ _ _ _ => rfl) (fun _ _ _ _ E2 _ _ hr2 => (pe_callN (E := E2) GSG (hr2.mono (by decide)) (by rfl) gSG kSG bKSG (passes_call (takes_of rfl rfl rfl rfl) (fun _ _ _ _ h => h)) (pa_cons (pv 1) pa_nil) (pk_cons (pv 3) pk_nil)))) pa_nil)))
      (pss_cons (ps_expr (pe_bm PySem.F.plainAttrs_list PySem.F.slot_list_append PySem.F.type_list_append mt_append (pv 5) (pa_cons (pe_lamcall (k := 10) (T := TT) (by rfl) gR kR lkR hcR bR sc_word rfl (.inl rfl) (word_gives T WX hn fun _ => (hr.deeper _).mono (by decide)) TB rfl hM hU (hr.mono (by decide)) (lamS_by (sc := defScope s_lsing) (by decide +kernel)) rfl (fun _ _ _ _ _ => rfl) (fun _ _ _ _ E2 _ _ hr2 => (pe_callN (E := E2) GSG (hr2.mono (by decide)) (by rfl) gSG kSG bKSG (passes_call (takes_of rfl rfl rfl rfl) (fun _ _ _ _ h => h)) (pa_cons (ClX.pe_cmeth (pe_glob (v := .ref C) rfl R.mC rfl) rd cmD (GD.raw bD .nil) (hr2.mono (by decide)) pass0 (pa_cons pe_str pa_nil)) pa_nil) (pk_cons (pv 3) pk_nil)))) pa_nil)))
      (pss_cons (ps_expr (pe_bm PySem.F.plainAttrs_list PySem.F.slot_list_append PySem.F.type_list_append mt_append (pv 5) (pa_cons (pe_lamcall (k := 10) (T := TT) (by rfl) gR kR lkR hcR bR sc_word rfl (.inl rfl) (word_gives T WX hn fun _ => (hr.deeper _).mono (by decide)) TB rfl hM hU (hr.mono (by decide)) (lamS_by (sc := defScope s_lsing) (by decide +kernel)) rfl (fun _ _ _ _ _ => rfl) (fun _ _ _ _ E2 _ _ hr2 => (pe_callN (E := E2) GFS (hr2.mono (by decide)) (by rfl) gFS kFS bKFS (passes_call (takes_of rfl rfl rfl rfl) (fun _ _ _ _ h => h)) (pa_cons (pv 2) (pa_cons (pv 4) pa_nil)) (pk_cons (pv 3) pk_nil)))) pa_nil)))
      (pss_cons (ps_expr (pe_bm PySem.F.plainAttrs_list PySem.F.slot_list_append PySem.F.type_list_append mt_append (pv 5) (pa_cons (pe_lamcall (k := 10) (T := TT) (by rfl) gR kR lkR hcR bR sc_word rfl (.inl rfl) (word_gives T WX hn fun _ => (hr.deeper _).mono (by decide)) TB rfl hM hU (hr.mono (by decide)) (lamS_by (sc := defScope s_lsing) (by decide +kernel)) rfl (fun _ _ _ _ _ => rfl) (fun _ _ _ _ E2 _ _ hr2 => (pe_callN (E := E2) GFS (hr2.mono (by decide)) (by rfl) gFS kFS bKFS (passes_call (takes_of rfl rfl rfl rfl) (fun _ _ _ _ h => h)) (pa_cons (pe_tup (pa_cons pe_int pa_nil)) (pa_cons (pv 4) pa_nil)) (pk_cons (pv 3) pk_nil)))) pa_nil)))
      (pss_cons (ps_expr (pe_bm PySem.F.plainAttrs_list PySem.F.slot_list_append PySem.F.type_list_append mt_append (pv 5) (pa_cons (pe_lamcall (k := 10) (T := TT) (by rfl) gR kR lkR hcR bR sc_word rfl (.inl rfl) (word_gives T WX hn fun _ => (hr.deeper _).mono (by decide)) TB rfl hM hU (hr.mono (by decide)) (lamS_by (sc := defScope s_lsing) (by decide +kernel)) rfl (fun _ _ _ _ _ => rfl) (fun _ _ _ _ E2 _ _ hr2 => (pe_callN (E := E2) GFS (hr2.mono (by decide)) (by rfl) gFS kFS bKFS (passes_call (takes_of rfl rfl rfl rfl) (fun _ _ _ _ h => h)) (pa_cons (pe_tup (pa_cons pe_int pa_nil)) (pa_cons (pe_tup (pa_cons pe_int (pa_cons pe_int (pa_cons pe_int pa_nil)))) pa_nil)) (pk_cons (pv 3) pk_nil)))) pa_nil)))
      (pss_cons (ps_expr (pe_bm PySem.F.plainAttrs_list PySem.F.slot_list_append PySem.F.type_list_append mt_append (pv 5) (pa_cons (pe_lamcall (k := 10) (T := TT) (by rfl) gR kR lkR hcR bR sc_word rfl (.inl rfl) (word_gives T WX hn fun _ => (hr.deeper _).mono (by decide)) TB rfl hM hU (hr.mono (by decide)) (lamS_by (sc := defScope s_lsing) (by decide +kernel)) rfl (fun _ _ _ _ _ => rfl) (fun _ _ _ _ E2 _ _ hr2 => (pe_callN (E := E2) GFF (hr2.mono (by decide)) (by rfl) gFS kFS bKFS (passes_call (takes_of rfl rfl rfl rfl) (fun _ _ _ _ h => h)) (pa_cons (pe_tup (pa_cons pe_int pa_nil)) (pa_cons (pe_tup (pa_cons pe_int (pa_cons pe_int (pa_cons pe_int pa_nil)))) pa_nil)) (pk_cons pe_bl pk_nil)))) pa_nil)))
      (pss_one (ps_ret (pe_cmpR (op_eqD u64) (pv 5) (pe_lst (pa_cons pe_str (pa_cons pe_str (pa_cons pe_str (pa_cons pe_str (pa_cons pe_str (pa_cons pe_str pa_nil))))))) (nomark _))))))))))))), ?_⟩
    dsimp only [tSeq, tAsg]
    have la : ∀ σ, LayNA (Shl K) σ _ oddL := fun σ => (LayNA.cons mono_shl (LayN.shlt LayN.non) (LayNA.cons mono_shl (LayN.shlt (LayN.int 0)) (LayNA.cons mono_shl (LayN.shlt (LayN.str "1 2/3")) (LayNA.cons mono_shl (LayN.shlt (LayN.tup (LayNA.cons mono_tv (LayN.tup (LayNA.cons mono_tv (LayN.int 1) (LayNA.cons mono_tv (LayN.int 2) LayNA.nil)) (by decide)) (LayNA.cons mono_tv (LayN.tup (LayNA.cons mono_tv (LayN.int 0) (LayNA.cons mono_tv (LayN.int 1) LayNA.nil)) (by decide)) LayNA.nil)) (by decide))) (LayNA.cons mono_shl (LayN.shlt (LayN.tup LayNA.nil (by decide))) (LayNA.cons mono_shl (LayN.shll (LayNA.cons mono_tv (LayN.int 1) LayNA.nil) (by decide)) (LayNA.cons mono_shl LayN.shle LayNA.nil)))))))
    have lb : ∀ σ, LayNA (Shl K) σ _ wordL := fun σ => (LayNA.cons mono_shl (LayN.shlt LayN.non) (LayNA.cons mono_shl (LayN.shlt (LayN.int 0)) (LayNA.cons mono_shl (LayN.shlt (LayN.int 1)) (LayNA.cons mono_shl (LayN.shlt (LayN.str "yes")) (LayNA.cons mono_shl (LayN.shlt (LayN.tup LayNA.nil (by decide))) (LayNA.cons mono_shl (LayN.shll LayNA.nil (by decide)) LayNA.nil))))))
    have lc : ∀ σ, LayNA (Nk K) σ _ nbL := fun σ => (LayNA.cons mono_nk (LayN.nkt LayN.non) (LayNA.cons mono_nk (LayN.nkt (LayN.tup LayNA.nil (by decide))) (LayNA.cons mono_nk (LayN.nkt (LayN.tup (LayNA.cons mono_tv (LayN.int 1) (LayNA.cons mono_tv (LayN.int 2) LayNA.nil)) (by decide))) (LayNA.cons mono_nk (LayN.nkt (LayN.tup (LayNA.cons mono_tv (LayN.int 1) (LayNA.cons mono_tv (LayN.int 2) (LayNA.cons mono_tv (LayN.int 3) (LayNA.cons mono_tv (LayN.int 4) LayNA.nil)))) (by decide))) (LayNA.cons mono_nk (LayN.nkl (LayNA.cons mono_tv (LayN.int 1) (LayNA.cons mono_tv (LayN.int 2) (LayNA.cons mono_tv (LayN.int 3) LayNA.nil))) (by decide)) (LayNA.cons mono_nk (LayN.nkt (LayN.tup (LayNA.cons mono_tv (LayN.int 1) (LayNA.cons mono_tv (LayN.int 2) (LayNA.cons mono_tv (LayN.bl true) LayNA.nil))) (by decide))) (LayNA.cons mono_nk (LayN.nkt (LayN.tup (LayNA.cons mono_tv (LayN.int 1) (LayNA.cons mono_tv (LayN.int 2) (LayNA.cons mono_tv LayN.non LayNA.nil))) (by decide))) (LayNA.cons mono_nk (LayN.nkt (LayN.tup (LayNA.cons mono_tv (LayN.int 1) (LayNA.cons mono_tv (LayN.int 2) (LayNA.cons mono_tv (LayN.pow 10 60 ⟨by decide, by decide +kernel⟩) LayNA.nil))) (by decide))) (LayNA.cons mono_nk (LayN.nkt (LayN.str "123")) (LayNA.cons mono_nk LayN.nke LayNA.nil))))))))))
    refine ⟨_, rfl, pickF (Pr := fun H => Urn H u) mono_shl (LayFA.of mono_shl (fun _ h => h) (la _)) (by decide) (List.cons_ne_nil _ _) uu uu fun x1 d1 H1 m1 u1 o1 r1 => ?_⟩
    dsimp only [tSeq, tAsg, gName]
    refine ⟨_, rfl, u, rfl, u1, fun x2 d2 H2 m2 u2 o2 r2 => ?_⟩
    refine ⟨_, rfl, pickF (Pr := fun H => Urn H u) mono_shl (LayFA.of mono_shl (fun _ h => h) (lb _)) (by decide) (List.cons_ne_nil _ _) u2 u2 fun x3 d3 H3 m3 u3 o3 r3 => ?_⟩
    refine ⟨by show 2 ≤ sizeLine; decide, fun p np => ?_⟩
    have s4 := sub_same (o := .tup [x2, x3]) np
    have e4 : upd H3 p (.tup [x2, x3]) p = some (.tup [x2, x3]) := upd_same
    have o34 : Old u H3 (upd H3 p (.tup [x2, x3])) := .of_same s4
    have u4 := u3.same s4
    revert e4 o34 u4
    generalize upd H3 p (.tup [x2, x3]) = H4
    intro e4 o34 u4
    refine ⟨p, _, rfl, .inl (.inl e4), rfl, _, _, rfl, _, _, rfl, rfl, ?_⟩
    refine ⟨_, rfl, pickF (Pr := fun H => Urn H u) mono_nk (LayFA.of mono_nk (fun _ h => h) (lc _)) (by decide) (List.cons_ne_nil _ _) u4 u4 fun x4 d4 H7 m4 u7 o5 r4 => ?_⟩
    clear la lb lc
    dsimp only [tSeq, tAsg, gName]
    have o7 : Old u H H7 := (((o1.trans o2).trans o3).trans o34).trans o5
    have kd : Shl K (mxu u H7) x1 d1 := mono_shl _ _ _ _ (mxu_old (((o2.trans o3).trans o34).trans o5)) r1
    have kb : Dw K (mxu u H7) x2 d2 := mono_dw _ _ _ _ (mxu_old ((o3.trans o34).trans o5)) r2
    have kw : Shl K (mxu u H7) x3 d3 := mono_shl _ _ _ _ (mxu_old (o34.trans o5)) r3
    have kn : Nk K (mxu u H7) x4 d4 := r4
    have b2 := bad_ok d2 m2
    have b3 : kit K (.type (tyN d3)) (.type "bool") false := by
      have z := kitB' (K := K) d3
      rw [word_ok d3 m3] at z
      exact z
    have b4 := nb_ok d4 m4
    unfold nbBad at b4
    rw [Bool.and_eq_true] at b4
    obtain ⟨b4, b4'⟩ := b4
    have b4 : nbOk [3] d4 = false := by simpa using b4
    have few : ∀ ds, d4 = .tuple ds → ds.length ≤ 100 := fun ds e => by
      subst e
      exact of_decide_eq_true b4'
    obtain ⟨tx3, sh3⟩ := text3
    obtain ⟨zs3, ez3, S3⟩ := shp_of sh3
    obtain rfl : [3] = zs3 := ints_inj (PyData.tuple.inj ez3)
    have tb7 : Tabs TT H7 := tabs_old uu tb o7
    have fw7 : Fwd u H H7 := fun b o n _ e => o7 b o n e
    have hG7 : ∀ {Z}, ExtN H7 Z → Same (mxu u H7) Z := fun e b o h => let ⟨_, c, k⟩ := mxu_at h; e b o c k
    clear r1 r2 r3 r4 tb uu
    refine ⟨tb7, fun Z1 e1x t1x => ?_⟩
    have g1 := hG7 e1x
    refine ⟨_, rfl, _, rfl, rfl, rfl, x1, x3, rfl, .inl ⟨_, (kd.same g1).ty, noC d1, .inr (.inl ⟨rfl, ?_⟩)⟩⟩
    refine ⟨by show 1 ≤ sizeLine; decide, fun L nL => ?_⟩
    obtain ⟨off, S⟩ := St.start (TT := TT) (w := "stair") u7 fw7 t1x e1x (Same.refl Z1) nL
    -- singles(Stair.read("1 2/3"), backwards=word)
    refine told_next (w := "operation") off S rfl (by simp) (fun Z g Q q => ?_) fun Z2 S => ?_
    · refine ⟨rfl, num3, [3], by rw [tx3]; rfl, S3, sm3, fun H' c' s' st => ?_⟩
      exact ⟨_, rfl, rfl, rfl, .ref c', x3, rfl, .inr ⟨st.ty IC, _, (kw.same (g.trans s')).ty, b3, .inr (.inr (.inl ⟨rfl, q _ s'⟩))⟩⟩
    -- from_singles(bad, numbers, backwards=word)
    refine told_next (w := "shape") off S rfl (by simp) (fun Z g Q q => ?_) fun Z2 S => ?_
    · exact ⟨_, rfl, _, rfl, _, rfl, rfl, rfl, x2, x4, x3, d2, d4, rfl, kb.same g, .inl ⟨b2, fun H' s' => .inl ⟨rfl, q _ s'⟩⟩⟩
    -- from_singles((3,), numbers, backwards=word)
    refine told_next (w := "operation") off S rfl (by simp) (fun Z g Q q => ?_) fun Z2 S => ?_
    · refine ⟨by show 1 ≤ sizeLine; decide, fun p1 np1 => ?_⟩
      have s5 := sub_same (o := .tup [V.int 3]) np1
      exact ⟨_, rfl, _, rfl, rfl, rfl, .ref p1, x4, x3, .tuple ([3].map .int), d4, rfl, .tv (.tup (sqt_new upd_same) (tvl_ints [3])), .inr ⟨[3], rfl, S3, kn.same (g.trans s5), few, fun z => absurd z (by rw [b4]; exact Bool.false_ne_true), fun H' s' => .inr (.inr (.inl ⟨rfl, q _ (s5.trans s')⟩))⟩⟩
    -- from_singles((3,), (1, 2, 3), backwards=word)
    refine told_next (w := "operation") off S rfl (by simp) (fun Z g Q q => ?_) fun Z2 S => ?_
    · refine ⟨by show 1 ≤ sizeLine; decide, fun p1 np1 => ⟨by show 3 ≤ sizeLine; decide, fun p2 np2 => ?_⟩⟩
      have s5 := sub_same (o := .tup [V.int 3]) np1
      have s6 := sub_same (o := .tup [V.int 1, V.int 2, V.int 3]) np2
      exact ⟨_, rfl, rfl, rfl, .ref p1, .ref p2, x3, .tuple ([3].map .int), .tuple ([1, 2, 3].map .int), rfl, .tv (.tup (sqt_new (s6 _ _ upd_same)) (tvl_ints [3])), .inr ⟨[3], rfl, S3, .inl (.tup (sqt_new upd_same) (tvl_ints [1, 2, 3])), fun ds e => (by cases e; decide), fun _ => ⟨_, (kw.same (g.trans (s5.trans s6))).ty, b3⟩, fun H' s' => .inr (.inr (.inl ⟨rfl, q _ ((s5.trans s6).trans s')⟩))⟩⟩
    -- from_singles((3,), (1, 2, 3), backwards=True)
    refine told_next (w := "fine") off S rfl (by simp) (fun Z g Q q => ?_) fun Z2 S => ?_
    · refine ⟨by show 1 ≤ sizeLine; decide, fun p1 np1 => ⟨by show 3 ≤ sizeLine; decide, fun p2 np2 => ?_⟩⟩
      have s5 := sub_same (o := .tup [V.int 3]) np1
      have s6 := sub_same (o := .tup [V.int 1, V.int 2, V.int 3]) np2
      exact ⟨rfl, rfl, p1, p2, rfl, sqt_new (s6 _ _ upd_same), sqt_new upd_same, fun H' c' s' => q _ ((s5.trans s6).trans s')⟩
    -- all words
    refine ⟨_, rfl, by show 6 ≤ sizeLine; decide, fun pp npp => ?_⟩
    have sp := sub_same (o := .lst (([("stair" : Str), "operation", "shape", "operation", "operation", "fine"] : List Str).map V.str)) npp
    have SZ := S.same off sp
    have sh := shaped_strs ([("stair" : Str), "operation", "shape", "operation", "operation", "fine"] : List Str) (by decide +kernel)
    refine ⟨_, _, .lst (.inl (.inl (sp _ _ S.hl))) (dp_strs K _ ["stair", "operation", "shape", "operation", "operation", "fine"]), .lst (.inl (.inl upd_same)) (dp_strs K _ ["stair", "operation", "shape", "operation", "operation", "fine"]), sh, sh, ?_⟩
    rw [eqv_strs]
    exact q _ SZ.uu SZ.tb SZ.fw
end
end K09

/-! # operators and methods told -/
namespace K09
open PySem PySem.Spec PyProof.Rows L2 TL NumText RZ LamX
theorem stF_none {s p n : V} {m : Str} (h1 : m ≠ "_shape") (h2 : m ≠ "_plan") (h3 : m ≠ "_numbers") : (stF s p n).lookup m = none := by
  unfold stF
  rw [lookup_putF, if_neg h3, lookup_putF, if_neg h2, lookup_putF, if_neg h1]
  rfl
theorem sqt_mxu {K : PySem.W.Frag} {H : Hp} {u a : Addr} {xs : List V} (uu : Urn H u) (h : SqT K H a xs) : SqT K (mxu u H) a xs := sqt_ne h fun o e k => mxu_of (fun z => by
  obtain ⟨g, m, c, x⟩ := uu
  rw [z, x] at e
  cases e
  rcases k with k | ⟨od, k⟩ <;> cases k) e fun ps z => by
    rcases k with k | ⟨od, k⟩
    · rw [k] at z
      cases z
    · rw [k] at z
      cases z
mutual
theorem tv_mxu {K : PySem.W.Frag} {H : Hp} {u : Addr} (uu : Urn H u) : ∀ {x : V} {d : PyData}, Tv K H x d → Tv K (mxu u H) x d
  | _, _, .non => .non
  | _, _, .bl b => .bl b
  | _, _, .int i => .int i
  | _, _, .str z => .str z
  | _, _, .tup e l => .tup (sqt_mxu uu e) (tvl_mxu uu l)
theorem tvl_mxu {K : PySem.W.Frag} {H : Hp} {u : Addr} (uu : Urn H u) : ∀ {xs : List V} {ds : List PyData}, TvL K H xs ds → TvL K (mxu u H) xs ds
  | _, _, .nil => .nil
  | _, _, .cons a l => .cons (tv_mxu uu a) (tvl_mxu uu l)
end
theorem stair_mxu {K : PySem.W.Frag} {H : Hp} {u a C : Addr} {ns ms : List Int} (uu : Urn H u) (h : StairO K H a C ns ms) : StairO K (mxu u H) a C ns ms := by
  obtain ⟨dx, sh, pln, nm, e1, e2, e3, e4⟩ := h
  have off : ∀ {b : Addr} {o : HO}, H b = some o → (∀ xs, o ≠ .lst xs) → b ≠ u := fun {b o} e n z => by
    obtain ⟨g, m, c, x⟩ := uu
    rw [z, x] at e
    exact n _ (Option.some.inj e).symm
  exact ⟨dx, sh, pln, nm, mxu_of (off e1 fun _ z => by cases z) e1 (fun _ z => by cases z), sqt_mxu uu e2, mxu_of (off e3 fun _ z => by cases z) e3 (fun _ z => by cases z), tv_mxu uu e4⟩
theorem stair_same {K : PySem.W.Frag} {H H' : Hp} {a C : Addr} {ns ms : List Int} (h : StairO K H a C ns ms) (s : Same H H') : StairO K H' a C ns ms := by
  obtain ⟨dx, sh, pln, nm, e1, e2, e3, e4⟩ := h
  exact ⟨dx, sh, pln, nm, s _ _ e1, sqt_same e2 s, s _ _ e3, e4.same s⟩
theorem stair_ins {K : PySem.W.Frag} {H : Hp} {a C : Addr} {ns ms : List Int} (h : StairO K H a C ns ms) : ∃ dx fs, H a = some (.ins C dx fs) ∧ ∀ m : Str, m ≠ "_shape" → m ≠ "_plan" → m ≠ "_numbers" → fs.lookup m = none := by
  obtain ⟨dx, sh, pln, nm, e1, e2, e3, e4⟩ := h
  exact ⟨dx, _, e1, fun m => stF_none⟩
theorem Shw.dw {K : PySem.W.Frag} {H : Hp} {x : V} {d : PyData} (h : Shw H x d) (n : isDc d = false) : Dw K H x d := by
  cases h with
  | non => exact .tv .non
  | bl b => exact .tv (.bl b)
  | int i => exact .tv (.int i)
  | str z => exact .tv (.str z)
  | tup e => exact .tv (.tup (sqt_new e) (tvl_ints _))
  | lst e _ => exact .lst e
  | emp e => cases n
def num4 (t : Tri) : Int := if t.2.1 = 0 then t.2.2 else if t.2.1 = 1 then t.2.2 + 2 else 6
theorem text4 : stairS num4 [4] = "1 2 3/4 5/6" := by decide +kernel
theorem sm4 : SmN num4 [4] := by
  have z : ∀ t ∈ pl [4], -(10 ^ 60) < num4 t ∧ num4 t < 10 ^ 60 := by decide +kernel
  exact z
theorem shps : isSh (.tuple (([4, 4] : List Int).map .int)) = true ∧ isSh (.tuple (([4, 4, 4] : List Int).map .int)) = false ∧ isSh (.tuple (([3, 2, 2, 2] : List Int).map .int)) = false ∧ isSh (.tuple (([2, 2, 2] : List Int).map .int)) = true := by decide +kernel
def usedL : List PyData := [.none, (.int 0), (.int 1), (.str "1"), (.tuple []), (.dict []), (.bool true)] ++ [tabsD num4 [4], .tuple ((numsL num4 [4]).map .int), .list []]
def manyL : List PyData := [(.bool true), .none, (.str "2"), (.tuple []), (.bool false), (.list [(.int 1)]), (.dict []), (.int (10 ^ (60 : Int).toNat)), (.int (0 - (10 ^ (60 : Int).toNat))), (.int ((10 ^ (61 : Int).toNat) + 5))]
def idxL : List PyData := [(.int 1), (.int (-1)), .none, (.bool true), (.str "0"), (.int (10 ^ (60 : Int).toNat)), (.tuple [(.int 0)])]
theorem many_ok : ∀ d ∈ manyL, isEn d = false ∧ smallB d = true := by decide +kernel
theorem idx_ok : ∀ d ∈ idxL, btw d 0 ((([4] : List Int).length : Int) - 1) = false ∧ smallB d = true ∧ isDc d = false := by decide +kernel
section
variable {P : Program} {w : World} {K : PySem.W.Frag} {mg : Str → Option Value} {base : Heap} {C CS CT CO CN CM fN fM TL : Addr}
abbrev s_lused : Stmt := topS 69
theorem sc_lused : FnScope ["_law_pot_here", "_law_stair", "_law_other", "_law_odd", "_law_many", "_law_index", "_law_wide", "_law_told"] ["_law_pot_here"] (defScope s_lused) := ⟨rfl, rfl, rfl, by decide +kernel, rfl, by decide +kernel, by decide +kernel⟩
def qUsed : Str := ("_law_used_right" : Str) ++ ".<locals>." ++ "<lambda>"
theorem ok_lused {f c Pt gR fs pD gD pO gO gM gP gK gL gC gB qT gT qN gN : Addr} {mc : Value} {TT : List (Addr × Str)} {fd fdR fds fdD fdO fdM fdP fdK fdL fdC fdB fdT fdN : FuncData} (T : Txt mg) (N : Nam mg) (R : SC K mg C) (IC : C8.InsC K C) (noC : ∀ d : PyData, kit K (.type (tyN d)) (.ref C) false) (WX : WdX K mg CS CT CO CN CM fN fM) (d : FunC K "_law_used_right" s_lused f c fd)
    (TB : TabB base mg c Pt) (hM : (Pt, qUsed) ∈ TT) (hU : ∀ p ∈ TT, p.1 = Pt → p.2 = qUsed) (dR : D K mg "_law_word" s_word ["_law_call"] gR fdR)
    (ds : D K mg "_law_pick" s_pick ["_law_pot_here", "_law_items"] fs fds) (Gs : FnOk P w K mg base CX0 2 fs fds ["_law_pot_here", "_law_items"] spSome)
    (rd : ClX.CRead K C mc) (cmD : ClX.CMet K C mc "read" pD gD) (GD : FnOk P w K mg base CX0 9 gD fdD ["cls", "text"] (spReadS K C)) (bD : Binds K fdD ["cls", "text"] [])
    (cmO : ClX.CMet K C mc "one" pO gO) (GO : FnOk P w K mg base CX0 9 gO fdO ["cls", "shape"] (spOne K C)) (bO : Binds K fdO ["cls", "shape"] [])
    (pT : PropOf K C "tables" qT gT) (GT : FnOk P w K mg base CX0 6 gT fdT ["self"] (spTabs K C)) (bT : Binds K fdT ["self"] []) (pN : PropOf K C "numbers" qN gN) (GN : FnOk P w K mg base CX0 1 gN fdN ["self"] (spNums K C)) (bN : Binds K fdN ["self"] [])
    (hcM : PySem.W.selfFirst K C = true) (hsM : PySem.W.findIn K (.ref C) "__mul__" = some (some (.ref gM))) (hfM : PySem.W.isFn K (.ref gM) = true) (GM : FnOk P w K mg base (L2.CX P w) 10 gM fdM ["self", "other"] (fun vs H Q E => ∃ (a b : Addr) (ns ms ks ls : List Int), vs = [.ref a, .ref b] ∧ StairO K H a C ns ms ∧ StairO K H b C ks ls ∧ ks ≠ ns ∧ E (.ref CT) none H)) (bM : Binds K fdM ["self", "other"] [])
    (mP : Meth K C "power" gP) (GP : FnOk P w K mg base (L2.CX P w) 10 gP fdP ["self", "number"] (spPowerX K CN)) (bP : Binds K fdP ["self", "number"] [])
    (mK : Meth K C "bracket" gK) (GK : FnOk P w K mg base (L2.CX P w) 10 gK fdK ["self", "other"] (spMethX K C CT)) (bK : Binds K fdK ["self", "other"] [])
    (mL : Meth K C "led" gL) (GL : FnOk P w K mg base (L2.CX P w) 10 gL fdL ["self", "other"] (spMethX K C CT)) (bL : Binds K fdL ["self", "other"] [])
    (mC : Meth K C "block" gC) (GC : FnOk P w K mg base (L2.CX P w) 10 gC fdC ["self", "index"] (spBlockX K C CN)) (bC : Binds K fdC ["self", "index"] [])
    (mB : Meth K C "beside" gB) (GB : FnOk P w K mg base (L2.CX P w) 10 gB fdB ["self", "other"] (spBeside K C CM)) (GBX : FnOk P w K mg base (L2.CX P w) 10 gB fdB ["self", "other"] (spBesideX K C CT)) (bB : Binds K fdB ["self", "other"] []) :
    FnG P w K mg base CX0 13 f fd ["_law_pot_here"] (spTest TT) := by
  obtain ⟨⟨⟨ocR, odR, kVR, docR, pmR, anR, cdvR, ctR, oslR, rfl, lkR, hcR⟩, kR⟩, gRm, bR⟩ := dR
  have gR := gRm
  refine FnG.ofC d sc_lused (fun vs H Q E h => ?_) (fun A outer s H vs Q E hn hr h => ?_)
  · obtain ⟨u, rfl, _⟩ := h
    rfl
  · obtain ⟨u, rfl, uu, tb, q⟩ := h
    have u64 : (A.deeper (envOfC "_law_used_right" (defScope s_lused) s.heap.objs.size f (.ref c))).units + 64 < cLine := by have := hr.un; omega
    have un : (A.deeper (envOfC "_law_used_right" (defScope s_lused) s.heap.objs.size f (.ref c))).units + 100 < cLine := by have := hr.un; omega
    refine ⟨_, (pss_cons (ps_asg (pe_tup (pa_cons (ClX.pe_cmeth (pe_glob (v := .ref C) rfl R.mC rfl) rd cmD (GD.raw bD .nil) (hr.mono (by decide)) pass0 (pa_cons pe_str pa_nil)) (pa_cons (ClX.pe_cmeth (pe_glob (v := .ref C) rfl R.mC rfl) rd cmD (GD.raw bD .nil) (hr.mono (by decide)) pass0 (pa_cons pe_str pa_nil)) pa_nil))) (pg_tup rfl (pgs_cons (pg_name (i := 1) sc_lused.nd rfl (.inr rfl)) (pgs_cons (pg_name (i := 2) sc_lused.nd rfl (.inr rfl)) pgs_nil))))
      (pss_cons (ps_set (i := 3) sc_lused.nd rfl (.inr rfl) (pe_call Gs (hr.mono (by decide)) (by rfl) ds.g ds.F.kp ds.b .nil pass0 (pa_cons (pv 0) (pa_cons (pe_lst (pa_cons pe_non (pa_cons pe_int (pa_cons pe_int (pa_cons pe_str (pa_cons (pe_tup pa_nil) (pa_cons pe_dnewK (pa_cons pe_bl (pa_cons (pe_prop (pv 1) R.cl pT GT (hr.mono (by decide)) bT .nil pass0 (by rfl)) (pa_cons (pe_prop (pv 1) R.cl pN GN (hr.mono (by decide)) bN .nil pass0 (by rfl)) (pa_cons (pe_lst (pa_cons (pv 1) pa_nil)) pa_nil))))))))))) pa_nil))))
      (pss_cons (ps_set (i := 4) sc_lused.nd rfl (.inr rfl) (pe_call Gs (hr.mono (by decide)) (by rfl) ds.g ds.F.kp ds.b .nil pass0 (pa_cons (pv 0) (pa_cons (pe_lst (pa_cons pe_bl (pa_cons pe_non (pa_cons pe_str (pa_cons (pe_tup pa_nil) (pa_cons (pe_cmpR op_eq pe_int pe_int (nomark _)) (pa_cons (pe_lst (pa_cons pe_int pa_nil)) (pa_cons pe_dnewK (pa_cons (pe_op op_powW pe_int pe_int) (pa_cons (pe_op op_sub pe_int (pe_op op_powW pe_int pe_int)) (pa_cons (pe_op op_add (pe_op op_powW pe_int pe_int) pe_int) pa_nil))))))))))) pa_nil))))
      (pss_cons (ps_set (i := 5) sc_lused.nd rfl (.inr rfl) (pe_call Gs (hr.mono (by decide)) (by rfl) ds.g ds.F.kp ds.b .nil pass0 (pa_cons (pv 0) (pa_cons (pe_lst (pa_cons pe_int (pa_cons (pe_un un_neg pe_int) (pa_cons pe_non (pa_cons pe_bl (pa_cons pe_str (pa_cons (pe_op op_powW pe_int pe_int) (pa_cons (pe_tup (pa_cons pe_int pa_nil)) pa_nil)))))))) pa_nil))))
      (pss_cons (ps_set (i := 6) sc_lused.nd rfl (.inr rfl) (pe_meth (E := fun _ _ _ => False) (pv 1) R.cl mB GB (hr.mono (by decide)) bB .nil passF (pa_cons (pv 1) pa_nil)))
      (pss_cons (ps_set (i := 7) sc_lused.nd rfl (.inl rfl) (pe_lst (pa_cons (pe_lamcall (k := 10) (T := TT) (by rfl) gR kR lkR hcR bR sc_word rfl (.inl rfl) (word_gives T WX hn fun _ => (hr.deeper _).mono (by decide)) TB rfl hM hU (hr.mono (by decide)) (lamS_by (sc := defScope s_lused) (by decide +kernel)) rfl (fun _ _ _ _ _ => rfl) (fun _ _ _ _ E2 _ _ hr2 => (pe_op (op_mineE (E := E2) hcM hsM hfM GM (hr2.mono (by decide)) bM (passes_call (takes_of rfl rfl rfl rfl) (fun _ _ _ _ h => h))) (pv 1) (pv 2)))) pa_nil)))
      (pss_cons (ps_expr (pe_bm PySem.F.plainAttrs_list PySem.F.slot_list_append PySem.F.type_list_append mt_append (pv 7) (pa_cons (pe_lamcall (k := 10) (T := TT) (by rfl) gR kR lkR hcR bR sc_word rfl (.inl rfl) (word_gives T WX hn fun _ => (hr.deeper _).mono (by decide)) TB rfl hM hU (hr.mono (by decide)) (lamS_by (sc := defScope s_lused) (by decide +kernel)) rfl (fun _ _ _ _ _ => rfl) (fun _ _ _ _ E2 _ _ hr2 => (pe_meth (E := E2) (pv 1) R.cl mP GP (hr2.mono (by decide)) bP .nil (passes_call (takes_of rfl rfl rfl rfl) (fun _ _ _ _ h => h)) (pa_cons (pv 4) pa_nil)))) pa_nil)))
      (pss_cons (ps_expr (pe_bm PySem.F.plainAttrs_list PySem.F.slot_list_append PySem.F.type_list_append mt_append (pv 7) (pa_cons (pe_lamcall (k := 10) (T := TT) (by rfl) gR kR lkR hcR bR sc_word rfl (.inl rfl) (word_gives T WX hn fun _ => (hr.deeper _).mono (by decide)) TB rfl hM hU (hr.mono (by decide)) (lamS_by (sc := defScope s_lused) (by decide +kernel)) rfl (fun _ _ _ _ _ => rfl) (fun _ _ _ _ E2 _ _ hr2 => (pe_meth (E := E2) (pv 1) R.cl mK GK (hr2.mono (by decide)) bK .nil (passes_call (takes_of rfl rfl rfl rfl) (fun _ _ _ _ h => h)) (pa_cons (pv 3) pa_nil)))) pa_nil)))
      (pss_cons (ps_expr (pe_bm PySem.F.plainAttrs_list PySem.F.slot_list_append PySem.F.type_list_append mt_append (pv 7) (pa_cons (pe_lamcall (k := 10) (T := TT) (by rfl) gR kR lkR hcR bR sc_word rfl (.inl rfl) (word_gives T WX hn fun _ => (hr.deeper _).mono (by decide)) TB rfl hM hU (hr.mono (by decide)) (lamS_by (sc := defScope s_lused) (by decide +kernel)) rfl (fun _ _ _ _ _ => rfl) (fun _ _ _ _ E2 _ _ hr2 => (pe_meth (E := E2) (pv 1) R.cl mK GK (hr2.mono (by decide)) bK .nil (passes_call (takes_of rfl rfl rfl rfl) (fun _ _ _ _ h => h)) (pa_cons (pv 2) pa_nil)))) pa_nil)))
      (pss_cons (ps_expr (pe_bm PySem.F.plainAttrs_list PySem.F.slot_list_append PySem.F.type_list_append mt_append (pv 7) (pa_cons (pe_lamcall (k := 10) (T := TT) (by rfl) gR kR lkR hcR bR sc_word rfl (.inl rfl) (word_gives T WX hn fun _ => (hr.deeper _).mono (by decide)) TB rfl hM hU (hr.mono (by decide)) (lamS_by (sc := defScope s_lused) (by decide +kernel)) rfl (fun _ _ _ _ _ => rfl) (fun _ _ _ _ E2 _ _ hr2 => (pe_meth (E := E2) (pv 1) R.cl mL GL (hr2.mono (by decide)) bL .nil (passes_call (takes_of rfl rfl rfl rfl) (fun _ _ _ _ h => h)) (pa_cons (pv 3) pa_nil)))) pa_nil)))
      (pss_cons (ps_expr (pe_bm PySem.F.plainAttrs_list PySem.F.slot_list_append PySem.F.type_list_append mt_append (pv 7) (pa_cons (pe_lamcall (k := 10) (T := TT) (by rfl) gR kR lkR hcR bR sc_word rfl (.inl rfl) (word_gives T WX hn fun _ => (hr.deeper _).mono (by decide)) TB rfl hM hU (hr.mono (by decide)) (lamS_by (sc := defScope s_lused) (by decide +kernel)) rfl (fun _ _ _ _ _ => rfl) (fun _ _ _ _ E2 _ _ hr2 => (pe_meth (E := E2) (pv 2) R.cl mL GL (hr2.mono (by decide)) bL .nil (passes_call (takes_of rfl rfl rfl rfl) (fun _ _ _ _ h => h)) (pa_cons (pv 1) pa_nil)))) pa_nil)))
      (pss_cons (ps_expr (pe_bm PySem.F.plainAttrs_list PySem.F.slot_list_append PySem.F.type_list_append mt_append (pv 7) (pa_cons (pe_lamcall (k := 10) (T := TT) (by rfl) gR kR lkR hcR bR sc_word rfl (.inl rfl) (word_gives T WX hn fun _ => (hr.deeper _).mono (by decide)) TB rfl hM hU (hr.mono (by decide)) (lamS_by (sc := defScope s_lused) (by decide +kernel)) rfl (fun _ _ _ _ _ => rfl) (fun _ _ _ _ E2 _ _ hr2 => (pe_meth (E := E2) (pv 1) R.cl mC GC (hr2.mono (by decide)) bC .nil (passes_call (takes_of rfl rfl rfl rfl) (fun _ _ _ _ h => h)) (pa_cons (pv 5) pa_nil)))) pa_nil)))
      (pss_cons (ps_expr (pe_bm PySem.F.plainAttrs_list PySem.F.slot_list_append PySem.F.type_list_append mt_append (pv 7) (pa_cons (pe_lamcall (k := 10) (T := TT) (by rfl) gR kR lkR hcR bR sc_word rfl (.inl rfl) (word_gives T WX hn fun _ => (hr.deeper _).mono (by decide)) TB rfl hM hU (hr.mono (by decide)) (lamS_by (sc := defScope s_lused) (by decide +kernel)) rfl (fun _ _ _ _ _ => rfl) (fun _ _ _ _ E2 _ _ hr2 => (pe_meth (E := E2) (pv 1) R.cl mB GBX (hr2.mono (by decide)) bB .nil (passes_call (takes_of rfl rfl rfl rfl) (fun _ _ _ _ h => h)) (pa_cons (pv 3) pa_nil)))) pa_nil)))
      (pss_cons (ps_expr (pe_bm PySem.F.plainAttrs_list PySem.F.slot_list_append PySem.F.type_list_append mt_append (pv 7) (pa_cons (pe_lamcall (k := 10) (T := TT) (by rfl) gR kR lkR hcR bR sc_word rfl (.inl rfl) (word_gives T WX hn fun _ => (hr.deeper _).mono (by decide)) TB rfl hM hU (hr.mono (by decide)) (lamS_by (sc := defScope s_lused) (by decide +kernel)) rfl (fun _ _ _ _ _ => rfl) (fun _ _ _ _ E2 _ _ hr2 => (pe_meth (E := E2) (pv 1) R.cl mB GB (hr2.mono (by decide)) bB .nil (passes_call (takes_of rfl rfl rfl rfl) (fun _ _ _ _ h => h)) (pa_cons (pv 1) pa_nil)))) pa_nil)))
      (pss_cons (ps_expr (pe_bm PySem.F.plainAttrs_list PySem.F.slot_list_append PySem.F.type_list_append mt_append (pv 7) (pa_cons (pe_lamcall (k := 10) (T := TT) (by rfl) gR kR lkR hcR bR sc_word rfl (.inl rfl) (word_gives T WX hn fun _ => (hr.deeper _).mono (by decide)) TB rfl hM hU (hr.mono (by decide)) (lamS_by (sc := defScope s_lused) (by decide +kernel)) rfl (fun _ _ _ _ _ => rfl) (fun _ _ _ _ E2 _ _ hr2 => (pe_meth (E := E2) (pv 1) R.cl mB GB (hr2.mono (by decide)) bB .nil (passes_call (takes_of rfl rfl rfl rfl) (fun _ _ _ _ h => h)) (pa_cons (pv 6) pa_nil)))) pa_nil)))
      (pss_cons (ps_expr (pe_bm PySem.F.plainAttrs_list PySem.F.slot_list_append PySem.F.type_list_append mt_append (pv 7) (pa_cons (pe_lamcall (k := 10) (T := TT) (by rfl) gR kR lkR hcR bR sc_word rfl (.inl rfl) (word_gives T WX hn fun _ => (hr.deeper _).mono (by decide)) TB rfl hM hU (hr.mono (by decide)) (lamS_by (sc := defScope s_lused) (by decide +kernel)) rfl (fun _ _ _ _ _ => rfl) (fun _ _ _ _ E2 _ _ hr2 => (pe_meth (E := E2) (pv 2) R.cl mB GB (hr2.mono (by decide)) bB .nil (passes_call (takes_of rfl rfl rfl rfl) (fun _ _ _ _ h => h)) (pa_cons (ClX.pe_cmeth (pe_glob (v := .ref C) rfl R.mC rfl) rd cmO (GO.raw bO .nil) (hr2.mono (by decide)) pass0 (pa_cons (pe_tup (pa_cons pe_int (pa_cons pe_int (pa_cons pe_int pa_nil)))) pa_nil)) pa_nil)))) pa_nil)))
      (pss_one (ps_ret (pe_cmpR (op_eqD u64) (pv 7) (pe_op op_cat (pe_op op_cat (pe_lst (pa_cons pe_str (pa_cons (pe_op op_add_str pe_str (pe_callB (call_repr_v hn un) (by rfl) T.n_repr (by decide +kernel) (pa_cons (pv 4) pa_nil))) pa_nil))) (pe_op op_rep (pe_lst (pa_cons pe_str pa_nil)) pe_int)) (pe_lst (pa_cons (pe_op op_add_str pe_str (pe_callB (call_repr_v hn un) (by rfl) T.n_repr (by decide +kernel) (pa_cons (pv 5) pa_nil))) (pa_cons pe_str (pa_cons pe_str (pa_cons pe_str (pa_cons pe_str pa_nil))))))) (nomark _)))))))))))))))))))), ?_⟩
    dsimp only [tSeq, tAsg]
    obtain ⟨tx3, sh3⟩ := text3
    obtain ⟨zs3, ez3, S3⟩ := shp_of sh3
    obtain rfl : [3] = zs3 := ints_inj (PyData.tuple.inj ez3)
    obtain ⟨sh44, no444, no3222, sh222⟩ := shps
    obtain ⟨_, _, _, sh4, _⟩ := good4
    obtain ⟨zs4, ez4, S4⟩ := shp_of sh4
    obtain rfl : [4] = zs4 := ints_inj (PyData.tuple.inj ez4)
    obtain ⟨zs44, ez44, S44⟩ := shp_of sh44
    obtain rfl : [4, 4] = zs44 := ints_inj (PyData.tuple.inj ez44)
    obtain ⟨zs2, ez2, S222⟩ := shp_of sh222
    obtain rfl : [2, 2, 2] = zs2 := ints_inj (PyData.tuple.inj ez2)
    have n444 : ¬ Shp ([4] ++ [4, 4]) := fun z => by
      have y := shp_is z
      rw [show isSh (.tuple (([4] ++ [4, 4] : List Int).map .int)) = false from no444] at y
      cases y
    have n3222 : ¬ Shp ([3] ++ [2, 2, 2]) := fun z => by
      have y := shp_is z
      rw [show isSh (.tuple (([3] ++ [2, 2, 2] : List Int).map .int)) = false from no3222] at y
      cases y
    refine ⟨rfl, num4, [4], by rw [text4]; rfl, S4, sm4, fun H1 a s1 st1 => ⟨rfl, num3, [3], by rw [tx3]; rfl, S3, sm3, fun H2 b s2 st2 => ⟨by show 2 ≤ sizeLine; decide, fun p np => ?_⟩⟩⟩
    have s3 := (s1.trans s2).trans (sub_same (o := .tup [V.ref a, V.ref b]) np)
    have e3 : upd H2 p (.tup [V.ref a, V.ref b]) p = some (.tup [V.ref a, V.ref b]) := upd_same
    have st1' := stair_same st1 (s2.trans (sub_same (o := .tup [V.ref a, V.ref b]) np))
    have st2' := stair_same st2 (sub_same (o := .tup [V.ref a, V.ref b]) np)
    clear st1 st2
    revert s3 e3 st1' st2'
    generalize upd H2 p (.tup [V.ref a, V.ref b]) = H3
    intro s3 e3 st1 st2
    refine ⟨p, _, rfl, .inl (.inl e3), rfl, _, _, rfl, _, _, rfl, rfl, ?_⟩
    try dsimp only [tSeq, tAsg, gName]
    have u3 := uu.same s3
    have pu : ∀ H, (Urn H u ∧ StairO K H a C [4] (numsL num4 [4])) → Urn H u := fun H h => h.1
    have pm : ∀ H H', Same H H' → (Urn H u ∧ StairO K H a C [4] (numsL num4 [4])) → (Urn H' u ∧ StairO K H' a C [4] (numsL num4 [4])) := fun H H' s h => ⟨h.1.same s, stair_same h.2 s⟩
    have la : LayFA (fun H => Urn H u ∧ StairO K H a C [4] (numsL num4 [4])) u (Shl K) [some (.ref u), some (.ref a), some (.ref b), none, none, none, none, none] (tCons (tC .non) (tCons (tC (.int 0)) (tCons (tC (.int 1)) (tCons (tC (.str "1")) (tCons (tTup tNil) (tCons tDNewK (tCons (tC (.bl true)) (tCons (tProp C (spTabs K C) [] E0 (tVar 1)) (tCons (tProp C (spNums K C) [] E0 (tVar 1)) (tCons (tLst (tCons (tVar 1) tNil)) tNil)))))))))) usedL := (LayFA.cons mono_shl pm (LayF.of mono_shl pu (LayN.shlt LayN.non)) (LayFA.cons mono_shl pm (LayF.of mono_shl pu (LayN.shlt (LayN.int 0))) (LayFA.cons mono_shl pm (LayF.of mono_shl pu (LayN.shlt (LayN.int 1))) (LayFA.cons mono_shl pm (LayF.of mono_shl pu (LayN.shlt (LayN.str "1"))) (LayFA.cons mono_shl pm (LayF.of mono_shl pu (LayN.shlt (LayN.tup LayNA.nil (by decide)))) (LayFA.cons mono_shl pm (LayF.of mono_shl pu LayN.shle) (LayFA.cons mono_shl pm (LayF.of mono_shl pu (LayN.shlt (LayN.bl true))) (LayFA.cons mono_shl pm (fun H Q h q => by
        obtain ⟨dx, fs, e1, _⟩ := stair_ins h.2
        exact ⟨_, rfl, a, dx, fs, rfl, e1, a, [4], num4, rfl, h.2, S4, fun H' y s ty => q y H' s (tv_mxu (h.1.same s) ty).shl⟩)
      (LayFA.cons mono_shl pm (fun H Q h q => by
        obtain ⟨dx, fs, e1, _⟩ := stair_ins h.2
        exact ⟨_, rfl, a, dx, fs, rfl, e1, a, [4], _, rfl, h.2, fun nm en => q _ _ (Same.refl H) ⟨.base (.tup (mxu_of (fun z => by
          obtain ⟨g, m, c, x⟩ := h.1
          rw [z, x] at en
          cases en) en fun _ z => by cases z)), fun _ z => by cases z⟩⟩)
      (LayFA.cons mono_shl pm (fun H Q h q => ⟨_, rfl, by show 1 ≤ sizeLine; decide, fun p np => q _ _ (sub_same np) ⟨.base (.lst (mxu_of (urn_ne h.1 np) upd_same fun _ z => by cases z)), fun _ z => by cases z⟩⟩) LayFA.nil))))))))))
    refine ⟨_, rfl, pickF mono_shl la (by decide) (List.cons_ne_nil _ _) ⟨u3, st1⟩ u3 fun y1 d1 H4 m1 u4 o4 r1 => ?_⟩
    try dsimp only [tSeq, tAsg, gName]
    have lb : ∀ σ, LayNA Shw σ _ manyL := fun σ => (LayNA.cons mono_shw (LayN.shwc (K := K) (LayN.bl true) (by decide)) (LayNA.cons mono_shw (LayN.shwc (K := K) LayN.non (by decide)) (LayNA.cons mono_shw (LayN.shwc (K := K) (LayN.str "2") (by decide)) (LayNA.cons mono_shw (LayN.shwp (K := K) (ns := []) LayNA.nil (by decide)) (LayNA.cons mono_shw (LayN.shwc (K := K) LayN.eq12 (by decide)) (LayNA.cons mono_shw (LayN.shwl (K := K) (ns := [1]) (LayNA.cons mono_tv (LayN.int 1) LayNA.nil) (by decide)) (LayNA.cons mono_shw LayN.shwe (LayNA.cons mono_shw (LayN.shwc (K := K) (LayN.pow 10 60 ⟨by decide, by decide +kernel⟩) (by decide)) (LayNA.cons mono_shw (LayN.shwc (K := K) (LayN.sub (LayN.int 0) (LayN.pow 10 60 ⟨by decide, by decide +kernel⟩)) (by decide)) (LayNA.cons mono_shw (LayN.shwc (K := K) (LayN.add (LayN.pow 10 61 ⟨by decide, by decide +kernel⟩) (LayN.int 5)) (by decide)) LayNA.nil))))))))))
    have lc : ∀ σ, LayNA Shw σ _ idxL := fun σ => (LayNA.cons mono_shw (LayN.shwc (K := K) (LayN.int 1) (by decide)) (LayNA.cons mono_shw (LayN.shwc (K := K) (LayN.neg (LayN.int 1)) (by decide)) (LayNA.cons mono_shw (LayN.shwc (K := K) LayN.non (by decide)) (LayNA.cons mono_shw (LayN.shwc (K := K) (LayN.bl true) (by decide)) (LayNA.cons mono_shw (LayN.shwc (K := K) (LayN.str "0") (by decide)) (LayNA.cons mono_shw (LayN.shwc (K := K) (LayN.pow 10 60 ⟨by decide, by decide +kernel⟩) (by decide)) (LayNA.cons mono_shw (LayN.shwp (K := K) (ns := [0]) (LayNA.cons mono_tv (LayN.int 0) LayNA.nil) (by decide)) LayNA.nil)))))))
    refine ⟨_, rfl, pickF (Pr := fun H => Urn H u) mono_shw (LayFA.of mono_shw (fun _ h => h) (lb _)) (by decide) (List.cons_ne_nil _ _) u4 u4 fun y2 d2 H5 m2 u5 o5 r2 => ?_⟩
    try dsimp only [tSeq, tAsg, gName]
    refine ⟨_, rfl, pickF (Pr := fun H => Urn H u) mono_shw (LayFA.of mono_shw (fun _ h => h) (lc _)) (by decide) (List.cons_ne_nil _ _) u5 u5 fun y3 d3 H6 m3 u6 o6 r3 => ?_⟩
    clear la lb lc
    try dsimp only [tSeq, tAsg, gName]
    have o46 := o5.trans o6
    have o36 := o4.trans o46
    have a6 : StairO K (mxu u H6) a C [4] (numsL num4 [4]) := stair_same (stair_mxu u3 st1) (mxu_old o36)
    have b6 : StairO K (mxu u H6) b C [3] (numsL num3 [3]) := stair_same (stair_mxu u3 st2) (mxu_old o36)
    obtain ⟨dxa, fsa, ea, la⟩ := stair_ins (stair_same a6 mxu_in)
    refine ⟨_, rfl, a, dxa, fsa, rfl, ea, la _ (by decide) (by decide) (by decide), _, rfl, a, a, [4], [4], num4, num4, rfl, stair_same a6 mxu_in, stair_same a6 mxu_in, S4, S4, fun _ H7 wd s7 stw => ?_, fun no => absurd S44 no⟩
    have u7 := u6.same s7
    have o7 : Old u H H7 := ((Old.of_same s3).trans o36).trans (.of_same s7)
    -- what is kept from here on
    have kA : StairO K (mxu u H7) a C [4] (numsL num4 [4]) := stair_same a6 (mxu_up s7)
    have kB : StairO K (mxu u H7) b C [3] (numsL num3 [3]) := stair_same b6 (mxu_up s7)
    have kW : StairO K (mxu u H7) wd C [4, 4] (numsL (both 1 num4 num4) [4, 4]) := stair_mxu u7 stw
    have kd : Shl K (mxu u H7) y1 d1 := mono_shl _ _ _ _ ((mxu_old o46).trans (mxu_up s7)) r1
    have km : Shw (mxu u H7) y2 d2 := mono_shw _ _ _ _ ((mxu_old o6).trans (mxu_up s7)) r2
    have ki : Shw (mxu u H7) y3 d3 := mono_shw _ _ _ _ (mxu_up s7) r3
    obtain ⟨b2, b2'⟩ := many_ok d2 m2
    obtain ⟨m5, m6⟩ := small_of b2'
    obtain ⟨b3, b3', b3''⟩ := idx_ok d3 m3
    obtain ⟨i5, i6⟩ := small_of b3'
    have tb7 : Tabs TT H7 := tabs_old uu tb o7
    have fw7 : Fwd u H H7 := fun b o n _ e => o7 b o n e
    have hG7 : ∀ {Z}, ExtN H7 Z → Same (mxu u H7) Z := fun e b o h => let ⟨_, c, k⟩ := mxu_at h; e b o c k
    have ins : ∀ {Z : Hp} {x : Addr} {ns ms : List Int}, StairO K (mxu u H7) x C ns ms → Same (mxu u H7) Z → ∃ dx fs, Z x = some (.ins C dx fs) ∧ ∀ m : Str, m ≠ "_shape" → m ≠ "_plan" → m ≠ "_numbers" → fs.lookup m = none := fun k g => stair_ins (stair_same k g)
    clear r1 r2 r3 tb uu st1 st2 a6 b6 ea la
    refine ⟨tb7, fun Z1 e1x t1x => ?_⟩
    have g1 := hG7 e1x
    obtain ⟨dx1, fs1, ea1, _⟩ := ins kA g1
    obtain ⟨dx2, fs2, ea2, _⟩ := ins kB g1
    refine ⟨_, rfl, _, rfl, a, b, rfl, rfl, ⟨dx1, fs1, ea1⟩, ⟨dx2, fs2, ea2⟩, a, b, [4], _, [3], _, rfl, stair_same kA g1, stair_same kB g1, by decide, .inr (.inl ⟨rfl, ?_⟩)⟩
    refine ⟨by show 1 ≤ sizeLine; decide, fun L nL => ?_⟩
    obtain ⟨off, S⟩ := St.start (TT := TT) (w := "stair") u7 fw7 t1x e1x (Same.refl Z1) nL
    -- power(many)
    refine told_next (w := "number " ++ d2.shown) off S rfl (by simp) (fun Z g Q q => ?_) fun Z2 S => ?_
    · obtain ⟨dx, fs, e, l⟩ := ins kA g
      exact ⟨_, rfl, a, dx, fs, rfl, e, l _ (by decide) (by decide) (by decide), _, rfl, .ref a, y2, d2, rfl, (km.same g).shl, b2, fun dd nd => .inr (.inr (.inr (.inl ⟨rfl, dd, y2, d2, rfl, upd_same, km.same (g.trans (sub_same nd)), m5, q _ (sub_same nd)⟩)))⟩
    -- bracket(odd)
    refine told_next (w := "stair") off S rfl (by simp) (fun Z g Q q => ?_) fun Z2 S => ?_
    · obtain ⟨dx, fs, e, l⟩ := ins kA g
      exact ⟨_, rfl, a, dx, fs, rfl, e, l _ (by decide) (by decide) (by decide), _, rfl, a, y1, [4], _, rfl, stair_same kA g, .inr ⟨_, (kd.same g).ty, noC d1⟩, .inr (.inl ⟨rfl, q _ (Same.refl _)⟩)⟩
    -- bracket(other)
    refine told_next (w := "stair") off S rfl (by simp) (fun Z g Q q => ?_) fun Z2 S => ?_
    · obtain ⟨dx, fs, e, l⟩ := ins kA g
      exact ⟨_, rfl, a, dx, fs, rfl, e, l _ (by decide) (by decide) (by decide), _, rfl, a, .ref b, [4], _, rfl, stair_same kA g, .inl ⟨b, [3], _, rfl, stair_same kB g, by decide⟩, .inr (.inl ⟨rfl, q _ (Same.refl _)⟩)⟩
    -- led(odd)
    refine told_next (w := "stair") off S rfl (by simp) (fun Z g Q q => ?_) fun Z2 S => ?_
    · obtain ⟨dx, fs, e, l⟩ := ins kA g
      exact ⟨_, rfl, a, dx, fs, rfl, e, l _ (by decide) (by decide) (by decide), _, rfl, a, y1, [4], _, rfl, stair_same kA g, .inr ⟨_, (kd.same g).ty, noC d1⟩, .inr (.inl ⟨rfl, q _ (Same.refl _)⟩)⟩
    -- other.led(stair)
    refine told_next (w := "stair") off S rfl (by simp) (fun Z g Q q => ?_) fun Z2 S => ?_
    · obtain ⟨dx, fs, e, l⟩ := ins kB g
      exact ⟨_, rfl, b, dx, fs, rfl, e, l _ (by decide) (by decide) (by decide), _, rfl, b, .ref a, [3], _, rfl, stair_same kB g, .inl ⟨a, [4], _, rfl, stair_same kA g, by decide⟩, .inr (.inl ⟨rfl, q _ (Same.refl _)⟩)⟩
    -- block(index)
    refine told_next (w := "number " ++ d3.shown) off S rfl (by simp) (fun Z g Q q => ?_) fun Z2 S => ?_
    · obtain ⟨dx, fs, e, l⟩ := ins kA g
      exact ⟨_, rfl, a, dx, fs, rfl, e, l _ (by decide) (by decide) (by decide), _, rfl, a, y3, d3, [4], _, rfl, stair_same kA g, (ki.same g).dw b3'', b3, fun dd nd => .inr (.inr (.inr (.inl ⟨rfl, dd, y3, d3, rfl, upd_same, ki.same (g.trans (sub_same nd)), i5, q _ (sub_same nd)⟩)))⟩
    -- beside(odd)
    refine told_next (w := "stair") off S rfl (by simp) (fun Z g Q q => ?_) fun Z2 S => ?_
    · obtain ⟨dx, fs, e, l⟩ := ins kA g
      exact ⟨_, rfl, a, dx, fs, rfl, e, l _ (by decide) (by decide) (by decide), _, rfl, .ref a, y1, _, rfl, (kd.same g).ty, noC d1, .inr (.inl ⟨rfl, q _ (Same.refl _)⟩)⟩
    -- beside(stair)
    refine told_next (w := "fine") off S rfl (by simp) (fun Z g Q q => ?_) fun Z2 S => ?_
    · obtain ⟨dx, fs, e, l⟩ := ins kA g
      exact ⟨_, rfl, a, dx, fs, rfl, e, l _ (by decide) (by decide) (by decide), _, rfl, a, a, [4], [4], num4, num4, rfl, stair_same kA g, stair_same kA g, S4, S4, fun _ H' c' s' _ => q _ s', fun no => absurd S44 no⟩
    -- beside(wide)
    refine told_next (w := "many 8") off S rfl (by simp) (fun Z g Q q => ?_) fun Z2 S => ?_
    · obtain ⟨dx, fs, e, l⟩ := ins kA g
      exact ⟨_, rfl, a, dx, fs, rfl, e, l _ (by decide) (by decide) (by decide), _, rfl, a, wd, [4], [4, 4], num4, both 1 num4 num4, rfl, stair_same kA g, stair_same kW g, S4, S44, fun z => absurd z n444, fun _ H' dd s' hd => .inr (.inr (.inr (.inr ⟨rfl, dd, rfl, hd, q _ s'⟩)))⟩
    -- other.beside(Stair.one((2, 2, 2)))
    refine told_next (w := "many 8") off S rfl (by simp) (fun Z g Q q => ?_) fun Z2 S => ?_
    · obtain ⟨dx, fs, e, l⟩ := ins kB g
      refine ⟨_, rfl, b, dx, fs, rfl, e, l _ (by decide) (by decide) (by decide), rfl, by show 3 ≤ sizeLine; decide, fun p1 np1 => ?_⟩
      have s5 := sub_same (o := .tup [V.int 2, V.int 2, V.int 2]) np1
      refine ⟨p1, [2, 2, 2], rfl, sqt_new upd_same, S222, fun H' c' s' st => ?_⟩
      exact ⟨b, c', [3], [2, 2, 2], num3, _, rfl, stair_same kB (g.trans (s5.trans s')), st, S3, S222, fun z => absurd z n3222, fun _ H'' dd s'' hd => .inr (.inr (.inr (.inr ⟨rfl, dd, rfl, hd, q _ ((s5.trans s').trans s'')⟩)))⟩
    -- all words
    have l7 : ("number " : Str).length = 7 := by decide +kernel
    have szm : ("number " : Str).length + d2.shown.length ≤ sizeLine := by
      have z := m5.sz
      rw [l7]
      exact Nat.le_trans (show 7 + d2.shown.length ≤ 1000 by omega) (by decide)
    have szi : ("number " : Str).length + d3.shown.length ≤ sizeLine := by
      have z := i5.sz
      rw [l7]
      exact Nat.le_trans (show 7 + d3.shown.length ≤ 1000 by omega) (by decide)
    refine ⟨_, rfl, _, rfl, y2, d2, rfl, km.same S.g, m5, _, _, rfl, rfl, szm, by show 2 ≤ sizeLine; decide, fun p1 n1 => ?_⟩
    have q1 := sub_same (o := .lst [V.str "stair", V.str ("number " ++ d2.shown)]) n1
    refine ⟨by show 1 ≤ sizeLine; decide, fun p2 n2 => ?_⟩
    have q2 := sub_same (o := .lst [V.str "stair"]) n2
    refine ⟨p2, 4, [V.str "stair"], rfl, rfl, upd_same, by decide, by decide, by show 4 ≤ sizeLine; decide, fun p3 n3 => ?_⟩
    have q3 := sub_same (o := .lst (List.replicate (4 : Int).toNat [V.str "stair"]).flatten) n3
    refine ⟨p1, p3, _, _, rfl, rfl, q3 _ _ (q2 _ _ upd_same), upd_same, by show 6 ≤ sizeLine; decide, fun p4 n4 => ?_⟩
    have q4 := sub_same (o := .lst ([V.str "stair", V.str ("number " ++ d2.shown)] ++ (List.replicate (4 : Int).toNat [V.str "stair"]).flatten)) n4
    have q14 := ((q1.trans q2).trans q3).trans q4
    refine ⟨_, rfl, y3, d3, rfl, ki.same (S.g.trans q14), i5, _, _, rfl, rfl, szi, by show 5 ≤ sizeLine; decide, fun p5 n5 => ?_⟩
    have q5 := sub_same (o := .lst [V.str ("number " ++ d3.shown), V.str "stair", V.str "fine", V.str "many 8", V.str "many 8"]) n5
    refine ⟨p4, p5, _, _, rfl, rfl, q5 _ _ upd_same, upd_same, by show 11 ≤ sizeLine; decide, fun p6 n6 => ?_⟩
    have q6 := (q14.trans q5).trans (sub_same (o := .lst (([("stair" : Str), "number " ++ d2.shown, "stair", "stair", "stair", "stair", "number " ++ d3.shown, "stair", "fine", "many 8", "many 8"] : List Str).map V.str)) n6)
    have SZ := S.same off q6
    have sh := shaped_strs ([("stair" : Str), "number " ++ d2.shown, "stair", "stair", "stair", "stair", "number " ++ d3.shown, "stair", "fine", "many 8", "many 8"] : List Str) (fun w m => by
      simp only [List.mem_cons, List.not_mem_nil, or_false] at m
      rcases m with rfl | rfl | rfl | rfl | rfl | rfl | rfl | rfl | rfl | rfl | rfl
      all_goals first | exact m6 | exact i6 | decide +kernel)
    refine ⟨_, _, .lst (.inl (.inl (q6 _ _ S.hl))) (dp_strs K _ ["stair", "number " ++ d2.shown, "stair", "stair", "stair", "stair", "number " ++ d3.shown, "stair", "fine", "many 8", "many 8"]), .lst (.inl (.inl upd_same)) (dp_strs K _ ["stair", "number " ++ d2.shown, "stair", "stair", "stair", "stair", "number " ++ d3.shown, "stair", "fine", "many 8", "many 8"]), sh, sh, ?_⟩
    rw [eqv_strs]
    exact q _ SZ.uu SZ.tb SZ.fw
end
end K09

/-! # the law -/
namespace K09
open PySem PySem.Spec PyProof.Rows L2 TL NumText RZ LamX
theorem turns (z : Int) : -(2 ^ 62) ≤ (if (if z < 4 then z else 4) > 1 then (if z < 4 then z else 4) else 1) ∧ (if (if z < 4 then z else 4) > 1 then (if z < 4 then z else 4) else 1) < 2 ^ 62 ∧ (if (if z < 4 then z else 4) > 1 then (if z < 4 then z else 4) else 1) ≤ 4 := by
  split <;> split <;> omega
section
variable {P : Program} {w : World} {K : PySem.W.Frag} {mg : Str → Option Value} {base : Heap}
abbrev s_law : Stmt := topS 71
theorem sc_law : FnScope ["_law_script", "_law_at", "_law_pot_here", "_law_turn"] ["_law_script"] (defScope s_law) := ⟨rfl, rfl, rfl, by decide +kernel, rfl, by decide +kernel, by decide +kernel⟩
def spLaw (K : PySem.W.Frag) (TT : List (Addr × Str)) : Sp := fun vs H Q _ => ∃ (a : Addr) (ns : List Int), vs = [.ref a] ∧ SqL K H a (ns.map V.int) ∧ ns.length ≤ 63 ∧ Tabs TT H ∧ ∀ H', Q (.bl true) H'
theorem ok_law {f f1 f2 f3 f4 : Addr} {fd fd1 fd2 fd3 fd4 : FuncData} {TT : List (Addr × Str)} (T : Txt mg) (N : Nam mg) (d : D K mg "law" s_law ["_law_script"] f fd)
    (g1 : mg "_law_made_right" = some (.ref f1)) (k1 : PySem.W.keepIn K (.ref f1) = true) (b1 : Binds K fd1 ["_law_pot_here"] []) (G1 : FnG P w K mg base CX0 13 f1 fd1 ["_law_pot_here"] (spTest TT))
    (g2 : mg "_law_used_right" = some (.ref f2)) (k2 : PySem.W.keepIn K (.ref f2) = true) (b2 : Binds K fd2 ["_law_pot_here"] []) (G2 : FnG P w K mg base CX0 13 f2 fd2 ["_law_pot_here"] (spTest TT))
    (g3 : mg "_law_singles_right" = some (.ref f3)) (k3 : PySem.W.keepIn K (.ref f3) = true) (b3 : Binds K fd3 ["_law_pot_here"] []) (G3 : FnG P w K mg base CX0 13 f3 fd3 ["_law_pot_here"] (spTest TT))
    (d4 : D K mg "_law_pot" s_pot ["_law_script", "_law_at"] f4 fd4) (G4 : FnOk P w K mg base CX0 1 f4 fd4 ["_law_script", "_law_at"] (spUrn K)) : FnG P w K mg base CX0 14 f fd ["_law_script"] (spLaw K TT) := by
  refine FnG.of d.F sc_law (fun vs H Q E h => ?_) (fun cdv A outer s H vs Q E hn hr h => ?_)
  · obtain ⟨a, ns, rfl, _⟩ := h
    rfl
  · obtain ⟨a, ns, rfl, hS, hl, tb, q⟩ := h
    refine ⟨_, (pss_cons (ps_for PassesOwn.never rfl (pi_range1 (by rfl) T.n_range (pa_cons (pe_callB (call_max2 rfl) (by rfl) T.n_max (by decide +kernel) (pa_cons pe_int (pa_cons (pe_callB (call_min2 rfl) (by rfl) T.n_min (by decide +kernel) (pa_cons pe_int (pa_cons (pe_callB call_len_seq (by rfl) T.n_len PySem.boot_len (pa_cons (pv 0) pa_nil)) pa_nil))) pa_nil))) pa_nil)) (pg_name (i := 1) sc_law.nd rfl (.inl rfl))
        (pss_cons (ps_set (i := 2) sc_law.nd rfl (.inl rfl) (pe_call G4 (hr.mono (by decide)) (by rfl) d4.g d4.F.kp d4.b .nil pass0 (pa_cons (pv 0) (pa_cons (pv 1) pa_nil))))
      (pss_one (ps_for PassesOwn.never rfl (pi_range1 (by rfl) T.n_range (pa_cons pe_int pa_nil)) (pg_name (i := 3) sc_law.nd rfl (.inl rfl))
        (pss_one (ps_if (PW.pt (pw_or (pt_not (pt_val (pe_callG G1 hn hr (by rfl) g1 k1 b1 (pa_cons (pv 2) pa_nil)))) (pw_or (pt_not (pt_val (pe_callG G2 hn hr (by rfl) g2 k2 b2 (pa_cons (pv 2) pa_nil)))) (pw_or1 (pt_not (pt_val (pe_callG G3 hn hr (by rfl) g3 k3 b3 (pa_cons (pv 2) pa_nil)))))))) (pss_one (ps_ret pe_bl)) pss_nil))))))
      (pss_one (ps_ret pe_bl))), ?_⟩
    obtain ⟨j0, j1, j2⟩ := turns (((ns.map V.int).length : Nat) : Int)
    refine ⟨.ref a, rfl, a, _, rfl, .inl hS, _, _, rfl, _, _, rfl, _, rfl, j0, j1, ?_⟩
    refine for_range (fun i σ Z => (∃ y1 y2 y3, σ = [some (.ref a), y1, y2, y3]) ∧ SqL K Z a (ns.map V.int) ∧ Tabs TT Z) ⟨⟨_, _, _, rfl⟩, hS, tb⟩ ?_ ?_
    · rintro i σ Z hi ⟨⟨y1, y2, y3, rfl⟩, sz, tz⟩
      refine ⟨_, rfl, _, rfl, a, i, ns, (by simp), sz, by omega, fun H1 u s1 n1 u1 => ?_⟩
      have sz1 : SqL K H1 a (ns.map V.int) := by
        rcases sz with (e | ⟨od, e⟩) | h
        · exact .inl (.inl (s1 _ _ e))
        · exact .inl (.inr ⟨od, s1 _ _ e⟩)
        · exact .inr h
      have kp : ∀ {Z2 Z3 : Hp}, SqL K Z2 a (ns.map V.int) → Fwd u Z2 Z3 → SqL K Z3 a (ns.map V.int) := by
        have un : a ≠ u ∨ ∀ Z3, SqL K Z3 a (ns.map V.int) := by
          rcases sz with (x | ⟨od, x⟩) | h2
          · exact .inl (fun e => by rw [e, n1] at x; cases x)
          · exact .inl (fun e => by rw [e, n1] at x; cases x)
          · exact .inr fun Z3 => .inr h2
        intro Z2 Z3 h f
        rcases un with e | all
        · rcases h with (x | ⟨od, x⟩) | h
          · exact .inl (.inl (f _ _ e (fun _ z => by cases z) x))
          · exact .inl (.inr ⟨od, f _ _ e (fun _ z => by cases z) x⟩)
          · exact .inr h
        · exact all Z3
      have t1 := tz.ext s1
      refine ⟨3, rfl, by decide, by decide, ?_⟩
      refine for_range (lo := 0) (n := 3) (fun j σ Y => (∃ y3, σ = [some (.ref a), some (.int (0 + (i : Int))), some (.ref u), y3]) ∧ SqL K Y a (ns.map V.int) ∧ Tabs TT Y ∧ Urn Y u) ⟨⟨_, rfl⟩, sz1, t1, u1⟩ ?_ ?_
      · rintro j σ Y hj ⟨⟨y3, rfl⟩, sy, ty, uy⟩
        refine ⟨_, rfl, u, rfl, uy, ty, fun H2 u2 t2 f2 => ⟨true, rfl, ite2 (fun z => absurd z Bool.false_ne_true) (fun _ => ?_)⟩⟩
        refine ⟨_, rfl, u, rfl, u2, t2, fun H3 u3 t3 f3 => ⟨true, rfl, ite2 (fun z => absurd z Bool.false_ne_true) (fun _ => ?_)⟩⟩
        refine ⟨_, rfl, u, rfl, u3, t3, fun H4 u4 t4 f4 => ⟨true, rfl, ite2 (fun z => absurd z Bool.false_ne_true) (fun _ => ?_)⟩⟩
        exact ⟨⟨_, rfl⟩, kp (kp (kp sy f2) f3) f4, t4, u4⟩
      · rintro σ Y ⟨⟨y3, rfl⟩, sy, ty, uy⟩
        exact ⟨⟨_, _, _, rfl⟩, sy, ty⟩
    · rintro σ Z ⟨⟨y1, y2, y3, rfl⟩, sz, tz⟩
      exact q Z
end
end K09

namespace K09
open PySem PySem.Spec PyProof.Rows L2 PySem.HandSPX
theorem kit_self {K : PySem.W.Frag} (t : Value) : PySem.W.kitOne K t t = some true := by
  unfold PySem.W.kitOne
  rw [if_pos (beq_self_eq_true t)]
theorem all_of {l : PySem.W.OpenLaw} {w : World} {K : PySem.W.Frag} {h : Heap} {mg : Str → Option Value} {fa : Addr} (X : K.In h) (G : h.Ns mainGlobals mg) (hfa : mg "law" = some (.ref fa))
    {C CS TL fI gO gG gD gF gN gT gM gP gK gL gB gE CT CO CN CM fN fM pO pG pD pF qN qT : Addr} {rO rG rD rF rN rT : List Value}
    (aC : PySem.W.nsIn K mainGlobals "Stair" = some (some (.ref C)))
    (pg : PySem.W.plainGet K C Str.empty = true) (hd : PySem.W.hasDictIn K C = true) (po : PySem.W.plainOver K C = true) (sa : PySem.W.findIn K (.ref C) "__setattr__" = some (some (.builtin "object.__setattr__")))
    (nS : PySem.W.findIn K (.ref C) "_shape" = some none) (nP : PySem.W.findIn K (.ref C) "_plan" = some none) (nN : PySem.W.findIn K (.ref C) "_numbers" = some none)
    (ha : PySem.W.findIn K (.ref C) "__class__" = some (some (.builtin "object.__class__"))) (hn : PySem.W.specialIn K (.builtin "object.__class__") "__get__" = some (some (.builtin "getset_descriptor.__get__"))) (htk : PySem.W.takesIn K (.builtin "object.__class__") = some true) (hm : PySem.W.mroIn K C (.type "object") = some true) (ne : PySem.W.findIn K (.ref C) "__ne__" = some (some (.builtin "object.__ne__")))
    (sf : PySem.W.selfFirst K C = true) (nfC : PySem.W.notFirst K C (.ref C) = true) (ki : PySem.W.kitOne K (.ref C) (.type "int") = some false)
    (no0 : PySem.W.kitOne K (.type "NoneType") (.ref C) = some false) (nf0 : PySem.W.notFirst K C (.type "NoneType") = true)
    (no1 : PySem.W.kitOne K (.type "bool") (.ref C) = some false) (nf1 : PySem.W.notFirst K C (.type "bool") = true)
    (no2 : PySem.W.kitOne K (.type "int") (.ref C) = some false) (nf2 : PySem.W.notFirst K C (.type "int") = true)
    (no3 : PySem.W.kitOne K (.type "str") (.ref C) = some false) (nf3 : PySem.W.notFirst K C (.type "str") = true)
    (no4 : PySem.W.kitOne K (.type "list") (.ref C) = some false) (nf4 : PySem.W.notFirst K C (.type "list") = true)
    (no5 : PySem.W.kitOne K (.type "tuple") (.ref C) = some false) (nf5 : PySem.W.notFirst K C (.type "tuple") = true)
    (no6 : PySem.W.kitOne K (.type "dict") (.ref C) = some false) (nf6 : PySem.W.notFirst K C (.type "dict") = true)
    (mks : PySem.W.makesIn K C = true) (ini : PySem.W.findIn K (.ref C) "__init__" = some (some (.ref fI))) (ifn : PySem.W.isFn K (.ref fI) = true) (kpC : PySem.W.keepIn K (.ref C) = true)
    (eM : PySem.W.findIn K (.ref C) "__mul__" = some (some (.ref gM))) (iM : PySem.W.isFn K (.ref gM) = true)
    (eP : PySem.W.findIn K (.ref C) "power" = some (some (.ref gP))) (iP : PySem.W.isFn K (.ref gP) = true)
    (eK : PySem.W.findIn K (.ref C) "bracket" = some (some (.ref gK))) (iK : PySem.W.isFn K (.ref gK) = true)
    (eL : PySem.W.findIn K (.ref C) "led" = some (some (.ref gL))) (iL : PySem.W.isFn K (.ref gL) = true)
    (eB : PySem.W.findIn K (.ref C) "block" = some (some (.ref gB))) (iB : PySem.W.isFn K (.ref gB) = true)
    (eE : PySem.W.findIn K (.ref C) "beside" = some (some (.ref gE))) (iE : PySem.W.isFn K (.ref gE) = true)
    (pNa : PySem.W.findIn K (.ref C) "numbers" = some (some (.ref qN))) (pNg : PySem.W.specialIn K (.ref qN) "__get__" = some (some (.builtin "property.__get__"))) (pNt : PySem.W.takesIn K (.ref qN) = some true) (pNr : PySem.W.recIn K qN "property" = some (.ref gN :: rN))
    (pTa : PySem.W.findIn K (.ref C) "tables" = some (some (.ref qT))) (pTg : PySem.W.specialIn K (.ref qT) "__get__" = some (some (.builtin "property.__get__"))) (pTt : PySem.W.takesIn K (.ref qT) = some true) (pTr : PySem.W.recIn K qT "property" = some (.ref gT :: rT))
    (rd : PySem.W.readsIn K C (.type "type") = true) (rga : PySem.W.specialIn K (.ref C) "__getattribute__" = some (some (.builtin "type.__getattribute__")))
    (cAO : PySem.W.findCls K (.ref C) (.type "type") "one" = some (.get (.builtin "classmethod.__get__") (.ref pO) .none (.ref C))) (cRO : PySem.W.recIn K pO "classmethod" = some (.ref gO :: rO)) (cFO : PySem.W.fnIn K gO = true)
    (cAG : PySem.W.findCls K (.ref C) (.type "type") "single" = some (.get (.builtin "classmethod.__get__") (.ref pG) .none (.ref C))) (cRG : PySem.W.recIn K pG "classmethod" = some (.ref gG :: rG)) (cFG : PySem.W.fnIn K gG = true)
    (cAD : PySem.W.findCls K (.ref C) (.type "type") "read" = some (.get (.builtin "classmethod.__get__") (.ref pD) .none (.ref C))) (cRD : PySem.W.recIn K pD "classmethod" = some (.ref gD :: rD)) (cFD : PySem.W.fnIn K gD = true)
    (cAF : PySem.W.findCls K (.ref C) (.type "type") "of" = some (.get (.builtin "classmethod.__get__") (.ref pF) .none (.ref C))) (cRF : PySem.W.recIn K pF "classmethod" = some (.ref gF :: rF)) (cFF : PySem.W.fnIn K gF = true)
    (aX : PySem.W.nsIn K mainGlobals "InvalidShape" = some (some (.ref CS))) (xX : PySem.W.excIn K CS [.type "ValueError", .type "Exception", .type "BaseException", .type "object"] "ValueError.__new__" = true) (kX : PySem.W.keepIn K (.ref CS) = true) (bX : PySem.W.subIn K (.ref CS) (.type "BaseException") = some true) (tX : PySem.W.typeIn K (.ref CS) = some (.type "type"))
    (aT_ : PySem.W.nsIn K mainGlobals "InvalidStair" = some (some (.ref CT))) (xT : PySem.W.excIn K CT [.type "ValueError", .type "Exception", .type "BaseException", .type "object"] "ValueError.__new__" = true) (kT_ : PySem.W.keepIn K (.ref CT) = true) (bT : PySem.W.subIn K (.ref CT) (.type "BaseException") = some true) (tT : PySem.W.typeIn K (.ref CT) = some (.type "type")) (hdT : PySem.W.hasDictIn K CT = true) (sbT : PySem.W.subIn K (.ref CT) (.ref CT) = some true)
    (aO_ : PySem.W.nsIn K mainGlobals "InvalidOperation" = some (some (.ref CO))) (xO : PySem.W.excIn K CO [.type "ValueError", .type "Exception", .type "BaseException", .type "object"] "ValueError.__new__" = true) (kO_ : PySem.W.keepIn K (.ref CO) = true) (bO : PySem.W.subIn K (.ref CO) (.type "BaseException") = some true) (tO : PySem.W.typeIn K (.ref CO) = some (.type "type")) (hdO : PySem.W.hasDictIn K CO = true) (sbO : PySem.W.subIn K (.ref CO) (.ref CO) = some true)
    (hdS : PySem.W.hasDictIn K CS = true) (sbS : PySem.W.subIn K (.ref CS) (.ref CS) = some true)
    {nmN qnN : Str} {NN : Addr} {bsN subN : List Value} {snN : List Str} {abN : Bool} {colN : Option Bool} {ddN : Option Addr} {m0N m1N m2N m3N m5N : Option Value} {odeN aneN : Option Addr} {sleN : Array (Option Value)} {oceN dceN pmeN cdeN cteN : Value}
    (gN_ : PySem.W.nsIn K mainGlobals "InvalidNumber" = some (some (.ref CN)))
    (xN : K.lookup CN = some (excClassObj nmN qnN CN NN bsN [.type "IndexError", .type "LookupError", .type "Exception", .type "BaseException", .type "object"] true snN subN abN colN ddN m0N m1N m2N m3N m5N "IndexError.__new__"))
    (ovN : PySem.W.excOver K CN PySem.NumX.tailIE = true) (tkN : PySem.W.takerIn K CN "given" = some none)
    (saN : PySem.W.findIn K (.ref CN) "__setattr__" = some (some (.builtin "object.__setattr__"))) (gaN : PySem.W.findIn K (.ref CN) "__getattribute__" = some (some (.builtin "BaseException.__getattribute__"))) (ggN : PySem.W.findIn K (.ref CN) "__getattr__" = some none) (nbN : PySem.W.findIn K (.ref CN) "given" = some none)
    (icN : PySem.W.findIn K (.ref CN) "__init__" = some (some (.ref fN))) (tyN_ : PySem.W.typeIn K (.ref fN) = some (.type "function"))
    (leN : K.lookup fN = some ⟨oceN, odeN, .func (PySem.W.fnOf "__init__" "InvalidNumber.__init__" (PySem.NumX.iA ⟨19, 17, 19, 21⟩ ⟨19, 23, 19, 28⟩) (PySem.NumX.iB ⟨20, 8, 20, 12⟩ ⟨20, 8, 20, 18⟩ ⟨20, 21, 20, 26⟩ ⟨20, 8, 20, 26⟩) PySem.NumX.iS .none .none dceN pmeN aneN cdeN cteN), sleN⟩) (ceN : PySem.W.codeIn K cdeN "InvalidNumber.__init__" = true)
    (keN : PySem.W.keepIn K (.ref CN) = true) (exN : PySem.W.subIn K (.ref CN) (.type "BaseException") = some true) (ttN : PySem.W.typeIn K (.ref CN) = some (.type "type")) (hdN : PySem.W.hasDictIn K CN = true) (sbN : PySem.W.subIn K (.ref CN) (.ref CN) = some true)
    {nmM qnM : Str} {NM : Addr} {bsM subM : List Value} {snM : List Str} {abM : Bool} {colM : Option Bool} {ddM : Option Addr} {m0M m1M m2M m3M m5M : Option Value} {odeM aneM : Option Addr} {sleM : Array (Option Value)} {oceM dceM pmeM cdeM cteM : Value}
    (gM_ : PySem.W.nsIn K mainGlobals "TooMany" = some (some (.ref CM)))
    (xM : K.lookup CM = some (excClassObj nmM qnM CM NM bsM [.type "OverflowError", .type "ArithmeticError", .type "Exception", .type "BaseException", .type "object"] true snM subM abM colM ddM m0M m1M m2M m3M m5M "OverflowError.__new__"))
    (ovM : PySem.W.excOver K CM PySem.MostX.tailOV = true) (tkM : PySem.W.takerIn K CM "most" = some none)
    (saM : PySem.W.findIn K (.ref CM) "__setattr__" = some (some (.builtin "object.__setattr__"))) (gaM : PySem.W.findIn K (.ref CM) "__getattribute__" = some (some (.builtin "BaseException.__getattribute__"))) (ggM : PySem.W.findIn K (.ref CM) "__getattr__" = some none) (nbM : PySem.W.findIn K (.ref CM) "most" = some none)
    (icM : PySem.W.findIn K (.ref CM) "__init__" = some (some (.ref fM))) (tyM_ : PySem.W.typeIn K (.ref fM) = some (.type "function"))
    (leM : K.lookup fM = some ⟨oceM, odeM, .func (PySem.W.fnOf "__init__" "TooMany.__init__" (PySem.MostX.iA ⟨23, 17, 23, 21⟩ ⟨23, 23, 23, 27⟩) (PySem.MostX.iB ⟨24, 8, 24, 12⟩ ⟨24, 8, 24, 17⟩ ⟨24, 20, 24, 24⟩ ⟨24, 8, 24, 24⟩) PySem.MostX.iS .none .none dceM pmeM aneM cdeM cteM), sleM⟩) (ceM : PySem.W.codeIn K cdeM "TooMany.__init__" = true)
    (keM : PySem.W.keepIn K (.ref CM) = true) (exM : PySem.W.subIn K (.ref CM) (.type "BaseException") = some true) (ttM : PySem.W.typeIn K (.ref CM) = some (.type "type")) (hdM : PySem.W.hasDictIn K CM = true) (sbM : PySem.W.subIn K (.ref CM) (.ref CM) = some true)
    (sTS : PySem.W.subIn K (.ref CT) (.ref CS) = some false) (sOS : PySem.W.subIn K (.ref CO) (.ref CS) = some false) (sOT : PySem.W.subIn K (.ref CO) (.ref CT) = some false) (sNS : PySem.W.subIn K (.ref CN) (.ref CS) = some false) (sNT : PySem.W.subIn K (.ref CN) (.ref CT) = some false) (sNO : PySem.W.subIn K (.ref CN) (.ref CO) = some false) (sMS : PySem.W.subIn K (.ref CM) (.ref CS) = some false) (sMT : PySem.W.subIn K (.ref CM) (.ref CT) = some false) (sMO : PySem.W.subIn K (.ref CM) (.ref CO) = some false) (sMN : PySem.W.subIn K (.ref CM) (.ref CN) = some false)
    {t0 : Tok} (cst0 : PySem.W.nsIn K mainGlobals "_MOST_BLOCKS" = some (some (.int 3 t0)))
    {t1 : Tok} (cst1 : PySem.W.nsIn K mainGlobals "_LEAST_SIZE" = some (some (.int 2 t1)))
    {t2 : Tok} (cst2 : PySem.W.nsIn K mainGlobals "_MOST_SIZE" = some (some (.int 6 t2)))
    {t3 : Tok} (cst3 : PySem.W.nsIn K mainGlobals "MAX_BOXES" = some (some (.int 8 t3)))
    {t4 : Tok} (cst4 : PySem.W.nsIn K mainGlobals "_LIMIT" = some (some (.int (10 ^ 60) t4)))
    {t_MAX_DIGITS : Tok} (cst_MAX_DIGITS : PySem.W.nsIn K mainGlobals "MAX_DIGITS" = some (some (.int 60 t_MAX_DIGITS)))
    {odTL : Option Addr} {slTL : Array (Option Value)} {tTL : Tok} {nTL : Nat} (aTL : PySem.W.nsIn K mainGlobals "_LEAST_SHAPE" = some (some (.ref TL))) (lTL : K.lookup TL = some ⟨.type "tuple", odTL, .seq #[.int 2 tTL] nTL, slTL⟩)
    (n_len : PySem.W.nsIn K mainGlobals "len" = some none)
    (n_abs : PySem.W.nsIn K mainGlobals "abs" = some none)
    (n_int : PySem.W.nsIn K mainGlobals "int" = some none)
    (n_bool : PySem.W.nsIn K mainGlobals "bool" = some none)
    (n_max : PySem.W.nsIn K mainGlobals "max" = some none)
    (n_min : PySem.W.nsIn K mainGlobals "min" = some none)
    (n_sum : PySem.W.nsIn K mainGlobals "sum" = some none)
    (n_tuple : PySem.W.nsIn K mainGlobals "tuple" = some none)
    (n_range : PySem.W.nsIn K mainGlobals "range" = some none)
    (n_repr : PySem.W.nsIn K mainGlobals "repr" = some none)
    (n_isinstance : PySem.W.nsIn K mainGlobals "isinstance" = some none)
    (n_reversed : PySem.W.nsIn K mainGlobals "reversed" = some none)
    (n_all : PySem.W.nsIn K mainGlobals "all" = some none)
    (n_any : PySem.W.nsIn K mainGlobals "any" = some none)
    (n_list : PySem.W.nsIn K mainGlobals "list" = some none)
    (n_dict : PySem.W.nsIn K mainGlobals "dict" = some none)
    (n_enumerate : PySem.W.nsIn K mainGlobals "enumerate" = some none)
    (n_sorted : PySem.W.nsIn K mainGlobals "sorted" = some none)
    (n_str : PySem.W.nsIn K mainGlobals "str" = some none)
    (n_zip : PySem.W.nsIn K mainGlobals "zip" = some none)
    {od_I an_I : Option Addr} {sl_I : Array (Option Value)} {oc_I kV_I dc_I pm_I cd_I ct_I : Value} (l_I : K.lookup fI = some ⟨oc_I, od_I, .func (PySem.W.fnOf "__init__" "Stair.__init__" (defArgs s_init) (defBody s_init) (defScope s_init) .none kV_I dc_I pm_I an_I cd_I ct_I), sl_I⟩) (c_I : PySem.W.codeIn K cd_I "Stair.__init__" = true) (k_I : PySem.W.keepIn K (.ref fI) = true)
    {od_O an_O : Option Addr} {sl_O : Array (Option Value)} {oc_O kV_O dc_O pm_O cd_O ct_O : Value} (l_O : K.lookup gO = some ⟨oc_O, od_O, .func (PySem.W.fnOf "one" "Stair.one" (defArgs s_one1) (defBody s_one1) (defScope s_one1) .none kV_O dc_O pm_O an_O cd_O ct_O), sl_O⟩) (c_O : PySem.W.codeIn K cd_O "Stair.one" = true) (k_O : PySem.W.keepIn K (.ref gO) = true)
    {od_G an_G : Option Addr} {sl_G : Array (Option Value)} {oc_G kV_G dc_G pm_G cd_G ct_G : Value} (l_G : K.lookup gG = some ⟨oc_G, od_G, .func (PySem.W.fnOf "single" "Stair.single" (defArgs s_single) (defBody s_single) (defScope s_single) .none kV_G dc_G pm_G an_G cd_G ct_G), sl_G⟩) (c_G : PySem.W.codeIn K cd_G "Stair.single" = true) (k_G : PySem.W.keepIn K (.ref gG) = true)
    {od_D an_D : Option Addr} {sl_D : Array (Option Value)} {oc_D kV_D dc_D pm_D cd_D ct_D : Value} (l_D : K.lookup gD = some ⟨oc_D, od_D, .func (PySem.W.fnOf "read" "Stair.read" (defArgs s_read) (defBody s_read) (defScope s_read) .none kV_D dc_D pm_D an_D cd_D ct_D), sl_D⟩) (c_D : PySem.W.codeIn K cd_D "Stair.read" = true) (k_D : PySem.W.keepIn K (.ref gD) = true)
    {od_F an_F : Option Addr} {sl_F : Array (Option Value)} {oc_F kV_F dc_F pm_F cd_F ct_F : Value} (l_F : K.lookup gF = some ⟨oc_F, od_F, .func (PySem.W.fnOf "of" "Stair.of" (defArgs s_of) (defBody s_of) (defScope s_of) .none kV_F dc_F pm_F an_F cd_F ct_F), sl_F⟩) (c_F : PySem.W.codeIn K cd_F "Stair.of" = true) (k_F : PySem.W.keepIn K (.ref gF) = true)
    {od_N an_N : Option Addr} {sl_N : Array (Option Value)} {oc_N kV_N dc_N pm_N cd_N ct_N : Value} (l_N : K.lookup gN = some ⟨oc_N, od_N, .func (PySem.W.fnOf "numbers" "Stair.numbers" (defArgs s_nums) (defBody s_nums) (defScope s_nums) .none kV_N dc_N pm_N an_N cd_N ct_N), sl_N⟩) (c_N : PySem.W.codeIn K cd_N "Stair.numbers" = true) (k_N : PySem.W.keepIn K (.ref gN) = true)
    {od_T an_T : Option Addr} {sl_T : Array (Option Value)} {oc_T kV_T dc_T pm_T cd_T ct_T : Value} (l_T : K.lookup gT = some ⟨oc_T, od_T, .func (PySem.W.fnOf "tables" "Stair.tables" (defArgs s_tabs) (defBody s_tabs) (defScope s_tabs) .none kV_T dc_T pm_T an_T cd_T ct_T), sl_T⟩) (c_T : PySem.W.codeIn K cd_T "Stair.tables" = true) (k_T : PySem.W.keepIn K (.ref gT) = true)
    {od_M an_M : Option Addr} {sl_M : Array (Option Value)} {oc_M kV_M dc_M pm_M cd_M ct_M : Value} (l_M : K.lookup gM = some ⟨oc_M, od_M, .func (PySem.W.fnOf "__mul__" "Stair.__mul__" (defArgs s_mul) (defBody s_mul) (defScope s_mul) .none kV_M dc_M pm_M an_M cd_M ct_M), sl_M⟩) (c_M : PySem.W.codeIn K cd_M "Stair.__mul__" = true) (k_M : PySem.W.keepIn K (.ref gM) = true)
    {od_P an_P : Option Addr} {sl_P : Array (Option Value)} {oc_P kV_P dc_P pm_P cd_P ct_P : Value} (l_P : K.lookup gP = some ⟨oc_P, od_P, .func (PySem.W.fnOf "power" "Stair.power" (defArgs s_power) (defBody s_power) (defScope s_power) .none kV_P dc_P pm_P an_P cd_P ct_P), sl_P⟩) (c_P : PySem.W.codeIn K cd_P "Stair.power" = true) (k_P : PySem.W.keepIn K (.ref gP) = true)
    {od_K an_K : Option Addr} {sl_K : Array (Option Value)} {oc_K kV_K dc_K pm_K cd_K ct_K : Value} (l_K : K.lookup gK = some ⟨oc_K, od_K, .func (PySem.W.fnOf "bracket" "Stair.bracket" (defArgs s_brack) (defBody s_brack) (defScope s_brack) .none kV_K dc_K pm_K an_K cd_K ct_K), sl_K⟩) (c_K : PySem.W.codeIn K cd_K "Stair.bracket" = true) (k_K : PySem.W.keepIn K (.ref gK) = true)
    {od_L an_L : Option Addr} {sl_L : Array (Option Value)} {oc_L kV_L dc_L pm_L cd_L ct_L : Value} (l_L : K.lookup gL = some ⟨oc_L, od_L, .func (PySem.W.fnOf "led" "Stair.led" (defArgs s_mled) (defBody s_mled) (defScope s_mled) .none kV_L dc_L pm_L an_L cd_L ct_L), sl_L⟩) (c_L : PySem.W.codeIn K cd_L "Stair.led" = true) (k_L : PySem.W.keepIn K (.ref gL) = true)
    {od_B an_B : Option Addr} {sl_B : Array (Option Value)} {oc_B kV_B dc_B pm_B cd_B ct_B : Value} (l_B : K.lookup gB = some ⟨oc_B, od_B, .func (PySem.W.fnOf "block" "Stair.block" (defArgs s_block) (defBody s_block) (defScope s_block) .none kV_B dc_B pm_B an_B cd_B ct_B), sl_B⟩) (c_B : PySem.W.codeIn K cd_B "Stair.block" = true) (k_B : PySem.W.keepIn K (.ref gB) = true)
    {od_E an_E : Option Addr} {sl_E : Array (Option Value)} {oc_E kV_E dc_E pm_E cd_E ct_E : Value} (l_E : K.lookup gE = some ⟨oc_E, od_E, .func (PySem.W.fnOf "beside" "Stair.beside" (defArgs s_beside) (defBody s_beside) (defScope s_beside) .none kV_E dc_E pm_E an_E cd_E ct_E), sl_E⟩) (c_E : PySem.W.codeIn K cd_E "Stair.beside" = true) (k_E : PySem.W.keepIn K (.ref gE) = true)
    {f0 : Addr} {od0 an0 : Option Addr} {sl0 : Array (Option Value)} {oc0 kV0 dc0 pm0 cd0 ct0 : Value} (a0 : PySem.W.nsIn K mainGlobals "is_whole" = some (some (.ref f0))) (l0 : K.lookup f0 = some ⟨oc0, od0, .func (PySem.W.fnOf "is_whole" "is_whole" (defArgs s_is_whole) (defBody s_is_whole) (defScope s_is_whole) .none kV0 dc0 pm0 an0 cd0 ct0), sl0⟩) (c0 : PySem.W.codeIn K cd0 "is_whole" = true) (k0 : PySem.W.keepIn K (.ref f0) = true)
    {f1 : Addr} {od1 an1 : Option Addr} {sl1 : Array (Option Value)} {oc1 kV1 dc1 pm1 cd1 ct1 : Value} (a1 : PySem.W.nsIn K mainGlobals "is_integer" = some (some (.ref f1))) (l1 : K.lookup f1 = some ⟨oc1, od1, .func (PySem.W.fnOf "is_integer" "is_integer" (defArgs s_is_integer) (defBody s_is_integer) (defScope s_is_integer) .none kV1 dc1 pm1 an1 cd1 ct1), sl1⟩) (c1 : PySem.W.codeIn K cd1 "is_integer" = true) (k1 : PySem.W.keepIn K (.ref f1) = true)
    {f2 : Addr} {od2 an2 : Option Addr} {sl2 : Array (Option Value)} {oc2 kV2 dc2 pm2 cd2 ct2 : Value} (a2 : PySem.W.nsIn K mainGlobals "is_between" = some (some (.ref f2))) (l2 : K.lookup f2 = some ⟨oc2, od2, .func (PySem.W.fnOf "is_between" "is_between" (defArgs s_is_between) (defBody s_is_between) (defScope s_is_between) .none kV2 dc2 pm2 an2 cd2 ct2), sl2⟩) (c2 : PySem.W.codeIn K cd2 "is_between" = true) (k2 : PySem.W.keepIn K (.ref f2) = true)
    {f3 : Addr} {od3 an3 : Option Addr} {sl3 : Array (Option Value)} {oc3 kV3 dc3 pm3 cd3 ct3 : Value} (a3 : PySem.W.nsIn K mainGlobals "is_index" = some (some (.ref f3))) (l3 : K.lookup f3 = some ⟨oc3, od3, .func (PySem.W.fnOf "is_index" "is_index" (defArgs s_is_index) (defBody s_is_index) (defScope s_is_index) .none kV3 dc3 pm3 an3 cd3 ct3), sl3⟩) (c3 : PySem.W.codeIn K cd3 "is_index" = true) (k3 : PySem.W.keepIn K (.ref f3) = true)
    {f4 : Addr} {od4 an4 : Option Addr} {sl4 : Array (Option Value)} {oc4 kV4 dc4 pm4 cd4 ct4 : Value} (a4 : PySem.W.nsIn K mainGlobals "is_shape" = some (some (.ref f4))) (l4 : K.lookup f4 = some ⟨oc4, od4, .func (PySem.W.fnOf "is_shape" "is_shape" (defArgs s_is_shape) (defBody s_is_shape) (defScope s_is_shape) .none kV4 dc4 pm4 an4 cd4 ct4), sl4⟩) (c4 : PySem.W.codeIn K cd4 "is_shape" = true) (k4 : PySem.W.keepIn K (.ref f4) = true)
    {f5 : Addr} {od5 an5 : Option Addr} {sl5 : Array (Option Value)} {oc5 kV5 dc5 pm5 cd5 ct5 : Value} (a5 : PySem.W.nsIn K mainGlobals "check_shape" = some (some (.ref f5))) (l5 : K.lookup f5 = some ⟨oc5, od5, .func (PySem.W.fnOf "check_shape" "check_shape" (defArgs s_check) (defBody s_check) (defScope s_check) .none kV5 dc5 pm5 an5 cd5 ct5), sl5⟩) (c5 : PySem.W.codeIn K cd5 "check_shape" = true) (k5 : PySem.W.keepIn K (.ref f5) = true)
    {f6 : Addr} {od6 an6 : Option Addr} {sl6 : Array (Option Value)} {oc6 kV6 dc6 pm6 cd6 ct6 : Value} (a6 : PySem.W.nsIn K mainGlobals "places" = some (some (.ref f6))) (l6 : K.lookup f6 = some ⟨oc6, od6, .func (PySem.W.fnOf "places" "places" (defArgs s_places) (defBody s_places) (defScope s_places) .none kV6 dc6 pm6 an6 cd6 ct6), sl6⟩) (c6 : PySem.W.codeIn K cd6 "places" = true) (k6 : PySem.W.keepIn K (.ref f6) = true)
    {f7 : Addr} {od7 an7 : Option Addr} {sl7 : Array (Option Value)} {oc7 kV7 dc7 pm7 cd7 ct7 : Value} (a7 : PySem.W.nsIn K mainGlobals "is_place" = some (some (.ref f7))) (l7 : K.lookup f7 = some ⟨oc7, od7, .func (PySem.W.fnOf "is_place" "is_place" (defArgs s_place) (defBody s_place) (defScope s_place) .none kV7 dc7 pm7 an7 cd7 ct7), sl7⟩) (c7 : PySem.W.codeIn K cd7 "is_place" = true) (k7 : PySem.W.keepIn K (.ref f7) = true)
    {f8 : Addr} {od8 an8 : Option Addr} {sl8 : Array (Option Value)} {oc8 kV8 dc8 pm8 cd8 ct8 : Value} (a8 : PySem.W.nsIn K mainGlobals "plan_of" = some (some (.ref f8))) (l8 : K.lookup f8 = some ⟨oc8, od8, .func (PySem.W.fnOf "plan_of" "plan_of" (defArgs s_plan) (defBody s_plan) (defScope s_plan) .none kV8 dc8 pm8 an8 cd8 ct8), sl8⟩) (c8 : PySem.W.codeIn K cd8 "plan_of" = true) (k8 : PySem.W.keepIn K (.ref f8) = true)
    {f9 : Addr} {od9 an9 : Option Addr} {sl9 : Array (Option Value)} {oc9 kV9 dc9 pm9 cd9 ct9 : Value} (a9 : PySem.W.nsIn K mainGlobals "are_entries" = some (some (.ref f9))) (l9 : K.lookup f9 = some ⟨oc9, od9, .func (PySem.W.fnOf "are_entries" "are_entries" (defArgs s_ents) (defBody s_ents) (defScope s_ents) .none kV9 dc9 pm9 an9 cd9 ct9), sl9⟩) (c9 : PySem.W.codeIn K cd9 "are_entries" = true) (k9 : PySem.W.keepIn K (.ref f9) = true)
    {f10 : Addr} {od10 an10 : Option Addr} {sl10 : Array (Option Value)} {oc10 kV10 dc10 pm10 cd10 ct10 : Value} (a10 : PySem.W.nsIn K mainGlobals "stair_with" = some (some (.ref f10))) (l10 : K.lookup f10 = some ⟨oc10, od10, .func (PySem.W.fnOf "stair_with" "stair_with" (defArgs s_with) (defBody s_with) (defScope s_with) .none kV10 dc10 pm10 an10 cd10 ct10), sl10⟩) (c10 : PySem.W.codeIn K cd10 "stair_with" = true) (k10 : PySem.W.keepIn K (.ref f10) = true)
    {f11 : Addr} {od11 an11 : Option Addr} {sl11 : Array (Option Value)} {oc11 kV11 dc11 pm11 cd11 ct11 : Value} (a11 : PySem.W.nsIn K mainGlobals "table_entry" = some (some (.ref f11))) (l11 : K.lookup f11 = some ⟨oc11, od11, .func (PySem.W.fnOf "table_entry" "table_entry" (defArgs s_tent) (defBody s_tent) (defScope s_tent) .none kV11 dc11 pm11 an11 cd11 ct11), sl11⟩) (c11 : PySem.W.codeIn K cd11 "table_entry" = true) (k11 : PySem.W.keepIn K (.ref f11) = true)
    {f12 : Addr} {od12 an12 : Option Addr} {sl12 : Array (Option Value)} {oc12 kV12 dc12 pm12 cd12 ct12 : Value} (a12 : PySem.W.nsIn K mainGlobals "table_of" = some (some (.ref f12))) (l12 : K.lookup f12 = some ⟨oc12, od12, .func (PySem.W.fnOf "table_of" "table_of" (defArgs s_tof) (defBody s_tof) (defScope s_tof) .none kV12 dc12 pm12 an12 cd12 ct12), sl12⟩) (c12 : PySem.W.codeIn K cd12 "table_of" = true) (k12 : PySem.W.keepIn K (.ref f12) = true)
    {f13 : Addr} {od13 an13 : Option Addr} {sl13 : Array (Option Value)} {oc13 kV13 dc13 pm13 cd13 ct13 : Value} (a13 : PySem.W.nsIn K mainGlobals "is_stair" = some (some (.ref f13))) (l13 : K.lookup f13 = some ⟨oc13, od13, .func (PySem.W.fnOf "is_stair" "is_stair" (defArgs s_isst) (defBody s_isst) (defScope s_isst) .none kV13 dc13 pm13 an13 cd13 ct13), sl13⟩) (c13 : PySem.W.codeIn K cd13 "is_stair" = true) (k13 : PySem.W.keepIn K (.ref f13) = true)
    {f14 : Addr} {od14 an14 : Option Addr} {sl14 : Array (Option Value)} {oc14 kV14 dc14 pm14 cd14 ct14 : Value} (a14 : PySem.W.nsIn K mainGlobals "rest" = some (some (.ref f14))) (l14 : K.lookup f14 = some ⟨oc14, od14, .func (PySem.W.fnOf "rest" "rest" (defArgs s_rest) (defBody s_rest) (defScope s_rest) .none kV14 dc14 pm14 an14 cd14 ct14), sl14⟩) (c14 : PySem.W.codeIn K cd14 "rest" = true) (k14 : PySem.W.keepIn K (.ref f14) = true)
    {f15 : Addr} {od15 an15 : Option Addr} {sl15 : Array (Option Value)} {oc15 kV15 dc15 pm15 cd15 ct15 : Value} (a15 : PySem.W.nsIn K mainGlobals "check_stair" = some (some (.ref f15))) (l15 : K.lookup f15 = some ⟨oc15, od15, .func (PySem.W.fnOf "check_stair" "check_stair" (defArgs s_ckst) (defBody s_ckst) (defScope s_ckst) .none kV15 dc15 pm15 an15 cd15 ct15), sl15⟩) (c15 : PySem.W.codeIn K cd15 "check_stair" = true) (k15 : PySem.W.keepIn K (.ref f15) = true)
    {f16 : Addr} {od16 an16 : Option Addr} {sl16 : Array (Option Value)} {oc16 kV16 dc16 pm16 cd16 ct16 : Value} (a16 : PySem.W.nsIn K mainGlobals "read_integer" = some (some (.ref f16))) (l16 : K.lookup f16 = some ⟨oc16, od16, .func (PySem.W.fnOf "read_integer" "read_integer" (defArgs s_read_integer) (defBody s_read_integer) (defScope s_read_integer) .none kV16 dc16 pm16 an16 cd16 ct16), sl16⟩) (c16 : PySem.W.codeIn K cd16 "read_integer" = true) (k16 : PySem.W.keepIn K (.ref f16) = true)
    {f17 : Addr} {od17 an17 : Option Addr} {sl17 : Array (Option Value)} {oc17 kV17 dc17 pm17 cd17 ct17 : Value} (a17 : PySem.W.nsIn K mainGlobals "are_rows" = some (some (.ref f17))) (l17 : K.lookup f17 = some ⟨oc17, od17, .func (PySem.W.fnOf "are_rows" "are_rows" (defArgs s_rows) (defBody s_rows) (defScope s_rows) .none kV17 dc17 pm17 an17 cd17 ct17), sl17⟩) (c17 : PySem.W.codeIn K cd17 "are_rows" = true) (k17 : PySem.W.keepIn K (.ref f17) = true)
    {f18 : Addr} {od18 an18 : Option Addr} {sl18 : Array (Option Value)} {oc18 kV18 dc18 pm18 cd18 ct18 : Value} (a18 : PySem.W.nsIn K mainGlobals "blocks_of" = some (some (.ref f18))) (l18 : K.lookup f18 = some ⟨oc18, od18, .func (PySem.W.fnOf "blocks_of" "blocks_of" (defArgs s_blks) (defBody s_blks) (defScope s_blks) .none kV18 dc18 pm18 an18 cd18 ct18), sl18⟩) (c18 : PySem.W.codeIn K cd18 "blocks_of" = true) (k18 : PySem.W.keepIn K (.ref f18) = true)
    {f19 : Addr} {od19 an19 : Option Addr} {sl19 : Array (Option Value)} {oc19 kV19 dc19 pm19 cd19 ct19 : Value} (a19 : PySem.W.nsIn K mainGlobals "entries_of" = some (some (.ref f19))) (l19 : K.lookup f19 = some ⟨oc19, od19, .func (PySem.W.fnOf "entries_of" "entries_of" (defArgs s_eof) (defBody s_eof) (defScope s_eof) .none kV19 dc19 pm19 an19 cd19 ct19), sl19⟩) (c19 : PySem.W.codeIn K cd19 "entries_of" = true) (k19 : PySem.W.keepIn K (.ref f19) = true)
    {f20 : Addr} {od20 an20 : Option Addr} {sl20 : Array (Option Value)} {oc20 kV20 dc20 pm20 cd20 ct20 : Value} (a20 : PySem.W.nsIn K mainGlobals "is_square" = some (some (.ref f20))) (l20 : K.lookup f20 = some ⟨oc20, od20, .func (PySem.W.fnOf "is_square" "is_square" (defArgs s_square) (defBody s_square) (defScope s_square) .none kV20 dc20 pm20 an20 cd20 ct20), sl20⟩) (c20 : PySem.W.codeIn K cd20 "is_square" = true) (k20 : PySem.W.keepIn K (.ref f20) = true)
    {f21 : Addr} {od21 an21 : Option Addr} {sl21 : Array (Option Value)} {oc21 kV21 dc21 pm21 cd21 ct21 : Value} (a21 : PySem.W.nsIn K mainGlobals "is_square_row" = some (some (.ref f21))) (l21 : K.lookup f21 = some ⟨oc21, od21, .func (PySem.W.fnOf "is_square_row" "is_square_row" (defArgs s_sqrow) (defBody s_sqrow) (defScope s_sqrow) .none kV21 dc21 pm21 an21 cd21 ct21), sl21⟩) (c21 : PySem.W.codeIn K cd21 "is_square_row" = true) (k21 : PySem.W.keepIn K (.ref f21) = true)
    {f22 : Addr} {od22 an22 : Option Addr} {sl22 : Array (Option Value)} {oc22 kV22 dc22 pm22 cd22 ct22 : Value} (a22 : PySem.W.nsIn K mainGlobals "ones" = some (some (.ref f22))) (l22 : K.lookup f22 = some ⟨oc22, od22, .func (PySem.W.fnOf "ones" "ones" (defArgs s_ones) (defBody s_ones) (defScope s_ones) .none kV22 dc22 pm22 an22 cd22 ct22), sl22⟩) (c22 : PySem.W.codeIn K cd22 "ones" = true) (k22 : PySem.W.keepIn K (.ref f22) = true)
    {f23 : Addr} {od23 an23 : Option Addr} {sl23 : Array (Option Value)} {oc23 kV23 dc23 pm23 cd23 ct23 : Value} (a23 : PySem.W.nsIn K mainGlobals "lone" = some (some (.ref f23))) (l23 : K.lookup f23 = some ⟨oc23, od23, .func (PySem.W.fnOf "lone" "lone" (defArgs s_lone) (defBody s_lone) (defScope s_lone) .none kV23 dc23 pm23 an23 cd23 ct23), sl23⟩) (c23 : PySem.W.codeIn K cd23 "lone" = true) (k23 : PySem.W.keepIn K (.ref f23) = true)
    {f24 : Addr} {od24 an24 : Option Addr} {sl24 : Array (Option Value)} {oc24 kV24 dc24 pm24 cd24 ct24 : Value} (a24 : PySem.W.nsIn K mainGlobals "check_backwards" = some (some (.ref f24))) (l24 : K.lookup f24 = some ⟨oc24, od24, .func (PySem.W.fnOf "check_backwards" "check_backwards" (defArgs s_ckb) (defBody s_ckb) (defScope s_ckb) .none kV24 dc24 pm24 an24 cd24 ct24), sl24⟩) (c24 : PySem.W.codeIn K cd24 "check_backwards" = true) (k24 : PySem.W.keepIn K (.ref f24) = true)
    {f25 : Addr} {od25 an25 : Option Addr} {sl25 : Array (Option Value)} {oc25 kV25 dc25 pm25 cd25 ct25 : Value} (a25 : PySem.W.nsIn K mainGlobals "joined" = some (some (.ref f25))) (l25 : K.lookup f25 = some ⟨oc25, od25, .func (PySem.W.fnOf "joined" "joined" (defArgs s_join) (defBody s_join) (defScope s_join) .none kV25 dc25 pm25 an25 cd25 ct25), sl25⟩) (c25 : PySem.W.codeIn K cd25 "joined" = true) (k25 : PySem.W.keepIn K (.ref f25) = true)
    {f26 : Addr} {od26 an26 : Option Addr} {sl26 : Array (Option Value)} {oc26 kV26 dc26 pm26 cd26 ct26 : Value} (a26 : PySem.W.nsIn K mainGlobals "_law_pot" = some (some (.ref f26))) (l26 : K.lookup f26 = some ⟨oc26, od26, .func (PySem.W.fnOf "_law_pot" "_law_pot" (defArgs s_pot) (defBody s_pot) (defScope s_pot) .none kV26 dc26 pm26 an26 cd26 ct26), sl26⟩) (c26 : PySem.W.codeIn K cd26 "_law_pot" = true) (k26 : PySem.W.keepIn K (.ref f26) = true)
    {f27 : Addr} {od27 an27 : Option Addr} {sl27 : Array (Option Value)} {oc27 kV27 dc27 pm27 cd27 ct27 : Value} (a27 : PySem.W.nsIn K mainGlobals "_law_dip" = some (some (.ref f27))) (l27 : K.lookup f27 = some ⟨oc27, od27, .func (PySem.W.fnOf "_law_dip" "_law_dip" (defArgs s_dip) (defBody s_dip) (defScope s_dip) .none kV27 dc27 pm27 an27 cd27 ct27), sl27⟩) (c27 : PySem.W.codeIn K cd27 "_law_dip" = true) (k27 : PySem.W.keepIn K (.ref f27) = true)
    {f28 : Addr} {od28 an28 : Option Addr} {sl28 : Array (Option Value)} {oc28 kV28 dc28 pm28 cd28 ct28 : Value} (a28 : PySem.W.nsIn K mainGlobals "_law_pick" = some (some (.ref f28))) (l28 : K.lookup f28 = some ⟨oc28, od28, .func (PySem.W.fnOf "_law_pick" "_law_pick" (defArgs s_pick) (defBody s_pick) (defScope s_pick) .none kV28 dc28 pm28 an28 cd28 ct28), sl28⟩) (c28 : PySem.W.codeIn K cd28 "_law_pick" = true) (k28 : PySem.W.keepIn K (.ref f28) = true)
    {f29 : Addr} {od29 an29 : Option Addr} {sl29 : Array (Option Value)} {oc29 kV29 dc29 pm29 cd29 ct29 : Value} (a29 : PySem.W.nsIn K mainGlobals "_law_word" = some (some (.ref f29))) (l29 : K.lookup f29 = some ⟨oc29, od29, .func (PySem.W.fnOf "_law_word" "_law_word" (defArgs s_word) (defBody s_word) (defScope s_word) .none kV29 dc29 pm29 an29 cd29 ct29), sl29⟩) (c29 : PySem.W.codeIn K cd29 "_law_word" = true) (k29 : PySem.W.keepIn K (.ref f29) = true)
    {f30 : Addr} {od30 an30 : Option Addr} {sl30 : Array (Option Value)} {oc30 kV30 dc30 pm30 cd30 ct30 : Value} (a30 : PySem.W.nsIn K mainGlobals "_law_shapes" = some (some (.ref f30))) (l30 : K.lookup f30 = some ⟨oc30, od30, .func (PySem.W.fnOf "_law_shapes" "_law_shapes" (defArgs s_lbad) (defBody s_lbad) (defScope s_lbad) .none kV30 dc30 pm30 an30 cd30 ct30), sl30⟩) (c30 : PySem.W.codeIn K cd30 "_law_shapes" = true) (k30 : PySem.W.keepIn K (.ref f30) = true)
    {f31 : Addr} {od31 an31 : Option Addr} {sl31 : Array (Option Value)} {oc31 kV31 dc31 pm31 cd31 ct31 : Value} (a31 : PySem.W.nsIn K mainGlobals "_law_no_entries" = some (some (.ref f31))) (l31 : K.lookup f31 = some ⟨oc31, od31, .func (PySem.W.fnOf "_law_no_entries" "_law_no_entries" (defArgs s_lnoe) (defBody s_lnoe) (defScope s_lnoe) .none kV31 dc31 pm31 an31 cd31 ct31), sl31⟩) (c31 : PySem.W.codeIn K cd31 "_law_no_entries" = true) (k31 : PySem.W.keepIn K (.ref f31) = true)
    {f32 : Addr} {od32 an32 : Option Addr} {sl32 : Array (Option Value)} {oc32 kV32 dc32 pm32 cd32 ct32 : Value} (a32 : PySem.W.nsIn K mainGlobals "_law_no_table" = some (some (.ref f32))) (l32 : K.lookup f32 = some ⟨oc32, od32, .func (PySem.W.fnOf "_law_no_table" "_law_no_table" (defArgs s_lnot) (defBody s_lnot) (defScope s_lnot) .none kV32 dc32 pm32 an32 cd32 ct32), sl32⟩) (c32 : PySem.W.codeIn K cd32 "_law_no_table" = true) (k32 : PySem.W.keepIn K (.ref f32) = true)
    {f33 : Addr} {od33 an33 : Option Addr} {sl33 : Array (Option Value)} {oc33 kV33 dc33 pm33 cd33 ct33 : Value} (a33 : PySem.W.nsIn K mainGlobals "law" = some (some (.ref f33))) (l33 : K.lookup f33 = some ⟨oc33, od33, .func (PySem.W.fnOf "law" "law" (defArgs s_law) (defBody s_law) (defScope s_law) .none kV33 dc33 pm33 an33 cd33 ct33), sl33⟩) (c33 : PySem.W.codeIn K cd33 "law" = true) (k33 : PySem.W.keepIn K (.ref f33) = true)
    {fY DY : Addr} {odY anY odDY : Option Addr} {slY slDY : Array (Option Value)} {ocY kVY dcY pmY cdY ctY ocDY : Value} {tDY : Tok} {nDY : Nat} (aY : PySem.W.nsIn K mainGlobals "times" = some (some (.ref fY))) (lY : K.lookup fY = some ⟨ocY, odY, .func (PySem.W.fnOf "times" "times" (defArgs s_times) (defBody s_times) (defScope s_times) (.ref DY) kVY dcY pmY anY cdY ctY), slY⟩) (cY : PySem.W.codeIn K cdY "times" = true) (kY : PySem.W.keepIn K (.ref fY) = true) (lDY : K.lookup DY = some ⟨ocDY, odDY, .seq #[.int 0 tDY] nDY, slDY⟩)
    {fSG DSG : Addr} {odSG anSG : Option Addr} {slSG : Array (Option Value)} {ocSG dcSG pmSG cdSG ctSG : Value} (aSG : PySem.W.nsIn K mainGlobals "singles" = some (some (.ref fSG))) (lSG : K.lookup fSG = some ⟨ocSG, odSG, .func (PySem.W.fnOf "singles" "singles" (defArgs s_sings) (defBody s_sings) (defScope s_sings) .none (.ref DSG) dcSG pmSG anSG cdSG ctSG), slSG⟩) (cSG : PySem.W.codeIn K cdSG "singles" = true) (kSG : PySem.W.keepIn K (.ref fSG) = true) (lDSG : PySem.W.nsIn K DSG "backwards" = some (some (.bool false)))
    {fFS DFS : Addr} {odFS anFS : Option Addr} {slFS : Array (Option Value)} {ocFS dcFS pmFS cdFS ctFS : Value} (aFS : PySem.W.nsIn K mainGlobals "from_singles" = some (some (.ref fFS))) (lFS : K.lookup fFS = some ⟨ocFS, odFS, .func (PySem.W.fnOf "from_singles" "from_singles" (defArgs s_fsing) (defBody s_fsing) (defScope s_fsing) .none (.ref DFS) dcFS pmFS anFS cdFS ctFS), slFS⟩) (cFS : PySem.W.codeIn K cdFS "from_singles" = true) (kFS : PySem.W.keepIn K (.ref fFS) = true) (lDFS : PySem.W.nsIn K DFS "backwards" = some (some (.bool false)))
    {fA ccA PA : Addr} {odA anA : Option Addr} {slA : Array (Option Value)} {ocA kVA dcA pmA ctA : Value} (aA : PySem.W.nsIn K mainGlobals "_law_made_right" = some (some (.ref fA))) (lA : K.lookup fA = some ⟨ocA, odA, .func (PySem.W.fnOf "_law_made_right" "_law_made_right" (defArgs s_lmade) (defBody s_lmade) (defScope s_lmade) .none kVA dcA pmA anA (.ref ccA) ctA), slA⟩) (cA : PySem.W.codeIn K (.ref ccA) "_law_made_right" = true) (kA : PySem.W.keepIn K (.ref fA) = true)
    {ocCA : Value} {odCA : Option Addr} {vsCA : Array Value} {slCA : Array (Option Value)} (lCA : K.lookup ccA = some ⟨ocCA, odCA, .fields vsCA, slCA⟩) (vCA : (vsCA[11]? : Option Value) = some (.ref PA)) (nTA : K.lookup PA = none)
    (cHdA : PySem.W.codeHdIn K ccA PA = true) (empA : h.get? PA = some { cls := .none, data := .fields #[] })
    {fU ccU PU : Addr} {odU anU : Option Addr} {slU : Array (Option Value)} {ocU kVU dcU pmU ctU : Value} (aU : PySem.W.nsIn K mainGlobals "_law_used_right" = some (some (.ref fU))) (lU : K.lookup fU = some ⟨ocU, odU, .func (PySem.W.fnOf "_law_used_right" "_law_used_right" (defArgs s_lused) (defBody s_lused) (defScope s_lused) .none kVU dcU pmU anU (.ref ccU) ctU), slU⟩) (cU : PySem.W.codeIn K (.ref ccU) "_law_used_right" = true) (kU : PySem.W.keepIn K (.ref fU) = true)
    {ocCU : Value} {odCU : Option Addr} {vsCU : Array Value} {slCU : Array (Option Value)} (lCU : K.lookup ccU = some ⟨ocCU, odCU, .fields vsCU, slCU⟩) (vCU : (vsCU[11]? : Option Value) = some (.ref PU)) (nTU : K.lookup PU = none)
    (cHdU : PySem.W.codeHdIn K ccU PU = true) (empU : h.get? PU = some { cls := .none, data := .fields #[] })
    {fV ccV PV : Addr} {odV anV : Option Addr} {slV : Array (Option Value)} {ocV kVV dcV pmV ctV : Value} (aV : PySem.W.nsIn K mainGlobals "_law_singles_right" = some (some (.ref fV))) (lV : K.lookup fV = some ⟨ocV, odV, .func (PySem.W.fnOf "_law_singles_right" "_law_singles_right" (defArgs s_lsing) (defBody s_lsing) (defScope s_lsing) .none kVV dcV pmV anV (.ref ccV) ctV), slV⟩) (cV : PySem.W.codeIn K (.ref ccV) "_law_singles_right" = true) (kV : PySem.W.keepIn K (.ref fV) = true)
    {ocCV : Value} {odCV : Option Addr} {vsCV : Array Value} {slCV : Array (Option Value)} (lCV : K.lookup ccV = some ⟨ocCV, odCV, .fields vsCV, slCV⟩) (vCV : (vsCV[11]? : Option Value) = some (.ref PV)) (nTV : K.lookup PV = none)
    (cHdV : PySem.W.codeHdIn K ccV PV = true) (empV : h.get? PV = some { cls := .none, data := .fields #[] })
    (ne10 : PU ≠ PA)
    (ne20 : PV ≠ PA)
    (ne21 : PV ≠ PU) :
    LawAtT l w K 14 63 "_law_script" mg fa h := by
  have e := hfa.symm.trans (PySem.W.mg_of X G a33)
  cases e
  have cls : Cls K C := ⟨pg, hd, po, sa⟩
  have R : SC K mg C := ⟨cls, nS, nP, nN, PySem.W.mg_of X G aC⟩
  have IC : C8.InsC K C := ⟨cls, ha, hn, htk, hm, kit_self _⟩
  have own : kit K (.ref C) (.ref C) true := kit_self _
  have mk : Mk K C fI := ⟨mks, ini, ifn, kpC⟩
  have O : OpX K mg "InvalidShape" CS := ⟨xX, PySem.W.mg_of X G aX, kX, bX, tX⟩
  have nz : mg "zip" = none := PySem.W.mg_none_of X G n_zip
  have least : ∀ H : Hp, SqT K H TL ([2].map V.int) := fun H => .inr ⟨_, _, _, lTL, rfl, rfl, by show 1 ≤ sizeLine; decide, .cons ⟨_, rfl⟩ .nil⟩
  have T : Txt mg := ⟨PySem.W.mg_none_of X G n_len, PySem.W.mg_none_of X G n_abs, PySem.W.mg_none_of X G n_int, PySem.W.mg_none_of X G n_bool, PySem.W.mg_none_of X G n_max, PySem.W.mg_none_of X G n_min, PySem.W.mg_none_of X G n_sum, PySem.W.mg_none_of X G n_tuple, PySem.W.mg_none_of X G n_range, PySem.W.mg_none_of X G n_repr, PySem.W.mg_none_of X G n_isinstance, PySem.W.mg_none_of X G n_reversed⟩
  have N : Nam mg := ⟨PySem.W.mg_none_of X G n_all, PySem.W.mg_none_of X G n_any, PySem.W.mg_none_of X G n_list, PySem.W.mg_none_of X G n_dict, PySem.W.mg_none_of X G n_enumerate, PySem.W.mg_none_of X G n_sorted, PySem.W.mg_none_of X G n_str, ⟨_, PySem.W.mg_of X G cst0⟩, ⟨_, PySem.W.mg_of X G cst1⟩, ⟨_, PySem.W.mg_of X G cst2⟩, ⟨_, PySem.W.mg_of X G cst3⟩, ⟨_, PySem.W.mg_of X G cst4⟩⟩
  have F_I := fun_mk (st := s_init) l_I c_I k_I
  have M_I : M K "__init__" "Stair.__init__" s_init ["self", "shape", "entries"] fI _ := ⟨F_I, F_I.binds (ps := ["self", "shape", "entries"]) fun _ _ _ _ _ _ us hl => match us, hl with | [_, _, _], _ => rfl⟩
  have F_O := fun_mk (st := s_one1) l_O c_O k_O
  have M_O : M K "one" "Stair.one" s_one1 ["cls", "shape"] gO _ := ⟨F_O, F_O.binds (ps := ["cls", "shape"]) fun _ _ _ _ _ _ us hl => match us, hl with | [_, _], _ => rfl⟩
  have F_G := fun_mk (st := s_single) l_G c_G k_G
  have M_G : M K "single" "Stair.single" s_single ["cls", "shape", "place", "number"] gG _ := ⟨F_G, F_G.binds (ps := ["cls", "shape", "place", "number"]) fun _ _ _ _ _ _ us hl => match us, hl with | [_, _, _, _], _ => rfl⟩
  have F_D := fun_mk (st := s_read) l_D c_D k_D
  have M_D : M K "read" "Stair.read" s_read ["cls", "text"] gD _ := ⟨F_D, F_D.binds (ps := ["cls", "text"]) fun _ _ _ _ _ _ us hl => match us, hl with | [_, _], _ => rfl⟩
  have F_F := fun_mk (st := s_of) l_F c_F k_F
  have F_N := fun_mk (st := s_nums) l_N c_N k_N
  have M_N : M K "numbers" "Stair.numbers" s_nums ["self"] gN _ := ⟨F_N, F_N.binds (ps := ["self"]) fun _ _ _ _ _ _ us hl => match us, hl with | [_], _ => rfl⟩
  have F_T := fun_mk (st := s_tabs) l_T c_T k_T
  have M_T : M K "tables" "Stair.tables" s_tabs ["self"] gT _ := ⟨F_T, F_T.binds (ps := ["self"]) fun _ _ _ _ _ _ us hl => match us, hl with | [_], _ => rfl⟩
  have F_M := fun_mk (st := s_mul) l_M c_M k_M
  have M_M : M K "__mul__" "Stair.__mul__" s_mul ["self", "other"] gM _ := ⟨F_M, F_M.binds (ps := ["self", "other"]) fun _ _ _ _ _ _ us hl => match us, hl with | [_, _], _ => rfl⟩
  have F_P := fun_mk (st := s_power) l_P c_P k_P
  have M_P : M K "power" "Stair.power" s_power ["self", "number"] gP _ := ⟨F_P, F_P.binds (ps := ["self", "number"]) fun _ _ _ _ _ _ us hl => match us, hl with | [_, _], _ => rfl⟩
  have F_K := fun_mk (st := s_brack) l_K c_K k_K
  have M_K : M K "bracket" "Stair.bracket" s_brack ["self", "other"] gK _ := ⟨F_K, F_K.binds (ps := ["self", "other"]) fun _ _ _ _ _ _ us hl => match us, hl with | [_, _], _ => rfl⟩
  have F_L := fun_mk (st := s_mled) l_L c_L k_L
  have M_L : M K "led" "Stair.led" s_mled ["self", "other"] gL _ := ⟨F_L, F_L.binds (ps := ["self", "other"]) fun _ _ _ _ _ _ us hl => match us, hl with | [_, _], _ => rfl⟩
  have F_B := fun_mk (st := s_block) l_B c_B k_B
  have M_B : M K "block" "Stair.block" s_block ["self", "index"] gB _ := ⟨F_B, F_B.binds (ps := ["self", "index"]) fun _ _ _ _ _ _ us hl => match us, hl with | [_, _], _ => rfl⟩
  have F_E := fun_mk (st := s_beside) l_E c_E k_E
  have M_E : M K "beside" "Stair.beside" s_beside ["self", "other"] gE _ := ⟨F_E, F_E.binds (ps := ["self", "other"]) fun _ _ _ _ _ _ us hl => match us, hl with | [_, _], _ => rfl⟩
  have F0 := fun_mk (st := s_is_whole) l0 c0 k0
  have d_is_whole : D K mg "is_whole" s_is_whole ["value"] _ _ := ⟨F0, PySem.W.mg_of X G a0, F0.binds (ps := ["value"]) fun _ _ _ _ _ _ us hl => match us, hl with | [_], _ => rfl⟩
  have F1 := fun_mk (st := s_is_integer) l1 c1 k1
  have d_is_integer : D K mg "is_integer" s_is_integer ["value"] _ _ := ⟨F1, PySem.W.mg_of X G a1, F1.binds (ps := ["value"]) fun _ _ _ _ _ _ us hl => match us, hl with | [_], _ => rfl⟩
  have F2 := fun_mk (st := s_is_between) l2 c2 k2
  have d_is_between : D K mg "is_between" s_is_between ["value", "least", "most"] _ _ := ⟨F2, PySem.W.mg_of X G a2, F2.binds (ps := ["value", "least", "most"]) fun _ _ _ _ _ _ us hl => match us, hl with | [_, _, _], _ => rfl⟩
  have F3 := fun_mk (st := s_is_index) l3 c3 k3
  have d_is_index : D K mg "is_index" s_is_index ["value", "many"] _ _ := ⟨F3, PySem.W.mg_of X G a3, F3.binds (ps := ["value", "many"]) fun _ _ _ _ _ _ us hl => match us, hl with | [_, _], _ => rfl⟩
  have F4 := fun_mk (st := s_is_shape) l4 c4 k4
  have d_is_shape : D K mg "is_shape" s_is_shape ["value"] _ _ := ⟨F4, PySem.W.mg_of X G a4, F4.binds (ps := ["value"]) fun _ _ _ _ _ _ us hl => match us, hl with | [_], _ => rfl⟩
  have F5 := fun_mk (st := s_check) l5 c5 k5
  have d_check_shape : D K mg "check_shape" s_check ["shape"] _ _ := ⟨F5, PySem.W.mg_of X G a5, F5.binds (ps := ["shape"]) fun _ _ _ _ _ _ us hl => match us, hl with | [_], _ => rfl⟩
  have F6 := fun_mk (st := s_places) l6 c6 k6
  have d_places : D K mg "places" s_places ["shape"] _ _ := ⟨F6, PySem.W.mg_of X G a6, F6.binds (ps := ["shape"]) fun _ _ _ _ _ _ us hl => match us, hl with | [_], _ => rfl⟩
  have F7 := fun_mk (st := s_place) l7 c7 k7
  have d_is_place : D K mg "is_place" s_place ["shape", "value"] _ _ := ⟨F7, PySem.W.mg_of X G a7, F7.binds (ps := ["shape", "value"]) fun _ _ _ _ _ _ us hl => match us, hl with | [_, _], _ => rfl⟩
  have F8 := fun_mk (st := s_plan) l8 c8 k8
  have d_plan_of : D K mg "plan_of" s_plan ["shape"] _ _ := ⟨F8, PySem.W.mg_of X G a8, F8.binds (ps := ["shape"]) fun _ _ _ _ _ _ us hl => match us, hl with | [_], _ => rfl⟩
  have F9 := fun_mk (st := s_ents) l9 c9 k9
  have d_are_entries : D K mg "are_entries" s_ents ["shape", "value"] _ _ := ⟨F9, PySem.W.mg_of X G a9, F9.binds (ps := ["shape", "value"]) fun _ _ _ _ _ _ us hl => match us, hl with | [_, _], _ => rfl⟩
  have F10 := fun_mk (st := s_with) l10 c10 k10
  have d_stair_with : D K mg "stair_with" s_with ["shape", "plan", "numbers"] _ _ := ⟨F10, PySem.W.mg_of X G a10, F10.binds (ps := ["shape", "plan", "numbers"]) fun _ _ _ _ _ _ us hl => match us, hl with | [_, _, _], _ => rfl⟩
  have F11 := fun_mk (st := s_tent) l11 c11 k11
  have d_table_entry : D K mg "table_entry" s_tent ["entries", "block", "row", "column"] _ _ := ⟨F11, PySem.W.mg_of X G a11, F11.binds (ps := ["entries", "block", "row", "column"]) fun _ _ _ _ _ _ us hl => match us, hl with | [_, _, _, _], _ => rfl⟩
  have F12 := fun_mk (st := s_tof) l12 c12 k12
  have d_table_of : D K mg "table_of" s_tof ["entries", "block", "size"] _ _ := ⟨F12, PySem.W.mg_of X G a12, F12.binds (ps := ["entries", "block", "size"]) fun _ _ _ _ _ _ us hl => match us, hl with | [_, _, _], _ => rfl⟩
  have F13 := fun_mk (st := s_isst) l13 c13 k13
  have d_is_stair : D K mg "is_stair" s_isst ["shape", "value"] _ _ := ⟨F13, PySem.W.mg_of X G a13, F13.binds (ps := ["shape", "value"]) fun _ _ _ _ _ _ us hl => match us, hl with | [_, _], _ => rfl⟩
  have F14 := fun_mk (st := s_rest) l14 c14 k14
  have d_rest : D K mg "rest" s_rest ["numbers", "modulus"] _ _ := ⟨F14, PySem.W.mg_of X G a14, F14.binds (ps := ["numbers", "modulus"]) fun _ _ _ _ _ _ us hl => match us, hl with | [_, _], _ => rfl⟩
  have F15 := fun_mk (st := s_ckst) l15 c15 k15
  have d_check_stair : D K mg "check_stair" s_ckst ["shape", "value"] _ _ := ⟨F15, PySem.W.mg_of X G a15, F15.binds (ps := ["shape", "value"]) fun _ _ _ _ _ _ us hl => match us, hl with | [_, _], _ => rfl⟩
  have F16 := fun_mk (st := s_read_integer) l16 c16 k16
  have d_read_integer : D K mg "read_integer" s_read_integer ["text"] _ _ := ⟨F16, PySem.W.mg_of X G a16, F16.binds (ps := ["text"]) fun _ _ _ _ _ _ us hl => match us, hl with | [_], _ => rfl⟩
  have F17 := fun_mk (st := s_rows) l17 c17 k17
  have d_are_rows : D K mg "are_rows" s_rows ["rows"] _ _ := ⟨F17, PySem.W.mg_of X G a17, F17.binds (ps := ["rows"]) fun _ _ _ _ _ _ us hl => match us, hl with | [_], _ => rfl⟩
  have F18 := fun_mk (st := s_blks) l18 c18 k18
  have d_blocks_of : D K mg "blocks_of" s_blks ["text"] _ _ := ⟨F18, PySem.W.mg_of X G a18, F18.binds (ps := ["text"]) fun _ _ _ _ _ _ us hl => match us, hl with | [_], _ => rfl⟩
  have F19 := fun_mk (st := s_eof) l19 c19 k19
  have d_entries_of : D K mg "entries_of" s_eof ["shape", "blocks"] _ _ := ⟨F19, PySem.W.mg_of X G a19, F19.binds (ps := ["shape", "blocks"]) fun _ _ _ _ _ _ us hl => match us, hl with | [_, _], _ => rfl⟩
  have F20 := fun_mk (st := s_square) l20 c20 k20
  have d_is_square : D K mg "is_square" s_square ["value"] _ _ := ⟨F20, PySem.W.mg_of X G a20, F20.binds (ps := ["value"]) fun _ _ _ _ _ _ us hl => match us, hl with | [_], _ => rfl⟩
  have F21 := fun_mk (st := s_sqrow) l21 c21 k21
  have d_is_square_row : D K mg "is_square_row" s_sqrow ["value", "at", "size"] _ _ := ⟨F21, PySem.W.mg_of X G a21, F21.binds (ps := ["value", "at", "size"]) fun _ _ _ _ _ _ us hl => match us, hl with | [_, _, _], _ => rfl⟩
  have F22 := fun_mk (st := s_ones) l22 c22 k22
  have d_ones : D K mg "ones" s_ones ["plan"] _ _ := ⟨F22, PySem.W.mg_of X G a22, F22.binds (ps := ["plan"]) fun _ _ _ _ _ _ us hl => match us, hl with | [_], _ => rfl⟩
  have F23 := fun_mk (st := s_lone) l23 c23 k23
  have d_lone : D K mg "lone" s_lone ["plan", "at", "number"] _ _ := ⟨F23, PySem.W.mg_of X G a23, F23.binds (ps := ["plan", "at", "number"]) fun _ _ _ _ _ _ us hl => match us, hl with | [_, _, _], _ => rfl⟩
  have F24 := fun_mk (st := s_ckb) l24 c24 k24
  have d_check_backwards : D K mg "check_backwards" s_ckb ["backwards"] _ _ := ⟨F24, PySem.W.mg_of X G a24, F24.binds (ps := ["backwards"]) fun _ _ _ _ _ _ us hl => match us, hl with | [_], _ => rfl⟩
  have F25 := fun_mk (st := s_join) l25 c25 k25
  have d_joined : D K mg "joined" s_join ["plan", "one", "other", "backwards"] _ _ := ⟨F25, PySem.W.mg_of X G a25, F25.binds (ps := ["plan", "one", "other", "backwards"]) fun _ _ _ _ _ _ us hl => match us, hl with | [_, _, _, _], _ => rfl⟩
  have F26 := fun_mk (st := s_pot) l26 c26 k26
  have d_law_pot : D K mg "_law_pot" s_pot ["_law_script", "_law_at"] _ _ := ⟨F26, PySem.W.mg_of X G a26, F26.binds (ps := ["_law_script", "_law_at"]) fun _ _ _ _ _ _ us hl => match us, hl with | [_, _], _ => rfl⟩
  have F27 := fun_mk (st := s_dip) l27 c27 k27
  have d_law_dip : D K mg "_law_dip" s_dip ["_law_pot_here", "_law_total"] _ _ := ⟨F27, PySem.W.mg_of X G a27, F27.binds (ps := ["_law_pot_here", "_law_total"]) fun _ _ _ _ _ _ us hl => match us, hl with | [_, _], _ => rfl⟩
  have F28 := fun_mk (st := s_pick) l28 c28 k28
  have d_law_pick : D K mg "_law_pick" s_pick ["_law_pot_here", "_law_items"] _ _ := ⟨F28, PySem.W.mg_of X G a28, F28.binds (ps := ["_law_pot_here", "_law_items"]) fun _ _ _ _ _ _ us hl => match us, hl with | [_, _], _ => rfl⟩
  have F29 := fun_mk (st := s_word) l29 c29 k29
  have d_law_word : D K mg "_law_word" s_word ["_law_call"] _ _ := ⟨F29, PySem.W.mg_of X G a29, F29.binds (ps := ["_law_call"]) fun _ _ _ _ _ _ us hl => match us, hl with | [_], _ => rfl⟩
  have F30 := fun_mk (st := s_lbad) l30 c30 k30
  have d_law_shapes : D K mg "_law_shapes" s_lbad ["_law_pot_here"] _ _ := ⟨F30, PySem.W.mg_of X G a30, F30.binds (ps := ["_law_pot_here"]) fun _ _ _ _ _ _ us hl => match us, hl with | [_], _ => rfl⟩
  have F31 := fun_mk (st := s_lnoe) l31 c31 k31
  have d_law_no_entries : D K mg "_law_no_entries" s_lnoe ["_law_pot_here"] _ _ := ⟨F31, PySem.W.mg_of X G a31, F31.binds (ps := ["_law_pot_here"]) fun _ _ _ _ _ _ us hl => match us, hl with | [_], _ => rfl⟩
  have F32 := fun_mk (st := s_lnot) l32 c32 k32
  have d_law_no_table : D K mg "_law_no_table" s_lnot ["_law_pot_here"] _ _ := ⟨F32, PySem.W.mg_of X G a32, F32.binds (ps := ["_law_pot_here"]) fun _ _ _ _ _ _ us hl => match us, hl with | [_], _ => rfl⟩
  have F33 := fun_mk (st := s_law) l33 c33 k33
  have d_law : D K mg "law" s_law ["_law_script"] _ _ := ⟨F33, PySem.W.mg_of X G a33, F33.binds (ps := ["_law_script"]) fun _ _ _ _ _ _ us hl => match us, hl with | [_], _ => rfl⟩
  have FY : FunD K "times" "times" (defArgs s_times) (defBody s_times) (defScope s_times) [.int 0] [] fY (PySem.W.fnOf "times" "times" (defArgs s_times) (defBody s_times) (defScope s_times) (.ref DY) kVY dcY pmY anY cdY ctY) :=
    ⟨⟨_, _, _, _, _, _, _, _, _, _, rfl, lY, cY, .inr ⟨List.cons_ne_nil _ _, DY, _, [.int 0 tDY], nDY, rfl, lDY, rfl, .cons ⟨tDY, rfl⟩ .nil⟩, .inl rfl⟩, kY⟩
  obtain ⟨dsY, vY, bY⟩ : ∃ ds, Vals [V.int 0] ds ∧ Binds K (PySem.W.fnOf "times" "times" (defArgs s_times) (defBody s_times) (defScope s_times) (.ref DY) kVY dcY pmY anY cdY ctY) ["plan", "one", "other", "modulus"] ds :=
    FY.binds1 (ps := ["plan", "one", "other", "modulus"]) 3 0 (List.cons_ne_nil _ _) rfl fun T kV doc pm an cdv ct us its hl hi => match us, its, hl, hi with | [_, _, _], [_], _, _ => ⟨_, rfl, rfl⟩
  have FSG : FunD K "singles" "singles" (defArgs s_sings) (defBody s_sings) (defScope s_sings) [] [("backwards", .bl false)] fSG (PySem.W.fnOf "singles" "singles" (defArgs s_sings) (defBody s_sings) (defScope s_sings) .none (.ref DSG) dcSG pmSG anSG cdSG ctSG) := ⟨⟨_, _, _, _, _, _, _, _, _, _, rfl, lSG, cSG, .inl ⟨rfl, rfl⟩, .inr ⟨DSG, rfl, fun p m => by rw [List.mem_singleton.mp m]; exact ⟨_, lDSG, rfl⟩⟩⟩, kSG⟩
  obtain ⟨dsSG, vSG, bSG⟩ : ∃ ds, Vals [V.bl false] ds ∧ Binds K (PySem.W.fnOf "singles" "singles" (defArgs s_sings) (defBody s_sings) (defScope s_sings) .none (.ref DSG) dcSG pmSG anSG cdSG ctSG) ["stair", "backwards"] ds := FSG.binds0 (ps := ["stair", "backwards"]) 1 (List.cons_ne_nil _ _) rfl fun D doc pm an cdv ct us ks hl hk => match us, ks, hl, hk with | [_], [_], _, _ => ⟨_, _, _, _, _, _, rfl, rfl, rfl⟩
  obtain ⟨mvSG, bkSG⟩ := FSG.kbinds0 (ps := ["stair", "backwards"]) 1 ["backwards"] [] (fun vs _ zs => vs ++ zs) (List.cons_ne_nil _ _) (fun p m => by cases m) (fun a _ c => a.append c) fun D doc pm an cdv ct us mv ws hl hm hw => match us, mv, ws, hl, hm, hw with | [_], [], [_], _, _, _ => rfl
  have FFS : FunD K "from_singles" "from_singles" (defArgs s_fsing) (defBody s_fsing) (defScope s_fsing) [] [("backwards", .bl false)] fFS (PySem.W.fnOf "from_singles" "from_singles" (defArgs s_fsing) (defBody s_fsing) (defScope s_fsing) .none (.ref DFS) dcFS pmFS anFS cdFS ctFS) := ⟨⟨_, _, _, _, _, _, _, _, _, _, rfl, lFS, cFS, .inl ⟨rfl, rfl⟩, .inr ⟨DFS, rfl, fun p m => by rw [List.mem_singleton.mp m]; exact ⟨_, lDFS, rfl⟩⟩⟩, kFS⟩
  obtain ⟨dsFS, vFS, bFS⟩ : ∃ ds, Vals [V.bl false] ds ∧ Binds K (PySem.W.fnOf "from_singles" "from_singles" (defArgs s_fsing) (defBody s_fsing) (defScope s_fsing) .none (.ref DFS) dcFS pmFS anFS cdFS ctFS) ["shape", "numbers", "backwards"] ds := FFS.binds0 (ps := ["shape", "numbers", "backwards"]) 2 (List.cons_ne_nil _ _) rfl fun D doc pm an cdv ct us ks hl hk => match us, ks, hl, hk with | [_, _], [_], _, _ => ⟨_, _, _, _, _, _, rfl, rfl, rfl⟩
  obtain ⟨mvFS, bkFS⟩ := FFS.kbinds0 (ps := ["shape", "numbers", "backwards"]) 2 ["backwards"] [] (fun vs _ zs => vs ++ zs) (List.cons_ne_nil _ _) (fun p m => by cases m) (fun a _ c => a.append c) fun D doc pm an cdv ct us mv ws hl hm hw => match us, mv, ws, hl, hm, hw with | [_, _], [], [_], _, _, _ => rfl
  have FA := fun_mk (st := s_lmade) lA cA kA
  have dA : D K mg "_law_made_right" s_lmade ["_law_pot_here"] _ _ := ⟨FA, PySem.W.mg_of X G aA, FA.binds (ps := ["_law_pot_here"]) fun _ _ _ _ _ _ us hl => match us, hl with | [_], _ => rfl⟩
  have FCA : FunC K "_law_made_right" s_lmade fA ccA _ := ⟨⟨_, _, _, _, _, _, _, _, rfl, lA, cA⟩, kA⟩
  have hdA := PySem.W.codeHd_of_K X cHdA
  have FU := fun_mk (st := s_lused) lU cU kU
  have dU : D K mg "_law_used_right" s_lused ["_law_pot_here"] _ _ := ⟨FU, PySem.W.mg_of X G aU, FU.binds (ps := ["_law_pot_here"]) fun _ _ _ _ _ _ us hl => match us, hl with | [_], _ => rfl⟩
  have FCU : FunC K "_law_used_right" s_lused fU ccU _ := ⟨⟨_, _, _, _, _, _, _, _, rfl, lU, cU⟩, kU⟩
  have hdU := PySem.W.codeHd_of_K X cHdU
  have FV := fun_mk (st := s_lsing) lV cV kV
  have dV : D K mg "_law_singles_right" s_lsing ["_law_pot_here"] _ _ := ⟨FV, PySem.W.mg_of X G aV, FV.binds (ps := ["_law_pot_here"]) fun _ _ _ _ _ _ us hl => match us, hl with | [_], _ => rfl⟩
  have FCV : FunC K "_law_singles_right" s_lsing fV ccV _ := ⟨⟨_, _, _, _, _, _, _, _, rfl, lV, cV⟩, kV⟩
  have hdV := PySem.W.codeHd_of_K X cHdV
  refine ⟨PySem.W.fnOf "law" "law" (defArgs s_law) (defBody s_law) (defScope s_law) .none kV33 dc33 pm33 an33 cd33 ct33, [(ccA, PA), (ccU, PU), (ccV, PV)], spLaw K [(PA, qMade), (PU, qUsed), (PV, qSing)], fun p m => ?_, fun p m => ?_, fun p m => ?_, fun s u => .of_eq rfl, fun H a ns hl hT hS => ?_, fun base _ _ TB => ?_⟩
  · simp only [List.mem_cons, List.not_mem_nil, or_false] at m
    rcases m with rfl | rfl | rfl
    · exact empA
    · exact empU
    · exact empV
  · simp only [List.mem_cons, List.not_mem_nil, or_false] at m
    rcases m with rfl | rfl | rfl
    · exact nTA
    · exact nTU
    · exact nTV
  · simp only [List.mem_cons, List.not_mem_nil, or_false] at m
    rcases m with rfl | rfl | rfl
    · exact hdA
    · exact hdU
    · exact hdV
  · refine ⟨a, ns, rfl, hS, hl, fun p m => ?_, fun _ => rfl⟩
    simp only [List.mem_cons, List.not_mem_nil, or_false] at m
    rcases m with rfl | rfl | rfl
    · exact LamX.TabS.nil (hT (ccA, PA) (by simp))
    · exact LamX.TabS.nil (hT (ccU, PU) (by simp))
    · exact LamX.TabS.nil (hT (ccV, PV) (by simp))
  have TbA := TB (ccA, PA) (by simp)
  have hMA : (PA, qMade) ∈ ([(PA, qMade), (PU, qUsed), (PV, qSing)] : List (Addr × Str)) := by simp
  have hUA : ∀ p ∈ ([(PA, qMade), (PU, qUsed), (PV, qSing)] : List (Addr × Str)), p.1 = PA → p.2 = qMade := fun p m e => by
    simp only [List.mem_cons, List.not_mem_nil, or_false] at m
    rcases m with rfl | rfl | rfl
    · rfl
    · exact absurd e ne10
    · exact absurd e ne20
  have TbU := TB (ccU, PU) (by simp)
  have hMU : (PU, qUsed) ∈ ([(PA, qMade), (PU, qUsed), (PV, qSing)] : List (Addr × Str)) := by simp
  have hUU : ∀ p ∈ ([(PA, qMade), (PU, qUsed), (PV, qSing)] : List (Addr × Str)), p.1 = PU → p.2 = qUsed := fun p m e => by
    simp only [List.mem_cons, List.not_mem_nil, or_false] at m
    rcases m with rfl | rfl | rfl
    · exact absurd e.symm ne10
    · rfl
    · exact absurd e ne21
  have TbV := TB (ccV, PV) (by simp)
  have hMV : (PV, qSing) ∈ ([(PA, qMade), (PU, qUsed), (PV, qSing)] : List (Addr × Str)) := by simp
  have hUV : ∀ p ∈ ([(PA, qMade), (PU, qUsed), (PV, qSing)] : List (Addr × Str)), p.1 = PV → p.2 = qSing := fun p m e => by
    simp only [List.mem_cons, List.not_mem_nil, or_false] at m
    rcases m with rfl | rfl | rfl
    · exact absurd e.symm ne20
    · exact absurd e.symm ne21
    · rfl

  have OT : OpX K mg "InvalidStair" CT := ⟨xT, PySem.W.mg_of X G aT_, kT_, bT, tT⟩
  have OO : OpX K mg "InvalidOperation" CO := ⟨xO, PySem.W.mg_of X G aO_, kO_, bO, tO⟩
  have NT : PySem.NumX.NumTxt K mg CN fN := { gC := PySem.W.mg_of X G gN_, cls := ⟨nmN, qnN, NN, bsN, _, snN, subN, abN, colN, ddN, m0N, m1N, m2N, m3N, m5N, xN, by decide +kernel⟩, over := ovN, tk := tkN, sa := saN, ga := gaN, gg := ggN, noN := nbN, iC := icN, tC := tyN_, kC := keN, exC := exN, tyC := ttN, hdC := hdN, te := PySem.W.exm_ref exN hdN ttN sbN, fn := ⟨_, _, _, _, _, _, _, _, _, _, _, _, _, _, leN, ceN⟩ }
  have MT : PySem.MostX.MostTxt K mg CM fM := ⟨PySem.W.mg_of X G gM_, ⟨_, _, _, _, _, _, _, _, _, _, _, _, _, _, _, xM, by rfl⟩, ovM, tkM, saM, gaM, ggM, nbM, icM, tyM_, keM, exM, ttM, hdM, PySem.W.exm_ref exM hdM ttM sbM, ⟨_, _, _, _, _, _, _, _, _, _, _, _, _, _, leM, ceM⟩⟩
  have WX : WdX K mg CS CT CO CN CM fN fM := ⟨PySem.W.mg_of X G aX, OT.g, OO.g, NT, MT, PySem.W.exm_ref bX hdS tX sbS, PySem.W.exm_ref bX hdS tX sTS, PySem.W.exm_ref bT hdT tT sbT, PySem.W.exm_ref bX hdS tX sOS, PySem.W.exm_ref bT hdT tT sOT, PySem.W.exm_ref bO hdO tO sbO, PySem.W.exm_ref bX hdS tX sNS, PySem.W.exm_ref bT hdT tT sNT, PySem.W.exm_ref bO hdO tO sNO, PySem.W.exm_ref bX hdS tX sMS, PySem.W.exm_ref bT hdT tT sMT, PySem.W.exm_ref bO hdO tO sMO, PySem.W.exm_ref exN hdN ttN sMN⟩
  have noC : ∀ d : PyData, kit K (.type (tyN d)) (.ref C) false := fun d => by
    cases d with
    | none => exact no0
    | bool _ => exact no1
    | int _ => exact no2
    | str _ => exact no3
    | list _ => exact no4
    | tuple _ => exact no5
    | dict _ => exact no6
  have Gsh : FnOk l.prog w K mg base CX0 3 _ _ ["value"] (spShape K) := ok_shape (k := 0) T N d_is_shape d_is_between d_is_whole
  have Gck := ok_check (k := 0) (base := base) (P := l.prog) (w := w) T O d_check_shape d_is_shape Gsh
  have Gpl := ok_places T N d_places d_check_shape Gck
  have Gix : FnOk l.prog w K mg base CX0 3 _ _ ["value", "many"] (spIdx K) := ok_index (k := 0) T d_is_index d_is_between d_is_whole
  have Gip := ok_place T d_is_place d_check_shape d_is_index Gck Gix
  have Gin : FnOk l.prog w K mg base CX0 2 _ _ ["value"] spInt := ok_integer (k := 0) T N d_is_integer d_is_whole
  have GinS : FnOk l.prog w K mg base CX0 2 _ _ ["value"] (spIntS K) := ok_integerS (k := 0) T N d_is_integer d_is_whole
  have Gen := ok_ents T N d_are_entries d_is_place d_is_integer Gip Gin
  have GenD := ok_entsD T N d_are_entries d_is_place d_is_integer Gip GinS
  have Gpn := ok_plan T N d_plan_of d_places Gpl
  have GI := ok_init T N R M_I d_check_shape d_are_entries d_plan_of d_places Gck Gen Gpn Gpl
  have GIX := ok_initX T M_I d_check_shape Gck
  have GIB := ok_initB T OT M_I d_check_shape Gck d_are_entries GenD
  have Gwi := ok_with R (PySem.W.mg_of X G aTL) least d_stair_with mk GI M_I.b
  have Gto := ok_tof (P := l.prog) (w := w) (base := base) T d_table_of d_table_entry (ok_tent (k := 0) d_table_entry)
  have GT := ok_tabs T N nz R M_T d_places Gpl d_table_of Gto
  have ppT : PropOf K C "tables" qT gT := ⟨pTa, pTg, pTt, ⟨_, pTr⟩⟩
  have ppN : PropOf K C "numbers" qN gN := ⟨pNa, pNg, pNt, ⟨_, pNr⟩⟩
  have GN : FnOk l.prog w K mg base CX0 1 gN _ ["self"] (spNums K C) := ok_nums (k := 0) R M_N
  have Gri : FnOk l.prog w K mg base CX0 1 _ _ ["text"] spRead := ok_read (k := 0) T N ⟨_, PySem.W.mg_of X G cst_MAX_DIGITS⟩ d_read_integer
  have Grw := ok_rows (k := 0) T N d_are_rows d_read_integer Gri
  have Gbl : FnOk l.prog w K mg base CX0 1 _ _ ["text"] (spBlks K) := ok_blks (k := 0) d_blocks_of
  have Gef := ok_eof d_entries_of d_places Gpl d_read_integer Gri
  have GD := ok_readS T N M_D d_blocks_of Gbl d_is_shape Gsh d_are_rows Grw d_entries_of Gef mk GI M_I.b
  have GO := ok_one M_O mk GI M_I.b
  have G10 := ok_one1 mk M_I.b M_O GIX
  have GSX := ok_singleX (C := C) OT NT M_G d_is_place Gip d_is_integer GinS
  have Gsr := ok_sqrow T N d_is_square_row d_is_integer Gin
  have Gsq := ok_square T N d_is_square d_is_square_row Gsr
  have GsrS := ok_sqrowS T N d_is_square_row d_is_integer GinS
  have GsqS := ok_squareS T N d_is_square d_is_square_row GsrS
  have GFF := ok_of T N F_F (fun u us hl => by match us, hl with | [], _ => rfl | [_], _ => rfl | [_, _], _ => rfl | [_, _, _], _ => rfl) d_is_square Gsq d_is_shape Gsh d_places Gpl mk GI M_I.b
  have GFX := ok_ofX (C := C) T N OT F_F (fun u us hl => by match us, hl with | [], _ => rfl | [_], _ => rfl | [_, _], _ => rfl | [_, _, _], _ => rfl | [_, _, _, _], _ => rfl) d_is_square GsqS d_is_shape Gsh
  have Gis : FnOk l.prog w K mg base CX0 1 _ _ ["shape", "value"] (spIsStX K C) := ok_isstX (k := 0) T R IC own d_is_stair
  have GckX := ok_ckstX OT d_check_stair d_is_stair Gis
  have GM := ok_mulX T R IC own M_M d_check_stair GckX
  have GK := ok_brackX R M_K d_check_stair GckX
  have GL := ok_ledX R M_L d_check_stair GckX
  have GP := ok_powerX NT M_P d_is_integer GinS
  have GB := ok_blockX T R NT M_B d_is_index Gix
  have GE := ok_beside T N nz R IC own MT M_E d_is_shape Gsh d_places Gpl d_plan_of Gpn d_stair_with Gwi
  have GEX := ok_besideX (P := l.prog) (w := w) (base := base) T R OT M_E
  have Gti : FnOk l.prog w K mg base CX0 2 fY _ ["plan", "one", "other", "modulus"] (spTimes K) := ok_times (k := 0) T nz (fun sp j len hb => FY.ok sc_times len fun cdv A outer s H vs Q E hr h => by obtain ⟨t, h1, h2⟩ := hb cdv A outer s H vs Q E hr h; exact ⟨t, h1.nox, h2⟩) d_rest
  have Gon : FnOk l.prog w K mg base CX0 1 _ _ ["plan"] (spOnes K) := ok_ones (k := 0) T d_ones
  have Glo : FnOk l.prog w K mg base CX0 1 _ _ ["plan", "at", "number"] (spLoneN K) := ok_loneN (k := 0) T d_lone
  have Gcb : FnOk l.prog w K mg base CX0 1 _ _ ["backwards"] spCkB := ok_ckb (k := 0) T d_check_backwards
  have GcbX : FnOk l.prog w K mg base (L2.CX l.prog w) 1 _ _ ["backwards"] (spCkBX K CO) := ok_ckbX (k := 0) T OO d_check_backwards
  have Gjo := ok_join d_joined (PySem.W.mg_of X G aY) kY bY vY Gti
  have GSG := ok_singsX T R own OT (fun sp j len hb => FSG.ok sc_sings len hb) d_check_backwards GcbX
  have GFS := ok_fsingX T N OO (fun sp j len hb => FFS.ok sc_fsing len hb) d_check_shape Gck d_check_backwards GcbX d_plan_of Gpn d_is_integer GinS
  have GFSF := ok_fsingF T N R (fun sp j len hb => FFS.ok sc_fsing len hb) d_check_shape Gck d_check_backwards Gcb d_plan_of Gpn d_lone Glo d_joined Gjo d_ones Gon d_stair_with Gwi d_is_integer Gin
  have rdC : ClX.CRead K C (.type "type") := ⟨rd, rga⟩
  have cmO : ClX.CMet K C (.type "type") "one" pO gO := ⟨cAO, ⟨_, cRO⟩, cFO⟩
  have cmG : ClX.CMet K C (.type "type") "single" pG gG := ⟨cAG, ⟨_, cRG⟩, cFG⟩
  have cmD : ClX.CMet K C (.type "type") "read" pD gD := ⟨cAD, ⟨_, cRD⟩, cFD⟩
  have cmF : ClX.CMet K C (.type "type") "of" pF gF := ⟨cAF, ⟨_, cRF⟩, cFF⟩
  have mP : Meth K C "power" gP := ⟨eP, iP, k_P⟩
  have mK : Meth K C "bracket" gK := ⟨eK, iK, k_K⟩
  have mL : Meth K C "led" gL := ⟨eL, iL, k_L⟩
  have mB : Meth K C "block" gB := ⟨eB, iB, k_B⟩
  have mE : Meth K C "beside" gE := ⟨eE, iE, k_E⟩
  have Gtk : FnOk l.prog w K mg base CX0 1 _ _ ["_law_pot_here", "_law_total"] spTake := ok_take (k := 0) T d_law_dip
  have Gsm : FnOk l.prog w K mg base CX0 2 _ _ ["_law_pot_here", "_law_items"] spSome := ok_some (k := 0) T d_law_pick d_law_dip
  have Gbd := ok_lbad T d_law_shapes d_law_pick Gsm
  have Gne := ok_lnoe T d_law_no_entries d_law_pick Gsm
  have Gnt := ok_lnot T d_law_no_table d_law_pick Gsm
  have G1 := ok_lmade T N R WX FCA TbA hMA hUA d_law_word d_law_shapes Gbd d_law_no_entries Gne d_law_no_table Gnt d_law_pick Gsm mk GIX GIB M_I.b rdC cmO G10 M_O.b cmG GSX M_G.b cmF GFX GFF
  have G2 := ok_lused T N R IC noC WX FCU TbU hMU hUU d_law_word d_law_pick Gsm rdC cmD GD M_D.b cmO GO M_O.b ppT GT M_T.b ppN GN M_N.b sf eM iM GM M_M.b mP GP M_P.b mK GK M_K.b mL GL M_L.b mB GB M_B.b mE GE GEX M_E.b
  have G3 := ok_lsing T N R IC noC WX FCV TbV hMV hUV d_law_word d_law_shapes Gbd d_law_pick Gsm rdC cmD GD M_D.b (PySem.W.mg_of X G aSG) kSG GSG bkSG (PySem.W.mg_of X G aFS) kFS GFS bkFS GFSF
  exact ok_law T N d_law dA.g dA.F.kp dA.b G1 dU.g dU.F.kp dU.b G2 dV.g dV.F.kp dV.b G3 d_law_pot (ok_urn (k := 0) T d_law_pot)
end K09

open PySem PySem.W PyProof.Rows
set_option maxRecDepth 100000 in
set_option maxHeartbeats 0 in
theorem PySem.Challenge.cw_stairlots_k09_errors_of_stairs_holds : PySem.Challenge.rw_stairlots_k09_errors_of_stairs.Holds := by
  w_on; o_law; k_head; (case hw => w_witness2)
  k_fill
  refine K09.walk_ofT (l := PySem.Challenge.rw_stairlots_k09_errors_of_stairs) (n := 63) (k := 14) (x := "_law_script") rfl (by decide) rfl ⟨rfl, by decide, by decide⟩ (fun w h Y => PySem.W.km_in_of Y) ?F
  case F =>
    intro w mg fa h Y KX G hmg
    refine' K09.all_of KX G hmg ?aC ?pg ?hd ?po ?sa ?nS ?nP ?nN ?ha ?hn ?htk ?hm ?ne ?sf ?nfC ?ki ?no0 ?nf0 ?no1 ?nf1 ?no2 ?nf2 ?no3 ?nf3 ?no4 ?nf4 ?no5 ?nf5 ?no6 ?nf6 ?mks ?ini ?ifn ?kpC ?eM ?iM ?eP ?iP ?eK ?iK ?eL ?iL ?eB ?iB ?eE ?iE ?pNa ?pNg ?pNt ?pNr ?pTa ?pTg ?pTt ?pTr ?rd ?rga ?cAO ?cRO ?cFO ?cAG ?cRG ?cFG ?cAD ?cRD ?cFD ?cAF ?cRF ?cFF ?aX ?xX ?kX ?bX ?tX ?aT_ ?xT ?kT_ ?bT ?tT ?hdT ?sbT ?aO_ ?xO ?kO_ ?bO ?tO ?hdO ?sbO ?hdS ?sbS ?gN_ ?xN ?ovN ?tkN ?saN ?gaN ?ggN ?nbN ?icN ?tyN_ ?leN ?ceN ?keN ?exN ?ttN ?hdN ?sbN ?gM_ ?xM ?ovM ?tkM ?saM ?gaM ?ggM ?nbM ?icM ?tyM_ ?leM ?ceM ?keM ?exM ?ttM ?hdM ?sbM ?sTS ?sOS ?sOT ?sNS ?sNT ?sNO ?sMS ?sMT ?sMO ?sMN ?cst0 ?cst1 ?cst2 ?cst3 ?cst4 ?cst_MAX_DIGITS ?aTL ?lTL ?n_len ?n_abs ?n_int ?n_bool ?n_max ?n_min ?n_sum ?n_tuple ?n_range ?n_repr ?n_isinstance ?n_reversed ?n_all ?n_any ?n_list ?n_dict ?n_enumerate ?n_sorted ?n_str ?n_zip ?l_I ?c_I ?k_I ?l_O ?c_O ?k_O ?l_G ?c_G ?k_G ?l_D ?c_D ?k_D ?l_F ?c_F ?k_F ?l_N ?c_N ?k_N ?l_T ?c_T ?k_T ?l_M ?c_M ?k_M ?l_P ?c_P ?k_P ?l_K ?c_K ?k_K ?l_L ?c_L ?k_L ?l_B ?c_B ?k_B ?l_E ?c_E ?k_E ?a0 ?l0 ?c0 ?k0 ?a1 ?l1 ?c1 ?k1 ?a2 ?l2 ?c2 ?k2 ?a3 ?l3 ?c3 ?k3 ?a4 ?l4 ?c4 ?k4 ?a5 ?l5 ?c5 ?k5 ?a6 ?l6 ?c6 ?k6 ?a7 ?l7 ?c7 ?k7 ?a8 ?l8 ?c8 ?k8 ?a9 ?l9 ?c9 ?k9 ?a10 ?l10 ?c10 ?k10 ?a11 ?l11 ?c11 ?k11 ?a12 ?l12 ?c12 ?k12 ?a13 ?l13 ?c13 ?k13 ?a14 ?l14 ?c14 ?k14 ?a15 ?l15 ?c15 ?k15 ?a16 ?l16 ?c16 ?k16 ?a17 ?l17 ?c17 ?k17 ?a18 ?l18 ?c18 ?k18 ?a19 ?l19 ?c19 ?k19 ?a20 ?l20 ?c20 ?k20 ?a21 ?l21 ?c21 ?k21 ?a22 ?l22 ?c22 ?k22 ?a23 ?l23 ?c23 ?k23 ?a24 ?l24 ?c24 ?k24 ?a25 ?l25 ?c25 ?k25 ?a26 ?l26 ?c26 ?k26 ?a27 ?l27 ?c27 ?k27 ?a28 ?l28 ?c28 ?k28 ?a29 ?l29 ?c29 ?k29 ?a30 ?l30 ?c30 ?k30 ?a31 ?l31 ?c31 ?k31 ?a32 ?l32 ?c32 ?k32 ?a33 ?l33 ?c33 ?k33 ?aY ?lY ?cY ?kY ?lDY ?aSG ?lSG ?cSG ?kSG ?lDSG ?aFS ?lFS ?cFS ?kFS ?lDFS ?aA ?lA ?cA ?kA ?lCA ?vCA ?nTA ?cHdA ?empA ?aU ?lU ?cU ?kU ?lCU ?vCU ?nTU ?cHdU ?empU ?aV ?lV ?cV ?kV ?lCV ?vCV ?nTV ?cHdV ?empV ?ne10 ?ne20 ?ne21
    (case aC => k_is)
    (case pg => k_is)
    (case hd => k_is)
    (case po => k_is)
    (case sa => k_is)
    (case nS => k_is)
    (case nP => k_is)
    (case nN => k_is)
    (case ha => k_is)
    (case hn => k_is)
    (case htk => k_is)
    (case hm => k_is)
    (case ne => k_is)
    (case sf => k_is)
    (case nfC => k_is)
    (case ki => first | kit_is | k_is)
    (case no0 => first | kit_is | k_is)
    (case nf0 => k_is)
    (case no1 => first | kit_is | k_is)
    (case nf1 => k_is)
    (case no2 => first | kit_is | k_is)
    (case nf2 => k_is)
    (case no3 => first | kit_is | k_is)
    (case nf3 => k_is)
    (case no4 => first | kit_is | k_is)
    (case nf4 => k_is)
    (case no5 => first | kit_is | k_is)
    (case nf5 => k_is)
    (case no6 => first | kit_is | k_is)
    (case nf6 => k_is)
    (case mks => k_is)
    (case ini => k_is)
    (case ifn => k_is)
    (case kpC => k_is)
    (case eM => k_is)
    (case iM => k_is)
    (case eP => k_is)
    (case iP => k_is)
    (case eK => k_is)
    (case iK => k_is)
    (case eL => k_is)
    (case iL => k_is)
    (case eB => k_is)
    (case iB => k_is)
    (case eE => k_is)
    (case iE => k_is)
    (case pNa => k_is)
    (case pNg => k_is)
    (case pNt => k_is)
    (case pNr => k_is)
    (case pTa => k_is)
    (case pTg => k_is)
    (case pTt => k_is)
    (case pTr => k_is)
    (case rd => k_is)
    (case rga => k_is)
    (case cAO => k_is)
    (case cRO => k_is)
    (case cFO => k_is)
    (case cAG => k_is)
    (case cRG => k_is)
    (case cFG => k_is)
    (case cAD => k_is)
    (case cRD => k_is)
    (case cFD => k_is)
    (case cAF => k_is)
    (case cRF => k_is)
    (case cFF => k_is)
    (case aX => k_is)
    (case xX => first | k_exc | k_is)
    (case kX => k_is)
    (case bX => k_is)
    (case tX => k_is)
    (case aT_ => k_is)
    (case xT => first | k_exc | k_is)
    (case kT_ => k_is)
    (case bT => k_is)
    (case tT => k_is)
    (case hdT => k_is)
    (case sbT => first | rfl | k_is)
    (case aO_ => k_is)
    (case xO => first | k_exc | k_is)
    (case kO_ => k_is)
    (case bO => k_is)
    (case tO => k_is)
    (case hdO => k_is)
    (case sbO => first | rfl | k_is)
    (case hdS => k_is)
    (case sbS => first | rfl | k_is)
    (case gN_ => k_is)
    (case xN => k_is)
    (case ovN => first | kx_is | k_is)
    (case tkN => k_is)
    (case saN => k_is)
    (case gaN => k_is)
    (case ggN => k_is)
    (case nbN => k_is)
    (case icN => k_is)
    (case tyN_ => k_is)
    (case leN => k_is)
    (case ceN => k_is)
    (case keN => k_is)
    (case exN => k_is)
    (case ttN => k_is)
    (case hdN => k_is)
    (case sbN => first | rfl | k_is)
    (case gM_ => k_is)
    (case xM => k_is)
    (case ovM => first | kx_is | k_is)
    (case tkM => k_is)
    (case saM => k_is)
    (case gaM => k_is)
    (case ggM => k_is)
    (case nbM => k_is)
    (case icM => k_is)
    (case tyM_ => k_is)
    (case leM => k_is)
    (case ceM => k_is)
    (case keM => k_is)
    (case exM => k_is)
    (case ttM => k_is)
    (case hdM => k_is)
    (case sbM => first | rfl | k_is)
    (case sTS => first | rfl | k_is)
    (case sOS => first | rfl | k_is)
    (case sOT => first | rfl | k_is)
    (case sNS => first | rfl | k_is)
    (case sNT => first | rfl | k_is)
    (case sNO => first | rfl | k_is)
    (case sMS => first | rfl | k_is)
    (case sMT => first | rfl | k_is)
    (case sMO => first | rfl | k_is)
    (case sMN => first | rfl | k_is)
    (case cst0 => k_is)
    (case cst1 => k_is)
    (case cst2 => k_is)
    (case cst3 => k_is)
    (case cst4 => k_is)
    (case cst_MAX_DIGITS => k_is)
    (case aTL => k_is)
    (case lTL => k_is)
    (case n_len => k_is)
    (case n_abs => k_is)
    (case n_int => k_is)
    (case n_bool => k_is)
    (case n_max => k_is)
    (case n_min => k_is)
    (case n_sum => k_is)
    (case n_tuple => k_is)
    (case n_range => k_is)
    (case n_repr => k_is)
    (case n_isinstance => k_is)
    (case n_reversed => k_is)
    (case n_all => k_is)
    (case n_any => k_is)
    (case n_list => k_is)
    (case n_dict => k_is)
    (case n_enumerate => k_is)
    (case n_sorted => k_is)
    (case n_str => k_is)
    (case n_zip => k_is)
    (case l_I => k_is)
    (case c_I => k_is)
    (case k_I => k_is)
    (case l_O => k_is)
    (case c_O => k_is)
    (case k_O => k_is)
    (case l_G => k_is)
    (case c_G => k_is)
    (case k_G => k_is)
    (case l_D => k_is)
    (case c_D => k_is)
    (case k_D => k_is)
    (case l_F => k_is)
    (case c_F => k_is)
    (case k_F => k_is)
    (case l_N => k_is)
    (case c_N => k_is)
    (case k_N => k_is)
    (case l_T => k_is)
    (case c_T => k_is)
    (case k_T => k_is)
    (case l_M => k_is)
    (case c_M => k_is)
    (case k_M => k_is)
    (case l_P => k_is)
    (case c_P => k_is)
    (case k_P => k_is)
    (case l_K => k_is)
    (case c_K => k_is)
    (case k_K => k_is)
    (case l_L => k_is)
    (case c_L => k_is)
    (case k_L => k_is)
    (case l_B => k_is)
    (case c_B => k_is)
    (case k_B => k_is)
    (case l_E => k_is)
    (case c_E => k_is)
    (case k_E => k_is)
    (case a0 => k_is)
    (case l0 => k_is)
    (case c0 => k_is)
    (case k0 => k_is)
    (case a1 => k_is)
    (case l1 => k_is)
    (case c1 => k_is)
    (case k1 => k_is)
    (case a2 => k_is)
    (case l2 => k_is)
    (case c2 => k_is)
    (case k2 => k_is)
    (case a3 => k_is)
    (case l3 => k_is)
    (case c3 => k_is)
    (case k3 => k_is)
    (case a4 => k_is)
    (case l4 => k_is)
    (case c4 => k_is)
    (case k4 => k_is)
    (case a5 => k_is)
    (case l5 => k_is)
    (case c5 => k_is)
    (case k5 => k_is)
    (case a6 => k_is)
    (case l6 => k_is)
    (case c6 => k_is)
    (case k6 => k_is)
    (case a7 => k_is)
    (case l7 => k_is)
    (case c7 => k_is)
    (case k7 => k_is)
    (case a8 => k_is)
    (case l8 => k_is)
    (case c8 => k_is)
    (case k8 => k_is)
    (case a9 => k_is)
    (case l9 => k_is)
    (case c9 => k_is)
    (case k9 => k_is)
    (case a10 => k_is)
    (case l10 => k_is)
    (case c10 => k_is)
    (case k10 => k_is)
    (case a11 => k_is)
    (case l11 => k_is)
    (case c11 => k_is)
    (case k11 => k_is)
    (case a12 => k_is)
    (case l12 => k_is)
    (case c12 => k_is)
    (case k12 => k_is)
    (case a13 => k_is)
    (case l13 => k_is)
    (case c13 => k_is)
    (case k13 => k_is)
    (case a14 => k_is)
    (case l14 => k_is)
    (case c14 => k_is)
    (case k14 => k_is)
    (case a15 => k_is)
    (case l15 => k_is)
    (case c15 => k_is)
    (case k15 => k_is)
    (case a16 => k_is)
    (case l16 => k_is)
    (case c16 => k_is)
    (case k16 => k_is)
    (case a17 => k_is)
    (case l17 => k_is)
    (case c17 => k_is)
    (case k17 => k_is)
    (case a18 => k_is)
    (case l18 => k_is)
    (case c18 => k_is)
    (case k18 => k_is)
    (case a19 => k_is)
    (case l19 => k_is)
    (case c19 => k_is)
    (case k19 => k_is)
    (case a20 => k_is)
    (case l20 => k_is)
    (case c20 => k_is)
    (case k20 => k_is)
    (case a21 => k_is)
    (case l21 => k_is)
    (case c21 => k_is)
    (case k21 => k_is)
    (case a22 => k_is)
    (case l22 => k_is)
    (case c22 => k_is)
    (case k22 => k_is)
    (case a23 => k_is)
    (case l23 => k_is)
    (case c23 => k_is)
    (case k23 => k_is)
    (case a24 => k_is)
    (case l24 => k_is)
    (case c24 => k_is)
    (case k24 => k_is)
    (case a25 => k_is)
    (case l25 => k_is)
    (case c25 => k_is)
    (case k25 => k_is)
    (case a26 => k_is)
    (case l26 => k_is)
    (case c26 => k_is)
    (case k26 => k_is)
    (case a27 => k_is)
    (case l27 => k_is)
    (case c27 => k_is)
    (case k27 => k_is)
    (case a28 => k_is)
    (case l28 => k_is)
    (case c28 => k_is)
    (case k28 => k_is)
    (case a29 => k_is)
    (case l29 => k_is)
    (case c29 => k_is)
    (case k29 => k_is)
    (case a30 => k_is)
    (case l30 => k_is)
    (case c30 => k_is)
    (case k30 => k_is)
    (case a31 => k_is)
    (case l31 => k_is)
    (case c31 => k_is)
    (case k31 => k_is)
    (case a32 => k_is)
    (case l32 => k_is)
    (case c32 => k_is)
    (case k32 => k_is)
    (case a33 => k_is)
    (case l33 => k_is)
    (case c33 => k_is)
    (case k33 => k_is)
    (case aY => k_is)
    (case lY => k_is)
    (case cY => k_is)
    (case kY => k_is)
    (case lDY => k_is)
    (case aSG => k_is)
    (case lSG => k_is)
    (case cSG => k_is)
    (case kSG => k_is)
    (case lDSG => k_is)
    (case aFS => k_is)
    (case lFS => k_is)
    (case cFS => k_is)
    (case kFS => k_is)
    (case lDFS => k_is)
    (case aA => k_is)
    (case lA => k_is)
    (case cA => k_is)
    (case kA => k_is)
    (case lCA => k_is)
    (case vCA => first | rfl | k_is)
    (case nTA => first | rfl | k_is | decide +kernel)
    (case cHdA => first | rfl | k_is | decide +kernel)
    (case empA => exact PySem.W.km_tabs_of Y _ (by decide))
    (case aU => k_is)
    (case lU => k_is)
    (case cU => k_is)
    (case kU => k_is)
    (case lCU => k_is)
    (case vCU => first | rfl | k_is)
    (case nTU => first | rfl | k_is | decide +kernel)
    (case cHdU => first | rfl | k_is | decide +kernel)
    (case empU => exact PySem.W.km_tabs_of Y _ (by decide))
    (case aV => k_is)
    (case lV => k_is)
    (case cV => k_is)
    (case kV => k_is)
    (case lCV => k_is)
    (case vCV => first | rfl | k_is)
    (case nTV => first | rfl | k_is | decide +kernel)
    (case cHdV => first | rfl | k_is | decide +kernel)
    (case empV => exact PySem.W.km_tabs_of Y _ (by decide))
    (case ne10 => decide)
    (case ne20 => decide)
    (case ne21 => decide)

