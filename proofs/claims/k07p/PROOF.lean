import PyProof.Rows.All
import Wide.All
import OpenK.AllK
import Wide.FinOn
import PySem.Challenge.RW_stairlots_k07_whole_texts_of_stairs
import HandS.ForMost
import HandS.Exc
import HandS.TryOnly
import HandS.ExcOwn
import HandS.WordsExc
import HandS.Wide
import HandS.WideMore
import HandS.IsInst
import HandS.Property
import HandS.SlotsOwn
import HandS.Codes
import HandS.Walk
import HandS.Style
import HandS.Comp
import HandS.More
import HandS.Conv
import HandS.Lambda
import HandS.EndTab
import KE.IntTextText
import KE.GoesEnum
import KE.KTupSum
import KE.DataMinMax
import HandS.TupSets
import HandS.Deep
import HandS.DictComp
import HandS.DictTup
import HandS.Iter
import KE.KDictPairs
import KE.KOpsOwn
import KE.KCallOwn
import KE.DataAny
import HandS.Zip
import KE.KDictZip
import KE.GoesMore
import HandS.Zip0
import KE.KDictWalk
import KE.KDictSum
import PyProof.Rows.TupDisplay
import KE.KExcInit
import HandS.Small
import HandS.ClsMeth
import KE.KDictCopyH
import HandS.DictEq
import HandS.ListItems
import KE.KDictItemsList
import KE.KFmtOwn
import HandS.ExcInit
import HandS.ExcField
import HandS.ReplaceLit
import PyProof.StrReplace2
import PyProof.ListStr
import PyProof.StrOps2
import HandS.Defaults
import HandS.ExcIs
import KE.KExcLine
set_option Elab.async false
set_option linter.all false
set_option maxRecDepth 100000
set_option maxHeartbeats 8000000
/-! # the pot -/
namespace K07
open PySem PySem.Spec PyProof.Rows L2
def topS (i : Nat) : Stmt := PySem.Challenge.pw_stairlots_k07_whole_texts_of_stairs.main.body.getD i (.Pass ⟨0, 0, 0, 0⟩)
/-! ### rules of my own -/
/-- ** of a base of any size, the result below 2 ^ 27 bits -/
def CPowW (i j : Int) : Prop := 0 ≤ j ∧ (Builtin.Int.intBits i : Int) * j ≤ 2 ^ 27
theorem op_powW {X : Cx} : OpR X (binaryOp .Pow) (rI CPowW fun i j => .int (i ^ j.toNat)) := opI fun _ _ _ _ _ _ _ hc q => pow_int hc.1 hc.2 q
theorem sub_same {H : Hp} {p : Addr} {o : HO} (h : H p = none) : Same H (upd H p o) := fun b x e => by
  rw [upd_ne (ne_of_none e h)]
  exact e
/-- all but one address as before -/
def But (a : Addr) (H H' : Hp) : Prop := ∀ b, b ≠ a → H' b = H b
theorem But.refl (a : Addr) (H : Hp) : But a H H := fun _ _ => rfl
theorem But.trans {a : Addr} {H H1 H2 : Hp} (x : But a H H1) (y : But a H1 H2) : But a H H2 := fun b hb => (y b hb).trans (x b hb)
theorem but_upd (a : Addr) (H : Hp) (o : HO) : But a H (upd H a o) := fun b hb => upd_ne hb
/-! ### the urn: a list of three ints -/
def Urn (H : Hp) (a : Addr) : Prop := ∃ g m c : Int, H a = some (.lst [.int g, .int m, .int c])
theorem Urn.seq {K : PySem.W.Frag} {H : Hp} {a : Addr} {xs : List V} (h : H a = some (.lst xs)) : SqL K H a xs := .inl (.inl h)
abbrev s_pot : Stmt := topS 46
theorem sc_pot : FnScope ["_law_script", "_law_at", "_law_cell", "_law_great", "_law_mixed"] ["_law_script", "_law_at"] (defScope s_pot) := ⟨rfl, rfl, rfl, by decide +kernel, rfl, by decide +kernel, by decide +kernel⟩
abbrev s_dip : Stmt := topS 47
theorem sc_dip : FnScope ["_law_pot_here", "_law_total", "_law_found", "_law_one", "_law_two"] ["_law_pot_here", "_law_total"] (defScope s_dip) := ⟨rfl, rfl, rfl, by decide +kernel, rfl, by decide +kernel, by decide +kernel⟩
abbrev s_pick : Stmt := topS 48
theorem sc_pick : FnScope ["_law_pot_here", "_law_items"] ["_law_pot_here", "_law_items"] (defScope s_pick) := ⟨rfl, rfl, rfl, by decide +kernel, rfl, by decide +kernel, by decide +kernel⟩
section
variable {P : Program} {w : World} {K : PySem.W.Frag} {mg : Str → Option Value} {base : Heap}
structure Txt (mg : Str → Option Value) : Prop where
  n_len : mg "len" = none
  n_abs : mg "abs" = none
  n_int : mg "int" = none
  n_bool : mg "bool" = none
  n_max : mg "max" = none
  n_min : mg "min" = none
  n_sum : mg "sum" = none
  n_tuple : mg "tuple" = none
  n_range : mg "range" = none
  n_repr : mg "repr" = none
  n_isinstance : mg "isinstance" = none
  n_reversed : mg "reversed" = none
structure D (K : PySem.W.Frag) (mg : Str → Option Value) (x : Str) (st : Stmt) (ps : List Str) (f : Addr) (fd : FuncData) : Prop where
  F : Fun K x x st f fd
  g : mg x = some (.ref f)
  b : Binds K fd ps []
/-- a drawn number below the total -/
def spTake : Sp := fun vs H Q _ => ∃ (a : Addr) (t : Int), vs = [.ref a, .int t] ∧ Urn H a ∧ 0 < t ∧ t.natAbs.log2 < 9000 ∧
  ∀ (v : Int) (H' : Hp), 0 ≤ v → v < t → Urn H' a → But a H H' → Q (.int v) H'
theorem ok_take {f : Addr} {fd : FuncData} {k : Nat} (T : Txt mg) (d : D K mg "_law_dip" s_dip ["_law_pot_here", "_law_total"] f fd) :
    FnOk P w K mg base CX0 (k + 1) f fd ["_law_pot_here", "_law_total"] spTake := by
  refine d.F.ok sc_dip (fun vs H Q E h => ?_) (fun cdv A outer s H vs Q E hr h => ?_)
  · obtain ⟨a, t, rfl, _⟩ := h
    rfl
  · obtain ⟨a, t, rfl, ⟨g, m, c, hu⟩, ht, hl, q⟩ := h
    refine ⟨_, (pss_cons (ps_if (pt_cmpR op_gt (pe_ix ix_list (pv 0) pe_int (fun _ _ => rfl)) pe_int (nomark _)) (pss_cons (ps_set (i := 2) sc_dip.nd rfl (.inl rfl) (pe_op op_mod (pe_callTy call_int1 (by rfl) T.n_int (by decide +kernel) (pa_cons (pe_ix ix_list (pv 0) pe_int (fun _ _ => rfl)) pa_nil)) (pv 1)))
        (pss_cons (ps_asg (pe_op op_fdivW (pe_ix ix_list (pv 0) pe_int (fun _ _ => rfl)) (pv 1)) (pg_sub (pv 0) pe_int set_list))
        (pss_one (ps_ret (pv 2))))) pss_nil)
      (pss_cons (ps_asg (pe_op op_add (pe_ix ix_list (pv 0) pe_int (fun _ _ => rfl)) pe_int) (pg_sub (pv 0) pe_int set_list))
      (pss_cons (ps_set (i := 3) sc_dip.nd rfl (.inl rfl) (pe_op op_mod (pe_callTy call_int1 (by rfl) T.n_int (by decide +kernel) (pa_cons (pe_op op_add (pe_ix ix_list (pv 0) pe_int (fun _ _ => rfl)) (pe_op op_mul pe_int (pe_ix ix_list (pv 0) pe_int (fun _ _ => rfl)))) pa_nil)) pe_int))
      (pss_cons (ps_set (i := 4) sc_dip.nd rfl (.inl rfl) (pe_op op_add (pe_op op_mul (pe_op op_mod (pe_callTy call_int1 (by rfl) T.n_int (by decide +kernel) (pa_cons (pe_op op_mul (pv 3) (pv 3)) pa_nil)) pe_int) (pv 3)) (pe_op op_mul pe_int (pe_ix ix_list (pv 0) pe_int (fun _ _ => rfl)))))
      (pss_one (ps_ret (pe_op op_mod (pe_callTy call_int1 (by rfl) T.n_int (by decide +kernel) (pa_cons (pe_op op_fdivW (pe_op op_mod (pe_callTy call_int1 (by rfl) T.n_int (by decide +kernel) (pa_cons (pv 4) pa_nil)) pe_int) pe_int) pa_nil)) (pv 1)))))))), ?_⟩
    refine ⟨.ref a, rfl, a, _, 0, .int g, rfl, rfl, Urn.seq hu, atI_nat (j := 0) rfl, g, 0, rfl, rfl, _, rfl, ite2 (fun e => ?_) (fun e => ?_)⟩
    · refine ⟨.ref a, rfl, ⟨a, _, 0, .int g, rfl, rfl, Urn.seq hu, atI_nat (j := 0) rfl, .inl ⟨g, rfl, .int t, rfl, g, t, rfl, rfl, ht, ?_⟩⟩⟩
      refine ⟨.ref a, rfl, ⟨a, _, 0, .int g, rfl, rfl, Urn.seq hu, atI_nat (j := 0) rfl, .int t, rfl, g, t, rfl, rfl, ⟨ht, hl⟩, ?_⟩⟩
      refine ⟨.ref a, rfl, a, _, 0, 0, rfl, rfl, hu, rfl, ?_⟩
      exact ⟨_, rfl, q _ _ (Int.emod_nonneg _ (by omega)) (Int.emod_lt_of_pos _ ht) ⟨_, _, _, upd_same⟩ (but_upd _ _ _)⟩
    · refine ⟨.ref a, rfl, ⟨a, _, 2, .int c, rfl, rfl, Urn.seq hu, atI_nat (j := 2) rfl, c, 1, rfl, rfl, ?_⟩⟩
      refine ⟨.ref a, rfl, a, _, 2, 2, rfl, rfl, hu, rfl, ?_⟩
      have h1 : (upd H a (.lst ([.int g, .int m, .int c].set 2 (.int (c + 1))))) a = some (.lst [.int g, .int m, .int (c + 1)]) := upd_same
      have b1 := but_upd a H (.lst ([.int g, .int m, .int c].set 2 (.int (c + 1))))
      revert h1 b1
      generalize upd H a (.lst ([.int g, .int m, .int c].set 2 (.int (c + 1)))) = H1
      intro h1 b1
      refine ⟨.ref a, rfl, ⟨a, _, 1, .int m, rfl, rfl, Urn.seq h1, atI_nat (j := 1) rfl, ?_⟩⟩
      refine ⟨.ref a, rfl, ⟨a, _, 2, .int (c + 1), rfl, rfl, Urn.seq h1, atI_nat (j := 2) rfl, ?_⟩⟩
      refine ⟨_, _, rfl, rfl, .inl (by decide), _, _, rfl, rfl, .inl ⟨_, rfl, _, _, rfl, rfl, (by show (0 : Int) < _; decide), ?_⟩⟩
      generalize ho : (m + 1000117 * (c + 1)) % 2305843009213693951 = o
      have o0 : 0 ≤ o := by omega
      have o1 : o < 2305843009213693951 := by omega
      refine ⟨_, rfl, _, rfl, _, _, rfl, rfl, .inl (by omega), .inl ⟨_, rfl, _, _, rfl, rfl, (by show (0 : Int) < _; decide), ?_⟩⟩
      generalize ho2 : o * o % 2305843009213693907 = r
      have r0 : 0 ≤ r := by omega
      have r1 : r < 2305843009213693907 := by omega
      refine ⟨_, rfl, _, _, rfl, rfl, .inl (by omega), ?_⟩
      refine ⟨.ref a, rfl, ⟨a, _, 2, .int (c + 1), rfl, rfl, Urn.seq h1, atI_nat (j := 2) rfl, ?_⟩⟩
      refine ⟨_, _, rfl, rfl, .inl (by decide), _, _, rfl, rfl, ?_⟩
      generalize r * o + 9059 * (c + 1) = z
      refine ⟨_, rfl, .inl ⟨_, rfl, _, _, rfl, rfl, (by show (0 : Int) < _; decide), _, _, rfl, rfl, ⟨by decide, by decide⟩, .inl ⟨_, rfl, _, rfl, _, _, rfl, rfl, ht, ?_⟩⟩⟩
      exact q _ _ (Int.emod_nonneg _ (by omega)) (Int.emod_lt_of_pos _ ht) ⟨_, _, _, h1⟩ b1
/-- one of the items -/
def spSome : Sp := fun vs H Q _ => ∃ (a b : Addr) (xs : List V), vs = [.ref a, .ref b] ∧ Urn H a ∧ H b = some (.lst xs) ∧ b ≠ a ∧ xs ≠ [] ∧ xs.length ≤ 1000 ∧
  ∀ (i : Nat) (x : V) (H' : Hp), xs[i]? = some x → Urn H' a → But a H H' → Q x H'
theorem ok_some {f ft : Addr} {fd fdt : FuncData} {k : Nat} (T : Txt mg) (d : D K mg "_law_pick" s_pick ["_law_pot_here", "_law_items"] f fd) (dt : D K mg "_law_dip" s_dip ["_law_pot_here", "_law_total"] ft fdt) :
    FnOk P w K mg base CX0 (k + 2) f fd ["_law_pot_here", "_law_items"] spSome := by
  have G : FnOk P w K mg base CX0 (k + 1) ft fdt ["_law_pot_here", "_law_total"] spTake := ok_take T dt
  refine d.F.ok sc_pick (fun vs H Q E h => ?_) (fun cdv A outer s H vs Q E hr h => ?_)
  · obtain ⟨a, b, xs, rfl, _⟩ := h
    rfl
  · obtain ⟨a, b, xs, rfl, hu, hb, hne, hx, hz, q⟩ := h
    refine ⟨_, (pss_one (ps_ret (pe_ix ix_list (pv 1) (pe_call G hr (by rfl) dt.g dt.F.kp dt.b .nil pass0 (pa_cons (pv 0) (pa_cons (pe_callB call_len_seq (by rfl) T.n_len PySem.boot_len (pa_cons (pv 1) pa_nil)) pa_nil))) (fun _ _ => rfl)))), ?_⟩
    refine ⟨.ref b, rfl, .ref a, rfl, .ref b, rfl, b, xs, rfl, .inl (Urn.seq hb), a, _, rfl, hu, ?_, ?_, fun v H' v0 v1 hu' hk => ?_⟩
    · cases xs with
      | nil => exact absurd rfl hx
      | cons x r => rw [List.length_cons]; omega
    · have e : ((xs.length : Int)).natAbs = xs.length := Int.natAbs_natCast _
      rw [e]
      exact Nat.lt_of_le_of_lt (Nat.log2_le_self _) (by omega)
    · obtain ⟨j, rfl⟩ : ∃ j : Nat, v = (j : Int) := ⟨v.toNat, by omega⟩
      have hv : j < xs.length := by omega
      exact ⟨b, xs, j, xs[j], rfl, rfl, Urn.seq ((hk b hne).trans hb), atI_nat (List.getElem?_eq_getElem hv), q j _ H' (List.getElem?_eq_getElem hv) hu' hk⟩
/-- a new pot -/
def spUrn (K : PySem.W.Frag) : Sp := fun vs H Q _ => ∃ (a : Addr) (i : Nat) (ns : List Int), vs = [.ref a, .int i] ∧ SqL K H a (ns.map V.int) ∧ i ≤ 1000 ∧
  ∀ (H' : Hp) (p : Addr), Same H H' → H p = none → Urn H' p → Q (.ref p) H'
theorem ok_urn {f : Addr} {fd : FuncData} {k : Nat} (T : Txt mg) (d : D K mg "_law_pot" s_pot ["_law_script", "_law_at"] f fd) : FnOk P w K mg base CX0 (k + 1) f fd ["_law_script", "_law_at"] (spUrn K) := by
  refine d.F.ok sc_pot (fun vs H Q E h => ?_) (fun cdv A outer s H vs Q E hr h => ?_)
  · obtain ⟨a, i, ns, rfl, _⟩ := h
    rfl
  · obtain ⟨a, i, ns, rfl, hS, hi, q⟩ := h
    refine ⟨_, (pss_cons (ps_set (i := 2) sc_pot.nd rfl (.inl rfl) (pe_ifExp (pt_cmpR op_lt (pv 1) (pe_callB call_len_seq (by rfl) T.n_len PySem.boot_len (pa_cons (pv 0) pa_nil)) (nomark _)) (pe_ix ix_list (pv 0) (pv 1) (fun _ _ => rfl)) (pe_op op_add (pe_op op_mul pe_int (pv 1)) pe_int)))
      (pss_cons (ps_set (i := 3) sc_pot.nd rfl (.inl rfl) (pe_op op_mod (pe_callTy call_int1 (by rfl) T.n_int (by decide +kernel) (pa_cons (pe_callB call_abs (by rfl) T.n_abs (by decide +kernel) (pa_cons (pv 2) pa_nil)) pa_nil)) (pe_op op_powW (pe_op op_powW pe_int pe_int) pe_int)))
      (pss_cons (ps_set (i := 4) sc_pot.nd rfl (.inl rfl) (pe_op op_add (pe_op op_add (pe_op op_add (pe_op op_mul (pe_op op_mod (pe_callTy call_int1 (by rfl) T.n_int (by decide +kernel) (pa_cons (pv 3) pa_nil)) pe_int) pe_int) (pe_op op_mul pe_int (pv 1))) (pe_op op_mul pe_int (pe_callTy call_int1 (by rfl) T.n_int (by decide +kernel) (pa_cons (pe_cmpR op_lt (pv 2) pe_int (nomark _)) pa_nil)))) pe_int))
      (pss_one (ps_ret (pe_lst (pa_cons (pe_callB (call_max2 rfl) (by rfl) T.n_max (by decide +kernel) (pa_cons pe_int (pa_cons (pe_op op_add (pe_op op_sub (pv 3) (pe_op op_powW pe_int pe_int)) pe_int) pa_nil))) (pa_cons (pe_op op_mod (pe_callTy call_int1 (by rfl) T.n_int (by decide +kernel) (pa_cons (pv 4) pa_nil)) pe_int) (pa_cons pe_int pa_nil))))))))), ?_⟩
    have fin : ∀ (g m : Int) (p : Addr), H p = none → Q (.ref p) (upd H p (.lst [.int g, .int m, .int 0])) := fun g m p np => q _ p (sub_same np) np ⟨_, _, _, upd_same⟩
    refine ⟨_, rfl, .ref a, rfl, a, _, rfl, .inl hS, _, _, rfl, rfl, _, rfl, ite2 (fun e => ?_) (fun e => ?_)⟩
    · have hlt : i < ns.length := by
        have z := of_decide_eq_true e
        rw [List.length_map] at z
        omega
      refine ⟨.ref a, rfl, _, rfl, a, _, _, .int ns[i], rfl, rfl, hS, atI_nat (by rw [List.getElem?_map, List.getElem?_eq_getElem hlt]; rfl), ?_⟩
      generalize ns[i] = z
      refine ⟨_, rfl, _, rfl, .inl ⟨_, rfl, _, _, rfl, rfl, ⟨by decide, by decide +kernel⟩, _, _, rfl, rfl, ⟨by decide, by decide +kernel⟩, _, _, rfl, rfl, (by show (0 : Int) < _; decide), ?_⟩⟩
      refine ⟨_, rfl, .inl ⟨_, rfl, _, _, rfl, rfl, (by show (0 : Int) < _; decide), _, _, rfl, rfl, .inr (by decide), ?_⟩⟩
      refine ⟨_, rfl, _, _, rfl, rfl, .inl (by decide), _, _, rfl, rfl, _, rfl, _, _, rfl, rfl, .inr ⟨_, rfl, _, _, rfl, rfl, .inl (by decide), _, _, rfl, rfl, _, _, rfl, rfl, ?_⟩⟩
      refine ⟨_, rfl, _, _, rfl, rfl, ⟨by decide, by decide +kernel⟩, _, _, rfl, rfl, _, _, rfl, rfl, _, _, rfl, ?_⟩
      exact ⟨_, rfl, .inl ⟨_, rfl, _, _, rfl, rfl, (by show (0 : Int) < _; decide), (by show 3 ≤ sizeLine; decide), fun p np => fin _ _ p np⟩⟩
    · refine ⟨_, rfl, _, _, rfl, rfl, .inl (by decide), _, _, rfl, rfl, ?_⟩
      generalize 67 * (i : Int) + 43 = z
      refine ⟨_, rfl, _, rfl, .inl ⟨_, rfl, _, _, rfl, rfl, ⟨by decide, by decide +kernel⟩, _, _, rfl, rfl, ⟨by decide, by decide +kernel⟩, _, _, rfl, rfl, (by show (0 : Int) < _; decide), ?_⟩⟩
      refine ⟨_, rfl, .inl ⟨_, rfl, _, _, rfl, rfl, (by show (0 : Int) < _; decide), _, _, rfl, rfl, .inr (by decide), ?_⟩⟩
      refine ⟨_, rfl, _, _, rfl, rfl, .inl (by decide), _, _, rfl, rfl, _, rfl, _, _, rfl, rfl, .inr ⟨_, rfl, _, _, rfl, rfl, .inl (by decide), _, _, rfl, rfl, _, _, rfl, rfl, ?_⟩⟩
      refine ⟨_, rfl, _, _, rfl, rfl, ⟨by decide, by decide +kernel⟩, _, _, rfl, rfl, _, _, rfl, rfl, _, _, rfl, ?_⟩
      exact ⟨_, rfl, .inl ⟨_, rfl, _, _, rfl, rfl, (by show (0 : Int) < _; decide), (by show 3 ≤ sizeLine; decide), fun p np => fin _ _ p np⟩⟩
end
end K07

/-! # enumerate(tuple) -/
namespace K07W
open PySem PySem.Spec PyProof.Rows
set_option maxHeartbeats 1000000 in
theorem meets_enumerate_new1 {v : Value} {o : Obj} {H : Heap → Prop} (B : Begins v o H) :
    Meets (Builtin.«enumerate.__new__» ⟨[.type "enumerate", v], []⟩) (fun _ R s => H s.heap ∧
      R (.ok (.ret (.ref (s.heap.push o).objs.size))) { s with heap := (s.heap.push o).push { cls := .type "enumerate", data := .fields #[.none, .bool false, .ref s.heap.objs.size, rawInt 0, .none, .none] } }) :=
  .of_wp fun prog w A R s h => by
    obtain ⟨hp, g, d, tk, os⟩ := s; obtain ⟨h1, h⟩ := h
    have hsub := sub_enumerate
    have q1 : ∀ {A' : Around} {E : Value → Shared → Prop} {Q : Value → Shared → Prop}, Q (.ref hp.objs.size) ⟨hp.push o, g, d, tk, os⟩ → wpAny (model prog w) A' (pyIter v) Q E ⟨hp, g, d, tk, os⟩ :=
      fun q => B.iter prog w _ _ ⟨hp, g, d, tk, os⟩ _ h1 q
    wp_walk using q1
    refine wpAny_stack_any fun st => wpAny_pure ?_
    split
    · rename_i c _ _ _ _ _
      cases (c == Value.type "enumerate")
      · wp_walk using q1
        exact ⟨_, rfl, h⟩
      · wp_walk using q1
        exact ⟨_, rfl, h⟩
    · wp_walk using q1
      exact ⟨_, rfl, h⟩
section
variable {prog : Program} {w : World} {A : Around} {E : Value → Shared → Prop} {s : Shared}
theorem enum_begins1 {v : Value} {o : Obj} {H : Heap → Prop} {Q : Value → Shared → Prop} (B : Begins v o H) (h1 : H s.heap)
    (h : ∀ h', IsEnum h' (s.heap.objs.size + 1) s.heap.objs.size 0 .none → h'.get? s.heap.objs.size = some o → h'.objs.size = s.heap.objs.size + 2 →
      (∀ b o, s.heap.get? b = some o → h'.get? b = some o) → Q (.ref (s.heap.objs.size + 1)) { s with heap := h' }) :
    wpAny (model prog w) A (call (.type "enumerate") [v]) Q E s := by
  refine callType_new F.called_enumerate (by decide) (F.typeCall_enumerate_1 _) (F.newCall_enumerate_1 _) (fun obj => F.args_object_init_2 obj _) F.entry_enumerate_new
    (meets_enumerate_new1 B) ⟨h1, ?_⟩
  have hz : (s.heap.push o).objs.size = s.heap.objs.size + 1 := Heap.size_push ..
  show _ ∧ _
  rw [hz]
  have he : IsEnum ((s.heap.push o).push { cls := .type "enumerate", data := .fields #[.none, .bool false, .ref s.heap.objs.size, rawInt 0, .none, .none] }) (s.heap.objs.size + 1) s.heap.objs.size 0 .none := by
    have := Heap.get?_push_size (s.heap.push o) (o := { cls := .type "enumerate", data := .fields #[.none, .bool false, .ref s.heap.objs.size, rawInt 0, .none, .none] }) rfl
    rw [hz] at this; exact this
  refine ⟨⟨_, he, rfl⟩, h _ he (Heap.get?_push_of_some _ (Heap.get?_push_size _ B.free)) (by rw [Heap.size_push, hz]) fun b o x => Heap.get?_push_of_some _ (Heap.get?_push_of_some _ x)⟩
theorem enum_end_tuple {e it a : Addr} {i : Nat} {items : Array Value} {c : Int} {old : Value} {Q : Option Value → Shared → Prop} (hh : A.handled = none)
    (he : IsEnum s.heap e it c old) (hit : s.heap.IsTupleIter it a i) (ht : s.heap.IsTuple a items) (hx : items[i]? = none)
    (hQ : ∀ h', Heap.ExtBut it s.heap h' → Q none { s with heap := h' }) : wpAny (model prog w) A (pyNext (.ref e)) Q E s := by
  have hT : s.TypeIs (.ref e) "enumerate" := ⟨_, he, rfl⟩
  unfold pyNext
  refine wpAny_bind (wpAny_attempt (wpAny_callSpecial?_slot (name := Str.ofString "__next__") hT F.slot_enumerate_next
    (wpAny_call_entry F.slot_enumerate_next hT F.entry_enumerate_next ?_ (F.args_enumerate_next_1 _))))
  show wpAny _ _ (field (.ref e) 2 >>= _) _ _ _
  refine wpAny_bind (wpAny_field he rfl (x := .ref it) rfl ?_)
  refine wpAny_bind (wpAny_nextOf_tuple_end (A := A.in1) hh hit ht hx fun h' x he' hx' => ?_)
  obtain ⟨o, ho, hc⟩ := hx'
  refine wpAny_bind (wpAny_isInstance (T := "StopIteration") (b := true) ⟨o, ho, hc⟩ isSubtype_stop ?_)
  exact wpAny_pure (hQ _ he')
end
end K07W
namespace K07
open PySem PySem.Spec PyProof.Rows L2
/-- the tuple at a, each item in a new pair -/
def IteT (K : PySem.W.Frag) (a : Addr) : It :=
  ⟨fun i H => ∃ (xs : List V) (x : V), SqT K H a xs ∧ xs[i]? = some x, fun i H v H' => ∃ T x, v = .ref T ∧ H T = none ∧ H' = upd H T (.tup [.int (i : Nat), x]) ∧ ∀ xs, SqT K H a xs → xs[i]? = some x, fun i H => ∃ xs : List V, SqT K H a xs ∧ xs.length ≤ i⟩
theorem turn_enumT {P : Program} {w : World} {K : PySem.W.Frag} {elts : List Expr} {kk : Nat} {tpos : Pos} (a e it : Addr) :
    Turn P w K (.Tuple elts kk tpos) (IteT K a) [e, it] e (fun i h => (∃ old, IsEnum h e it ((i : Nat) : Int) old) ∧ h.IsTupleIter it a i ∧ e ≠ it) where
  mem := by simp
  obj := fun i h st b hb => by
    obtain ⟨⟨old, he⟩, ⟨o, ho, hc, hd⟩, _⟩ := st
    have e' : b = e ∨ b = it := by simpa using hb
    rcases e' with z | z
    · rw [z]; exact ⟨_, he, fun v q => nomatch q⟩
    · rw [z]; exact ⟨o, ho, fun v q => by rw [hd] at q; cases q⟩
  keep := fun i h h' st k => let ⟨⟨old, he⟩, hi, hne⟩ := st; ⟨⟨old, k e (by simp) _ he⟩, hi.at fun o q => k it (by simp) o q, hne⟩
  item := by
    intro X hP hw hK hc i pins s σ H E I hf st hg
    subst hP hw hK
    obtain ⟨⟨old, he⟩, hit, hne⟩ := st
    obtain ⟨xs, x, hq, hx⟩ := hg
    obtain ⟨its, rv, p, hz⟩ := I.tuple hq
    obtain ⟨u, hu, ru⟩ := rv.get hx
    have p' : s.heap.IsTuple a its.toArray := p
    have ai : a ≠ it := fun z => by
      obtain ⟨o, ho, ho2, _⟩ := id hit
      obtain ⟨o', ho', hc', _⟩ := id p'
      rw [z, ho] at ho'
      rw [Option.some.inj ho', hc'] at ho2
      exact absurd ho2 (by decide)
    have ae : a ≠ e := fun z => by
      obtain ⟨o', ho', hc', _⟩ := id p'
      rw [z, he] at ho'
      rw [← Option.some.inj ho'] at hc'
      exact absurd (show Value.type "enumerate" = Value.type "tuple" from hc') (by decide)
    have hel : e < s.heap.objs.size := Heap.lt_size he
    have hil : it < s.heap.objs.size := by obtain ⟨_, q, _⟩ := hit; exact Heap.lt_size q
    have il : i < its.toArray.size := by
      have z := (List.getElem?_eq_some_iff.mp hu).1
      simpa using z
    have DD : Draws X.prog X.w X.A.in1 it [it, a] its.toArray.size (fun i v => its.toArray[i]? = some v) (fun i h => h.IsTupleIter it a i ∧ h.IsTuple a its.toArray) := Draws.tuple (A := X.A.in1) (I.ok.hd hc) it a ai its.toArray
    refine wpAny_pyNext_enum_itemC DD he ⟨hit, p'⟩ il hne (fun z => by
      rcases List.mem_cons.mp z with z | z
      · exact hne z
      · exact ae (List.mem_singleton.mp z).symm) fun u' h' tk hP ho hit' hT hsz hk => ?_
    have eu : u' = u := by
      have z : its[i]? = some u' := by simpa using hP
      rw [hu] at z
      exact (Option.some.inj z).symm
    subst eu
    refine ⟨_, rfl, wpAny_letOwnedTupleGo_enum (s := { s with heap := h', toks := tk + 1 }) ho fun h'' he' sb => ?_⟩
    have hT2 : h''.get? s.heap.objs.size = some { cls := .type "tuple", data := .seq #[.int i tk, u'] } := (sb.2 _ (Nat.ne_of_gt hel)).trans hT
    have new : ObjOk X.prog X.w (upd H s.heap.objs.size (.tup [.int (i : Nat), x])) h'' s.heap.objs.size (.tup [.int (i : Nat), x]) :=
      ⟨by show 2 ≤ sizeLine; decide, [.int i tk, u'], .cons ⟨_, rfl⟩ (.cons ru .nil), ⟨_, hT2, rfl, _, rfl⟩⟩
    have I1 : Inv X pins σ (upd H s.heap.objs.size (.tup [.int (i : Nat), x])) { s with heap := h'', toks := tk + 1 } :=
      I.turnedNew (ch := [e, it]) (fun b ob hb q => (sb.2 b (fun z => hb (by simp [z]))).trans (hk b ob (fun z => hb (by simp [z])) (fun z => hb (by simp [z])) q)) hf (Nat.le_refl _) new
    refine ⟨.ref s.heap.objs.size, _, I1, rfl, ⟨_, x, rfl, I.hok.fresh (Nat.le_refl _), rfl, fun ys hy => by rw [I.tuple_inj hy hq]; exact hx⟩, ⟨⟨u', ?_⟩, hit'.1.at fun o q => (sb.2 it (Ne.symm hne)).trans q, hne⟩, fun b hb => ?_⟩
    · have e1 : ((i + 1 : Nat) : Int) = (i : Int) + 1 := by omega
      rw [e1]; exact he'
    · have hb' : b < s.heap.objs.size := by
        have e' : b = e ∨ b = it := by simpa using hb
        rcases e' with z | z
        · rw [z]; exact hel
        · rw [z]; exact hil
      rw [upd_ne (Nat.ne_of_lt hb')]
      exact (hf b hb).1
  done := by
    intro X hP hw hK hc i pins s σ H E I hf st hg
    subst hP hw hK
    obtain ⟨⟨old, he⟩, hit, hne⟩ := st
    obtain ⟨xs, hq, hx⟩ := hg
    obtain ⟨its, rv, p, hz⟩ := I.tuple hq
    have p' : s.heap.IsTuple a its.toArray := p
    obtain ⟨f0, f1, f2, f3, f4, f5⟩ := hf it (by simp)
    have hl := rv.length
    exact K07W.enum_end_tuple (I.ok.hd hc) he hit p' (by simp; omega) fun h' eb => ⟨rfl, I.turned (t' := s.toks) (fun b o hb e => eb b o hb e) f0 f1 f3 f4 f5⟩
  self := fun A i s Q E st h => let ⟨⟨_, he⟩, _⟩ := st; wpAny_pyIter_enum he h
def iEnumT (K : PySem.W.Frag) (ta : TA) : TI := fun σ H R => ta σ H fun vs H1 => ∃ a xs, vs = [.ref a] ∧ SqT K H1 a xs ∧ R (IteT K a) H1
theorem pi_enumT {X : Cx} {e : Expr} {ta : TA} {p pos tpos : Pos} {elts : List Expr} {kk : Nat} (hg : Gl X "enumerate") (hm : X.mg "enumerate" = none) (ha : PA X [e] ta) (hs : starEach [e] X.env = [(false, eval e X.env)] := by rfl) :
    PI X (.Tuple elts kk tpos) (.Call (.Name "enumerate" p) [e] [] pos) (iEnumT X.K ta) := by
  refine ⟨fun pins s σ H R I h => ?_⟩
  refine Call_ (ld_blt I hg hm boot_enumerate (PyProof.Rows.callWith_type1 (thn (ha.run pos pins s σ H _ I h) fun us s1 ⟨vs, H1, I1, r1, q1⟩ => ?_) hs rfl))
  obtain ⟨a, xs, ex, hq, q⟩ := q1
  subst ex
  cases r1 with
  | cons r rr =>
    cases rr
    cases r
    obtain ⟨its, rv, p', hz⟩ := I1.tuple hq
    refine K07W.enum_begins1 (begins_tuple a its.toArray) (show s1.heap.IsTuple a its.toArray from p') fun h' he hit hsz hk => wpAny_pyIter_enum he ?_
    have I2 : Inv X pins σ H1 { s1 with heap := h' } := I1.kept (t' := s1.toks) hk
    refine ⟨s1.heap.objs.size + 1, [s1.heap.objs.size + 1, s1.heap.objs.size], _, _, H1, rfl, I2, turn_enumT a (s1.heap.objs.size + 1) s1.heap.objs.size, ⟨⟨.none, he⟩, ⟨_, hit, rfl, rfl⟩, Nat.succ_ne_self _⟩, fun b hb => ?_, q⟩
    have e' : b = s1.heap.objs.size + 1 ∨ b = s1.heap.objs.size := by simpa using hb
    have hle : s1.heap.objs.size ≤ b := by
      rcases e' with z | z
      · rw [z]; exact Nat.le_add_right _ _
      · rw [z]; exact Nat.le_refl _
    exact I1.fpOk hle (I1.hok.fresh hle)
end K07
namespace K07
open PySem PySem.Spec PyProof.Rows L2
theorem walk_enumT {K : PySem.W.Frag} {a : Addr} {xs : List V} : Walk (IteT K a) xs.length (fun H => SqT K H a xs) (YPair (fun i => some (.int (i : Nat))) (fun i => xs[i]?)) := by
  refine ⟨fun i _ hi q => ⟨xs, xs[i], q, by simp [hi]⟩, fun _ q => ⟨xs, q, Nat.le_refl _⟩, fun i H v H' _ q y => ?_⟩
  obtain ⟨T, x, h1, h2, h3, h4⟩ := y
  exact ⟨T, .int (i : Nat), x, h1, h2, h3, rfl, h4 xs q⟩
end K07

/-! # sums and greatest of tuples; kinds of values; shapes -/
namespace K07
open PySem PySem.Spec PyProof.Rows L2
section
variable {X : Cx}
theorem cr_sumT (hc : X.calm = true) : CallR X (.builtin "sum") (fun vs H Q => ∃ (a : Addr) (ns : List Int), vs = [V.ref a] ∧ SqT X.K H a (ns.map V.int) ∧ Q (.int ns.sum) H) := by
  intro pins s σ H vs us Q I r h
  obtain ⟨a, ns, rfl, hs, q⟩ := h
  obtain ⟨its, rv, hl, _⟩ := I.tuple hs
  rw [Vals.ref1 r]
  have hi := rv.ints
  obtain ⟨xs, e⟩ := hi.allInts.items
  have hn : numsOf (PySem.intItems xs).toList = ns := by rw [← e]; exact hi.numsOf
  rw [nums_intItems] at hn
  have hl' : s.heap.IsTuple a its.toArray := hl
  rw [e] at hl'
  refine PySem.W.ktm_sumG (I.ok.hd hc) hl' fun h' tk t' hk => ?_
  have z : EP X pins σ Q (.int ns.sum t') { s with heap := h', toks := tk } := ⟨.int _, H, I.kept hk, ⟨_, rfl⟩, q⟩
  rw [preSum_eq, List.take_of_length_le (by simp), hn]
  exact z
theorem alike_int (ns : List Int) : PySem.W.AlikeAll (ns.map PyData.int) := by
  refine ⟨fun x hx y hy => ?_, fun x hx => ?_⟩
  · obtain ⟨i, _, rfl⟩ := List.mem_map.mp hx
    obtain ⟨j, _, rfl⟩ := List.mem_map.mp hy
    rfl
  · obtain ⟨i, _, rfl⟩ := List.mem_map.mp hx
    exact fun z => by cases z
theorem dp_ints (K : PySem.W.Frag) (H : Hp) : ∀ ns : List Int, DpAll K H (ns.map V.int) (ns.map PyData.int)
  | [] => .nil
  | n :: r => .cons (.int n) (dp_ints K H r)
theorem dep_ints : ∀ ns : List Int, PyData.depthAll (ns.map PyData.int) = 0
  | [] => rfl
  | n :: r => by
    show max 0 (PyData.depthAll (r.map PyData.int)) = 0
    rw [dep_ints r]
    rfl
theorem cr_maxT (hc : X.calm = true) (hu : X.A.units + 8 < cLine) : CallR X (.builtin "max") (fun vs H Q => ∃ (a : Addr) (n : Int) (ns : List Int), vs = [V.ref a] ∧ SqT X.K H a ((n :: ns).map V.int) ∧ Q (.int (ns.foldl max n)) H) := by
  intro pins s σ H vs us Q I r h
  obtain ⟨a, n, ns, rfl, hs, q⟩ := h
  obtain ⟨its, rv, hl, _⟩ := I.tuple hs
  rw [Vals.ref1 r]
  obtain ⟨as, ra⟩ := Dp.readsAll I ((n :: ns).map PyData.int) _ its (dp_ints X.K H (n :: ns)) rv
  refine PySem.W.max_tuple_data (x := .int n) (xs := ns.map PyData.int) (I.ok.hd hc) (show s.heap.IsTuple a its.toArray from hl) (show ReadsAll s.heap its.toArray.toList _ _ from ra) (alike_int (n :: ns)) (by rw [show PyData.int n :: ns.map PyData.int = (n :: ns).map PyData.int from rfl, dep_ints]; omega) fun i v h' tk bs _ hr hk => ?_
  rw [PySem.W.maxD_ints] at hr
  obtain ⟨t, rfl⟩ : ∃ t, v = .int (ns.foldl max n) t := by
    cases hr
    exact ⟨_, rfl⟩
  exact ⟨.int _, H, I.kept hk, ⟨_, rfl⟩, q⟩
end
/-! ### kinds of values -/
mutual
/-- a value without lists and dicts -/
inductive Tv (K : PySem.W.Frag) (H : Hp) : V → PyData → Prop
  | non : Tv K H .non .none
  | bl (b : Bool) : Tv K H (.bl b) (.bool b)
  | int (i : Int) : Tv K H (.int i) (.int i)
  | str (z : Str) : Tv K H (.str z) (.str z)
  | tup {a : Addr} {xs : List V} {ds : List PyData} : SqT K H a xs → TvL K H xs ds → Tv K H (.ref a) (.tuple ds)
inductive TvL (K : PySem.W.Frag) (H : Hp) : List V → List PyData → Prop
  | nil : TvL K H [] []
  | cons {x : V} {d : PyData} {xs : List V} {ds : List PyData} : Tv K H x d → TvL K H xs ds → TvL K H (x :: xs) (d :: ds)
end
/-- all objects but the one at a as before, new ones may be there -/
def Old (a : Addr) (H H' : Hp) : Prop := ∀ b o, b ≠ a → H b = some o → H' b = some o
theorem Old.of_same {a : Addr} {H H' : Hp} (s : Same H H') : Old a H H' := fun b o _ h => s b o h
theorem Old.of_but {a : Addr} {H H' : Hp} (s : But a H H') : Old a H H' := fun b o n h => (s b n).trans h
theorem Old.trans {a : Addr} {H H1 H2 : Hp} (x : Old a H H1) (y : Old a H1 H2) : Old a H H2 := fun b o n h => y b o n (x b o n h)
theorem Urn.same {H H' : Hp} {a : Addr} (u : Urn H a) (s : Same H H') : Urn H' a := let ⟨g, m, c, h⟩ := u; ⟨g, m, c, s _ _ h⟩
theorem urn_ne {H : Hp} {a p : Addr} (u : Urn H a) (h : H p = none) : p ≠ a := fun e => by
  obtain ⟨g, m, c, hu⟩ := u
  rw [e, hu] at h
  cases h
theorem sqt_new {K : PySem.W.Frag} {H : Hp} {a : Addr} {xs : List V} (e : H a = some (.tup xs)) : SqT K H a xs := .inl (.inl e)
theorem sqt_same {K : PySem.W.Frag} {H H' : Hp} {a : Addr} {xs : List V} (h : SqT K H a xs) (s : Same H H') : SqT K H' a xs := by
  rcases h with (e | ⟨od, e⟩) | h
  · exact .inl (.inl (s _ _ e))
  · exact .inl (.inr ⟨od, s _ _ e⟩)
  · exact .inr h
theorem sqt_ne {K : PySem.W.Frag} {H H' : Hp} {a : Addr} {xs : List V} (h : SqT K H a xs) (k : ∀ o, H a = some o → (o = .tup xs ∨ ∃ od, o = .frz od (.tup xs)) → H' a = some o) : SqT K H' a xs := by
  rcases h with (e | ⟨od, e⟩) | h
  · exact .inl (.inl (k _ e (.inl rfl)))
  · exact .inl (.inr ⟨od, k _ e (.inr ⟨od, rfl⟩)⟩)
  · exact .inr h
theorem sqt_old {K : PySem.W.Frag} {H H' : Hp} {a u : Addr} {xs : List V} (hu : Urn H u) (o : Old u H H') (h : SqT K H a xs) : SqT K H' a xs := sqt_ne h fun ob e k => o a _ (fun z => by
  obtain ⟨g, m, c, eu⟩ := hu
  rw [z, eu] at e
  cases e
  rcases k with k | ⟨_, k⟩ <;> cases k) e
theorem sqt_upd {K : PySem.W.Frag} {H : Hp} {a b : Addr} {xs : List V} {y : HO} (h : SqT K H a xs) (k : ∀ o, H b = some o → o ≠ .tup xs ∧ ∀ od, o ≠ .frz od (.tup xs)) : SqT K (upd H b y) a xs := sqt_ne h fun ob e w => by
  rw [upd_ne (fun z => by
    rw [z] at e
    rcases w with w | ⟨od, w⟩
    · exact (k _ e).1 w
    · exact (k _ e).2 od w)]
  exact e
mutual
theorem Tv.old {K : PySem.W.Frag} {H H' : Hp} {u : Addr} (hu : Urn H u) (o : Old u H H') : ∀ {x : V} {d : PyData}, Tv K H x d → Tv K H' x d
  | _, _, .non => .non
  | _, _, .bl b => .bl b
  | _, _, .int i => .int i
  | _, _, .str z => .str z
  | _, _, .tup e l => .tup (sqt_old hu o e) (l.old hu o)
theorem TvL.old {K : PySem.W.Frag} {H H' : Hp} {u : Addr} (hu : Urn H u) (o : Old u H H') : ∀ {xs : List V} {ds : List PyData}, TvL K H xs ds → TvL K H' xs ds
  | _, _, .nil => .nil
  | _, _, .cons h t => .cons (h.old hu o) (t.old hu o)
end
mutual
theorem Tv.same {K : PySem.W.Frag} {H H' : Hp} (o : Same H H') : ∀ {x : V} {d : PyData}, Tv K H x d → Tv K H' x d
  | _, _, .non => .non
  | _, _, .bl b => .bl b
  | _, _, .int i => .int i
  | _, _, .str z => .str z
  | _, _, .tup e l => .tup (sqt_same e o) (l.same o)
theorem TvL.same {K : PySem.W.Frag} {H H' : Hp} (o : Same H H') : ∀ {xs : List V} {ds : List PyData}, TvL K H xs ds → TvL K H' xs ds
  | _, _, .nil => .nil
  | _, _, .cons h t => .cons (h.same o) (t.same o)
end
mutual
theorem Tv.put {K : PySem.W.Frag} {H : Hp} {D : Addr} {xs ys : List V} (hd : H D = some (.lst xs)) : ∀ {x : V} {d : PyData}, Tv K H x d → Tv K (upd H D (.lst ys)) x d
  | _, _, .non => .non
  | _, _, .bl b => .bl b
  | _, _, .int i => .int i
  | _, _, .str z => .str z
  | _, _, .tup e l => .tup (sqt_upd e fun o h => by
      rw [hd] at h
      cases h
      exact ⟨fun z => (by cases z), fun _ z => (by cases z)⟩) (l.put hd)
theorem TvL.put {K : PySem.W.Frag} {H : Hp} {D : Addr} {xs ys : List V} (hd : H D = some (.lst xs)) : ∀ {zs : List V} {ds : List PyData}, TvL K H zs ds → TvL K (upd H D (.lst ys)) zs ds
  | _, _, .nil => .nil
  | _, _, .cons h t => .cons (h.put hd) (t.put hd)
end
theorem TvL.snoc {K : PySem.W.Frag} {H : Hp} : ∀ {xs : List V} {ds : List PyData} {x : V} {d : PyData}, TvL K H xs ds → Tv K H x d → TvL K H (xs ++ [x]) (ds ++ [d])
  | _, _, _, _, .nil, h => .cons h .nil
  | _, _, _, _, .cons a t, h => .cons a (t.snoc h)
theorem TvL.len {K : PySem.W.Frag} {H : Hp} : ∀ {xs : List V} {ds : List PyData}, TvL K H xs ds → xs.length = ds.length
  | _, _, .nil => rfl
  | _, _, .cons _ t => congrArg (· + 1) t.len
theorem TvL.get {K : PySem.W.Frag} {H : Hp} : ∀ {xs : List V} {ds : List PyData} {i : Nat} {x : V}, TvL K H xs ds → xs[i]? = some x → ∃ d, ds[i]? = some d ∧ Tv K H x d
  | _, _, _, _, .nil, h => by simp at h
  | _, _, 0, _, .cons a _, h => by
    rw [List.getElem?_cons_zero] at h
    obtain rfl := Option.some.inj h
    exact ⟨_, rfl, a⟩
  | _, _, i + 1, _, .cons _ t, h => by
    rw [List.getElem?_cons_succ] at h
    exact t.get h
/-- such a value, a list of ints, a dict of one int to one int -/
inductive Dw (K : PySem.W.Frag) (H : Hp) : V → PyData → Prop
  | tv {x : V} {d : PyData} : Tv K H x d → Dw K H x d
  | lst {a : Addr} {ns : List Int} : H a = some (.lst (ns.map V.int)) → Dw K H (.ref a) (.list (ns.map .int))
  | dic {a : Addr} {m n : Int} : H a = some (.dK [(.inl m, .int n)]) → Dw K H (.ref a) (.dict [(.int m, .int n)])
theorem Dw.same {K : PySem.W.Frag} {H H' : Hp} (o : Same H H') {x : V} {d : PyData} (h : Dw K H x d) : Dw K H' x d := by
  cases h with
  | tv t => exact .tv (t.same o)
  | lst e => exact .lst (o _ _ e)
  | dic e => exact .dic (o _ _ e)
abbrev kit (K : PySem.W.Frag) (t c : Value) (b : Bool) : Prop := PySem.W.kitOne K t c = some b
/-- the name of the type -/
def tyN : PyData → String
  | .none => "NoneType"
  | .bool _ => "bool"
  | .int _ => "int"
  | .str _ => "str"
  | .list _ => "list"
  | .tuple _ => "tuple"
  | .dict _ => "dict"
theorem Tv.ty {K : PySem.W.Frag} {H : Hp} {x : V} {d : PyData} (h : Tv K H x d) : TyX K H x (.type (tyN d)) := by
  cases h with
  | non => exact .base .non
  | bl b => exact .base (.bl b)
  | int i => exact .base (.int i)
  | str z => exact .base (.str z)
  | tup e _ =>
    rcases e with (e | ⟨od, e⟩) | ⟨o, its, n, e, c, _⟩
    · exact .base (.tup e)
    · exact .fTuple e
    · exact .kTuple e c
theorem Dw.ty {K : PySem.W.Frag} {H : Hp} {x : V} {d : PyData} (h : Dw K H x d) : TyX K H x (.type (tyN d)) := by
  cases h with
  | tv t => exact t.ty
  | lst e => exact .base (.lst e)
  | dic e => exact .base (.dK e)
def isT : PyData → Bool
  | .tuple _ => true
  | _ => false
def isB : PyData → Bool
  | .bool _ => true
  | _ => false
def isI : PyData → Bool
  | .bool _ => true
  | .int _ => true
  | _ => false
theorem kitT {K : PySem.W.Frag} : ∀ d : PyData, kit K (.type (tyN d)) (.type "tuple") (isT d)
  | .none => kit_ty (show kitB "NoneType" "tuple" = some false by decide +kernel)
  | .bool _ => kit_ty (show kitB "bool" "tuple" = some false by decide +kernel)
  | .int _ => kit_ty (show kitB "int" "tuple" = some false by decide +kernel)
  | .str _ => kit_ty (show kitB "str" "tuple" = some false by decide +kernel)
  | .list _ => kit_ty (show kitB "list" "tuple" = some false by decide +kernel)
  | .tuple _ => kit_ty (show kitB "tuple" "tuple" = some true by decide +kernel)
  | .dict _ => kit_ty (show kitB "dict" "tuple" = some false by decide +kernel)
theorem kitB' {K : PySem.W.Frag} : ∀ d : PyData, kit K (.type (tyN d)) (.type "bool") (isB d)
  | .none => kit_ty (show kitB "NoneType" "bool" = some false by decide +kernel)
  | .bool _ => kit_ty (show kitB "bool" "bool" = some true by decide +kernel)
  | .int _ => kit_ty (show kitB "int" "bool" = some false by decide +kernel)
  | .str _ => kit_ty (show kitB "str" "bool" = some false by decide +kernel)
  | .list _ => kit_ty (show kitB "list" "bool" = some false by decide +kernel)
  | .tuple _ => kit_ty (show kitB "tuple" "bool" = some false by decide +kernel)
  | .dict _ => kit_ty (show kitB "dict" "bool" = some false by decide +kernel)
theorem kitI {K : PySem.W.Frag} : ∀ d : PyData, kit K (.type (tyN d)) (.type "int") (isI d)
  | .none => kit_ty (show kitB "NoneType" "int" = some false by decide +kernel)
  | .bool _ => kit_ty (show kitB "bool" "int" = some true by decide +kernel)
  | .int _ => kit_ty (show kitB "int" "int" = some true by decide +kernel)
  | .str _ => kit_ty (show kitB "str" "int" = some false by decide +kernel)
  | .list _ => kit_ty (show kitB "list" "int" = some false by decide +kernel)
  | .tuple _ => kit_ty (show kitB "tuple" "int" = some false by decide +kernel)
  | .dict _ => kit_ty (show kitB "dict" "int" = some false by decide +kernel)
theorem iteP {p A B : Prop} [Decidable p] (h : p) (a : A) : if decide p = true then A else B := by
  rw [if_pos (decide_eq_true h)]
  exact a
theorem iteQ {p A B : Prop} [Decidable p] (h : ¬ p) (b : B) : if decide p = true then A else B := by
  rw [if_neg (fun z => h (of_decide_eq_true z))]
  exact b
/-- an int from lo to hi -/
def btw (d : PyData) (lo hi : Int) : Bool := match d with
  | .int n => decide (lo ≤ n) && decide (n ≤ hi)
  | _ => false
def isW : PyData → Bool
  | .int _ => true
  | _ => false
theorem isW_eq (d : PyData) : (isI d && !isB d) = isW d := by cases d <;> rfl
section
variable {P : Program} {w : World} {K : PySem.W.Frag} {mg : Str → Option Value} {base : Heap}
abbrev s_is_whole : Stmt := topS 10
theorem sc_is_whole : FnScope ["value"] ["value"] (defScope s_is_whole) := ⟨rfl, rfl, rfl, by decide +kernel, rfl, by decide +kernel, by decide +kernel⟩
abbrev s_is_integer : Stmt := topS 11
theorem sc_is_integer : FnScope ["value"] ["value"] (defScope s_is_integer) := ⟨rfl, rfl, rfl, by decide +kernel, rfl, by decide +kernel, by decide +kernel⟩
abbrev s_is_between : Stmt := topS 12
theorem sc_is_between : FnScope ["value", "least", "most"] ["value", "least", "most"] (defScope s_is_between) := ⟨rfl, rfl, rfl, by decide +kernel, rfl, by decide +kernel, by decide +kernel⟩
abbrev s_is_index : Stmt := topS 13
theorem sc_is_index : FnScope ["value", "many"] ["value", "many"] (defScope s_is_index) := ⟨rfl, rfl, rfl, by decide +kernel, rfl, by decide +kernel, by decide +kernel⟩
def spWhole (K : PySem.W.Frag) : Sp := fun vs H Q _ => ∃ (x : V) (d : PyData), vs = [x] ∧ Dw K H x d ∧ Q (.bl (isW d)) H
theorem ok_whole {f : Addr} {fd : FuncData} {k : Nat} (T : Txt mg) (d : D K mg "is_whole" s_is_whole ["value"] f fd) : FnOk P w K mg base CX0 (k + 1) f fd ["value"] (spWhole K) := by
  refine d.F.ok sc_is_whole (fun vs H Q E h => ?_) (fun cdv A outer s H vs Q E hr h => ?_)
  · obtain ⟨x, d, rfl, _⟩ := h
    rfl
  · obtain ⟨x, d, rfl, hd, q⟩ := h
    refine ⟨_, (pss_one (ps_ret (pe_and (pe_callB call_isi (by rfl) T.n_isinstance (by decide +kernel) (pa_cons (pv 0) (pa_cons (pe_bltn (v := .ty "int") (by rfl) T.n_int (by decide +kernel) rfl) pa_nil)))
      (pe_one (pe_not (pe_callB call_isi (by rfl) T.n_isinstance (by decide +kernel) (pa_cons (pv 0) (pa_cons (pe_bltn (v := .ty "bool") (by rfl) T.n_bool (by decide +kernel) rfl) pa_nil)))))))), ?_⟩
    refine ⟨_, rfl, _, _, _, _, _, rfl, .ty _, hd.ty, kitI d, _, rfl, ?_⟩
    rw [← isW_eq] at q
    cases e : isI d with
    | false =>
      rw [e] at q
      exact iteF q
    | true =>
      rw [e] at q
      exact iteT ⟨_, rfl, _, _, _, _, _, rfl, .ty _, hd.ty, kitB' d, _, rfl, q⟩
def spBtw (K : PySem.W.Frag) : Sp := fun vs H Q _ => ∃ (x : V) (d : PyData) (lo hi : Int), vs = [x, .int lo, .int hi] ∧ Dw K H x d ∧ Q (.bl (btw d lo hi)) H
theorem ok_between {f f1 : Addr} {fd fd1 : FuncData} {k : Nat} (T : Txt mg) (d : D K mg "is_between" s_is_between ["value", "least", "most"] f fd) (d1 : D K mg "is_whole" s_is_whole ["value"] f1 fd1) : FnOk P w K mg base CX0 (k + 2) f fd ["value", "least", "most"] (spBtw K) := by
  have G1 : FnOk P w K mg base CX0 (k + 1) f1 fd1 ["value"] (spWhole K) := ok_whole T d1
  refine d.F.ok sc_is_between (fun vs H Q E h => ?_) (fun cdv A outer s H vs Q E hr h => ?_)
  · obtain ⟨x, d, lo, hi, rfl, _⟩ := h
    rfl
  · obtain ⟨x, d, lo, hi, rfl, hd, q⟩ := h
    refine ⟨_, (pss_one (ps_ret (pe_and (pe_call G1 hr (by rfl) d1.g d1.F.kp d1.b .nil pass0 (pa_cons (pv 0) pa_nil)) (pe_one (pe_chain op_le op_le (pv 1) (pv 0) (pv 2)))))), ?_⟩
    refine ⟨_, rfl, x, d, rfl, hd, _, rfl, ?_⟩
    cases d with
    | int n =>
      cases hd with
      | tv t =>
        cases t
        refine iteT ⟨_, rfl, _, rfl, _, _, rfl, rfl, _, rfl, ?_⟩
        show if decide (lo ≤ n) = true then _ else _
        have q' : Q (.bl (decide (lo ≤ n) && decide (n ≤ hi))) H := q
        by_cases l : lo ≤ n
        · rw [decide_eq_true l] at q'
          exact iteP l ⟨_, rfl, _, _, rfl, rfl, q'⟩
        · rw [decide_eq_false l] at q'
          exact iteQ l q'
    | _ => exact iteF q
def spIdx (K : PySem.W.Frag) : Sp := fun vs H Q _ => ∃ (x : V) (d : PyData) (n : Int), vs = [x, .int n] ∧ Dw K H x d ∧ Q (.bl (btw d 0 (n - 1))) H
theorem ok_index {f f1 f2 : Addr} {fd fd1 fd2 : FuncData} {k : Nat} (T : Txt mg) (d : D K mg "is_index" s_is_index ["value", "many"] f fd) (d1 : D K mg "is_between" s_is_between ["value", "least", "most"] f1 fd1) (d2 : D K mg "is_whole" s_is_whole ["value"] f2 fd2) : FnOk P w K mg base CX0 (k + 3) f fd ["value", "many"] (spIdx K) := by
  have G1 : FnOk P w K mg base CX0 (k + 2) f1 fd1 ["value", "least", "most"] (spBtw K) := ok_between T d1 d2
  refine d.F.ok sc_is_index (fun vs H Q E h => ?_) (fun cdv A outer s H vs Q E hr h => ?_)
  · obtain ⟨x, d, n, rfl, _⟩ := h
    rfl
  · obtain ⟨x, d, n, rfl, hd, q⟩ := h
    refine ⟨_, (pss_one (ps_ret (pe_call G1 hr (by rfl) d1.g d1.F.kp d1.b .nil pass0 (pa_cons (pv 0) (pa_cons pe_int (pa_cons (pe_op op_sub (pv 1) pe_int) pa_nil)))))), ?_⟩
    exact ⟨_, rfl, _, rfl, _, _, rfl, rfl, x, d, 0, n - 1, rfl, hd, q⟩
end
end K07

/-! # shapes -/
namespace K07
open PySem PySem.Spec PyProof.Rows L2
/-- names of the module, and its numbers -/
structure Nam (mg : Str → Option Value) : Prop where
  n_all : mg "all" = none
  n_any : mg "any" = none
  n_list : mg "list" = none
  n_dict : mg "dict" = none
  n_enumerate : mg "enumerate" = none
  n_sorted : mg "sorted" = none
  n_str : mg "str" = none
  cB : ∃ t, mg "_MOST_BLOCKS" = some (.int 3 t)
  cL : ∃ t, mg "_LEAST_SIZE" = some (.int 2 t)
  cS : ∃ t, mg "_MOST_SIZE" = some (.int 6 t)
  cM : ∃ t, mg "MAX_BOXES" = some (.int 8 t)
  cI : ∃ t, mg "_LIMIT" = some (.int (10 ^ 60) t)
def sumD : List PyData → Int
  | [] => 0
  | .int n :: r => n + sumD r
  | _ :: r => sumD r
def isSh : PyData → Bool
  | .tuple ds => (decide (1 ≤ (ds.length : Int)) && decide ((ds.length : Int) ≤ 3)) && (ds.all (fun d => btw d 2 6) && decide (sumD ds ≤ 8))
  | _ => false
theorem all_ints : ∀ {ds : List PyData}, ds.all (fun d => btw d 2 6) = true → ∃ ns : List Int, ds = ns.map .int ∧ ∀ n ∈ ns, 2 ≤ n ∧ n ≤ 6
  | [], _ => ⟨[], rfl, fun n h => by cases h⟩
  | d :: r, h => by
    rw [List.all_cons, Bool.and_eq_true] at h
    obtain ⟨ns, e, b⟩ := all_ints h.2
    cases d with
    | int n =>
      have z : (decide (2 ≤ n) && decide (n ≤ 6)) = true := h.1
      rw [Bool.and_eq_true] at z
      refine ⟨n :: ns, by rw [e]; rfl, fun m hm => ?_⟩
      rcases List.mem_cons.mp hm with rfl | hm
      · exact ⟨of_decide_eq_true z.1, of_decide_eq_true z.2⟩
      · exact b m hm
    | _ => exact absurd h.1 Bool.false_ne_true
theorem sum_ints : ∀ ns : List Int, sumD (ns.map .int) = ns.sum
  | [] => rfl
  | n :: r => by
    show n + sumD (r.map .int) = (n :: r).sum
    rw [sum_ints r, List.sum_cons]
theorem TvL.ints {K : PySem.W.Frag} {H : Hp} : ∀ {xs : List V} {ns : List Int}, TvL K H xs (ns.map .int) → xs = ns.map V.int
  | [], [], _ => rfl
  | _ :: _, [], h => by cases h
  | [], _ :: _, h => by cases h
  | x :: xs, n :: ns, h => by
    cases h with
    | cons a t =>
      cases a
      rw [t.ints]
      rfl
/-- a shape -/
def Shp (ns : List Int) : Prop := (1 ≤ ns.length ∧ ns.length ≤ 3) ∧ (∀ n ∈ ns, 2 ≤ n ∧ n ≤ 6) ∧ ns.sum ≤ 8
theorem shp_of {d : PyData} (h : isSh d = true) : ∃ ns, d = .tuple (ns.map .int) ∧ Shp ns := by
  cases d with
  | tuple ds =>
    have z : ((decide (1 ≤ (ds.length : Int)) && decide ((ds.length : Int) ≤ 3)) && (ds.all (fun d => btw d 2 6) && decide (sumD ds ≤ 8))) = true := h
    simp only [Bool.and_eq_true] at z
    obtain ⟨⟨h1, h2⟩, h3, h4⟩ := z
    obtain ⟨ns, e, b⟩ := all_ints h3
    subst e
    have h1 := of_decide_eq_true h1
    have h2 := of_decide_eq_true h2
    have h4 := of_decide_eq_true h4
    rw [List.length_map] at h1 h2
    rw [sum_ints] at h4
    exact ⟨ns, rfl, ⟨by omega, by omega⟩, b, h4⟩
  | _ => exact absurd h Bool.false_ne_true
theorem shp_is {ns : List Int} (h : Shp ns) : isSh (.tuple (ns.map .int)) = true := by
  obtain ⟨⟨h1, h2⟩, b, h4⟩ := h
  show ((decide (1 ≤ ((ns.map PyData.int).length : Int)) && decide (((ns.map PyData.int).length : Int) ≤ 3)) && ((ns.map PyData.int).all (fun d => btw d 2 6) && decide (sumD (ns.map .int) ≤ 8))) = true
  rw [List.length_map, sum_ints, decide_eq_true h4, decide_eq_true (show 1 ≤ (ns.length : Int) by omega), decide_eq_true (show (ns.length : Int) ≤ 3 by omega)]
  have z : (ns.map PyData.int).all (fun d => btw d 2 6) = true := by
    rw [List.all_eq_true]
    intro d hd
    obtain ⟨n, hn, rfl⟩ := List.mem_map.mp hd
    obtain ⟨c1, c2⟩ := b n hn
    show (decide (2 ≤ n) && decide (n ≤ 6)) = true
    rw [decide_eq_true c1, decide_eq_true c2]
    rfl
  rw [z]
  rfl
section
variable {P : Program} {w : World} {K : PySem.W.Frag} {mg : Str → Option Value} {base : Heap}
abbrev s_is_shape : Stmt := topS 20
theorem sc_is_shape : FnScope ["value", "size"] ["value"] (defScope s_is_shape) := ⟨rfl, rfl, rfl, by decide +kernel, rfl, by decide +kernel, by decide +kernel⟩
def spShape (K : PySem.W.Frag) : Sp := fun vs H Q _ => ∃ (x : V) (d : PyData), vs = [x] ∧ Dw K H x d ∧ ∀ H', Same H H' → Q (.bl (isSh d)) H'
theorem ok_shape {f f1 f2 : Addr} {fd fd1 fd2 : FuncData} {k : Nat} (T : Txt mg) (N : Nam mg) (d : D K mg "is_shape" s_is_shape ["value"] f fd) (d1 : D K mg "is_between" s_is_between ["value", "least", "most"] f1 fd1) (d2 : D K mg "is_whole" s_is_whole ["value"] f2 fd2) : FnOk P w K mg base CX0 (k + 3) f fd ["value"] (spShape K) := by
  have G1 : FnOk P w K mg base CX0 (k + 2) f1 fd1 ["value", "least", "most"] (spBtw K) := ok_between T d1 d2
  obtain ⟨tB, cB⟩ := N.cB
  obtain ⟨tL, cL⟩ := N.cL
  obtain ⟨tS, cS⟩ := N.cS
  obtain ⟨tM, cM⟩ := N.cM
  refine d.F.ok sc_is_shape (fun vs H Q E h => ?_) (fun cdv A outer s H vs Q E hr h => ?_)
  · obtain ⟨x, d, rfl, _⟩ := h
    rfl
  · obtain ⟨x, d, rfl, hd, q⟩ := h
    refine ⟨_, (pss_cons (ps_if (PW.pt (pw_or (pt_not (pt_val (pe_callB call_isi (by rfl) T.n_isinstance (by decide +kernel) (pa_cons (pv 0) (pa_cons (pe_bltn (v := .ty "tuple") (by rfl) T.n_tuple (by decide +kernel) rfl) pa_nil)))))
        (pw_or1 (pt_not (pt_chain op_le op_le pe_int (pe_callB call_len_seq (by rfl) T.n_len PySem.boot_len (pa_cons (pv 0) pa_nil)) (pe_glob (v := .int 3) rfl cB ⟨_, rfl⟩)))))) (pss_one (ps_ret pe_bl)) pss_nil)
      (pss_cons (ps_if (pt_not (pt_val (pe_callB (cr_all rfl) (by rfl) N.n_all (by decide +kernel) (pa_cons (pe_lc (own := [("size", 1)]) (g := gName 1) (tt := tYes) rfl sc_is_shape.nd (pi_tup (pv 0)) (blkOk_by (own := [("size", 1)]) (N := ["value", "size"]) (sc := defScope s_is_shape) (by decide +kernel))
            (fun _ _ _ _ _ => pg_name (i := 1) sc_is_shape.nd rfl (Or.inl rfl)) (fun _ _ _ _ _ => pts_nil) (fun _ _ _ _ _ => pe_call G1 hr (by rfl) d1.g d1.F.kp d1.b .nil pass0 (pa_cons (pv 1) (pa_cons (pe_glob (v := .int 2) rfl cL ⟨_, rfl⟩) (pa_cons (pe_glob (v := .int 6) rfl cS ⟨_, rfl⟩) pa_nil))))) pa_nil)))) (pss_one (ps_ret pe_bl)) pss_nil)
      (pss_one (ps_ret (pe_cmpR op_le (pe_callB (cr_sumT rfl) (by rfl) T.n_sum (by decide +kernel) (pa_cons (pv 0) pa_nil)) (pe_glob (v := .int 8) rfl cM ⟨_, rfl⟩) (nomark _)))))), ?_⟩
    refine ⟨_, rfl, _, _, _, _, _, rfl, .ty _, hd.ty, kitT d, _, rfl, ?_⟩
    cases d with
    | tuple ds =>
      obtain ⟨a, xs, rfl, e, l⟩ : ∃ a xs, x = .ref a ∧ SqT K H a xs ∧ TvL K H xs ds := by
        cases hd with
        | tv t =>
          cases t with
          | tup e l => exact ⟨_, _, rfl, e, l⟩
      have ll := l.len
      refine ite2 (fun z => absurd z Bool.false_ne_true) (fun _ => ?_)
      refine ⟨.ref a, rfl, a, xs, rfl, .inr e, _, _, rfl, rfl, _, rfl, ?_⟩
      rw [ll]
      by_cases c1 : 1 ≤ (ds.length : Int)
      · refine iteP c1 ⟨_, _, rfl, rfl, _, rfl, ?_⟩
        by_cases c2 : (ds.length : Int) ≤ 3
        · rw [decide_eq_true c2]
          refine ite2 (fun z => absurd z Bool.false_ne_true) (fun _ => ?_)
          refine ⟨_, rfl, a, rfl, ⟨_, e⟩, fun D hD => ?_⟩
          have off : ∀ {Z : Hp} {o : HO}, Same H Z → Same H (upd Z D o) := fun sz b o h => by
            rw [upd_ne (ne_of_none h hD)]
            exact sz b o h
          refine lc_tup (K := K) (a := a) (xs := xs) (fun i H' => Same H H' ∧ H' D = some (.lst (((ds.take i).map fun d => btw d 2 6).map V.bl))) ⟨off (Same.refl H), upd_same⟩ (fun i H' _ h => sqt_same e h.1) ?_ ?_
          · rintro i x H' hx ⟨sm, hl⟩
            obtain ⟨d0, hd0, tv⟩ := l.get hx
            have il : i < ds.length := (List.getElem?_eq_some_iff.mp hd0).1
            refine ⟨rfl, ?_⟩
            unfold tYes
            refine ite2 (fun _ => ?_) (fun q => absurd rfl q)
            refine ⟨_, rfl, x, d0, 2, 6, rfl, .tv (tv.same sm), ?_⟩
            refine ⟨_, hl, Nat.lt_of_lt_of_le (show _ < 4 by rw [List.length_map, List.length_map, List.length_take]; omega) (by decide), off sm, ?_⟩
            have tk : ds.take (i + 1) = ds.take i ++ [d0] := by rw [List.take_succ, hd0]; rfl
            rw [upd_same, tk, List.map_append, List.map_append]
            rfl
          · rintro H' ⟨sm, hl⟩
            rw [ll, List.take_length] at hl
            refine ⟨D, ds.map fun d => btw d 2 6, rfl, .inl (.inl hl), _, rfl, ?_⟩
            have e1 : (ds.map fun d => btw d 2 6).all id = ds.all fun d => btw d 2 6 := by rw [List.all_map]; rfl
            rw [e1]
            have q' := q H' sm
            have z0 : isSh (.tuple ds) = ((decide (1 ≤ (ds.length : Int)) && decide ((ds.length : Int) ≤ 3)) && (ds.all (fun d => btw d 2 6) && decide (sumD ds ≤ 8))) := rfl
            rw [z0, decide_eq_true c1, decide_eq_true c2, Bool.true_and, Bool.true_and] at q'
            cases c3 : ds.all fun d => btw d 2 6 with
            | false =>
              rw [c3] at q'
              exact ite2 (fun _ => q') (fun z => absurd rfl z)
            | true =>
              rw [c3, Bool.true_and] at q'
              refine ite2 (fun z => absurd z Bool.false_ne_true) (fun _ => ?_)
              obtain ⟨ns, en, _⟩ := all_ints c3
              subst en
              rw [sum_ints] at q'
              have ex := l.ints
              exact ⟨_, rfl, a, ns, rfl, (by rw [← ex]; exact sqt_same e sm), _, _, rfl, rfl, q'⟩
        · rw [decide_eq_false c2]
          refine ite2 (fun _ => ?_) (fun z => absurd rfl z)
          have z : isSh (.tuple ds) = false := by
            show ((decide (1 ≤ (ds.length : Int)) && decide ((ds.length : Int) ≤ 3)) && _) = false
            rw [decide_eq_false c2, Bool.and_false, Bool.false_and]
          have q' := q H (Same.refl H)
          rw [z] at q'
          exact q'
      · refine iteQ c1 ⟨_, rfl, ite2 (fun _ => ?_) (fun z => absurd rfl z)⟩
        have z : isSh (.tuple ds) = false := by
          show ((decide (1 ≤ (ds.length : Int)) && decide ((ds.length : Int) ≤ 3)) && _) = false
          rw [decide_eq_false c1, Bool.false_and, Bool.false_and]
        have q' := q H (Same.refl H)
        rw [z] at q'
        exact q'
    | _ => exact ite2 (fun _ => ite2 (fun _ => q H (Same.refl H)) (fun z => absurd rfl z)) (fun z => absurd rfl z)
end
end K07

/-! # shapes, by the law -/
namespace K07
open PySem PySem.Spec PyProof.Rows L2
theorem btw_no {d : PyData} {lo hi : Int} (h : isW d = false) : btw d lo hi = false := by cases d <;> first | rfl | exact absurd (show true = false from h) (by decide)
theorem not_all {ds : List PyData} {i : Nat} {d : PyData} (h : ds[i]? = some d) (b : btw d 2 6 = false) : isSh (.tuple ds) = false := by
  have z : ds.all (fun d => btw d 2 6) = false := by
    cases e : ds.all (fun d => btw d 2 6) with
    | false => rfl
    | true =>
      have y := List.all_eq_true.mp e d (List.mem_of_getElem? h)
      rw [b] at y
      cases y
  show (_ && (ds.all (fun d => btw d 2 6) && _)) = false
  rw [z, Bool.false_and, Bool.and_false]
section
variable {P : Program} {w : World} {K : PySem.W.Frag} {mg : Str → Option Value} {base : Heap}
end
end K07

/-! # a value is drawn -/
namespace K07
open PySem PySem.Spec PyProof.Rows L2
inductive DwL (K : PySem.W.Frag) (H : Hp) : List V → List PyData → Prop
  | nil : DwL K H [] []
  | cons {x : V} {d : PyData} {xs : List V} {ds : List PyData} : Dw K H x d → DwL K H xs ds → DwL K H (x :: xs) (d :: ds)
theorem DwL.same {K : PySem.W.Frag} {H H' : Hp} (o : Same H H') : ∀ {xs : List V} {ds : List PyData}, DwL K H xs ds → DwL K H' xs ds
  | _, _, .nil => .nil
  | _, _, .cons h t => .cons (h.same o) (t.same o)
theorem DwL.get {K : PySem.W.Frag} {H : Hp} : ∀ {xs : List V} {ds : List PyData} {i : Nat} {x : V}, DwL K H xs ds → xs[i]? = some x → ∃ d, d ∈ ds ∧ Dw K H x d
  | _, _, _, _, .nil, h => by simp at h
  | _, _, 0, _, .cons a _, h => by
    rw [List.getElem?_cons_zero] at h
    obtain rfl := Option.some.inj h
    exact ⟨_, List.mem_cons_self .., a⟩
  | _, _, i + 1, _, .cons _ t, h => by
    rw [List.getElem?_cons_succ] at h
    obtain ⟨d, m, z⟩ := t.get h
    exact ⟨d, List.mem_cons_of_mem _ m, z⟩
theorem DwL.len {K : PySem.W.Frag} {H : Hp} : ∀ {xs : List V} {ds : List PyData}, DwL K H xs ds → xs.length = ds.length
  | _, _, .nil => rfl
  | _, _, .cons _ t => congrArg (· + 1) t.len
theorem Dw.old {K : PySem.W.Frag} {H H' : Hp} {u : Addr} {x : V} {d : PyData} (hu : Urn H u) (o : Old u H H') (h : Dw K H x d) (n : ∀ a b c : Int, d ≠ .list ([a, b, c].map .int)) : Dw K H' x d := by
  have off : ∀ {a : Addr} {v : HO}, H a = some v → (∀ g m c : Int, v ≠ .lst [.int g, .int m, .int c]) → a ≠ u := fun e n z => by
    obtain ⟨g, m, c, eu⟩ := hu
    rw [z, eu] at e
    exact n g m c (Option.some.inj e).symm
  cases h with
  | tv t => exact .tv (t.old hu o)
  | @lst a ns e =>
    refine .lst (o _ _ (off e fun g m c z => ?_) e)
    have z2 : ns.map V.int = [g, m, c].map V.int := HO.lst.inj z
    have inj : ∀ {l r : List Int}, l.map V.int = r.map V.int → l = r := fun {l r} h => by
      induction l generalizing r with
      | nil => cases r with
        | nil => rfl
        | cons _ _ => cases h
      | cons x l ih => cases r with
        | nil => cases h
        | cons y r =>
          rw [List.map_cons, List.map_cons] at h
          obtain ⟨h1, h2⟩ := List.cons.inj h
          rw [V.int.inj h1, ih h2]
    exact n g m c (by rw [inj z2])
  | dic e => exact .dic (o _ _ (off e fun g m c z => by cases z) e)
def noL3 : PyData → Bool
  | .list [_, _, _] => false
  | _ => true
theorem noL3_ok {d : PyData} (h : noL3 d = true) (a b c : Int) : d ≠ .list ([a, b, c].map .int) := fun z => by
  rw [z] at h
  cases h
/-! ### what an expression lays -/
def Lays (K : PySem.W.Frag) (σ : L2.St) (t : TE) (d : PyData) : Prop := ∀ (H : Hp) (Q : VK), (∀ x H', Same H H' → Tv K H' x d → Q x H') → t σ H Q
def LaysA (K : PySem.W.Frag) (σ : L2.St) (t : TA) (ds : List PyData) : Prop := ∀ (H : Hp) (Q : List V → Hp → Prop), (∀ xs H', Same H H' → TvL K H' xs ds → Q xs H') → t σ H Q
def LaysD (K : PySem.W.Frag) (σ : L2.St) (t : TE) (d : PyData) : Prop := ∀ (H : Hp) (Q : VK), (∀ x H', Same H H' → Dw K H' x d → Q x H') → t σ H Q
def LaysDA (K : PySem.W.Frag) (σ : L2.St) (t : TA) (ds : List PyData) : Prop := ∀ (H : Hp) (Q : List V → Hp → Prop), (∀ xs H', Same H H' → DwL K H' xs ds → Q xs H') → t σ H Q
section
variable {σ : L2.St}
theorem Lays.int {K : PySem.W.Frag} (n : Int) : Lays K σ (tC (.int n)) (.int n) := fun H Q q => q _ _ (Same.refl H) (.int n)
theorem Lays.str {K : PySem.W.Frag} (z : Str) : Lays K σ (tC (.str z)) (.str z) := fun H Q q => q _ _ (Same.refl H) (.str z)
theorem Lays.bl {K : PySem.W.Frag} (b : Bool) : Lays K σ (tC (.bl b)) (.bool b) := fun H Q q => q _ _ (Same.refl H) (.bl b)
theorem Lays.non {K : PySem.W.Frag} : Lays K σ (tC .non) .none := fun H Q q => q _ _ (Same.refl H) .non
theorem LaysA.nil {K : PySem.W.Frag} : LaysA K σ tNil [] := fun H Q q => q _ _ (Same.refl H) .nil
theorem LaysA.cons {K : PySem.W.Frag} {t : TE} {ts : TA} {d : PyData} {ds : List PyData} (h : Lays K σ t d) (hs : LaysA K σ ts ds) : LaysA K σ (tCons t ts) (d :: ds) := fun H Q q =>
  h H _ fun x H1 s1 t1 => hs H1 _ fun xs H2 s2 t2 => q (x :: xs) H2 (s1.trans s2) (.cons (t1.same s2) t2)
theorem Lays.tup {K : PySem.W.Frag} {ts : TA} {ds : List PyData} (hs : LaysA K σ ts ds) (l : ds.length ≤ 100) : Lays K σ (tTup ts) (.tuple ds) := fun H Q q =>
  hs H _ fun xs H1 s1 t1 => ⟨by rw [t1.len]; exact Nat.le_trans l (by decide), fun p np => q _ _ (s1.trans (sub_same np)) (.tup (sqt_new upd_same) (t1.same (sub_same np)))⟩
theorem Lays.d {K : PySem.W.Frag} {t : TE} {d : PyData} (h : Lays K σ t d) : LaysD K σ t d := fun H Q q => h H Q fun x H' s t => q x H' s (.tv t)
theorem LaysDA.nil {K : PySem.W.Frag} : LaysDA K σ tNil [] := fun H Q q => q _ _ (Same.refl H) .nil
theorem LaysDA.cons {K : PySem.W.Frag} {t : TE} {ts : TA} {d : PyData} {ds : List PyData} (h : LaysD K σ t d) (hs : LaysDA K σ ts ds) : LaysDA K σ (tCons t ts) (d :: ds) := fun H Q q =>
  h H _ fun x H1 s1 t1 => hs H1 _ fun xs H2 s2 t2 => q (x :: xs) H2 (s1.trans s2) (.cons (t1.same s2) t2)
theorem LaysD.lst {K : PySem.W.Frag} {ts : TA} {ns : List Int} (hs : LaysA K σ ts (ns.map .int)) (l : ns.length ≤ 100) : LaysD K σ (tLst ts) (.list (ns.map .int)) := fun H Q q =>
  hs H _ fun xs H1 s1 t1 => ⟨by rw [t1.len, List.length_map]; exact Nat.le_trans l (by decide), fun p np => q _ _ (s1.trans (sub_same np)) (.lst (by rw [upd_same, t1.ints]))⟩
theorem LaysD.dic {K : PySem.W.Frag} (m n : Int) : LaysD K σ (tDisp [(tC (.int m), tC (.int n))]) (.dict [(.int m, .int n)]) := fun H Q q p np => by
  refine ⟨upd_same, [(.inl m, .int n)], rfl, (by decide : 1 ≤ 15), q _ _ (fun b o e => ?_) (.dic upd_same)⟩
  rw [upd_ne (ne_of_none e np), upd_ne (ne_of_none e np)]
  exact e
theorem Lays.pow {K : PySem.W.Frag} (i j : Int) (h : CPowW i j) : Lays K σ (tOp (rI CPowW fun i j => .int (i ^ j.toNat)) (tC (.int i)) (tC (.int j))) (.int (i ^ j.toNat)) := fun H Q q => ⟨_, _, rfl, rfl, h, q _ _ (Same.refl H) (.int _)⟩
theorem lay_lst {K : PySem.W.Frag} {ts : TA} {ds : List PyData} (hs : LaysDA K σ ts ds) (l : ds.length ≤ 100) {H : Hp} {Q : VK} (q : ∀ xs H1 b, Same H H1 → H1 b = none → DwL K H1 xs ds → Q (.ref b) (upd H1 b (.lst xs))) : tLst ts σ H Q :=
  hs H _ fun xs H1 s1 t1 => ⟨by rw [t1.len]; exact Nat.le_trans l (by decide), fun b nb => q xs H1 b s1 nb t1⟩
end
section
variable {P : Program} {w : World} {K : PySem.W.Frag} {mg : Str → Option Value} {base : Heap}
end
end K07

/-! # places -/
namespace K07
open PySem PySem.Spec PyProof.Rows L2
abbrev Tri := Int × Int × Int
def triV (t : Tri) : List V := [.int t.1, .int t.2.1, .int t.2.2]
def triD (t : Tri) : PyData := .tuple [.int t.1, .int t.2.1, .int t.2.2]
/-- the places of the block b at the distance d, those of the first k rows -/
def rowsP (b d : Int) (k : Nat) : List Tri := (List.range k).map fun (r : Nat) => (b, (r : Int), (r : Int) + d)
/-- those of the first j blocks -/
def blkP (ns : List Int) (d : Int) (j : Nat) : List Tri := (List.range j).flatMap fun (b : Nat) => rowsP b d (ns.getD b 0 - d).toNat
/-- those at the first i distances -/
def disP (ns : List Int) (i : Nat) : List Tri := (List.range i).flatMap fun (e : Nat) => blkP ns (1 + (e : Int)) ns.length
def mx : List Int → Int
  | [] => 0
  | n :: r => r.foldl max n
/-- the places in their order -/
def pl (ns : List Int) : List Tri := disP ns (mx ns - 1).toNat
theorem rowsP_succ (b d : Int) (k : Nat) : rowsP b d (k + 1) = rowsP b d k ++ [(b, (k : Int), (k : Int) + d)] := by
  unfold rowsP
  rw [List.range_succ, List.map_append]
  rfl
theorem blkP_succ (ns : List Int) (d : Int) (j : Nat) : blkP ns d (j + 1) = blkP ns d j ++ rowsP j d (ns.getD j 0 - d).toNat := by
  unfold blkP
  rw [List.range_succ, List.flatMap_append, List.flatMap_singleton]
theorem disP_succ (ns : List Int) (i : Nat) : disP ns (i + 1) = disP ns i ++ blkP ns (1 + (i : Int)) ns.length := by
  unfold disP
  rw [List.range_succ, List.flatMap_append, List.flatMap_singleton]
theorem rowsP_len (b d : Int) (k : Nat) : (rowsP b d k).length = k := by
  unfold rowsP
  rw [List.length_map, List.length_range]
theorem blkP_len {ns : List Int} {d : Int} (b : ∀ n ∈ ns, 2 ≤ n ∧ n ≤ 6) (h : 0 ≤ d) : ∀ j, (blkP ns d j).length ≤ 6 * j
  | 0 => Nat.le_refl _
  | j + 1 => by
    rw [blkP_succ, List.length_append, rowsP_len]
    have z := blkP_len b h j
    have y : (ns.getD j 0 - d).toNat ≤ 6 := by
      have x : ns.getD j 0 ≤ 6 := by
        rw [List.getD_eq_getElem?_getD]
        cases e : ns[j]? with
        | none => show (0 : Int) ≤ 6; decide
        | some n => exact (b n (List.mem_of_getElem? e)).2
      omega
    omega
theorem disP_len {ns : List Int} (h : Shp ns) : ∀ i, (disP ns i).length ≤ 18 * i
  | 0 => Nat.le_refl _
  | i + 1 => by
    rw [disP_succ, List.length_append]
    have z := disP_len h i
    have y := blkP_len (d := 1 + (i : Int)) h.2.1 (by omega) ns.length
    have x := h.1.2
    omega
theorem mx_le {ns : List Int} (h : ∀ n ∈ ns, n ≤ 6) : mx ns ≤ 6 := by
  cases ns with
  | nil => show (0 : Int) ≤ 6; decide
  | cons n r =>
    show r.foldl max n ≤ 6
    have go : ∀ (r : List Int) (n : Int), n ≤ 6 → (∀ m ∈ r, m ≤ 6) → r.foldl max n ≤ 6 := fun r => by
      induction r with
      | nil => exact fun n h _ => h
      | cons m r ih =>
        intro n hn hr
        rw [List.foldl_cons]
        exact ih _ (Int.max_le.mpr ⟨hn, hr m (List.mem_cons_self ..)⟩) fun k hk => hr k (List.mem_cons_of_mem _ hk)
    exact go r n (h n (List.mem_cons_self ..)) fun m hm => h m (List.mem_cons_of_mem _ hm)
theorem fold_ge : ∀ (r : List Int) (n : Int), n ≤ r.foldl max n
  | [], n => Int.le_refl n
  | m :: r, n => Int.le_trans (Int.le_max_left n m) (fold_ge r (max n m))
/-- tracked triples -/
inductive TrL (H : Hp) : List V → List Tri → Prop
  | nil : TrL H [] []
  | cons {c : Addr} {t : Tri} {xs : List V} {ts : List Tri} : H c = some (.tup (triV t)) → TrL H xs ts → TrL H (.ref c :: xs) (t :: ts)
theorem TrL.same {H H' : Hp} (o : Same H H') : ∀ {xs : List V} {ts : List Tri}, TrL H xs ts → TrL H' xs ts
  | _, _, .nil => .nil
  | _, _, .cons e l => .cons (o _ _ e) (l.same o)
theorem TrL.old {H H' : Hp} {u : Addr} (hu : Urn H u) (o : Old u H H') : ∀ {xs : List V} {ts : List Tri}, TrL H xs ts → TrL H' xs ts
  | _, _, .nil => .nil
  | _, _, .cons (c := c) e l => .cons (o c _ (fun z => by
      obtain ⟨g, m, k, eu⟩ := hu
      rw [z, eu] at e
      cases e) e) (l.old hu o)
theorem TrL.put {H : Hp} {D : Addr} {ws ys : List V} (hd : H D = some (.lst ws)) : ∀ {xs : List V} {ts : List Tri}, TrL H xs ts → TrL (upd H D (.lst ys)) xs ts
  | _, _, .nil => .nil
  | _, _, .cons (c := c) e l => .cons ((upd_ne (fun z => by rw [z, hd] at e; cases e)).trans e) (l.put hd)
theorem TrL.snoc {H : Hp} {c : Addr} {t : Tri} (e : H c = some (.tup (triV t))) : ∀ {xs : List V} {ts : List Tri}, TrL H xs ts → TrL H (xs ++ [.ref c]) (ts ++ [t])
  | _, _, .nil => .cons e .nil
  | _, _, .cons a l => .cons a (l.snoc e)
theorem TrL.len {H : Hp} : ∀ {xs : List V} {ts : List Tri}, TrL H xs ts → xs.length = ts.length
  | _, _, .nil => rfl
  | _, _, .cons _ l => congrArg (· + 1) l.len
theorem TrL.tri {H : Hp} : ∀ {xs : List V} {ts : List Tri} {i : Nat} {x : V}, TrL H xs ts → xs[i]? = some x → ∃ t c, ts[i]? = some t ∧ x = .ref c ∧ H c = some (.tup (triV t))
  | _, _, _, _, .nil, h => by simp at h
  | _, _, 0, _, .cons e _, h => by
    rw [List.getElem?_cons_zero] at h
    obtain rfl := Option.some.inj h
    exact ⟨_, _, rfl, rfl, e⟩
  | _, _, i + 1, _, .cons _ l, h => by
    rw [List.getElem?_cons_succ] at h
    exact l.tri h
/-- an error class of the package that keeps nothing -/
structure OpX (K : PySem.W.Frag) (mg : Str → Option Value) (nm : Str) (C : Addr) : Prop where
  x : PySem.W.excIn K C [.type "ValueError", .type "Exception", .type "BaseException", .type "object"] "ValueError.__new__" = true
  g : mg nm = some (.ref C)
  k : PySem.W.keepIn K (.ref C) = true
  b : PySem.W.subIn K (.ref C) (.type "BaseException") = some true
  t : PySem.W.typeIn K (.ref C) = some (.type "type")
theorem tvl_ints {K : PySem.W.Frag} {Z : Hp} : ∀ l : List Int, TvL K Z (l.map V.int) (l.map .int)
  | [] => .nil
  | x :: r => .cons (.int x) (tvl_ints r)
theorem int_at {ns : List Int} {i : Nat} {x : V} (h : (ns.map V.int)[i]? = some x) : ∃ z : Int, ns[i]? = some z ∧ x = .int z := by
  rw [List.getElem?_map] at h
  cases e : ns[i]? with
  | none =>
    rw [e] at h
    cases h
  | some z =>
    rw [e] at h
    exact ⟨z, rfl, (Option.some.inj h).symm⟩
section
variable {P : Program} {w : World} {K : PySem.W.Frag} {mg : Str → Option Value} {base : Heap} {CS : Addr}
abbrev s_check : Stmt := topS 21
theorem sc_check : FnScope ["shape"] ["shape"] (defScope s_check) := ⟨rfl, rfl, rfl, by decide +kernel, rfl, by decide +kernel, by decide +kernel⟩
abbrev s_places : Stmt := topS 22
theorem sc_places : FnScope ["shape", "found", "distance", "block", "size", "row"] ["shape"] (defScope s_places) := ⟨rfl, rfl, rfl, by decide +kernel, rfl, by decide +kernel, by decide +kernel⟩
def spCheck (K : PySem.W.Frag) (CS : Addr) : Sp := fun vs H Q E => ∃ (x : V) (d : PyData), vs = [x] ∧ Dw K H x d ∧ (isSh d = true → ∀ H', Same H H' → Q .non H') ∧ (isSh d = false → ∀ H', Same H H' → E (.ref CS) none H')
theorem ok_check {f f1 : Addr} {fd fd1 : FuncData} {k : Nat} (T : Txt mg) (O : OpX K mg "InvalidShape" CS) (d : D K mg "check_shape" s_check ["shape"] f fd) (d1 : D K mg "is_shape" s_is_shape ["value"] f1 fd1) (G1 : FnOk P w K mg base CX0 3 f1 fd1 ["value"] (spShape K)) : FnOk P w K mg base (L2.CX P w) 4 f fd ["shape"] (spCheck K CS) := by
  refine d.F.okX sc_check (fun vs H Q E h => ?_) (fun cdv A outer s H vs Q E hr h => ?_)
  · obtain ⟨x, d, rfl, _⟩ := h
    rfl
  · obtain ⟨x, d, rfl, hd, q, qe⟩ := h
    refine ⟨_, (pss_one (ps_if (pt_not (pt_val (pe_call G1 (hr.mono (by decide)) (by rfl) d1.g d1.F.kp d1.b .nil pass0 (pa_cons (pv 0) pa_nil)))) (pss_one (ps_raise rfl (takes_of rfl rfl rfl rfl) (by exact (pmk_own PySem.F.excBase_ValueError O.x O.g O.k (raises_own O.b O.t) rfl)))) pss_nil)), ?_⟩
    refine ⟨_, rfl, x, d, rfl, hd, fun H' sm => ⟨_, rfl, ?_⟩⟩
    cases e : isSh d with
    | true => exact ite2 (fun z => absurd z Bool.false_ne_true) (fun _ => q e H' sm)
    | false => exact ite2 (fun _ => qe e H' sm) (fun z => absurd rfl z)
/-- the tuple of the places of a shape -/
def spPlaces (K : PySem.W.Frag) (CS : Addr) : Sp := fun vs H Q E => ∃ (x : V) (d : PyData), vs = [x] ∧ Dw K H x d ∧ (∀ ns, d = .tuple (ns.map .int) → Shp ns → ∀ H' y, Same H H' → (∃ o xs, y = .ref o ∧ H' o = some (.tup xs) ∧ TrL H' xs (pl ns)) → Q y H') ∧ (isSh d = false → ∀ H', Same H H' → E (.ref CS) none H')
theorem ok_places {f f1 : Addr} {fd fd1 : FuncData} (T : Txt mg) (N : Nam mg) (d : D K mg "places" s_places ["shape"] f fd) (d1 : D K mg "check_shape" s_check ["shape"] f1 fd1) (G1 : FnOk P w K mg base (L2.CX P w) 4 f1 fd1 ["shape"] (spCheck K CS)) : FnOk P w K mg base (L2.CX P w) 5 f fd ["shape"] (spPlaces K CS) := by
  refine d.F.okX sc_places (fun vs H Q E h => ?_) (fun cdv A outer s H vs Q E hr h => ?_)
  · obtain ⟨x, d, rfl, _⟩ := h
    rfl
  · obtain ⟨x, d, rfl, hd, q, qe⟩ := h
    have un : (A.deeper (envOfC "places" (defScope s_places) s.heap.objs.size f cdv)).units + 8 < cLine := by have := hr.un; omega
    refine ⟨_, (pss_cons (ps_expr (pe_call (E := E) G1 (hr.mono (by decide)) (by rfl) d1.g d1.F.kp d1.b .nil (passes_call (takes_of rfl rfl rfl rfl) (fun _ _ _ _ h => h)) (pa_cons (pv 0) pa_nil)))
      (pss_cons (ps_set (i := 1) sc_places.nd rfl (.inl rfl) (pe_lst pa_nil))
      (pss_cons (ps_for (passes_of rfl) rfl (pi_range2 (by rfl) T.n_range (pa_cons pe_int (pa_cons (pe_callB (cr_maxT rfl un) (by rfl) T.n_max (by decide +kernel) (pa_cons (pv 0) pa_nil)) pa_nil))) (pg_name (i := 2) sc_places.nd rfl (.inl rfl))
        (pss_one (ps_for (passes_of rfl) rfl (pi_enumT (by rfl) N.n_enumerate (pa_cons (pv 0) pa_nil)) (pg_tup rfl (pgs_cons (pg_name (i := 3) sc_places.nd rfl (.inl rfl)) (pgs_cons (pg_name (i := 4) sc_places.nd rfl (.inl rfl)) pgs_nil)))
        (pss_one (ps_for (passes_of rfl) rfl (pi_range1 (by rfl) T.n_range (pa_cons (pe_op op_sub (pv 4) (pv 2)) pa_nil)) (pg_name (i := 5) sc_places.nd rfl (.inl rfl))
        (pss_one (ps_expr (pe_bm PySem.F.plainAttrs_list PySem.F.slot_list_append PySem.F.type_list_append mt_append (pv 1) (pa_cons (pe_tup (pa_cons (pv 3) (pa_cons (pv 5) (pa_cons (pe_op op_add (pv 5) (pv 2)) pa_nil)))) pa_nil)))))))))
      (pss_one (ps_ret (pe_tupleOf (by rfl) T.n_tuple (pv 1))))))), ?_⟩
    refine ⟨_, rfl, x, d, rfl, hd, fun sh H1 s1 => ?_, fun sh H1 s1 => qe sh H1 s1⟩
    obtain ⟨ns, rfl, S⟩ := shp_of sh
    obtain ⟨a, rfl, e⟩ : ∃ a, x = .ref a ∧ SqT K H a (ns.map V.int) := by
      cases hd with
      | tv t =>
        cases t with
        | tup e l =>
          rw [l.ints] at e
          exact ⟨_, rfl, e⟩
    have q' := q ns rfl S
    have e1 := sqt_same e s1
    clear hd q qe e sh d
    refine ⟨(by show 0 ≤ sizeLine; decide), fun D nD => ?_⟩
    have off : ∀ {Z : Hp} {o : HO}, Same H1 Z → Same H1 (upd Z D o) := fun sz b o h => by
      rw [upd_ne (ne_of_none h nD)]
      exact sz b o h
    have sq : ∀ {Z : Hp}, Same H1 Z → SqT K Z a (ns.map V.int) := fun sz => sqt_same e1 sz
    obtain ⟨n0, nr, en⟩ : ∃ n0 nr, ns = n0 :: nr := by
      cases ns with
      | nil => exact absurd S.1.1 (by decide)
      | cons n r => exact ⟨n, r, rfl⟩
    have m6 := mx_le fun n hn => (S.2.1 n hn).2
    have em : mx ns = nr.foldl max n0 := by rw [en]; rfl
    have m2 : 0 ≤ mx ns := by
      have z := fold_ge nr n0
      have y := (S.2.1 n0 (by rw [en]; exact List.mem_cons_self ..)).1
      omega
    refine ⟨_, rfl, a, n0, nr, rfl, by rw [← en]; exact sq (sub_same nD), 1, nr.foldl max n0, rfl, ⟨by decide, by decide, by omega, by omega⟩, ?_⟩
    rw [← em]
    refine for_range (lo := 1) (n := (mx ns - 1).toNat) (fun i σ H' => (∃ y2 y3 y4 y5, σ = [some (.ref a), some (.ref D), y2, y3, y4, y5]) ∧ Same H1 H' ∧ ∃ xs, H' D = some (.lst xs) ∧ TrL H' xs (disP ns i)) ⟨⟨_, _, _, _, rfl⟩, sub_same nD, [], upd_same, .nil⟩ ?_ ?_
    · rintro i σ H2 hi ⟨⟨y2, y3, y4, y5, rfl⟩, s2, xs, hv, tv⟩
      refine ⟨_, rfl, a, _, rfl, sq s2, ?_⟩
      refine for_it (walk_enumT (K := K) (a := a) (xs := ns.map V.int)) (fun j σ H' => (∃ y3 y4 y5, σ = [some (.ref a), some (.ref D), some (.int (1 + (i : Int))), y3, y4, y5]) ∧ Same H1 H' ∧ ∃ xs, H' D = some (.lst xs) ∧ TrL H' xs (disP ns i ++ blkP ns (1 + (i : Int)) j)) ⟨⟨_, _, _, rfl⟩, s2, xs, hv, by rw [show blkP ns (1 + (i : Int)) 0 = [] from rfl, List.append_nil]; exact tv⟩ (fun j σ H' _ h => sq h.2.1) ?_ ?_
      · rintro j v σ H2' H3 hj ⟨⟨y3, y4, y5, rfl⟩, s3, xs, hv, tv⟩ ⟨T, x0, y0, rfl, nT, rfl, ex, ey⟩
        obtain rfl := Option.some.inj ex
        obtain ⟨z, ez, rfl⟩ := int_at ey
        have nTD : D ≠ T := fun z => by rw [← z, hv] at nT; cases nT
        have s4 := s3.trans (sub_same (o := .tup [V.int (j : Nat), V.int z]) nT)
        have hv4 := sub_same (o := .tup [V.int (j : Nat), V.int z]) nT _ _ hv
        have tv4 := tv.same (sub_same (o := .tup [V.int (j : Nat), V.int z]) nT)
        have hT : upd H2' T (.tup [V.int (j : Nat), V.int z]) T = some (.tup [V.int (j : Nat), V.int z]) := upd_same
        revert s4 hv4 tv4 hT
        generalize upd H2' T (.tup [V.int (j : Nat), V.int z]) = H4
        intro s4 hv4 tv4 hT
        have z6 := S.2.1 z (List.mem_of_getElem? ez)
        refine ⟨T, _, rfl, .inl (.inl hT), rfl, _, _, rfl, _, _, rfl, rfl, ?_⟩
        refine ⟨_, rfl, _, rfl, _, _, rfl, rfl, _, rfl, by omega, by omega, ?_⟩
        have ez2 : ns.getD j 0 = z := by rw [List.getD_eq_getElem?_getD, ez]; rfl
        refine for_range (lo := 0) (n := (z - (1 + (i : Int))).toNat) (fun k σ H' => (∃ y5, σ = [some (.ref a), some (.ref D), some (.int (1 + (i : Int))), some (.int (j : Nat)), some (.int z), y5]) ∧ Same H1 H' ∧ ∃ xs, H' D = some (.lst xs) ∧ TrL H' xs (disP ns i ++ blkP ns (1 + (i : Int)) j ++ rowsP (j : Nat) (1 + (i : Int)) k)) ⟨⟨_, rfl⟩, s4, xs, hv4, by rw [show rowsP (j : Nat) (1 + (i : Int)) 0 = [] from rfl, List.append_nil]; exact tv4⟩ ?_ ?_
        · rintro k σ H5 hk ⟨⟨y5, rfl⟩, s5, xs5, hv5, tv5⟩
          have sz : xs5.length < sizeLine := by
            rw [tv5.len, List.length_append, List.length_append, rowsP_len]
            have b1 := disP_len S i
            have b2 := blkP_len (d := 1 + (i : Int)) S.2.1 (by omega) j
            have b3 := S.1.2
            rw [List.length_map] at hj
            exact Nat.lt_of_lt_of_le (show _ < 1000 by omega) (by decide)
          refine ⟨_, rfl, .inl ⟨rfl, _, .inl (.inl hv5)⟩, _, rfl, _, rfl, _, rfl, _, rfl, _, _, rfl, rfl, (by show 3 ≤ sizeLine; decide), fun p np => ?_⟩
          have s6 := sub_same (o := .tup [V.int (j : Nat), V.int (0 + (k : Int)), V.int (0 + (k : Int) + (1 + (i : Int)))]) np
          refine ⟨D, xs5, _, rfl, rfl, s6 _ _ hv5, sz, ⟨_, rfl⟩, off (s5.trans s6), _, upd_same, ?_⟩
          have k0 : (0 : Int) + (k : Int) = k := by omega
          have one : (upd H5 p (.tup [V.int (j : Nat), V.int (0 + (k : Int)), V.int (0 + (k : Int) + (1 + (i : Int)))])) p = some (.tup (triV ((j : Int), (k : Int), (k : Int) + (1 + (i : Int))))) := by
            rw [k0]
            exact upd_same
          rw [rowsP_succ, ← List.append_assoc]
          exact ((tv5.same s6).snoc one).put (s6 _ _ hv5)
        · rintro σ H5 ⟨⟨y5, rfl⟩, s5, xs5, hv5, tv5⟩
          refine ⟨⟨_, _, _, rfl⟩, s5, xs5, hv5, ?_⟩
          rw [blkP_succ, ez2, ← List.append_assoc]
          exact tv5
      · rintro σ H3 ⟨⟨y3, y4, y5, rfl⟩, s3, xs, hv, tv⟩
        rw [List.length_map] at tv
        exact ⟨⟨_, _, _, _, rfl⟩, s3, xs, hv, by rw [disP_succ]; exact tv⟩
    · rintro σ H2 ⟨⟨y2, y3, y4, y5, rfl⟩, s2, xs, hv, tv⟩
      refine ⟨_, rfl, .inl ⟨D, xs, rfl, .inl (.inl hv), fun p np => ?_⟩⟩
      have s3 := sub_same (o := .tup xs) np
      exact q' _ _ (s1.trans (s2.trans s3)) ⟨_, _, rfl, upd_same, tv.same s3⟩
end
end K07

/-! # is_place -/
namespace K07
open PySem PySem.Spec PyProof.Rows L2
/-- whether three things are a place -/
def isP2 (s : Int) (i : PyData) : PyData → Bool
  | .int m => btw (.int m) 0 (s - 1) && btw i 0 (m - 1)
  | _ => false
def isP3 (ns : List Int) (b i j : PyData) : Bool := match b with
  | .int n => btw (.int n) 0 ((ns.length : Int) - 1) && isP2 (ns.getD n.toNat 0) i j
  | _ => false
def isPl (ns : List Int) : PyData → Bool
  | .tuple [b, i, j] => isP3 ns b i j
  | _ => false
theorem isPl_len {ns : List Int} {ds : List PyData} (h : ds.length ≠ 3) : isPl ns (.tuple ds) = false := by
  unfold isPl
  split
  · rename_i e
    cases e
    exact absurd rfl h
  · rfl
theorem btw_int {d : PyData} {lo hi : Int} (h : btw d lo hi = true) : ∃ n, d = .int n ∧ lo ≤ n ∧ n ≤ hi := by
  cases d with
  | int n =>
    have z : (decide (lo ≤ n) && decide (n ≤ hi)) = true := h
    rw [Bool.and_eq_true] at z
    exact ⟨n, rfl, of_decide_eq_true z.1, of_decide_eq_true z.2⟩
  | _ => exact absurd h Bool.false_ne_true
section
variable {P : Program} {w : World} {K : PySem.W.Frag} {mg : Str → Option Value} {base : Heap} {CS : Addr}
abbrev s_place : Stmt := topS 23
theorem sc_place : FnScope ["shape", "value", "block", "row", "column"] ["shape", "value"] (defScope s_place) := ⟨rfl, rfl, rfl, by decide +kernel, rfl, by decide +kernel, by decide +kernel⟩
def spPlace (K : PySem.W.Frag) (CS : Addr) : Sp := fun vs H Q E => ∃ (x y : V) (d e : PyData), vs = [x, y] ∧ Dw K H x d ∧ Dw K H y e ∧ (∀ ns, d = .tuple (ns.map .int) → Shp ns → ∀ H', Same H H' → Q (.bl (isPl ns e)) H') ∧ (isSh d = false → ∀ H', Same H H' → E (.ref CS) none H')
theorem ok_place {f f1 f2 : Addr} {fd fd1 fd2 : FuncData} (T : Txt mg) (d : D K mg "is_place" s_place ["shape", "value"] f fd) (d1 : D K mg "check_shape" s_check ["shape"] f1 fd1) (d2 : D K mg "is_index" s_is_index ["value", "many"] f2 fd2)
    (G1 : FnOk P w K mg base (L2.CX P w) 4 f1 fd1 ["shape"] (spCheck K CS)) (G2 : FnOk P w K mg base CX0 3 f2 fd2 ["value", "many"] (spIdx K)) : FnOk P w K mg base (L2.CX P w) 5 f fd ["shape", "value"] (spPlace K CS) := by
  refine d.F.okX sc_place (fun vs H Q E h => ?_) (fun cdv A outer s H vs Q E hr h => ?_)
  · obtain ⟨x, y, d, e, rfl, _⟩ := h
    rfl
  · obtain ⟨x, y, d, e, rfl, hd, he, q, qe⟩ := h
    refine ⟨_, (pss_cons (ps_expr (pe_call (E := E) G1 (hr.mono (by decide)) (by rfl) d1.g d1.F.kp d1.b .nil (passes_call (takes_of rfl rfl rfl rfl) (fun _ _ _ _ h => h)) (pa_cons (pv 0) pa_nil)))
      (pss_cons (ps_if (PW.pt (pw_or (pt_not (pt_val (pe_callB call_isi (by rfl) T.n_isinstance (by decide +kernel) (pa_cons (pv 1) (pa_cons (pe_bltn (v := .ty "tuple") (by rfl) T.n_tuple (by decide +kernel) rfl) pa_nil))))) (pw_or1 (pt_cmpR op_ne (pe_callB call_len_seq (by rfl) T.n_len PySem.boot_len (pa_cons (pv 1) pa_nil)) pe_int (nomark _))))) (pss_one (ps_ret pe_bl)) pss_nil)
      (pss_cons (ps_asg (pv 1) (pg_tup rfl (pgs_cons (pg_name (i := 2) sc_place.nd rfl (.inl rfl)) (pgs_cons (pg_name (i := 3) sc_place.nd rfl (.inl rfl)) (pgs_cons (pg_name (i := 4) sc_place.nd rfl (.inl rfl)) pgs_nil)))))
      (pss_cons (ps_if (pt_not (pt_val (pe_call G2 (hr.mono (by decide)) (by rfl) d2.g d2.F.kp d2.b .nil pass0 (pa_cons (pv 2) (pa_cons (pe_callB call_len_seq (by rfl) T.n_len PySem.boot_len (pa_cons (pv 0) pa_nil)) pa_nil))))) (pss_one (ps_ret pe_bl)) pss_nil)
      (pss_one (ps_ret (pe_and (pe_call G2 (hr.mono (by decide)) (by rfl) d2.g d2.F.kp d2.b .nil pass0 (pa_cons (pv 4) (pa_cons (pe_ix ix_tup (pv 0) (pv 2) (fun _ _ => rfl)) pa_nil))) (pe_one (pe_call G2 (hr.mono (by decide)) (by rfl) d2.g d2.F.kp d2.b .nil pass0 (pa_cons (pv 3) (pa_cons (pv 4) pa_nil))))))))))), ?_⟩
    refine ⟨_, rfl, x, d, rfl, hd, fun sh H1 s1 => ?_, fun sh H1 s1 => qe sh H1 s1⟩
    obtain ⟨ns, rfl, S⟩ := shp_of sh
    obtain ⟨a, rfl, ea⟩ : ∃ a, x = .ref a ∧ SqT K H a (ns.map V.int) := by
      cases hd with
      | tv t =>
        cases t with
        | tup e l =>
          rw [l.ints] at e
          exact ⟨_, rfl, e⟩
    have q' := q ns rfl S H1 s1
    have e1 := sqt_same ea s1
    have he1 := he.same s1
    clear hd q qe ea sh he
    refine ⟨_, rfl, _, _, _, _, _, rfl, .ty _, he1.ty, kitT e, _, rfl, ?_⟩
    cases e with
    | tuple ds =>
      obtain ⟨c, xs, rfl, ec, l⟩ : ∃ c xs, y = .ref c ∧ SqT K H1 c xs ∧ TvL K H1 xs ds := by
        cases he1 with
        | tv t =>
          cases t with
          | tup e l => exact ⟨_, _, rfl, e, l⟩
      have ll := l.len
      refine ite2 (fun z => absurd z Bool.false_ne_true) (fun _ => ?_)
      refine ⟨_, rfl, c, xs, rfl, .inr ec, rfl, _, rfl, ?_⟩
      by_cases l3 : ds.length = 3
      · have e3 : (!decide (V.int (xs.length : Nat) = V.int 3)) = false := by
          rw [ll, l3]
          rfl
        rw [e3]
        refine ite2 (fun z => absurd z Bool.false_ne_true) (fun _ => ?_)
        obtain ⟨b, i, j, rfl⟩ : ∃ b i j, ds = [b, i, j] := by
          match ds, l3 with
          | [b, i, j], _ => exact ⟨b, i, j, rfl⟩
        obtain ⟨x1, x2, x3, rfl, t1, t2, t3⟩ : ∃ x1 x2 x3, xs = [x1, x2, x3] ∧ Tv K H1 x1 b ∧ Tv K H1 x2 i ∧ Tv K H1 x3 j := by
          cases l with
          | cons a l => cases l with
            | cons b l => cases l with
              | cons c l =>
                cases l
                exact ⟨_, _, _, rfl, a, b, c⟩
        refine ⟨_, rfl, c, _, rfl, ec, rfl, _, _, rfl, _, _, rfl, _, _, rfl, rfl, ?_⟩
        have qf : Q (.bl (isP3 ns b i j)) H1 := q'
        refine ⟨_, rfl, _, rfl, a, _, rfl, .inr e1, x1, b, _, rfl, .tv t1, _, rfl, ?_⟩
        rw [List.length_map]
        cases cb : btw b 0 ((ns.length : Int) - 1) with
        | false =>
          have z : isP3 ns b i j = false := by
            unfold isP3
            cases b with
            | int n =>
              show (btw (.int n) 0 ((ns.length : Int) - 1) && _) = false
              rw [cb, Bool.false_and]
            | _ => rfl
          rw [z] at qf
          exact ite2 (fun _ => qf) (fun z => absurd rfl z)
        | true =>
          refine ite2 (fun z => absurd z Bool.false_ne_true) (fun _ => ?_)
          obtain ⟨n, rfl, n0, n1⟩ := btw_int cb
          cases t1
          obtain ⟨n, rfl⟩ : ∃ k : Nat, n = (k : Int) := ⟨n.toNat, by omega⟩
          have nl : n < ns.length := by omega
          have gd : ns.getD n 0 = ns[n] := by rw [List.getD_eq_getElem?_getD, List.getElem?_eq_getElem nl]; rfl
          have z : isP3 ns (.int (n : Int)) i j = isP2 ns[n] i j := by
            show (btw (.int (n : Int)) 0 ((ns.length : Int) - 1) && isP2 (ns.getD n 0) i j) = _
            rw [cb, Bool.true_and, gd]
          rw [z] at qf
          refine ⟨_, rfl, _, rfl, _, rfl, a, _, n, .int ns[n], rfl, rfl, e1, atI_nat (by rw [List.getElem?_map, List.getElem?_eq_getElem nl]; rfl), x3, j, ns[n], rfl, .tv t3, _, rfl, ?_⟩
          cases cj : btw j 0 (ns[n] - 1) with
          | false =>
            have z2 : isP2 ns[n] i j = false := by
              cases j with
              | int m =>
                show (btw (.int m) 0 (ns[n] - 1) && _) = false
                rw [cj, Bool.false_and]
              | _ => rfl
            rw [z2] at qf
            exact iteF qf
          | true =>
            obtain ⟨m, rfl, m0, m1⟩ := btw_int cj
            cases t3
            have qg : Q (.bl (btw (.int m) 0 (ns[n] - 1) && btw i 0 (m - 1))) H1 := qf
            rw [cj, Bool.true_and] at qg
            exact iteT ⟨_, rfl, _, rfl, x2, i, m, rfl, .tv t2, qg⟩
      · have e3 : (!decide (V.int (xs.length : Nat) = V.int 3)) = true := by
          rw [ll, decide_eq_false (fun z => l3 (by have := V.int.inj z; omega))]
          rfl
        rw [e3]
        rw [isPl_len l3] at q'
        exact ite2 (fun _ => q') (fun z => absurd rfl z)
    | _ => exact ite2 (fun _ => ite2 (fun _ => q') (fun z => absurd rfl z)) (fun z => absurd rfl z)
end
end K07

/-! # places, by the law -/
namespace K07
open PySem PySem.Spec PyProof.Rows L2
abbrev Quad := Int × Int × Int × Int
def quadI (t : Quad) : List Int := [t.1, t.2.1, t.2.2.1, t.2.2.2]
def quadD (t : Quad) : PyData := .tuple ((quadI t).map .int)
def rowQ (b s : Int) (r : Nat) : Nat → List Quad := fun k => (List.range k).map fun (c : Nat) => ((r : Int) + 1 + (c : Int) - (r : Int), b, (r : Int), (r : Int) + 1 + (c : Int))
def blkQ (b s : Int) (k : Nat) : List Quad := (List.range k).flatMap fun (r : Nat) => rowQ b s r (s - ((r : Int) + 1)).toNat
def allQ (ns : List Int) (j : Nat) : List Quad := (List.range j).flatMap fun (b : Nat) => blkQ b (ns.getD b 0) (ns.getD b 0).toNat
theorem rowQ_succ (b s : Int) (r k : Nat) : rowQ b s r (k + 1) = rowQ b s r k ++ [((r : Int) + 1 + (k : Int) - (r : Int), b, (r : Int), (r : Int) + 1 + (k : Int))] := by
  unfold rowQ
  rw [List.range_succ, List.map_append]
  rfl
theorem blkQ_succ (b s : Int) (k : Nat) : blkQ b s (k + 1) = blkQ b s k ++ rowQ b s k (s - ((k : Int) + 1)).toNat := by
  unfold blkQ
  rw [List.range_succ, List.flatMap_append, List.flatMap_singleton]
theorem allQ_succ (ns : List Int) (j : Nat) : allQ ns (j + 1) = allQ ns j ++ blkQ j (ns.getD j 0) (ns.getD j 0).toNat := by
  unfold allQ
  rw [List.range_succ, List.flatMap_append, List.flatMap_singleton]
/-- the places with their distances -/
def plQ (ns : List Int) : List Quad := (pl ns).map fun t => (t.2.2 - t.2.1, t.1, t.2.1, t.2.2)
/-! ### the thirty shapes -/
def r5 : List Int := [2, 3, 4, 5, 6]
theorem r5_mem {n : Int} (h : 2 ≤ n ∧ n ≤ 6) : n ∈ r5 := by
  have z : n = 2 ∨ n = 3 ∨ n = 4 ∨ n = 5 ∨ n = 6 := by omega
  rcases z with rfl | rfl | rfl | rfl | rfl <;> decide
def shapesL : List (List Int) := ((r5.map fun a => [a]) ++ (r5.flatMap fun a => r5.map fun b => [a, b]) ++ (r5.flatMap fun a => r5.flatMap fun b => r5.map fun c => [a, b, c])).filter fun l => decide (l.sum ≤ 8)
theorem shp_mem {ns : List Int} (S : Shp ns) : ns ∈ shapesL := by
  obtain ⟨⟨h1, h2⟩, b, s⟩ := S
  refine List.mem_filter.mpr ⟨?_, decide_eq_true s⟩
  match ns, h1, h2, b with
  | [a], _, _, b => exact List.mem_append_left _ (List.mem_append_left _ (List.mem_map.mpr ⟨a, r5_mem (b a (by simp)), rfl⟩))
  | [a, c], _, _, b => exact List.mem_append_left _ (List.mem_append_right _ (List.mem_flatMap.mpr ⟨a, r5_mem (b a (by simp)), List.mem_map.mpr ⟨c, r5_mem (b c (by simp)), rfl⟩⟩))
  | [a, c, d], _, _, b => exact List.mem_append_right _ (List.mem_flatMap.mpr ⟨a, r5_mem (b a (by simp)), List.mem_flatMap.mpr ⟨c, r5_mem (b c (by simp)), List.mem_map.mpr ⟨d, r5_mem (b d (by simp)), rfl⟩⟩⟩)
  | _ :: _ :: _ :: _ :: _, _, h2, _ => exact absurd h2 (by simp)
  | [], h1, _, _ => exact absurd h1 (by simp)
theorem tables : ∀ ns ∈ shapesL, (plQ ns).Perm (allQ ns ns.length) ∧ (plQ ns).Pairwise (fun p q => TS.code 8 (quadI p) ≤ TS.code 8 (quadI q)) ∧ (∀ p ∈ plQ ns, ∀ q ∈ plQ ns, TS.code 8 (quadI p) = TS.code 8 (quadI q) → p = q) ∧ (∀ p ∈ plQ ns, ∀ m ∈ quadI p, 0 ≤ m ∧ m < 8) ∧ (plQ ns).length < 64 ∧ 0 < (pl ns).length := by decide +kernel
theorem uniq {α : Type} (k : α → Int) : ∀ {l r : List α}, l.Perm r → l.Pairwise (fun x y => k x ≤ k y) → r.Pairwise (fun x y => k x ≤ k y) → (∀ x ∈ l, ∀ y ∈ l, k x = k y → x = y) → l = r
  | [], r, h, _, _, _ => (List.Perm.nil_eq h)
  | x :: l, [], h, _, _, _ => absurd h.length_eq (by simp)
  | x :: l, y :: r, h, hl, hr, inj => by
    have mx : x ∈ y :: r := h.mem_iff.mp (List.mem_cons_self ..)
    have my : y ∈ x :: l := h.mem_iff.mpr (List.mem_cons_self ..)
    have a1 : k y ≤ k x := by
      rcases List.mem_cons.mp mx with rfl | m
      · exact Int.le_refl _
      · exact (List.pairwise_cons.mp hr).1 x m
    have a2 : k x ≤ k y := by
      rcases List.mem_cons.mp my with rfl | m
      · exact Int.le_refl _
      · exact (List.pairwise_cons.mp hl).1 y m
    have e := inj x (List.mem_cons_self ..) y my (by omega)
    subst e
    rw [uniq k (List.Perm.cons_inv h) (List.pairwise_cons.mp hl).2 (List.pairwise_cons.mp hr).2 fun p hp q hq => inj p (List.mem_cons_of_mem _ hp) q (List.mem_cons_of_mem _ hq)]
theorem TvL.perm {K : PySem.W.Frag} {H : Hp} {α : Type} (f : α → PyData) {xs ys : List V} (h : xs.Perm ys) : ∀ {ts : List α}, TvL K H xs (ts.map f) → ∃ qs : List α, qs.Perm ts ∧ TvL K H ys (qs.map f) := by
  induction h with
  | nil =>
    intro ts t
    cases ts with
    | nil => exact ⟨[], .nil, .nil⟩
    | cons _ _ => cases t
  | cons x _ ih =>
    intro ts t
    cases ts with
    | nil => cases t
    | cons q ts =>
      cases t with
      | cons a t =>
        obtain ⟨qs, p, z⟩ := ih t
        exact ⟨q :: qs, p.cons q, .cons a z⟩
  | swap x y l =>
    intro ts t
    match ts, t with
    | [], t => cases t
    | [_], t =>
      cases t with
      | cons _ t => cases t
    | p :: q :: ts, t =>
      cases t with
      | cons a t => cases t with
        | cons b t => exact ⟨q :: p :: ts, .swap _ _ _, .cons b (.cons a t)⟩
  | trans _ _ ih1 ih2 =>
    intro ts t
    obtain ⟨qs, p, z⟩ := ih1 t
    obtain ⟨rs, p2, z2⟩ := ih2 z
    exact ⟨rs, p2.trans p, z2⟩
theorem quad_tup {K : PySem.W.Frag} {H : Hp} {x : V} {q : Quad} (h : Tv K H x (quadD q)) : TupI K H x (quadI q) := by
  cases h with
  | tup e l =>
    have z : TvL K H _ ((quadI q).map .int) := l
    rw [z.ints] at e
    exact ⟨_, rfl, e⟩
theorem quads_pair {K : PySem.W.Frag} {H : Hp} : ∀ {ys : List V} {qs : List Quad}, TvL K H ys (qs.map quadD) → ys.Pairwise (fun x y => ∀ n m, TupI K H x n → TupI K H y m → TS.code 8 n ≤ TS.code 8 m) → qs.Pairwise fun p q => TS.code 8 (quadI p) ≤ TS.code 8 (quadI q)
  | [], [], _, _ => .nil
  | [], _ :: _, h, _ => by cases h
  | _ :: _, [], h, _ => by cases h
  | y :: ys, q :: qs, h, p => by
    cases h with
    | cons a t =>
      rw [List.pairwise_cons] at p
      refine List.pairwise_cons.mpr ⟨fun r hr => ?_, quads_pair t p.2⟩
      obtain ⟨i, hi⟩ := List.getElem?_of_mem hr
      have li : i < ys.length := by
        have z := t.len
        rw [List.length_map] at z
        have := (List.getElem?_eq_some_iff.mp hi).1
        omega
      obtain ⟨d, ed, td⟩ := t.get (List.getElem?_eq_getElem li)
      rw [List.getElem?_map, hi] at ed
      obtain rfl := Option.some.inj ed
      exact p.1 _ (List.getElem_mem li) _ _ (quad_tup a) (quad_tup td)
theorem rowQ_len (b s : Int) (r k : Nat) : (rowQ b s r k).length = k := by
  unfold rowQ
  rw [List.length_map, List.length_range]
theorem blkQ_len {s : Int} (h : s ≤ 6) (b : Int) : ∀ k, (blkQ b s k).length ≤ 6 * k
  | 0 => Nat.le_refl _
  | k + 1 => by
    rw [blkQ_succ, List.length_append, rowQ_len]
    have z := blkQ_len h b k
    omega
theorem allQ_len {ns : List Int} (b : ∀ n ∈ ns, 2 ≤ n ∧ n ≤ 6) : ∀ j, (allQ ns j).length ≤ 36 * j
  | 0 => Nat.le_refl _
  | j + 1 => by
    rw [allQ_succ, List.length_append]
    have z := allQ_len b j
    have x : ns.getD j 0 ≤ 6 := by
      rw [List.getD_eq_getElem?_getD]
      cases e : ns[j]? with
      | none => show (0 : Int) ≤ 6; decide
      | some n => exact (b n (List.mem_of_getElem? e)).2
    have y := blkQ_len x j (ns.getD j 0).toNat
    omega
section
variable {P : Program} {w : World} {K : PySem.W.Frag} {mg : Str → Option Value} {base : Heap}
abbrev s_lplaces : Stmt := topS 51
theorem sc_lplaces : FnScope ["_law_shape_here", "_law_found", "_law_block_here", "_law_size", "_law_row", "_law_column", "_law_distance"] ["_law_shape_here"] (defScope s_lplaces) := ⟨rfl, rfl, rfl, by decide +kernel, rfl, by decide +kernel, by decide +kernel⟩
def spLPlaces (K : PySem.W.Frag) : Sp := fun vs H Q _ => ∃ (a : Addr) (ns : List Int), vs = [.ref a] ∧ SqT K H a (ns.map V.int) ∧ Shp ns ∧ ∀ H' p xs, Same H H' → H p = none → H' p = some (.lst xs) → TrL H' xs (pl ns) → Q (.ref p) H'
theorem ok_lplaces {f : Addr} {fd : FuncData} {k : Nat} (T : Txt mg) (N : Nam mg) (d : D K mg "_law_places" s_lplaces ["_law_shape_here"] f fd) : FnOk P w K mg base CX0 (k + 1) f fd ["_law_shape_here"] (spLPlaces K) := by
  refine d.F.ok sc_lplaces (fun vs H Q E h => ?_) (fun cdv A outer s H vs Q E hr h => ?_)
  · obtain ⟨a, ns, rfl, _⟩ := h
    rfl
  · obtain ⟨a, ns, rfl, ea, S, q⟩ := h
    refine ⟨_, (pss_cons (ps_set (i := 1) sc_lplaces.nd rfl (.inl rfl) (pe_lst pa_nil))
      (pss_cons (ps_for PassesOwn.never rfl (pi_enumT (by rfl) N.n_enumerate (pa_cons (pv 0) pa_nil)) (pg_tup rfl (pgs_cons (pg_name (i := 2) sc_lplaces.nd rfl (.inr rfl)) (pgs_cons (pg_name (i := 3) sc_lplaces.nd rfl (.inl rfl)) pgs_nil)))
        (pss_one (ps_for PassesOwn.never rfl (pi_range1 (by rfl) T.n_range (pa_cons (pv 3) pa_nil)) (pg_name (i := 4) sc_lplaces.nd rfl (.inr rfl))
        (pss_one (ps_set (i := 1) sc_lplaces.nd rfl (.inl rfl) (pe_op op_cat (pv 1) (pe_lc (own := [("_law_column", 5)]) (g := gName 5) (tt := tYes) rfl sc_lplaces.nd (pi_range2 (by rfl) T.n_range (pa_cons (pe_op op_add (pv 4) pe_int) (pa_cons (pv 3) pa_nil))) (blkOk_by (own := [("_law_column", 5)]) (N := ["_law_shape_here", "_law_found", "_law_block_here", "_law_size", "_law_row", "_law_column", "_law_distance"]) (sc := defScope s_lplaces) (by decide +kernel))
            (fun _ _ _ _ _ => (pg_name (i := 5) sc_lplaces.nd rfl (Or.inl rfl))) (fun _ _ _ _ _ => pts_nil) (fun _ _ _ _ _ => (pe_tup (pa_cons (pe_op op_sub (pv 5) (pv 4)) (pa_cons (pv 2) (pa_cons (pv 4) (pa_cons (pv 5) pa_nil)))))))))))))
      (pss_one (ps_ret (pe_lc (own := [("_law_distance", 6), ("_law_block_here", 2), ("_law_row", 4), ("_law_column", 5)]) (g := gTup K 4 (gCons (gName 6) (gCons (gName 2) (gCons (gName 4) (gCons (gName 5) gNil))))) (tt := tYes) rfl sc_lplaces.nd (pi_list (pe_callB (cr_sortT (d := 4) (B := 8) (by decide)) (by rfl) N.n_sorted (by decide +kernel) (pa_cons (pv 1) pa_nil))) (blkOk_by (own := [("_law_distance", 6), ("_law_block_here", 2), ("_law_row", 4), ("_law_column", 5)]) (N := ["_law_shape_here", "_law_found", "_law_block_here", "_law_size", "_law_row", "_law_column", "_law_distance"]) (sc := defScope s_lplaces) (by decide +kernel))
            (fun _ _ _ _ _ => (pg_tup rfl (pgs_cons (pg_name (i := 6) sc_lplaces.nd rfl (Or.inl rfl)) (pgs_cons (pg_name (i := 2) sc_lplaces.nd rfl (Or.inl rfl)) (pgs_cons (pg_name (i := 4) sc_lplaces.nd rfl (Or.inl rfl)) (pgs_cons (pg_name (i := 5) sc_lplaces.nd rfl (Or.inl rfl)) pgs_nil)))))) (fun _ _ _ _ _ => pts_nil) (fun _ _ _ _ _ => (pe_tup (pa_cons (pv 2) (pa_cons (pv 4) (pa_cons (pv 5) pa_nil)))))))))), ?_⟩
    refine ⟨(by show 0 ≤ sizeLine; decide), fun D0 nD0 => ?_⟩
    have sq : ∀ {Z : Hp}, Same H Z → SqT K Z a (ns.map V.int) := fun sz => sqt_same ea sz
    refine ⟨_, rfl, a, _, rfl, sq (sub_same nD0), ?_⟩
    refine for_it (walk_enumT (K := K) (a := a) (xs := ns.map V.int)) (fun j σ H' => (∃ y2 y3 y4 D, σ = [some (.ref a), some (.ref D), y2, y3, y4, none, none] ∧ ∃ xs, H' D = some (.lst xs) ∧ TvL K H' xs ((allQ ns j).map quadD)) ∧ Same H H') ⟨⟨_, _, _, D0, rfl, [], upd_same, .nil⟩, sub_same nD0⟩ (fun j σ H' _ h => sq h.2) ?_ ?_
    · rintro j v σ H2 H3 hj ⟨⟨y2, y3, y4, D, rfl, xs, hv, tv⟩, s3⟩ ⟨T1, x0, y0, rfl, nT, rfl, ex, ey⟩
      obtain rfl := Option.some.inj ex
      obtain ⟨z, ez, rfl⟩ := int_at ey
      have s4 := s3.trans (sub_same (o := .tup [V.int (j : Nat), V.int z]) nT)
      have hv4 := sub_same (o := .tup [V.int (j : Nat), V.int z]) nT _ _ hv
      have tv4 := tv.same (sub_same (o := .tup [V.int (j : Nat), V.int z]) nT)
      have hT : upd H2 T1 (.tup [V.int (j : Nat), V.int z]) T1 = some (.tup [V.int (j : Nat), V.int z]) := upd_same
      revert s4 hv4 tv4 hT
      generalize upd H2 T1 (.tup [V.int (j : Nat), V.int z]) = H4
      intro s4 hv4 tv4 hT
      have z6 := S.2.1 z (List.mem_of_getElem? ez)
      have ez2 : ns.getD j 0 = z := by rw [List.getD_eq_getElem?_getD, ez]; rfl
      rw [List.length_map] at hj
      have b3 := S.1.2
      refine ⟨T1, _, rfl, .inl (.inl hT), rfl, _, _, rfl, _, _, rfl, rfl, ?_⟩
      refine ⟨_, rfl, _, rfl, by omega, by omega, ?_⟩
      refine for_range (lo := 0) (n := z.toNat) (fun k σ H' => (∃ y4 D, σ = [some (.ref a), some (.ref D), some (.int (j : Nat)), some (.int z), y4, none, none] ∧ ∃ xs, H' D = some (.lst xs) ∧ TvL K H' xs ((allQ ns j ++ blkQ (j : Nat) z k).map quadD)) ∧ Same H H') ⟨⟨_, D, rfl, xs, hv4, by rw [show blkQ (j : Nat) z 0 = [] from rfl, List.append_nil]; exact tv4⟩, s4⟩ ?_ ?_
      · rintro k σ H5 hk ⟨⟨y4, D, rfl, xs, hv, tv⟩, s5⟩
        have k0 : (0 : Int) + (k : Int) = k := by omega
        rw [k0]
        refine ⟨_, rfl, _, rfl, _, _, rfl, rfl, _, rfl, _, _, rfl, ⟨by omega, by omega, by omega, by omega⟩, fun D2 nD2 => ?_⟩
        have off : ∀ {Z : Hp} {o : HO}, Same H5 Z → Same H5 (upd Z D2 o) := fun sz b o h => by
          rw [upd_ne (ne_of_none h nD2)]
          exact sz b o h
        refine lc_range (lo := (k : Int) + 1) (n := (z - ((k : Int) + 1)).toNat) (fun c H' => Same H5 H' ∧ ∃ xs2, H' D2 = some (.lst xs2) ∧ TvL K H' xs2 ((rowQ (j : Nat) z k c).map quadD)) ⟨sub_same nD2, [], upd_same, .nil⟩ ?_ ?_
        · rintro c H6 hc ⟨s6, xs2, hv2, tv2⟩
          refine ⟨rfl, ?_⟩
          unfold tYes
          refine ite2 (fun _ => ?_) (fun q => absurd rfl q)
          refine ⟨_, rfl, _, rfl, _, _, rfl, rfl, _, rfl, _, rfl, _, rfl, (by show 4 ≤ sizeLine; decide), fun p np => ?_⟩
          have s7 := sub_same (o := .tup [V.int ((k : Int) + 1 + (c : Int) - (k : Int)), V.int (j : Nat), V.int (k : Int), V.int ((k : Int) + 1 + (c : Int))]) np
          refine ⟨xs2, s7 _ _ hv2, ?_, off (s6.trans s7), _, upd_same, ?_⟩
          · rw [tv2.len, List.length_map, rowQ_len]
            exact Nat.lt_of_lt_of_le (show c < 10 by omega) (by decide)
          rw [rowQ_succ, List.map_append]
          exact ((tv2.same s7).snoc (.tup (sqt_new upd_same) (.cons (.int _) (.cons (.int _) (.cons (.int _) (.cons (.int _) .nil)))))).put (s7 _ _ hv2)
        · rintro H6 ⟨s6, xs2, hv2, tv2⟩
          refine ⟨D, D2, xs, xs2, rfl, rfl, s6 _ _ hv, hv2, ?_, fun D3 nD3 => ?_⟩
          · rw [tv.len, tv2.len, List.length_map, List.length_map, List.length_append, rowQ_len]
            have b1 := allQ_len S.2.1 j
            have b2 := blkQ_len z6.2 (j : Nat) k
            exact Nat.le_trans (show _ ≤ 1000 by omega) (by decide)
          have s7 := sub_same (o := .lst (xs ++ xs2)) nD3
          have app : ∀ {Z : Hp} {us vs : List V} {ds es : List PyData}, TvL K Z us ds → TvL K Z vs es → TvL K Z (us ++ vs) (ds ++ es) := fun {Z us vs ds es} h g => by
            induction us generalizing ds with
            | nil => cases h; exact g
            | cons u us ih =>
              cases h with
              | cons a t => exact .cons a (ih t)
          refine ⟨⟨_, D3, rfl, xs ++ xs2, upd_same, ?_⟩, (s5.trans s6).trans s7⟩
          rw [blkQ_succ, ← List.append_assoc, List.map_append]
          exact app ((tv.same s6).same s7) (tv2.same s7)
      · rintro σ H5 ⟨⟨y4, D, rfl, xs, hv, tv⟩, s5⟩
        refine ⟨⟨_, _, _, D, rfl, xs, hv, ?_⟩, s5⟩
        rw [allQ_succ, ez2]
        exact tv
    · rintro σ H2 ⟨⟨y2, y3, y4, D, rfl, xs, hv, tv⟩, s2⟩
      rw [List.length_map] at tv
      obtain ⟨h1, h2, h3, h4, h5, _⟩ := tables ns (shp_mem S)
      have lx : xs.length < 64 := by
        rw [tv.len, List.length_map, ← h1.length_eq]
        exact h5
      refine ⟨_, rfl, D, xs, rfl, .inl (.inl hv), lx, fun x hx => ?_, fun ys p pm pw np => ?_⟩
      · obtain ⟨i, hi⟩ := List.getElem?_of_mem hx
        obtain ⟨d0, e0, t0⟩ := tv.get hi
        rw [List.getElem?_map] at e0
        obtain ⟨q0, eq, rfl⟩ := Option.map_eq_some_iff.mp e0
        exact ⟨_, quad_tup t0, rfl, fun m hm => h4 q0 (h1.mem_iff.mpr (List.mem_of_getElem? eq)) m hm⟩
      obtain ⟨qs, pq, tq⟩ := TvL.perm quadD pm.symm tv
      have eq : plQ ns = qs := uniq (fun q => TS.code 8 (quadI q)) (h1.trans pq.symm) h2 (quads_pair tq pw) h3
      subst eq
      have s3 := sub_same (o := .lst ys) np
      have hp : upd H2 p (.lst ys) p = some (.lst ys) := upd_same
      have tq3 := tq.same s3
      have s4 := s2.trans s3
      revert hp tq3 s4
      generalize upd H2 p (.lst ys) = H3
      intro hp tq3 s4
      refine ⟨p, rfl, ⟨_, .inl (.inl hp)⟩, fun D3 nD3 => ?_⟩
      have off : ∀ {Z : Hp} {o : HO}, Same H3 Z → Same H3 (upd Z D3 o) := fun sz b o h => by
        rw [upd_ne (ne_of_none h nD3)]
        exact sz b o h
      have ly := tq3.len
      rw [List.length_map] at ly
      have lp : (plQ ns).length = (pl ns).length := by unfold plQ; rw [List.length_map]
      refine lc_list (K := K) (a := p) (xs := ys) (fun i H' => Same H3 H' ∧ ∃ zs, H' D3 = some (.lst zs) ∧ TrL H' zs ((pl ns).take i)) ⟨sub_same nD3, [], upd_same, .nil⟩ (fun i H' _ h => .inl (.inl (h.1 _ _ hp))) ?_ ?_
      · rintro i x H4 hx ⟨s5, zs, hz, tz⟩
        obtain ⟨d0, e0, t0⟩ := tq3.get hx
        rw [List.getElem?_map] at e0
        obtain ⟨q0, eq0, rfl⟩ := Option.map_eq_some_iff.mp e0
        unfold plQ at eq0
        rw [List.getElem?_map] at eq0
        obtain ⟨t, et, rfl⟩ := Option.map_eq_some_iff.mp eq0
        obtain ⟨c, rfl, ec⟩ : ∃ c, x = .ref c ∧ SqT K H3 c [.int (t.2.2 - t.2.1), .int t.1, .int t.2.1, .int t.2.2] := by
          cases t0 with
          | tup e l =>
            have z : TvL K H3 _ ((quadI (t.2.2 - t.2.1, t.1, t.2.1, t.2.2)).map .int) := l
            rw [z.ints] at e
            exact ⟨_, rfl, e⟩
        refine ⟨c, _, rfl, sqt_same ec s5, rfl, _, _, rfl, _, _, rfl, _, _, rfl, _, _, rfl, rfl, rfl, ?_⟩
        unfold tYes
        refine ite2 (fun _ => ?_) (fun q => absurd rfl q)
        refine ⟨_, rfl, _, rfl, _, rfl, (by show 3 ≤ sizeLine; decide), fun r nr => ?_⟩
        have s6 := sub_same (o := .tup [V.int t.1, V.int t.2.1, V.int t.2.2]) nr
        refine ⟨zs, s6 _ _ hz, ?_, off (s5.trans s6), _, upd_same, ?_⟩
        · rw [tz.len, List.length_take]
          exact Nat.lt_of_lt_of_le (show _ < 64 by omega) (by decide)
        · have tk : (pl ns).take (i + 1) = (pl ns).take i ++ [t] := by rw [List.take_succ, et]; rfl
          rw [tk]
          exact ((tz.same s6).snoc upd_same).put (s6 _ _ hz)
      · rintro H4 ⟨s5, zs, hz, tz⟩
        rw [ly, lp, List.take_length] at tz
        exact q H4 D3 zs (s4.trans s5) (s4.free nD3) hz tz
end
end K07

/-! # whether a value is a place, by the law -/
namespace K07
open PySem PySem.Spec PyProof.Rows L2
mutual
theorem Tv.dp (K : PySem.W.Frag) {H : Hp} : ∀ {x : V} {d : PyData}, Tv K H x d → Dp K H x d
  | _, _, .non => .non
  | _, _, .bl b => .bl b
  | _, _, .int i => .int i
  | _, _, .str z => .str z
  | _, _, .tup e l => .tup e (l.dp K)
theorem TvL.dp (K : PySem.W.Frag) {H : Hp} : ∀ {xs : List V} {ds : List PyData}, TvL K H xs ds → DpAll K H xs ds
  | _, _, .nil => .nil
  | _, _, .cons h t => .cons (h.dp K) (t.dp K)
end
theorem tables2 : ∀ ns ∈ shapesL, SeqAt.shaped (.list ((pl ns).map triD)) = true ∧ (∀ t ∈ pl ns, isPl ns (triD t) = true) ∧ ((List.range 3).all fun b => (List.range 6).all fun i => (List.range 6).all fun j => !isPl ns (triD ((b : Nat), (i : Nat), (j : Nat))) || decide ((((b : Nat) : Int), ((i : Nat) : Int), ((j : Nat) : Int)) ∈ pl ns)) = true := by decide +kernel
theorem all_whole : ∀ {ds : List PyData}, ds.all isW = true → ∃ ms : List Int, ds = ms.map .int
  | [], _ => ⟨[], rfl⟩
  | d :: r, h => by
    rw [List.all_cons, Bool.and_eq_true] at h
    obtain ⟨ms, e⟩ := all_whole h.2
    cases d with
    | int n => exact ⟨n :: ms, by rw [e]; rfl⟩
    | _ => exact absurd h.1 Bool.false_ne_true
theorem isP3_ints {ns : List Int} {b i j : PyData} (h : isP3 ns b i j = true) : ∃ n k m : Int, b = .int n ∧ i = .int k ∧ j = .int m ∧ 0 ≤ n ∧ n < ns.length ∧ 0 ≤ k ∧ k < m ∧ 0 ≤ m ∧ m < ns.getD n.toNat 0 := by
  cases b with
  | int n =>
    have z : (btw (.int n) 0 ((ns.length : Int) - 1) && isP2 (ns.getD n.toNat 0) i j) = true := h
    rw [Bool.and_eq_true] at z
    obtain ⟨_, e, n0, n1⟩ := btw_int z.1
    cases e
    cases j with
    | int m =>
      have y : (btw (.int m) 0 (ns.getD n.toNat 0 - 1) && btw i 0 (m - 1)) = true := z.2
      rw [Bool.and_eq_true] at y
      obtain ⟨_, e, m0, m1⟩ := btw_int y.1
      cases e
      obtain ⟨k, rfl, k0, k1⟩ := btw_int y.2
      exact ⟨n, k, m, rfl, rfl, rfl, n0, by omega, k0, by omega, m0, by omega⟩
    | _ => exact absurd z.2 Bool.false_ne_true
  | _ => exact absurd h Bool.false_ne_true
theorem isPl_whole {ns : List Int} {ds : List PyData} (h : isPl ns (.tuple ds) = true) : ds.all isW = true := by
  match ds, h with
  | [b, i, j], h =>
    obtain ⟨n, k, m, rfl, rfl, rfl, _⟩ := isP3_ints (show isP3 ns b i j = true from h)
    rfl
  | [], h => exact absurd h Bool.false_ne_true
  | [_], h => exact absurd h Bool.false_ne_true
  | [_, _], h => exact absurd h Bool.false_ne_true
  | _ :: _ :: _ :: _ :: _, h => exact absurd h Bool.false_ne_true
theorem eqv_ints : ∀ {ms ks : List Int}, PyData.eqvAll (ms.map .int) (ks.map .int) = decide (ms = ks)
  | [], [] => rfl
  | [], _ :: _ => rfl
  | _ :: _, [] => rfl
  | m :: ms, k :: ks => by
    show ((m == k) && PyData.eqvAll (ms.map .int) (ks.map .int)) = decide (m :: ms = k :: ks)
    rw [eqv_ints, Bool.eq_iff_iff]
    simp
def triI (t : Tri) : List Int := [t.1, t.2.1, t.2.2]
theorem triI_inj {t u : Tri} (h : triI t = triI u) : t = u := by
  obtain ⟨a, b, c⟩ := t
  obtain ⟨d, e, f⟩ := u
  cases h
  rfl
theorem any_pl {ns : List Int} (S : Shp ns) (ms : List Int) : (((pl ns).map triD).any fun z => PyData.eqv z (.tuple (ms.map .int))) = isPl ns (.tuple (ms.map .int)) := by
  obtain ⟨_, t2, t3⟩ := tables2 ns (shp_mem S)
  have ev : ∀ t : Tri, PyData.eqv (triD t) (.tuple (ms.map .int)) = decide (triI t = ms) := fun t => by
    show PyData.eqvAll ((triI t).map .int) (ms.map .int) = _
    rw [eqv_ints]
  rw [Bool.eq_iff_iff, List.any_eq_true]
  constructor
  · rintro ⟨z, hz, e⟩
    obtain ⟨t, ht, rfl⟩ := List.mem_map.mp hz
    rw [ev] at e
    have e' := of_decide_eq_true e
    have y := t2 t ht
    rw [← e']
    exact y
  · intro h
    obtain ⟨n, k, m, e⟩ : ∃ n k m, ms = [n, k, m] := by
      match ms, h with
      | [n, k, m], _ => exact ⟨n, k, m, rfl⟩
      | [], h => exact absurd h Bool.false_ne_true
      | [_], h => exact absurd h Bool.false_ne_true
      | [_, _], h => exact absurd h Bool.false_ne_true
      | _ :: _ :: _ :: _ :: _, h => exact absurd h Bool.false_ne_true
    subst e
    obtain ⟨_, _, _, e1, e2, e3, n0, n1, k0, k1, m0, m1⟩ := isP3_ints (show isP3 ns (.int n) (.int k) (.int m) = true from h)
    cases e1
    cases e2
    cases e3
    have l3 := S.1.2
    have g6 : ns.getD n.toNat 0 ≤ 6 := by
      rw [List.getD_eq_getElem?_getD]
      cases e : ns[n.toNat]? with
      | none => show (0 : Int) ≤ 6; decide
      | some n => exact (S.2.1 n (List.mem_of_getElem? e)).2
    obtain ⟨n, rfl⟩ : ∃ c : Nat, n = (c : Int) := ⟨n.toNat, by omega⟩
    obtain ⟨k, rfl⟩ : ∃ c : Nat, k = (c : Int) := ⟨k.toNat, by omega⟩
    obtain ⟨m, rfl⟩ : ∃ c : Nat, m = (c : Int) := ⟨m.toNat, by omega⟩
    have y0 := List.all_eq_true.mp (List.all_eq_true.mp (List.all_eq_true.mp t3 n (List.mem_range.mpr (by omega))) k (List.mem_range.mpr (by omega))) m (List.mem_range.mpr (by omega))
    have hh : isPl ns (triD ((n : Nat), (k : Nat), (m : Nat))) = true := h
    rw [hh, Bool.not_true, Bool.false_or] at y0
    have y := of_decide_eq_true y0
    exact ⟨_, List.mem_map.mpr ⟨_, y, rfl⟩, by rw [ev]; exact decide_eq_true rfl⟩
theorem call_isiK {X : Cx} {K : PySem.W.Frag} (h : X.K = K) : CallR X (.builtin "isinstance") (rIsi K) := by
  subst h
  exact call_isi
section
variable {P : Program} {w : World} {K : PySem.W.Frag} {mg : Str → Option Value} {base : Heap}
end
end K07

/-! # a value near a place -/
namespace K07
open PySem PySem.Spec PyProof.Rows L2
/-- fit for the comparison -/
def Fit (d : PyData) : Prop := ∀ ds, d = .tuple ds → PyData.canLayAll0 ds = true ∧ PyData.depthAll ds ≤ 2 ∧ ds.length ≤ 10
theorem Dw.oldR {K : PySem.W.Frag} {H H' : Hp} {u : Addr} {x : V} {d : PyData} (hu : Urn H u) (o : Old u H H') (h : Dw K H x d) (n : x ≠ .ref u) : Dw K H' x d := by
  cases h with
  | tv t => exact .tv (t.old hu o)
  | lst e => exact .lst (o _ _ (fun z => n (by rw [z])) e)
  | dic e => exact .dic (o _ _ (fun z => n (by rw [z])) e)
/-! ### what an expression lays where J stands -/
structure DnL (K : PySem.W.Frag) (u : Addr) (H : Hp) (xs : List V) (ds : List PyData) : Prop where
  d : DwL K H xs ds
  n : ∀ x ∈ xs, x ≠ .ref u
def LJ (K : PySem.W.Frag) (J : Hp → Prop) (u : Addr) (σ : L2.St) (t : TE) (d : PyData) : Prop := ∀ (H : Hp) (Q : VK), J H → (∀ x H', Same H H' → Dw K H' x d → x ≠ .ref u → Q x H') → t σ H Q
def LJA (K : PySem.W.Frag) (J : Hp → Prop) (u : Addr) (σ : L2.St) (t : TA) (ds : List PyData) : Prop := ∀ (H : Hp) (Q : List V → Hp → Prop), J H → (∀ xs H', Same H H' → DnL K u H' xs ds → Q xs H') → t σ H Q
theorem LJA.nil {K : PySem.W.Frag} {J : Hp → Prop} {u : Addr} {σ : L2.St} : LJA K J u σ tNil [] := fun H Q _ q => q _ _ (Same.refl H) ⟨.nil, fun x h => by cases h⟩
theorem LJA.cons {K : PySem.W.Frag} {J : Hp → Prop} (st : ∀ {H H' : Hp}, Same H H' → J H → J H') {u : Addr} {σ : L2.St} {t : TE} {ts : TA} {d : PyData} {ds : List PyData} (h : LJ K J u σ t d) (hs : LJA K J u σ ts ds) : LJA K J u σ (tCons t ts) (d :: ds) := fun H Q j q =>
  h H _ j fun x H1 s1 t1 n1 => hs H1 _ (st s1 j) fun xs H2 s2 t2 => q (x :: xs) H2 (s1.trans s2) ⟨.cons (t1.same s2) t2.d, fun y hy => (List.mem_cons.mp hy).elim (fun e => by rw [e]; exact n1) (t2.n y)⟩
theorem lay_lstJ {K : PySem.W.Frag} {J : Hp → Prop} {u : Addr} {σ : L2.St} {ts : TA} {ds : List PyData} (hs : LJA K J u σ ts ds) (l : ds.length ≤ 100) {H : Hp} {Q : VK} (j : J H) (q : ∀ xs H1 b, Same H H1 → H1 b = none → DnL K u H1 xs ds → Q (.ref b) (upd H1 b (.lst xs))) : tLst ts σ H Q :=
  hs H _ j fun xs H1 s1 t1 => ⟨by rw [t1.d.len]; exact Nat.le_trans l (by decide), fun b nb => q xs H1 b s1 nb t1⟩
theorem DwL.at {K : PySem.W.Frag} {H : Hp} : ∀ {xs : List V} {ds : List PyData} {i : Nat} {x : V}, DwL K H xs ds → xs[i]? = some x → ∃ d, ds[i]? = some d ∧ Dw K H x d
  | _, _, _, _, .nil, h => by simp at h
  | _, _, 0, _, .cons a _, h => by
    rw [List.getElem?_cons_zero] at h
    obtain rfl := Option.some.inj h
    exact ⟨_, rfl, a⟩
  | _, _, i + 1, _, .cons _ t, h => by
    rw [List.getElem?_cons_succ] at h
    exact t.at h
theorem TvL.set {K : PySem.W.Frag} {H : Hp} : ∀ {xs : List V} {ds : List PyData} {x : V} {d : PyData} (k : Nat), TvL K H xs ds → Tv K H x d → TvL K H (xs.set k x) (ds.set k d)
  | _, _, _, _, _, .nil, _ => .nil
  | _, _, _, _, 0, .cons _ t, h => .cons h t
  | _, _, _, _, k + 1, .cons a t, h => .cons a (t.set k h)
end K07

/-! # dict comprehensions whose keys are tuples -/
namespace K07
open PySem PySem.Spec PyProof.Rows L2
variable {X : Cx}
theorem dset_tup {pins : List (Addr × Obj)} {σ : L2.St} {H : Hp} {s : Shared} {E : Value → Shared → Prop} {D b : Addr} {ps : List (List L2.Key × V)} {k : List L2.Key} {v : V} {r : Value} {Q : Unit → Shared → Prop} (hu : X.A.units + 1 < cLine) (I : Inv X pins σ H s) (eD : H D = some (.dT ps))
    (eb : H b = some (.tup (k.map kV))) (l : ps.length < sizeLine) (rv : RelV v r) (q : ∀ s', Inv X pins σ (upd H D (.dT (putK ps k v))) s' → Q () s') : wpAny (model X.prog X.w) X.A (dictSet D (.ref b) r) Q E s := by
  obtain ⟨z, sm, xs, pr, dd⟩ := dt_of I.hok eD
  have zx : xs.length ≤ sizeLine := by rw [← Paired.length pr]; exact z
  refine wpAny_dictSet_heap (by show X.A.units < cLine; omega) (key_of I.hok eb) dd (fun h' new sb => ?_) zx
  obtain ⟨o, es, ep, n1, n2, n3, n4, n5, n6⟩ := new
  have zl := length_putK ps k v
  have pk : KT (upd H D (.dT (putK ps k v))) (putK ps k v) _ := (pr.put k eb rv).keeps fun c ys ec => by
    rw [upd_ne (fun e => by rw [e, eD] at ec; cases ec)]
    exact ec
  exact q _ (d_write I (by rw [eD]; trivial) sb ⟨o, n1⟩ ⟨by omega, sm, _, pk, o, es, ep, n1, n2, n3, n4, n6⟩)
/-- {k: v for target in iter if ..}, the keys tuples: D the new dict -/
def tDcT (wi : TI) (g : TG) (tt : TT) (tk tv : TE) (vs : List Nat) : TE := fun σ H Q => wi σ H fun J H1 => ∀ D, H1 D = none → ∃ W : Nat → Nat → Hp → Prop, (∃ m, W 0 m (upd H1 D (.dT []))) ∧ ∀ i m G, W i m G →
  (J.stop i G ∧ Q (.ref D) G) ∨ (J.go i G ∧ ∃ Nx : Hp → Prop, (∀ G', Nx G' → ∃ m', m' < m ∧ W (i + 1) m' G') ∧ ∀ x G', J.yld i G x G' → g x (wipe σ vs) G' fun σ2 G2 => wipe σ2 vs = wipe σ vs ∧ tt σ2 G2 fun c G3 =>
    if c = true then tk σ2 G3 fun y G4 => tv σ2 G4 fun z G5 => ∃ ps k b, y = .ref b ∧ G5 b = some (.tup (k.map kV)) ∧ G5 D = some (.dT ps) ∧ ps.length < sizeLine ∧ Nx (upd G5 D (.dT (putK ps k z))) else Nx G3)
theorem pe_dcT {kx vx tg l : Expr} {ifs : List Expr} {scope : Scope} {own : List (Str × Nat)} {pos : Pos} {wi : TI} {g : TG} {tt : TT} {tk tv : TE} (calm : X.calm = true) (un : X.A.units + 1 < cLine) (nd : X.N.Nodup) (src : PI X tg l wi) (bo : BlkOk X.N X.env.scope scope own)
    (tgt : ∀ (s : Shared) (H : Hp) (C : Addr) (cl : List (Str × Addr)) (fp : List Addr), PG (X.blk s H scope (compEnvC scope cl C X.env) fp) tg g)
    (tst : ∀ (s : Shared) (H : Hp) (C : Addr) (cl : List (Str × Addr)) (fp : List Addr), PTs (X.blk s H scope (compEnvC scope cl C X.env) fp) ifs tt)
    (key : ∀ (s : Shared) (H : Hp) (C : Addr) (cl : List (Str × Addr)) (fp : List Addr), PE (X.blk s H scope (compEnvC scope cl C X.env) fp) kx tk)
    (itm : ∀ (s : Shared) (H : Hp) (C : Addr) (cl : List (Str × Addr)) (fp : List Addr), PE (X.blk s H scope (compEnvC scope cl C X.env) fp) vx tv) (fs : ∀ x, foldedSetIterable l X.env x = pure x := by intro _; rfl) :
    PE X (.DictComp kx vx [⟨tg, l, ifs, 0⟩] scope pos) (tDcT wi g tt tk tv (own.map (·.2))) := by
  constructor
  intro pins s σ H Q I h
  rw [arm_eval_DictComp]
  have clo : ∀ y ∈ scope.names, y.2 = .free → ∃ c, X.env.cells.lookup y.1 = some c := fun y m e => (bo.free y m e).elim (fun k => I.ok.has _ (.inl k)) fun k => I.ok.has _ (.inr k)
  refine wpAny_comprehension_free (use := none) rfl fs (closure_ok clo) bo.kind (fun y m e => by rw [bo.uniq y m, e]) ?_
  refine thn (src.run pins s σ H _ I h) fun v1 s1 hv => thn hv fun v2 s2 w2 => ?_
  obtain ⟨it, fp, tn, J, H1, rfl, I2, T, ton, off, more⟩ := w2
  -- the new dict
  generalize hD : s2.heap.objs.size = D
  have freeD : H1 D = none := I2.hok.fresh (Nat.le_of_eq hD)
  obtain ⟨W, ⟨m0, w0⟩, turn⟩ := more D freeD
  have J0 : Inv X pins σ (upd H1 D (.dT [])) { s2 with heap := s2.heap.push { cls := .type "dict", data := .dict #[] } } :=
    I2.laid (t' := s2.toks) (fun b o e => Heap.get?_push_of_some _ e) (Nat.le_of_eq hD) (by rw [← hD]; exact dt_empty s2.heap I2.big)
  have low : ∀ b ∈ fp, b < s2.heap.objs.size := fun b m => by
    obtain ⟨_, e, _⟩ := T.obj _ _ ton b m
    exact Heap.lt_size e
  have ton0 : tn 0 ({ s2 with heap := s2.heap.push { cls := .type "dict", data := .dict #[] } } : Shared).heap := T.keep _ _ _ ton fun b _ o e => Heap.get?_push_of_some _ e
  have okB : ∀ b ∈ fp, FpOk X pins (upd H1 D (.dT [])) b ∧ b < ({ s2 with heap := s2.heap.push { cls := .type "dict", data := .dict #[] } } : Shared).heap.objs.size := fun b m =>
    ⟨⟨(upd_ne (by rw [← hD]; exact Nat.ne_of_lt (low b m))).trans (off b m).1, (off b m).2⟩, Nat.lt_of_lt_of_le (low b m) (by show _ ≤ (s2.heap.push _).objs.size; rw [Heap.size_push]; exact Nat.le_succ _)⟩
  refine wpAny_newObj_type (newEnv_comp ?_)
  rw [hD]
  generalize hs3 : ({ s2 with heap := s2.heap.push { cls := .type "dict", data := .dict #[] } } : Shared) = s3 at J0 ton0 okB
  have B0 := block_start J0 bo nd okB
  have gT := tgt s3 (upd H1 D (.dT [])) s3.heap.objs.size (cellsFrom (s3.heap.objs.size + 1) scope.names (cloFrom X.env.cells scope.names [])) fp
  have gC := tst s3 (upd H1 D (.dT [])) s3.heap.objs.size (cellsFrom (s3.heap.objs.size + 1) scope.names (cloFrom X.env.cells scope.names [])) fp
  have gK := key s3 (upd H1 D (.dT [])) s3.heap.objs.size (cellsFrom (s3.heap.objs.size + 1) scope.names (cloFrom X.env.cells scope.names [])) fp
  have gI := itm s3 (upd H1 D (.dT [])) s3.heap.objs.size (cellsFrom (s3.heap.objs.size + 1) scope.names (cloFrom X.env.cells scope.names [])) fp
  change codeAny _ _ (.compStart (.DictComp kx vx [⟨tg, l, ifs, 0⟩] scope pos) 0 (.ref it) (.ref D) (compEnvC scope (cellsFrom (s3.heap.objs.size + 1) scope.names (cloFrom X.env.cells scope.names [])) s3.heap.objs.size X.env)) (compPost (model X.prog X.w) X.A X.xe none (EP X pins σ Q) (.ref D) s3.heap.objs.size) { s3 with heap := pushCells (s3.heap.push { cls := .type "dict", data := .dict #[] }) scope.names }
  have loc0 : (compEnvC scope (cellsFrom (s3.heap.objs.size + 1) scope.names (cloFrom X.env.cells scope.names [])) s3.heap.objs.size X.env).locals = s3.heap.objs.size := rfl
  generalize compEnvC scope (cellsFrom (s3.heap.objs.size + 1) scope.names (cloFrom X.env.cells scope.names [])) s3.heap.objs.size X.env = ce at B0 gT gC gK gI loc0 ⊢
  have ton4 : tn 0 (pushCells (s3.heap.push { cls := .type "dict", data := .dict #[] }) scope.names) := T.keep _ _ _ ton0 fun b _ o e => pushCells_keeps _ _ _ _ (Heap.get?_push_of_some _ e)
  generalize hs4 : ({ s3 with heap := pushCells (s3.heap.push { cls := .type "dict", data := .dict #[] }) scope.names } : Shared) = s4 at B0 ⊢
  have ton4' : tn 0 s4.heap := by rw [← hs4]; exact ton4
  have out : ∀ b ∈ fp, upd H1 D (.dT []) b = none := fun b m => (okB b m).1.1
  generalize upd H1 D (.dT []) = H3 at *
  have stays : ∀ {τ : L2.St} {G : Hp} {t : Shared}, Inv (X.blk s3 H3 scope ce fp) [] τ G t → (∀ b ∈ fp, G b = none) → ∀ b ∈ fp, FpOk (X.blk s3 H3 scope ce fp) [] G b := fun {τ G t} J e b m =>
    ⟨e b m, (J.ok.exf b m).1, J.ok.exfs b m, .inl m, (J.ok.exf b m).2, fun p hp => by cases hp⟩
  have loop : codeAny (model X.prog X.w) X.A (.compLoop (.DictComp kx vx [⟨tg, l, ifs, 0⟩] scope pos) 0 (.ref it) (.ref D) ce) (compPost (model X.prog X.w) X.A X.xe none (EP X pins σ Q) (.ref D) s3.heap.objs.size) s4 := by
    refine compLoop_anyD (fun n t => ∃ i G, Inv (X.blk s3 H3 scope ce fp) [] (wipe σ (own.map (·.2))) G t ∧ tn i t.heap ∧ (∀ b ∈ fp, G b = none) ∧ W i n G) ?_ m0 ⟨0, H3, B0, ton4', out, w0⟩
    rintro n t ⟨i, G, K, kt, kn, kw⟩
    rcases turn i n G kw with ⟨stop, done⟩ | ⟨go, Nx, nx, step⟩
    · refine thnF (T.done (X.blk s3 H3 scope ce fp) rfl rfl rfl calm i [] t _ G (fun _ _ => False) K (stays K kn) kt stop) fun r t1 ⟨er, K1⟩ => ?_
      subst er
      have J2 : Inv X pins σ G t1 := J0.call' (ch := fp) K1.os K1.base K1.hok K1.bare fun b m => by
        obtain ⟨⟨_, o1, o2, o3, o4, o5⟩, _⟩ := okB b m
        exact ⟨o3, o1, o4, o5⟩
      have nC : G s3.heap.objs.size = none := by
        rw [← loc0]
        exact K1.free
      obtain ⟨mm, ns, _⟩ := K1.loc
      refine ⟨mm, by rw [← loc0]; exact ns, fun h2 sb => ?_⟩
      obtain ⟨d0, d1, d2, d3, d4, d5⟩ := J0.fpOk (Nat.le_refl _) nC
      exact ⟨.ref D, G, J2.turned (t' := t1.toks) (fun b o ne e => (sb.2 b ne).trans e) d0 d1 d3 d4 d5, rfl, done⟩
    · refine thnF (T.item (X.blk s3 H3 scope ce fp) rfl rfl rfl calm i [] t _ G (fun _ _ => False) K (stays K kn) kt go) fun r t1 ⟨u, er, w1⟩ => ?_
      subst er
      refine thnF w1 fun _ t2 ⟨x, G2, K2, ru, yl, kt2, kn2⟩ => ?_
      have st := step x G2 yl
      refine thnF (gT.run _ t2 _ G2 x u _ (K2.pinned (stays K2 kn2) (T.obj _ _ kt2)) ru st) fun _ t3 ⟨σ3, G3, K3, hw, q3⟩ => ?_
      refine thnF (gC.run _ t3 σ3 G3 _ K3 q3) fun c t4 ⟨G4, K4, q4⟩ => ?_
      have again : ∀ {r : Shared} {G' : Hp}, Inv (X.blk s3 H3 scope ce fp) ([] ++ pinsAt fp t2.heap) σ3 G' r → Nx G' → ∃ m, m < n ∧ ∃ i G, Inv (X.blk s3 H3 scope ce fp) [] (wipe σ (own.map (·.2))) G r ∧ tn i r.heap ∧ (∀ b ∈ fp, G b = none) ∧ W i m G := fun {r G'} R x => by
        obtain ⟨m', lt, w'⟩ := nx G' x
        have pi : ∀ b ∈ fp, ∀ o, t2.heap.get? b = some o → r.heap.get? b = some o ∧ G' b = none := fun b m o e => by
          have y := R.pin (b, o) (List.mem_append_right _ (List.mem_append_right _ (mem_pinsAt m e)))
          exact ⟨y.1, y.2.1⟩
        have same : (wipe σ (own.map (·.2))).length = σ3.length := by rw [← hw, wipe_length]
        refine ⟨m', lt, i + 1, G', (R.unpinned (pins := [])).weak same (fun j v e => ?_), T.keep _ _ _ kt2 fun b m o e => (pi b m o e).1, fun b m => ?_, w'⟩
        · rw [← hw] at e
          exact (wipe_some e).1
        · obtain ⟨o, e, _⟩ := T.obj _ _ kt2 b m
          exact (pi b m o e).2
      cases c with
      | false =>
        rw [if_neg (by decide)] at q4 ⊢
        exact again K4 q4
      | true =>
        rw [if_pos rfl] at q4 ⊢
        refine thnF (gK.run _ t4 σ3 G4 _ K4 q4) fun y t5 ⟨yk, G5, K5, rk, q5⟩ => ?_
        refine thnF (gI.run _ t5 σ3 G5 _ K5 q5) fun z t6 ⟨zv, G6, K6, rz, ps, k, b, a1, a2, a3, a4, a5⟩ => ?_
        subst a1
        obtain rfl : y = Value.ref b := rk
        exact dset_tup (X := X.blk s3 H3 scope ce fp) un K6 a3 a2 a4 rz fun t7 K7 => again K7 a5
  exact codeAny_compStart_dict loop (T.self X.A 0 _ _ _ ton4' loop)
end K07

/-! # the pairs of a dict whose keys are tuples -/
namespace K07
open PySem PySem.Spec PyProof.Rows L2
variable {X : Cx} {pins : List (Addr × Obj)} {σ : L2.St} {H : Hp} {s : Shared}
theorem frz_pairs {d : Addr} {o : Obj} {ps : List (List L2.Key × V)} (I : Inv X pins σ H s) (e : H d = some (.frz o (.dT ps))) :
    (d == sysModules) = false ∧ s.heap.get? d = some o ∧ o.ExactDict ∧ ∃ (es : Array DictEntry) (ep : Nat), o.data = .dict es ep ∧ es.size = ps.length ∧
      ∀ (i : Nat) (k : List L2.Key) (v : V) (li : i < es.size), ps[i]? = some (k, v) → ∃ q : Addr, es[i].key = .ref q ∧ H q = some (.tup (k.map kV)) ∧ RelV v es[i].val := by
  obtain ⟨ob, z, sm, xs, pr, o2, es, ep, h1, h2, h3, h4, _⟩ := I.hok d _ e
  obtain rfl : o2 = o := Option.some.inj (h1.symm.trans ob)
  have n1 : es.size = xs.length := size_of_entries h4
  have n2 : ps.length = xs.length := Paired.length pr
  refine ⟨sm, ob, h2, es, ep, h3, by omega, fun i k v li ek => ?_⟩
  obtain ⟨b, hb, e1, e2, e3⟩ := paired_get pr ek
  have y := entry_at h4 i
  rw [hb, Array.getElem?_eq_getElem li] at y
  have w := Option.some.inj y
  exact ⟨b.2.1, by rw [w]; rfl, e2, by rw [w]; exact e3⟩
/-- the pairs, each a new tuple -/
def ItiT (d : Addr) (o : Obj) (ps : List (List L2.Key × V)) : It :=
  ⟨fun i H => H d = some (.frz o (.dT ps)) ∧ i < ps.length, fun i H x H' => ∃ (T q : Addr) (k : List L2.Key) (v : V), ps[i]? = some (k, v) ∧ H q = some (.tup (k.map kV)) ∧ x = .ref T ∧ H T = none ∧ H' = upd H T (.tup [.ref q, v]), fun i H => H d = some (.frz o (.dT ps)) ∧ ps.length ≤ i⟩
theorem turn_itemsT {P : Program} {w : World} {K : PySem.W.Frag} {ps : List (List L2.Key × V)} {elts : List Expr} {kk : Nat} {tpos : Pos} {d : Addr} {o : Obj} {es : Array DictEntry} {ep : Nat} (it : Addr) (od : o.data = .dict es ep) :
    Turn P w K (.Tuple elts kk tpos) (ItiT d o ps) [it] it (fun i h => ∃ a b, IsItemIter h it d i ps.length ep a b) where
  mem := List.mem_singleton.mpr rfl
  obj := fun i h st b m => by
    rw [List.mem_singleton.mp m]
    obtain ⟨_, _, e⟩ := st
    exact ⟨_, e, fun v z => nomatch z⟩
  keep := fun i h h' st k => by
    obtain ⟨a, b, e⟩ := st
    exact ⟨a, b, k it (List.mem_singleton.mpr rfl) _ e⟩
  item := by
    intro X e1 e2 e3 hc i pins s σ H E I hf st go
    subst e1 e2 e3
    obtain ⟨hd, li⟩ := go
    obtain ⟨sm, ob, ox, es2, ep2, dat, n, all⟩ := frz_pairs I hd
    obtain ⟨rfl, rfl⟩ := dict_ep od dat
    obtain ⟨a, b, hi⟩ := st
    rw [← n] at hi li
    obtain ⟨⟨k, v⟩, ek⟩ : ∃ p, ps[i]? = some p := ⟨ps[i], List.getElem?_eq_getElem (by omega)⟩
    obtain ⟨q, k1, k2, k3⟩ := all i k v li ek
    have low : it < s.heap.objs.size := Heap.lt_size hi
    refine DT.nextI hi ⟨o, ob, ox, od⟩ li fun h' out hT _ hk => ?_
    refine ⟨_, rfl, wpAny_letOwnedTupleGo_items (s := { s with heap := h' }) out fun h2 in2 sb => ?_⟩
    have T2 : h2.get? s.heap.objs.size = some { cls := .type "tuple", data := .seq #[es2[i].key, es2[i].val] } := (sb.2 _ (Nat.ne_of_gt low)).trans hT
    have new : ObjOk X.prog X.w (upd H s.heap.objs.size (.tup [.ref q, v])) h2 s.heap.objs.size (.tup [.ref q, v]) :=
      ⟨by show 2 ≤ sizeLine; decide, [es2[i].key, es2[i].val], .cons k1 (.cons k3 .nil), ⟨_, T2, rfl, _, rfl⟩⟩
    have J : Inv X pins σ (upd H s.heap.objs.size (.tup [.ref q, v])) { s with heap := h2 } :=
      I.turnedNew (t' := s.toks) (ch := [it]) (fun c ob hb e => (sb.2 c (fun z => hb (by rw [z]; exact List.mem_singleton.mpr rfl))).trans (hk c ob (fun z => hb (by rw [z]; exact List.mem_singleton.mpr rfl)) e)) hf (Nat.le_refl _) new
    refine ⟨.ref s.heap.objs.size, _, J, rfl, ⟨_, q, k, v, ek, k2, rfl, I.hok.fresh (Nat.le_refl _), rfl⟩, ⟨es2[i].key, es2[i].val, ?_⟩, fun c m => ?_⟩
    · rw [← n]; exact in2
    · rw [List.mem_singleton.mp m, upd_ne (Nat.ne_of_lt low)]
      exact (hf it (List.mem_singleton.mpr rfl)).1
  done := by
    intro X e1 e2 e3 hc i pins s σ H E I hf st go
    subst e1 e2 e3
    obtain ⟨hd, li⟩ := go
    obtain ⟨sm, ob, ox, es2, ep2, dat, n, _⟩ := frz_pairs I hd
    obtain ⟨rfl, rfl⟩ := dict_ep od dat
    obtain ⟨f0, f1, f2, f3, f4, f5⟩ := hf it (List.mem_singleton.mpr rfl)
    obtain ⟨a, b, hi⟩ := st
    rw [← n] at hi li
    exact DT.endI (I.ok.hd hc) hi ⟨o, ob, ox, od⟩ li fun h' eb => ⟨rfl, I.turned (t' := s.toks) (fun c o2 ne e => eb c o2 ne e) f0 f1 f3 f4 f5⟩
  self := fun A i s Q E st h => by
    obtain ⟨_, _, e⟩ := st
    exact PySem.W.kcp_self e h
/-- d.items(), d locked -/
def iItemsT (td : TE) : TI := fun σ H R => td σ H fun x H1 => ∃ d o ps, x = .ref d ∧ H1 d = some (.frz o (.dT ps)) ∧ R (ItiT d o ps) H1
theorem pi_itemsT {e : Expr} {td : TE} {apos cpos tpos : Pos} {elts : List Expr} {kk : Nat} (src : PE X e td) (base : attributeBase e "items" X.env (eval e X.env) = eval e X.env := by rfl) (line : (apos.endLine == cpos.line) = true := by rfl) :
    PI X (.Tuple elts kk tpos) (.Call (.Attribute e "items" apos) [] [] cpos) (iItemsT td) := by
  constructor
  intro pins s σ H R I h
  refine wpAny_Call_method (T := "dict") (id := "dict.items") base rfl line F.plainAttrs_dict F.slot_dict_items F.type_dict_items (thn (src.run pins s σ H _ I h) fun u s1 w1 => ?_)
  obtain ⟨x, H1, I1, rx, d, o, ps, rfl, hd, q⟩ := w1
  obtain rfl : u = Value.ref d := rx
  obtain ⟨sm, ob, ox, es, ep, dat, n, _⟩ := frz_pairs I1 hd
  have raw : DT.Raw s1.heap d es ep := ⟨o, ob, ox, dat⟩
  refine ⟨raw.typeIs, fun b z => ?_, ?_⟩
  · cases z
    exact ⟨o, ob, ox.2.1⟩
  · have I2 : Inv X pins σ H1 { s1 with heap := s1.heap.push { cls := .type "dict_items", data := .fields #[.ref d] } } := I1.kept (t' := s1.toks) fun b ob q => Heap.get?_push_of_some _ q
    show wpAny _ _ (callWith cpos (.builtin "dict.items") [.ref d] [] []) _ X.xe s1
    refine method_meetsIn F.slot_dict_items F.entry_dict_items rfl (PySem.evalArgs_none ⟨rfl, raw.typeIs, F.args_dict_items_1 _, _, DT.meetsItems (es := es) (ep := ep) sm, raw, ?_⟩)
    refine DT.iterI (d := d) (es := es) (ep := ep) ⟨_, Heap.get?_push_size _ rfl, rfl, rfl⟩ (raw.push _) (pi_one (tk := s1.toks) I2 _ (turn_itemsT _ dat) ⟨.none, .none, ?_⟩ q)
    rw [← n]
    exact Heap.get?_push_size _ rfl
/-- all of them -/
theorem walk_itemsT {K : PySem.W.Frag} {d : Addr} {o : Obj} {ps : List (List L2.Key × V)} {J : Nat → Hp → Prop} {i : Nat} {H : Hp} (e : H d = some (.frz o (.dT ps))) (l : i < ps.length) : (ItiT d o ps).go i H := ⟨e, l⟩
end K07

/-! # dict(pairs), the keys tuples -/
namespace K07
open PySem PySem.Spec PyProof.Rows L2
def putAll (acc : List (List L2.Key × V)) (ps : List (List L2.Key × V)) : List (List L2.Key × V) := ps.foldl (fun a p => putK a p.1 p.2) acc
theorem putAll_len : ∀ (ps acc : List (List L2.Key × V)), (putAll acc ps).length ≤ acc.length + ps.length
  | [], acc => Nat.le_refl _
  | p :: ps, acc => by
    have h1 := putAll_len ps (putK acc p.1 p.2)
    have h2 := length_putK acc p.1 p.2
    show (putAll (putK acc p.1 p.2) ps).length ≤ acc.length + (ps.length + 1)
    omega
theorem putAll_new : ∀ (ps acc : List (List L2.Key × V)), ((acc ++ ps).map (·.1)).Nodup → putAll acc ps = acc ++ ps
  | [], acc, _ => (List.append_nil acc).symm
  | p :: ps, acc, n => by
    have e : valV acc p.1 = none := by
      cases q : valV acc p.1 with
      | none => rfl
      | some v =>
        exfalso
        have m : p.1 ∈ acc.map (·.1) := by
          have y := valV_any p.1 acc
          rw [q] at y
          obtain ⟨z, z1, z2⟩ := List.any_eq_true.mp y
          exact List.mem_map.mpr ⟨z, z1, of_decide_eq_true z2⟩
        rw [List.map_append, List.nodup_append] at n
        exact n.2.2 p.1 m p.1 (List.mem_map.mpr ⟨p, List.mem_cons_self, rfl⟩) rfl
    have r : acc ++ p :: ps = (acc ++ [(p.1, p.2)]) ++ ps := by rw [List.append_assoc]; rfl
    show putAll (putK acc p.1 p.2) ps = _
    rw [putK_new p.2 e, r]
    exact putAll_new ps _ (by rw [← r]; exact n)
theorem kt_all {H : Hp} : ∀ {ps : List (List L2.Key × V)} {zs : List (List L2.Key × Addr × Value)} {acc : List (List L2.Key × V)} {ys : List (List L2.Key × Addr × Value)}, KT H ps zs → KT H acc ys → KT H (putAll acc ps) (storedAllH ys zs)
  | _, _, _, _, .nil, k => k
  | _, _, _, _, .cons (a := p) (b := z) h t, k => by
    obtain ⟨h1, h2, h3⟩ := h
    refine kt_all t (acc := putK _ p.1 p.2) (ys := storedH _ z.1 z.2.1 z.2.2) ?_
    rw [← h1]
    exact k.put p.1 h2 h3
section
variable {X : Cx} {pins : List (Addr × Obj)} {σ : L2.St} {H : Hp} {s : Shared}
/-- the pair at t: a key's tuple and a value -/
def PrT (H : Hp) (t : Addr) (p : List L2.Key × V) : Prop := ∃ q, H t = some (.tup [.ref q, p.2]) ∧ H q = some (.tup (p.1.map kV))
theorem pairs_tup (I : Inv X pins σ H s) : ∀ {ts : List Addr} {ps : List (List L2.Key × V)}, Paired (PrT H) ts ps → ∃ zs : List (List L2.Key × Addr × Value), KT H ps zs ∧ ts.length = zs.length ∧
    ∀ (j : Nat) (z : List L2.Key × Addr × Value), zs[j]? = some z → ∃ t, ts[j]? = some t ∧ s.heap.IsTuple t #[.ref z.2.1, z.2.2]
  | _, _, .nil => ⟨[], .nil, rfl, fun j z e => by simp at e⟩
  | _, _, .cons (a := t) (b := p) h r => by
    obtain ⟨zs, k, n, all⟩ := pairs_tup I r
    obtain ⟨q, h1, h2⟩ := h
    obtain ⟨its, rv, p', _⟩ := I.tuple (.inl (.inl h1))
    obtain ⟨u1, u2, rfl, r1, r2⟩ := vals2 rv
    obtain rfl : u1 = Value.ref q := r1
    refine ⟨(p.1, q, u2) :: zs, .cons ⟨rfl, h2, r2⟩ k, by simp [n], fun j z e => ?_⟩
    cases j with
    | zero =>
      obtain rfl := Option.some.inj e
      exact ⟨t, rfl, p'⟩
    | succ j => exact all j z e
def rDictT (K : PySem.W.Frag) : List V → Hp → VK → Prop := fun vs H Q => ∃ (a : Addr) (ts : List Addr) (ps : List (List L2.Key × V)), vs = [.ref a] ∧ SqL K H a (ts.map V.ref) ∧ Paired (PrT H) ts ps ∧
  ∀ p, H p = none → Q (.ref p) (upd H p (.dT (putAll [] ps)))
theorem call_dictTup (calm : X.calm = true) (un : X.A.units + 2 < cLine) : CallR X (.type "dict") (rDictT X.K) := by
  intro pins s σ H xs us Q I r h
  obtain ⟨a, ts, ps, rfl, hq, pr, q⟩ := h
  obtain ⟨u, rfl, rx⟩ := vals1 r
  cases rx
  obtain ⟨its, rv, pl, hz⟩ := I.list hq
  obtain rfl := refs_at rv
  obtain ⟨zs, k, n, all⟩ := pairs_tup I pr
  obtain ⟨o, c, ho, hc, hd, dat⟩ := pl
  rw [List.length_map] at hz
  have PA := PairArg.list (prog := X.prog) (w := X.w) a (ts.map Value.ref).toArray (fun j => (ts[j]?).getD 0) (zs.map fun z => (Value.ref z.2.1, z.2.2))
  have lp : ps.length = zs.length := Paired.length k
  refine call_dict_pairsH (knd := tupleKind (mixKind X.prog X.w)) (ps := zs) PA (I.ok.hd calm) (by show X.A.units + 2 < cLine; exact un) ⟨⟨o, c, ho, hc, hd, dat⟩, by simp [n], fun j kv v e => ?_⟩ ⟨by simp, fun i kv v e => ?_⟩ (fun h' ke z m => ?_) (by simp; omega) fun h' tk hd' ke => ?_
  · rw [List.getElem?_map] at e
    obtain ⟨z, e1, e2⟩ := Option.map_eq_some_iff.mp e
    obtain ⟨t, t1, t2⟩ := all j z e1
    cases e2
    exact ⟨by simp [t1], .inl (by show s.heap.IsTuple ((ts[j]?).getD 0) _; rw [t1]; exact t2)⟩
  · have e' : (zs.map fun z => (Value.ref z.2.1, z.2.2))[i]? = some (kv, v) := e
    rw [List.getElem?_map] at e'
    obtain ⟨z, e1, e2⟩ := Option.map_eq_some_iff.mp e'
    cases e2
    exact ⟨z.1, z.2.1, e1, rfl⟩
  · obtain ⟨j, e⟩ := List.mem_iff_getElem?.mp m
    obtain ⟨p, _, p1, p2, _⟩ := L2.DX.pget k e
    have ky := key_of I.hok p2
    rw [p1] at ky
    obtain ⟨ob, iv, nv, g1, g2, g3, g4⟩ := ky
    exact ⟨ob, iv, nv, ke _ _ (Nat.ne_of_lt (Heap.lt_size g1)) (by simp) g1, g2, g3, g4⟩
  · have sm : (s.heap.objs.size == sysModules) = false := beq_eq_false_iff_ne.mpr (Nat.ne_of_gt I.big)
    have le := putAll_len ps []
    have free : H s.heap.objs.size = none := I.hok.fresh (Nat.le_refl _)
    obtain ⟨od, es, ep, g1, g2, g3, g4, g5, g6⟩ := hd'
    refine ⟨.ref s.heap.objs.size, upd H s.heap.objs.size (.dT (putAll [] ps)), I.laid (t' := tk) (fun b o e => ke b o (by simp) e) (Nat.le_refl _) ⟨by simp at le; omega, sm, _, (kt_all k .nil).keeps fun c ys ec => ?_, od, es, ep, g1, g2, g3, g4, g6⟩, rfl, q _ free⟩
    rw [upd_ne (ne_of_none ec free)]
    exact ec
end
end K07

/-! # plans -/
namespace K07
open PySem PySem.Spec PyProof.Rows L2
/-- a dict comprehension over a walk -/
theorem dcT_it {J : It} {n : Nat} {G : Hp → Prop} {Y : Nat → Hp → V → Hp → Prop} (w : Walk J n G Y) {g : TG} {tt : TT} {tk tv : TE} {vs : List Nat} {σ : L2.St} {H1 : Hp} {D : Addr} {Qd : Hp → Prop} (Pv : Nat → Hp → Prop) (h0 : Pv 0 (upd H1 D (.dT []))) (hG : ∀ i Z, i ≤ n → Pv i Z → G Z)
    (hs : ∀ i x Z Z', i < n → Pv i Z → Y i Z x Z' → g x (wipe σ vs) Z' fun σ2 G2 => wipe σ2 vs = wipe σ vs ∧ tt σ2 G2 fun c G3 =>
      if c = true then tk σ2 G3 fun y G4 => tv σ2 G4 fun z G5 => ∃ ps k b, y = .ref b ∧ G5 b = some (.tup (k.map kV)) ∧ G5 D = some (.dT ps) ∧ ps.length < sizeLine ∧ Pv (i + 1) (upd G5 D (.dT (putK ps k z))) else Pv (i + 1) G3) (hd : ∀ Z, Pv n Z → Qd Z) :
    ∃ W : Nat → Nat → Hp → Prop, (∃ m, W 0 m (upd H1 D (.dT []))) ∧ ∀ i m Z, W i m Z →
      (J.stop i Z ∧ Qd Z) ∨ (J.go i Z ∧ ∃ Nx : Hp → Prop, (∀ Z', Nx Z' → ∃ m', m' < m ∧ W (i + 1) m' Z') ∧ ∀ x Z', J.yld i Z x Z' → g x (wipe σ vs) Z' fun σ2 G2 => wipe σ2 vs = wipe σ vs ∧ tt σ2 G2 fun c G3 =>
        if c = true then tk σ2 G3 fun y G4 => tv σ2 G4 fun z G5 => ∃ ps k b, y = .ref b ∧ G5 b = some (.tup (k.map kV)) ∧ G5 D = some (.dT ps) ∧ ps.length < sizeLine ∧ Nx (upd G5 D (.dT (putK ps k z))) else Nx G3) := by
  refine ⟨fun i m Z => m + i = n ∧ Pv i Z, ⟨n, rfl, h0⟩, ?_⟩
  intro i m Z ⟨e, p⟩
  have q := hG i Z (by omega) p
  by_cases l : i < n
  · exact .inr ⟨w.goes i Z l q, Pv (i + 1), fun Z' p' => ⟨m - 1, by omega, by omega, p'⟩, fun x Z' y => hs i x Z Z' l p (w.yields i Z x Z' l q y)⟩
  · obtain rfl : i = n := by omega
    exact .inl ⟨w.stops Z q, hd Z p⟩
theorem yesT {σ : L2.St} {H : Hp} {A B : Hp → Prop} (h : A H) : tYes σ H (fun b Z => if b = true then A Z else B Z) := by
  show if true = true then A H else B H
  rw [if_pos rfl]
  exact h
/-- a call that raises nothing -/
theorem passF {P : Program} {w : World} {X : Cx} : Passes (L2.CX P w) X (fun _ _ _ => False) := fun _ _ _ _ _ _ _ h => by
  obtain ⟨_, _, _, _, _, _, _, _, _, _, _, _, h⟩ := h
  exact h.elim
def triK (t : Tri) : List L2.Key := [.inl t.1, .inl t.2.1, .inl t.2.2]
theorem triK_v (t : Tri) : (triK t).map kV = triV t := rfl
theorem triK_inj {t u : Tri} (h : triK t = triK u) : t = u := by
  obtain ⟨a, b, c⟩ := t
  obtain ⟨d, e, f⟩ := u
  injection h with h1 h2
  injection h2 with h2 h3
  injection h3 with h3 _
  injection h1 with h1
  injection h2 with h2
  injection h3 with h3
  have h1 : a = d := h1
  have h2 : b = e := h2
  have h3 : c = f := h3
  rw [h1, h2, h3]
/-- two rules, the written part by name -/
theorem pe_tupleOfK {X : Cx} {K : PySem.W.Frag} {a : Expr} {ta : TE} {p pos : Pos} (h : X.K = K) (hg : Gl X "tuple") (hm : X.mg "tuple" = none) (ha : PE X a ta) (na : starEach [a] X.env = (false, eval a X.env) :: starEach [] X.env := by rfl) : PE X (.Call (.Name "tuple" p) [a] [] pos) (tThen ta (kTup K)) := by
  rw [← h]
  exact pe_tupleOf hg hm ha na
theorem ix_tupK {X : Cx} {K : PySem.W.Frag} (h : X.K = K) : IxR X (rIxT K) := by
  rw [← h]
  exact ix_tup
theorem tables3 : ∀ ns ∈ shapesL, (pl ns).Nodup ∧ (pl ns).length ≤ 30 ∧ ∀ t ∈ pl ns, (0 ≤ t.1 ∧ t.1.toNat < ns.length) ∧ (0 ≤ t.2.1 ∧ t.2.1 < t.2.2 ∧ t.2.2 < 6) ∧ ns.getD t.1.toNat 0 ≤ 6 ∧
    ((List.range 6).all fun j => !decide ((j : Int) < ns.getD t.1.toNat 0 - (t.2.2 + 1)) || (decide ((t.1, t.2.1, t.2.2 + 1 + (j : Int)) ∈ pl ns) && decide ((t.1, t.2.2, t.2.2 + 1 + (j : Int)) ∈ pl ns))) = true := by decide +kernel
/-- the index of a place -/
def ix (ns : List Int) (t : Tri) : Int := (((pl ns).idxOf t : Nat) : Int)
theorem idx_of {l : List Tri} (n : l.Nodup) : ∀ {i : Nat} {t : Tri}, l[i]? = some t → l.idxOf t = i := by
  induction l with
  | nil => intro i t h; cases h
  | cons a r ih =>
    intro i t h
    rw [List.nodup_cons] at n
    cases i with
    | zero =>
      obtain rfl := Option.some.inj h
      exact List.idxOf_cons_self
    | succ i =>
      have m : r[i]? = some t := h
      have ne : a ≠ t := fun z => n.1 (by rw [z]; exact List.mem_of_getElem? m)
      rw [List.idxOf_cons, beq_false_of_ne ne, cond_false, ih n.2 m]
def useP (ns : List Int) (t : Tri) (k : Nat) : List (Int × Int) := (List.range k).map fun (c : Nat) => (ix ns (t.1, t.2.1, t.2.2 + 1 + (c : Int)), ix ns (t.1, t.2.2, t.2.2 + 1 + (c : Int)))
theorem useP_succ (ns : List Int) (t : Tri) (k : Nat) : useP ns t (k + 1) = useP ns t k ++ [(ix ns (t.1, t.2.1, t.2.2 + 1 + (k : Int)), ix ns (t.1, t.2.2, t.2.2 + 1 + (k : Int)))] := by
  unfold useP
  rw [List.range_succ, List.map_append]
  rfl
def useN (ns : List Int) (t : Tri) : Nat := (ns.getD t.1.toNat 0 - (t.2.2 + 1)).toNat
def prD (p : Int × Int) : PyData := .tuple [.int p.1, .int p.2]
/-- for each place the pairs of indices that its number is multiplied by -/
def useD (ns : List Int) (t : Tri) : PyData := .tuple ((useP ns t (useN ns t)).map prD)
def planD (ns : List Int) : PyData := .tuple ((pl ns).map (useD ns))
theorem ints_inj : ∀ {ns ms : List Int}, ns.map PyData.int = ms.map PyData.int → ns = ms
  | [], [], _ => rfl
  | [], _ :: _, h => nomatch h
  | _ :: _, [], h => nomatch h
  | n :: ns, m :: ms, h => by
    rw [List.map_cons, List.map_cons] at h
    injection h with h1 h2
    rw [PyData.int.inj h1, ints_inj h2]
section
variable {P : Program} {w : World} {K : PySem.W.Frag} {mg : Str → Option Value} {base : Heap} {CS : Addr}
abbrev s_plan : Stmt := topS 25
theorem sc_plan : FnScope ["shape", "order", "at", "index", "place", "b", "i", "k", "j"] ["shape"] (defScope s_plan) := ⟨rfl, rfl, rfl, by decide +kernel, rfl, by decide +kernel, by decide +kernel⟩
def spPlan (K : PySem.W.Frag) : Sp := fun vs H Q _ => ∃ (a : Addr) (ns : List Int), vs = [.ref a] ∧ SqT K H a (ns.map V.int) ∧ Shp ns ∧ ∀ H' y, Same H H' → Tv K H' y (planD ns) → Q y H'
theorem ok_plan {f f1 : Addr} {fd fd1 : FuncData} (T : Txt mg) (N : Nam mg) (d : D K mg "plan_of" s_plan ["shape"] f fd) (d1 : D K mg "places" s_places ["shape"] f1 fd1) (G1 : FnOk P w K mg base (L2.CX P w) 5 f1 fd1 ["shape"] (spPlaces K CS)) : FnOk P w K mg base (L2.CX P w) 6 f fd ["shape"] (spPlan K) := by
  refine d.F.okX sc_plan (fun vs H Q E h => ?_) (fun cdv A outer s H vs Q E hr h => ?_)
  · obtain ⟨a, ns, rfl, _⟩ := h
    rfl
  · obtain ⟨a, ns, rfl, e, S, q⟩ := h
    have un : (A.deeper (envOfC "plan_of" (defScope s_plan) s.heap.objs.size f cdv)).units + 1 < cLine := by have := hr.un; omega
    refine ⟨_, (pss_cons (ps_set (i := 1) sc_plan.nd rfl (.inl rfl) (pe_call (E := E) G1 (hr.mono (by decide)) (by rfl) d1.g d1.F.kp d1.b .nil (passes_call (takes_of rfl rfl rfl rfl) (fun _ _ _ _ h => h)) (pa_cons (pv 0) pa_nil)))
      (pss_cons (ps_set (i := 2) sc_plan.nd rfl (.inr rfl) (pe_dcT (own := [("index", 3), ("place", 4)]) (g := gTup K 2 (gCons (gName 3) (gCons (gName 4) gNil))) (tt := tYes) rfl un sc_plan.nd (pi_enumT (by rfl) N.n_enumerate (pa_cons (pv 1) pa_nil)) (blkOk_by (own := [("index", 3), ("place", 4)]) (N := ["shape", "order", "at", "index", "place", "b", "i", "k", "j"]) (sc := defScope s_plan) (by decide +kernel))
            (fun _ _ _ _ _ => (pg_tup rfl (pgs_cons (pg_name (i := 3) sc_plan.nd rfl (Or.inl rfl)) (pgs_cons (pg_name (i := 4) sc_plan.nd rfl (Or.inl rfl)) pgs_nil)))) (fun _ _ _ _ _ => pts_nil) (fun _ _ _ _ _ => (pv 4)) (fun _ _ _ _ _ => (pv 3))))
      (pss_one (ps_ret (pe_tupleOf (by rfl) T.n_tuple (pe_lc (own := [("b", 5), ("i", 6), ("k", 7)]) (g := gTup K 3 (gCons (gName 5) (gCons (gName 6) (gCons (gName 7) gNil)))) (tt := tYes) rfl sc_plan.nd (pi_tup (pv 1)) (blkOk_by (own := [("b", 5), ("i", 6), ("k", 7)]) (N := ["shape", "order", "at", "index", "place", "b", "i", "k", "j"]) (sc := defScope s_plan) (by decide +kernel))
            (fun _ _ _ _ _ => (pg_tup rfl (pgs_cons (pg_name (i := 5) sc_plan.nd rfl (Or.inr rfl)) (pgs_cons (pg_name (i := 6) sc_plan.nd rfl (Or.inr rfl)) (pgs_cons (pg_name (i := 7) sc_plan.nd rfl (Or.inr rfl)) pgs_nil))))) (fun _ _ _ _ _ => pts_nil) (fun _ _ _ _ _ => (pe_tupleOfK (K := K) rfl (by rfl) T.n_tuple (pe_lc (own := [("j", 8)]) (g := gName 8) (tt := tYes) rfl sc_plan.nd (pi_range2 (by rfl) T.n_range (pa_cons (pe_op op_add (pv 7) pe_int) (pa_cons (pe_ix (ix_tupK (K := K) rfl) (pv 0) (pv 5) (fun _ _ => rfl)) pa_nil))) (blkOk_by (own := [("j", 8)]) (N := ["shape", "order", "at", "index", "place", "b", "i", "k", "j"]) (sc := relS _ (defScope s_plan)) (by decide +kernel))
            (fun _ _ _ _ _ => (pg_name (i := 8) sc_plan.nd rfl (Or.inl rfl))) (fun _ _ _ _ _ => pts_nil) (fun _ _ _ _ _ => (pe_tup (pa_cons (pe_dget un (pv 2) (pe_tup (pa_cons (pv 5) (pa_cons (pv 6) (pa_cons (pv 8) pa_nil)))) (fun _ _ => rfl)) (pa_cons (pe_dget un (pv 2) (pe_tup (pa_cons (pv 5) (pa_cons (pv 7) (pa_cons (pv 8) pa_nil)))) (fun _ _ => rfl)) pa_nil))))))))))))), ?_⟩
    refine ⟨_, rfl, _, .tuple (ns.map .int), rfl, .tv (.tup e (tvl_ints ns)), fun ns' en S' H1 y s1 t1 => ?_, fun z => absurd (shp_is S) (by rw [z]; decide)⟩
    obtain rfl : ns' = ns := by
      have z := PyData.tuple.inj en
      exact (ints_inj z).symm
    obtain ⟨o, xs, rfl, eo, tl⟩ := t1
    have e1 := sqt_same e s1
    have M := tables3 ns' (shp_mem S)
    have lx : xs.length = (pl ns').length := tl.len
    have q' : ∀ Z y, Same H1 Z → Tv K Z y (planD ns') → Q y Z := fun Z y z => q Z y (s1.trans z)
    clear q e s1 en S'
    refine ⟨_, rfl, o, xs, rfl, .inl (.inl eo), fun D nD => ?_⟩
    refine dcT_it (walk_enumT (K := K) (a := o) (xs := xs)) (fun i Z => Same H1 Z ∧ ∃ kvs, Z D = some (.dT kvs) ∧ kvs.length ≤ i ∧ ∀ t ∈ (pl ns').take i, valV kvs (triK t) = some (.int (ix ns' t))) ⟨sub_same nD, [], upd_same, Nat.le_refl _, fun t m => by simp at m⟩ (fun i Z _ h => .inl (.inl (h.1 _ _ eo))) ?_ ?_
    · rintro i v Z Z' hi ⟨sm, kvs, hk, lk, all⟩ ⟨Tp, x0, y0, rfl, nT, rfl, ex, ey⟩
      obtain rfl := Option.some.inj ex
      obtain ⟨t, c, et, rfl, ec⟩ := tl.tri ey
      have s2 := sub_same (o := .tup [V.int (i : Nat), V.ref c]) nT
      have hk2 := s2 _ _ hk
      have ec2 := s2 _ _ (sm _ _ ec)
      have sm2 := sm.trans s2
      have hT : upd Z Tp (.tup [V.int (i : Nat), V.ref c]) Tp = some (.tup [V.int (i : Nat), V.ref c]) := upd_same
      revert hk2 ec2 sm2 hT
      generalize upd Z Tp (.tup [V.int (i : Nat), V.ref c]) = Z2
      intro hk2 ec2 sm2 hT
      refine ⟨Tp, _, rfl, .inl (.inl hT), rfl, _, _, rfl, _, _, rfl, rfl, rfl, ?_⟩
      refine yesT ?_
      refine ⟨_, rfl, _, rfl, kvs, triK t, c, rfl, ec2, hk2, ?_, fun b ob eb => ?_, _, upd_same, ?_, fun u m => ?_⟩
      · rw [lx] at hi
        have := M.2.1
        rw [sizeLine_eq]
        omega
      · rw [upd_ne (fun z => by rw [z, nD] at eb; cases eb)]
        exact sm2 _ _ eb
      · have := length_putK kvs (triK t) (.int (i : Nat))
        omega
      · rw [valV_put]
        by_cases z : triK u = triK t
        · rw [if_pos z, triK_inj z]
          show some (V.int (i : Nat)) = some (V.int (((pl ns').idxOf t : Nat) : Int))
          rw [idx_of M.1 et]
        · rw [if_neg z]
          refine all u ?_
          rw [List.take_succ, et] at m
          rcases List.mem_append.mp m with m | m
          · exact m
          · exact absurd (by rw [show u = t by simpa using m]) z
    · rintro Z ⟨sm, kvs, hk, lk, all⟩
      rw [lx, List.take_length] at all
      have eo2 := sm _ _ eo
      have ea2 := sqt_same e1 sm
      have tl2 := tl.same sm
      have q2 : ∀ Y y, Same Z Y → Tv K Y y (planD ns') → Q y Y := fun Y y z => q' Y y (sm.trans z)
      clear q' tl
      refine ⟨_, rfl, o, rfl, ⟨xs, .inl (.inl eo2)⟩, fun L nL => ?_⟩
      refine lc_tup (K := K) (a := o) (xs := xs) (fun i Y => Same Z Y ∧ ∃ acc, Y L = some (.lst acc) ∧ TvL K Y acc (((pl ns').take i).map (useD ns'))) ⟨sub_same nL, [], upd_same, .nil⟩ (fun i Y _ h => .inl (.inl (h.1 _ _ eo2))) ?_ ?_
      · rintro i x Y hx ⟨sy, acc, ha, la⟩
        obtain ⟨⟨tb, ti, tk⟩, c, et, rfl, ec⟩ := tl2.tri hx
        have mt : (tb, ti, tk) ∈ pl ns' := List.mem_of_getElem? et
        obtain ⟨⟨b0, b1⟩, ⟨i0, i1, i2⟩, b6, far⟩ := M.2.2 _ mt
        have b0 : 0 ≤ tb := b0
        obtain ⟨bn, rfl⟩ : ∃ n : Nat, tb = (n : Int) := ⟨tb.toNat, by omega⟩
        have b1 : bn < ns'.length := b1
        have i0 : 0 ≤ ti := i0
        have i1 : ti < tk := i1
        have i2 : tk < 6 := i2
        have gd : ns'.getD bn 0 = ns'[bn] := by rw [List.getD_eq_getElem?_getD, List.getElem?_eq_getElem b1]; rfl
        have b6 : ns'.getD bn 0 ≤ 6 := b6
        rw [gd] at b6
        refine ⟨c, triV ((bn : Int), ti, tk), rfl, .inl (.inl (sy _ _ ec)), rfl, _, _, rfl, _, _, rfl, _, _, rfl, rfl, rfl, ?_⟩
        refine yesT ?_
        have b2 := (S.2.1 _ (List.getElem_mem b1)).1
        refine ⟨_, rfl, _, _, rfl, rfl, _, rfl, _, rfl, a, _, bn, .int ns'[bn], rfl, rfl, sqt_same ea2 sy, atI_nat (by rw [List.getElem?_map, List.getElem?_eq_getElem b1]; rfl), tk + 1, ns'[bn], rfl, ⟨by omega, by omega, by omega, by omega⟩, fun L2 nL2 => ?_⟩
        have lL : L ≠ L2 := fun z => by rw [z, nL2] at ha; cases ha
        refine lc_range (lo := tk + 1) (n := (ns'[bn] - (tk + 1)).toNat) (fun j U => Same Y U ∧ ∃ acc, U L2 = some (.lst acc) ∧ TvL K U acc ((useP ns' ((bn : Int), ti, tk) j).map prD)) ⟨sub_same nL2, [], upd_same, .nil⟩ ?_ ?_
        · rintro j U hj ⟨su, acc2, ha2, la2⟩
          have mem : ((bn : Int), ti, tk + 1 + (j : Int)) ∈ pl ns' ∧ ((bn : Int), tk, tk + 1 + (j : Int)) ∈ pl ns' := by
            have f := List.all_eq_true.mp far j (List.mem_range.mpr (by omega))
            have f2 : (!decide ((j : Int) < ns'.getD bn 0 - (tk + 1)) || (decide (((bn : Int), ti, tk + 1 + (j : Int)) ∈ pl ns') && decide (((bn : Int), tk, tk + 1 + (j : Int)) ∈ pl ns'))) = true := f
            rw [decide_eq_true (show (j : Int) < ns'.getD bn 0 - (tk + 1) by rw [gd]; omega)] at f2
            simp only [Bool.not_true, Bool.false_or, Bool.and_eq_true] at f2
            exact ⟨of_decide_eq_true f2.1, of_decide_eq_true f2.2⟩
          refine ⟨rfl, ?_⟩
          refine yesT ?_
          obtain ⟨v1, hv1, ev1⟩ : ∃ v1, valV kvs (triK ((bn : Int), ti, tk + 1 + (j : Int))) = some v1 ∧ v1 = .int (ix ns' ((bn : Int), ti, tk + 1 + (j : Int))) := ⟨_, all _ mem.1, rfl⟩
          obtain ⟨v2, hv2, ev2⟩ : ∃ v2, valV kvs (triK ((bn : Int), tk, tk + 1 + (j : Int))) = some v2 ∧ v2 = .int (ix ns' ((bn : Int), tk, tk + 1 + (j : Int))) := ⟨_, all _ mem.2, rfl⟩
          have hkU := su _ _ (sy _ _ hk)
          refine ⟨_, rfl, _, rfl, _, rfl, _, rfl, (by show 3 ≤ sizeLine; decide), fun p1 n1 => ⟨D, v1, rfl, ?_, ?_⟩⟩
          · rw [← hv1]
            exact DGet.t (sub_same n1 _ _ hkU) upd_same
          have s5 := su.trans (sub_same (o := .tup [V.int (bn : Int), V.int ti, V.int (tk + 1 + (j : Int))]) n1)
          have ha5 := sub_same (o := .tup [V.int (bn : Int), V.int ti, V.int (tk + 1 + (j : Int))]) n1 _ _ ha2
          refine ⟨_, rfl, _, rfl, _, rfl, _, rfl, (by show 3 ≤ sizeLine; decide), fun p2 n2 => ⟨D, v2, rfl, ?_, ?_⟩⟩
          · rw [← hv2]
            exact DGet.t (sub_same n2 _ _ (sub_same n1 _ _ hkU)) upd_same
          refine ⟨(by show 2 ≤ sizeLine; decide), fun p3 n3 => ?_⟩
          have s6 := (s5.trans (sub_same (o := .tup [V.int (bn : Int), V.int tk, V.int (tk + 1 + (j : Int))]) n2)).trans (sub_same (o := .tup [v1, v2]) n3)
          have l2 := la2.len
          rw [List.length_map] at l2
          unfold useP at l2
          rw [List.length_map, List.length_range] at l2
          have t6 := la2.same ((sub_same (o := .tup [V.int (bn : Int), V.int ti, V.int (tk + 1 + (j : Int))]) n1).trans ((sub_same (o := .tup [V.int (bn : Int), V.int tk, V.int (tk + 1 + (j : Int))]) n2).trans (sub_same (o := .tup [v1, v2]) n3)))
          have h6 := sub_same (o := .tup [v1, v2]) n3 _ _ (sub_same (o := .tup [V.int (bn : Int), V.int tk, V.int (tk + 1 + (j : Int))]) n2 _ _ ha5)
          refine ⟨acc2, h6, ?_, fun b ob eb => ?_, _, upd_same, ?_⟩
          · rw [sizeLine_eq]
            omega
          · rw [upd_ne (fun z => by rw [z, nL2] at eb; cases eb)]
            exact s6 _ _ eb
          · rw [useP_succ, List.map_append]
            refine (t6.snoc (.tup (sqt_new upd_same) ?_)).put h6
            rw [ev1, ev2]
            exact .cons (.int _) (.cons (.int _) .nil)
        · rintro U ⟨su, acc2, ha2, la2⟩
          refine .inl ⟨L2, acc2, rfl, .inl (.inl ha2), fun p np => ?_⟩
          have s4 := su.trans (sub_same (o := .tup acc2) np)
          have l1 := la.len
          rw [List.length_map, List.length_take] at l1
          refine ⟨acc, s4 _ _ ha, ?_, fun b ob eb => ?_, _, upd_same, ?_⟩
          · have := M.2.1
            rw [sizeLine_eq]
            omega
          · rw [upd_ne (fun z => by rw [z, nL] at eb; cases eb)]
            exact s4 _ _ (sy _ _ eb)
          · rw [List.take_succ, et, List.map_append]
            have un' : useN ns' ((bn : Int), ti, tk) = (ns'[bn] - (tk + 1)).toNat := by
              show (ns'.getD bn 0 - (tk + 1)).toNat = _
              rw [gd]
            refine ((la.same s4).snoc (.tup (sqt_new upd_same) ?_)).put (s4 _ _ ha)
            rw [un']
            exact la2.same (sub_same np)
      · rintro Y ⟨sy, acc, ha, la⟩
        rw [lx, List.take_length] at la
        exact .inl ⟨L, acc, rfl, .inl (.inl ha), fun p np => q2 _ _ (sy.trans (sub_same np)) (.tup (sqt_new upd_same) (la.same (sub_same np)))⟩
end
end K07

/-! # leads; what are entries -/
namespace K07
open PySem PySem.Spec PyProof.Rows L2
/-- the first number that is not 0, counted from i -/
def firstNZ : Nat → List Int → Option Nat
  | _, [] => none
  | i, n :: r => if n = 0 then firstNZ (i + 1) r else some i
def optV : Option Nat → V
  | none => .non
  | some i => .int (i : Nat)
section
variable {P : Program} {w : World} {K : PySem.W.Frag} {mg : Str → Option Value} {base : Heap} {CS : Addr}
def spLead : Sp := fun vs H Q _ => ∃ (a : Addr) (ns : List Int), vs = [.ref a] ∧ H a = some (.tup (ns.map V.int)) ∧ ∀ H', Same H H' → Q (optV (firstNZ 0 ns)) H'
theorem firstNZ_take {ns : List Int} : ∀ {i : Nat}, (∀ n ∈ ns.take i, n = 0) → firstNZ 0 ns = firstNZ i (ns.drop i) := by
  intro i
  induction i with
  | zero => intro _; rfl
  | succ i ih =>
    intro h
    rw [ih fun n m => h n (List.take_subset_take_left ns (Nat.le_succ i) m)]
    by_cases l : i < ns.length
    · rw [List.drop_eq_getElem_cons l]
      have z : ns[i] = 0 := h _ (by rw [List.mem_take_iff_getElem]; exact ⟨i, by omega, rfl⟩)
      show (if ns[i] = 0 then firstNZ (i + 1) (ns.drop (i + 1)) else some i) = _
      rw [if_pos z]
    · rw [List.drop_eq_nil_of_le (by omega), List.drop_eq_nil_of_le (by omega)]
      rfl
theorem abs_lt {n L : Int} (h : -L < n) (h2 : n < L) : (if n < 0 then -n else n) < L := by
  split <;> omega
/-- an integer that is not too long -/
def spInt : Sp := fun vs H Q _ => ∃ n : Int, vs = [.int n] ∧ -(10 ^ 60) < n ∧ n < 10 ^ 60 ∧ Q (.bl true) H
theorem ok_integer {f f1 : Addr} {fd fd1 : FuncData} {k : Nat} (T : Txt mg) (N : Nam mg) (d : D K mg "is_integer" s_is_integer ["value"] f fd) (d1 : D K mg "is_whole" s_is_whole ["value"] f1 fd1) : FnOk P w K mg base CX0 (k + 2) f fd ["value"] spInt := by
  have G1 : FnOk P w K mg base CX0 (k + 1) f1 fd1 ["value"] (spWhole K) := ok_whole T d1
  obtain ⟨tI, cI⟩ := N.cI
  refine d.F.ok sc_is_integer (fun vs H Q E h => ?_) (fun cdv A outer s H vs Q E hr h => ?_)
  · obtain ⟨n, rfl, _⟩ := h
    rfl
  · obtain ⟨n, rfl, n0, n1, q⟩ := h
    refine ⟨_, (pss_one (ps_ret (pe_and (pe_call G1 hr (by rfl) d1.g d1.F.kp d1.b .nil pass0 (pa_cons (pv 0) pa_nil)) (pe_one (pe_cmpR op_lt (pe_callB call_abs (by rfl) T.n_abs (by decide +kernel) (pa_cons (pv 0) pa_nil)) (pe_glob (v := .int (10 ^ 60)) rfl cI ⟨_, rfl⟩) (nomark _)))))), ?_⟩
    refine ⟨_, rfl, _, .int n, rfl, .tv (.int n), true, rfl, iteT ⟨_, rfl, _, rfl, _, _, rfl, rfl, ?_⟩⟩
    show Q (.bl (decide ((if n < 0 then -n else n) < (10 ^ 60 : Int)))) H
    rw [decide_eq_true (abs_lt n0 n1)]
    exact q
theorem same_unlock {H H' : Hp} {D : Addr} {x y : HO} (e : H D = some y) (s : Same (upd H D x) H') : Same H (upd H' D y) := fun b o h => by
  by_cases z : b = D
  · rw [z, upd_same, ← e, ← z]
    exact h
  · rw [upd_ne z]
    exact s b o (by rw [upd_ne z]; exact h)
abbrev s_ents : Stmt := topS 36
theorem sc_ents : FnScope ["shape", "value", "place", "number"] ["shape", "value"] (defScope s_ents) := ⟨rfl, rfl, rfl, by decide +kernel, rfl, by decide +kernel, by decide +kernel⟩
/-- what a dict of entries holds -/
def Ent (ns : List Int) (ps : List (List L2.Key × V)) : Prop := ps.length ≤ 100 ∧ ∀ p ∈ ps, ∃ t ∈ pl ns, p.1 = triK t ∧ ∃ n : Int, p.2 = .int n ∧ -(10 ^ 60) < n ∧ n < 10 ^ 60
def spEnts (K : PySem.W.Frag) : Sp := fun vs H Q _ => ∃ (a D : Addr) (ns : List Int) (ps : List (List L2.Key × V)), vs = [.ref a, .ref D] ∧ SqT K H a (ns.map V.int) ∧ Shp ns ∧ H D = some (.dT ps) ∧ Ent ns ps ∧ ∀ H', Same H H' → Q (.bl true) H'
theorem kit_dict {K : PySem.W.Frag} : kit K (.type "dict") (.type "dict") true := by rfl
theorem ok_ents {f f1 f2 : Addr} {fd fd1 fd2 : FuncData} (T : Txt mg) (N : Nam mg) (d : D K mg "are_entries" s_ents ["shape", "value"] f fd) (d1 : D K mg "is_place" s_place ["shape", "value"] f1 fd1) (d2 : D K mg "is_integer" s_is_integer ["value"] f2 fd2)
    (G1 : FnOk P w K mg base (L2.CX P w) 5 f1 fd1 ["shape", "value"] (spPlace K CS)) (G2 : FnOk P w K mg base CX0 2 f2 fd2 ["value"] spInt) : FnOk P w K mg base (L2.CX P w) 6 f fd ["shape", "value"] (spEnts K) := by
  refine d.F.okX sc_ents (fun vs H Q E h => ?_) (fun cdv A outer s H vs Q E hr h => ?_)
  · obtain ⟨a, D, ns, ps, rfl, _⟩ := h
    rfl
  · obtain ⟨a, D, ns, ps, rfl, e, S, eD, ⟨lp, all⟩, q⟩ := h
    refine ⟨_, (pss_cons (ps_if (pt_not (pt_val (pe_callB call_isi (by rfl) T.n_isinstance (by decide +kernel) (pa_cons (pv 1) (pa_cons (pe_bltn (v := .ty "dict") (by rfl) N.n_dict (by decide +kernel) rfl) pa_nil))))) (pss_one (ps_ret pe_bl)) pss_nil)
      (pss_one (ps_ret (pe_callB (cr_all rfl) (by rfl) N.n_all (by decide +kernel) (pa_cons (pe_lock (pe_lc (own := [("place", 2), ("number", 3)]) (g := gTup K 2 (gCons (gName 2) (gCons (gName 3) gNil))) (tt := tYes) rfl sc_ents.nd (pi_itemsT (pv 1)) (blkOk_by (own := [("place", 2), ("number", 3)]) (N := ["shape", "value", "place", "number"]) (sc := defScope s_ents) (by decide +kernel))
            (fun _ _ _ _ _ => (pg_tup rfl (pgs_cons (pg_name (i := 2) sc_ents.nd rfl (Or.inl rfl)) (pgs_cons (pg_name (i := 3) sc_ents.nd rfl (Or.inl rfl)) pgs_nil)))) (fun _ _ _ _ _ => pts_nil) (fun _ _ _ _ _ => (pe_and (pe_call (E := fun _ _ _ => False) G1 (hr.mono (by decide)) (by rfl) d1.g d1.F.kp d1.b .nil passF (pa_cons (pv 0) (pa_cons (pv 2) pa_nil))) (pe_one (pe_call G2 (hr.mono (by decide)) (by rfl) d2.g d2.F.kp d2.b .nil pass0 (pa_cons (pv 3) pa_nil))))))) pa_nil))))), ?_⟩
    refine ⟨_, rfl, _, _, _, _, _, rfl, .ty _, .base (.dT eD), kit_dict, _, rfl, ite2 (fun z => absurd z Bool.false_ne_true) (fun _ => ?_)⟩
    refine ⟨D, _, eD, True.intro, fun od => ?_⟩
    have unl : ∀ {Z : Hp}, Same (upd H D (.frz od (.dT ps))) Z → Same H (upd Z D (.dT ps)) := fun sz => same_unlock eD sz
    have e2 : SqT K (upd H D (.frz od (.dT ps))) a (ns.map V.int) := sqt_upd e fun o h => by
      rw [eD] at h
      cases h
      exact ⟨fun z => (by cases z), fun _ z => (by cases z)⟩
    have f2 : upd H D (.frz od (.dT ps)) D = some (.frz od (.dT ps)) := upd_same
    revert unl e2 f2
    generalize upd H D (.frz od (.dT ps)) = HL
    intro unl e2 f2
    refine ⟨_, rfl, D, od, ps, rfl, f2, fun L nL => ?_⟩
    have wk : Walk (ItiT D od ps) ps.length (fun Z => Z D = some (.frz od (.dT ps))) (ItiT D od ps).yld := ⟨fun i Z l h => ⟨h, l⟩, fun Z h => ⟨h, Nat.le_refl _⟩, fun i Z x Z' l h y => y⟩
    refine lc_it wk (fun i Z => Same HL Z ∧ Z L = some (.lst ((List.replicate i true).map V.bl))) ⟨sub_same nL, upd_same⟩ (fun i Z _ h => h.1 _ _ f2) ?_ ?_
    · rintro i x Z Z' hi ⟨sm, hl⟩ ⟨Tp, qa, k, v, ek, eq, rfl, nT, rfl⟩
      obtain ⟨t, mt, ek2, n, ev, n0, n1⟩ := all (k, v) (List.mem_of_getElem? ek)
      have ek2 : k = triK t := ek2
      have ev : v = .int n := ev
      subst ek2 ev
      have s2 := sub_same (o := .tup [V.ref qa, V.int n]) nT
      have hl2 := s2 _ _ hl
      have eq2 := s2 _ _ eq
      have sm2 := sm.trans s2
      have hT : upd Z Tp (.tup [V.ref qa, V.int n]) Tp = some (.tup [V.ref qa, V.int n]) := upd_same
      revert hl2 eq2 sm2 hT
      generalize upd Z Tp (.tup [V.ref qa, V.int n]) = Z2
      intro hl2 eq2 sm2 hT
      refine ⟨Tp, _, rfl, .inl (.inl hT), rfl, _, _, rfl, _, _, rfl, rfl, rfl, yesT ?_⟩
      refine ⟨_, rfl, _, rfl, _, _, .tuple (ns.map .int), triD t, rfl, .tv (.tup (sqt_same e2 sm2) (tvl_ints ns)), .tv (.tup (sqt_new eq2) (tvl_ints (triI t))), fun ns' en S' Z3 s3 => ?_, fun z => absurd (shp_is S) (by rw [z]; decide)⟩
      obtain rfl : ns' = ns := (ints_inj (PyData.tuple.inj en)).symm
      rw [(tables2 ns' (shp_mem S)).2.1 t mt]
      refine ⟨true, rfl, iteT ⟨_, rfl, n, rfl, n0, n1, ?_⟩⟩
      refine ⟨_, s3 _ _ hl2, ?_, fun b ob eb => ?_, ?_⟩
      · rw [List.length_map, List.length_replicate, sizeLine_eq]
        omega
      · rw [upd_ne (fun z => by rw [z, nL] at eb; cases eb)]
        exact s3 _ _ (sm2 _ _ eb)
      · rw [upd_same, List.replicate_succ', List.map_append]
        rfl
    · rintro Z ⟨sm, hl⟩
      refine ⟨sm _ _ f2, L, List.replicate ps.length true, rfl, .inl (.inl ?_), ?_⟩
      · rw [upd_ne (fun z => by rw [z, f2] at nL; cases nL)]
        exact hl
      · have z : (List.replicate ps.length true).all id = true := List.all_eq_true.mpr fun b m => (List.mem_replicate.mp m).2
        rw [z]
        exact q _ (unl sm)
end
end K07

/-! # bool(x), len(x) of an own class; a class called by a local name -/
namespace K07W
open PySem PySem.Spec PyProof.Rows PySem.W PySem.Calls
section
variable {prog : Program} {w : World} {A : Around} {E : PySem.Value → Shared → Prop} {s : Shared} {K : Frag} {x C f : Addr} {ox : Obj} {od : Option Obj}
theorem bool_own {Q : PySem.Value → Shared → Prop} (X : K.In s.heap) (I : InstAt s.heap x ox C od) (hs : findIn K (.ref C) "__bool__" = some (some (.ref f))) (hf : isFn K (.ref f) = true)
    (h : wpAny (model prog w) A.in1.in1 (call (.ref f) [.ref x]) (fun v s' => ∃ k, v = .bool k ∧ Q (.bool k) s') E s) : wpAny (model prog w) A (call (.type "bool") [.ref x]) Q E s := by
  refine callType_codes (T := "bool") (Bi := Builtin.«object.__init__») (Q₁ := fun r s₁ => ∃ k, r = PySem.Value.bool k ∧ Q r s₁) PySem.F.called_bool (PySem.F.typeCall_bool_1 _) PySem.F.entry_object_init ?_ ?_
  · refine codeAny_of_tree ?_
    show wpAny _ A.in1.in1 (do checkBuiltinCall "bool.__new__" ⟨[.type "bool", .ref x], []⟩; again (.builtin "bool.__new__" ⟨[.type "bool", .ref x], []⟩)) _ _ s
    refine wpAny_bind (wpAny_of_eq (PySem.F.newCall_bool_1 _) (wpAny_pure ⟨plainId_quiet (by decide +kernel) _, codeAny_builtin PySem.F.entry_bool_new ?_⟩))
    rw [Around.under_plainId (by decide +kernel) _]
    unfold Builtin.«bool.__new__»
    have tr : ∀ {Q' : Bool → Shared → Prop}, (∀ k s', Q (.bool k) s' → Q' k s') → wpAny (model prog w) A.in1.in1 (truthy (.ref x)) Q' E s := fun {Q'} g => by
      unfold truthy
      refine wpAny_bind (m := callSpecial? (.ref x) (Str.ofString "__bool__")) (special_fn X I hs (beq_iff_eq.mp hf) (wpAny_mono h (fun r s' ⟨k, e, z⟩ => ?_) fun _ _ y => y))
      subst e
      exact wpAny_pure (g k s' z)
    repeat (first | (refine wpAny_bind (m := truthy (.ref x)) (tr fun k s' z => ?_)) | wp_step)
    all_goals first | exact ⟨_, rfl, z⟩ | exact wpAny_pure ⟨_, rfl, z⟩ | skip
  · rintro obj s₁ ⟨k, rfl, hq⟩
    exact ⟨PySem.typeIs_bool _ _, PySem.F.args_object_init_2 _ _, object_init_meets PySem.F.called_bool.init.lookup PySem.F.called_bool.made (by decide) prog w A.in1 _ s₁ ⟨PySem.typeIs_bool _ _, rfl, hq⟩⟩
theorem len_mine {Q : PySem.Value → Shared → Prop} (X : K.In s.heap) (I : InstAt s.heap x ox C od) (hs : findIn K (.ref C) "__len__" = some (some (.ref f))) (hf : isFn K (.ref f) = true)
    (h : wpAny (model prog w) A.in1 (call (.ref f) [.ref x]) (fun v s' => ∃ n u, v = .int n u ∧ 0 ≤ n ∧ n < 2 ^ 63 ∧ ∀ tk, Q (.int n tk) { s' with toks := tk + 1 }) E s) : wpAny (model prog w) A (call (.builtin "len") [.ref x]) Q E s := by
  refine Calls.call_function_entry PySem.kind_len PySem.plain_len PySem.entry_len (PySem.args_len1 _) ?_
  unfold Builtin.«len»
  refine wpAny_bind (m := oneArg "len" _) (wpAny_pure ?_)
  refine wpAny_bind (m := callSpecial? (.ref x) (Str.ofString "__len__")) (special_fn X I hs (beq_iff_eq.mp hf) (wpAny_mono h (fun v s' ⟨n, u, e, n0, n1, z⟩ => ?_) fun _ _ y => y))
  subst e
  refine wpAny_bind (wpAny_holding (wpAny_pure (wpAny_bind (wpAny_letGo ?_))))
  have a1 : ¬ n < 0 := by omega
  have a2 : ¬ n ≥ 2 ^ 63 := by omega
  show wpAny _ _ (if n < 0 then _ else _) _ _ _
  rw [if_neg a1]
  show wpAny _ _ (if n ≥ 2 ^ 63 then _ else _) _ _ _
  rw [if_neg a2]
  exact wpAny_bind (wpAny_mkInt (wpAny_pure ⟨_, rfl, z _⟩))
end
end K07W
namespace K07
open PySem PySem.Spec PyProof.Rows L2
def Ins (H : Hp) (a C : Addr) : Prop := ∃ dx fs, H a = some (.ins C dx fs)
section
variable {X : Cx} {C g : Addr} {n : Nat} {fd : FuncData} {ps : List Str} {sp : Sp} {pins : List (Addr × Obj)} {σ : L2.St} {H : Hp} {s : Shared} {a : Addr}
theorem ins_look (I : Inv X pins σ H s) (h : Ins H a C) : ∃ (ox od : Obj), PySem.W.InstAt s.heap a ox C (some od) := by
  obtain ⟨dx, fs, e⟩ := h
  obtain ⟨mA, O, _⟩ := ins_get I.hok e
  obtain ⟨od, J, _⟩ := O.look
  exact ⟨_, od, J⟩
theorem run_below {A : Around} {Q : VK} {us : List Value} {vs : List V} {E' : Value → Shared → Prop} (F : FnOk X.prog X.w X.K X.mg X.base CX0 n g fd ps sp) (hr : Room n A) (e0 : Env0 X.prog X.w X.K X.mg X.base A X.stack s H) (hb : Binds X.K fd ps [])
    (I : Inv X pins σ H s) (r : Vals vs us) (h : sp vs H Q E0) : wpAny (model X.prog X.w) A (call (.ref g) us) (EP X pins σ Q) E' s := by
  have hl : (us ++ []).length = ps.length := by
    rw [List.append_nil, ← r.length]
    exact F.len _ _ _ _ h
  have b := hb s us I.kIn hl
  rw [List.append_nil] at b
  refine wpAny_call (codeAny_mono (F.run A X.stack s H ⟨us, []⟩ us vs Q E0 hr e0 b r h) fun r s' hq => ?_)
  cases r with
  | error e => exact False.elim hq
  | ok fl =>
    cases fl with
    | ret u => exact I.after hq
    | next => exact False.elim hq
    | brk => exact False.elim hq
    | cont => exact False.elim hq
/-- bool(x) -/
theorem call_boolMine (hs : PySem.W.findIn X.K (.ref C) "__bool__" = some (some (.ref g))) (hf : PySem.W.isFn X.K (.ref g) = true) (F : FnOk X.prog X.w X.K X.mg X.base CX0 n g fd ps sp) (hr : Room (n + 2) X.A) (hb : Binds X.K fd ps []) :
    CallR X (.type "bool") (fun xs H Q => ∃ a, xs = [.ref a] ∧ Ins H a C ∧ sp xs H (fun v H' => ∃ k, v = .bl k ∧ Q v H') E0) := by
  intro pins s σ H xs us Q I r h
  obtain ⟨a, rfl, ha, q⟩ := h
  obtain ⟨u, rfl, ru⟩ := r.one
  cases (show u = Value.ref a from ru)
  obtain ⟨ox, od, J⟩ := ins_look I ha
  have hr2 : Room n X.A.in1.in1 := (show Room (n + 1) X.A.in1 from Room.in1 hr).in1
  refine K07W.bool_own I.kIn J hs hf (wpAny_mono (run_below (us := [.ref a]) (vs := [.ref a]) F hr2 I.env0.in1.in1 hb I (.cons rfl .nil) q) (fun w s' z => ?_) fun _ _ x => x)
  obtain ⟨z', H', I', rz, k, ek, qz⟩ := z
  subst ek
  cases (show w = Value.bool k from rz)
  exact ⟨k, rfl, .bl k, H', I', rfl, qz⟩
/-- len(x) -/
theorem call_lenMine (hs : PySem.W.findIn X.K (.ref C) "__len__" = some (some (.ref g))) (hf : PySem.W.isFn X.K (.ref g) = true) (F : FnOk X.prog X.w X.K X.mg X.base CX0 n g fd ps sp) (hr : Room (n + 2) X.A) (hb : Binds X.K fd ps []) :
    CallR X (.builtin "len") (fun xs H Q => ∃ a, xs = [.ref a] ∧ Ins H a C ∧ sp xs H (fun v H' => ∃ k : Nat, v = .int k ∧ k < 1000 ∧ Q v H') E0) := by
  intro pins s σ H xs us Q I r h
  obtain ⟨a, rfl, ha, q⟩ := h
  obtain ⟨u, rfl, ru⟩ := r.one
  cases (show u = Value.ref a from ru)
  obtain ⟨ox, od, J⟩ := ins_look I ha
  have hr1 : Room n X.A.in1 := Room.in1 (show Room (n + 1) X.A from hr.mono (by omega))
  refine K07W.len_mine I.kIn J hs hf (wpAny_mono (run_below (us := [.ref a]) (vs := [.ref a]) F hr1 I.env0.in1 hb I (.cons rfl .nil) q) (fun w s' z => ?_) fun _ _ x => x)
  obtain ⟨z', H', I', rz, k, ek, kl, qz⟩ := z
  subst ek
  obtain ⟨t, rfl⟩ := (show ∃ t, w = Value.int (k : Int) t from rz)
  exact ⟨_, _, rfl, by omega, by omega, fun tk => ⟨.int (k : Int), H', I'.tok _, ⟨_, rfl⟩, qz⟩⟩
end
section
variable {X : Cx} {CX : CXT} {k : Nat} {f C : Addr} {fd : FuncData} {ps : List Str} {sp : Sp} {dvs : List V} {ds : List Value} {E : XK} {x : Str} {np pos : Pos} {e : Expr} {es : List Expr} {tf : TE} {t : TA}
/-- c(e, ..), c a name whose value is the class -/
theorem pe_makeL (M : Mk X.K C f) (F : FnOk X.prog X.w X.K X.mg X.base CX k f fd ps sp) (hr : Room (k + 1) X.A) (hb : Binds X.K fd ps ds) (hd : Vals dvs ds) (hx : Passes CX X E) (nm : PE X (.Name x np) tf)
    (ha : PA X (e :: es) t) (he : starEach (e :: es) X.env = (false, eval e X.env) :: starEach es X.env := by rfl) (hpl : (backTo pos (starEach es X.env)).any (·.1) = false := by rfl) :
    PE X (.Call (.Name x np) (e :: es) [] pos) (fun σ H Q => tf σ H fun c H1 => c = .ref C ∧ tMake C sp dvs E t σ H1 Q) := by
  constructor
  intro pins s σ H Q I h
  refine wpAny_Call_Name_kw (thn (nm.run pins s σ H _ I h) fun u s1 w1 => ?_)
  obtain ⟨c, H1, I1, rc, rfl, q1⟩ := w1
  obtain rfl : u = Value.ref C := rc
  refine PySem.W.callWith_K (h₀ := X.base) I.ok.mod.kin M.kp (thn (ha.run pos pins s1 σ H1 _ I1 q1) fun us s2 w2 => ?_) he hpl
  obtain ⟨vs, H2, I2, r, q⟩ := w2
  exact ⟨I2.kIn, run_make M F hr hb hd hx I2 r q⟩
end
end K07

/-! # the class Stair -/
namespace K07
open PySem PySem.Spec PyProof.Rows L2
section
variable {X : Cx}
theorem plain_ints : ∀ ns : List Int, PyData.plainAll (ns.map PyData.int) = true
  | [] => rfl
  | n :: r => by
    show (true && PyData.plainAll (r.map PyData.int)) = true
    rw [plain_ints r]
    rfl
theorem cr_anyT (hc : X.calm = true) : CallR X (.builtin "any") (fun vs H Q => ∃ (a : Addr) (ns : List Int), vs = [V.ref a] ∧ SqT X.K H a (ns.map V.int) ∧ Q (.bl (ns.any fun n => n != 0)) H) := by
  intro pins s σ H vs us Q I r h
  obtain ⟨a, ns, rfl, hs, q⟩ := h
  obtain ⟨its, rv, hl, _⟩ := I.tuple hs
  rw [Vals.ref1 r]
  obtain ⟨as, ra⟩ := Dp.readsAll I (ns.map PyData.int) _ its (dp_ints X.K H ns) rv
  refine PySem.W.any_tuple_data (I.ok.hd hc) (show s.heap.IsTuple a its.toArray from hl) (show ReadsAll s.heap its.toArray.toList _ _ from ra) (plain_ints ns) (fun x m => ?_) fun h' tk hk => ?_
  · obtain ⟨n, _, rfl⟩ := List.mem_map.mp m
    exact True.intro
  · refine ⟨.bl _, H, I.kept hk, ?_, q⟩
    show Value.bool _ = Value.bool _
    rw [List.any_map]
    rfl
end
/-! ### its fields -/
def stF (s p n : V) : List (Str × V) := putF "_numbers" n (putF "_plan" p (putF "_shape" s []))
theorem sp_ : ¬ (("_shape" : Str) = "_plan") := by decide +kernel
theorem sn_ : ¬ (("_shape" : Str) = "_numbers") := by decide +kernel
theorem pn_ : ¬ (("_plan" : Str) = "_numbers") := by decide +kernel
theorem stF_shape (s p n : V) : (stF s p n).lookup ("_shape" : Str) = some s := by
  unfold stF
  rw [lookup_putF, if_neg sn_, lookup_putF, if_neg sp_, lookup_putF, if_pos rfl]
theorem stF_numbers (s p n : V) : (stF s p n).lookup ("_numbers" : Str) = some n := by
  unfold stF
  rw [lookup_putF, if_pos rfl]
/-- a method of the class -/
structure M (K : PySem.W.Frag) (x q : Str) (st : Stmt) (ps : List Str) (f : Addr) (fd : FuncData) : Prop where
  F : Fun K x q st f fd
  b : Binds K fd ps []
structure SC (K : PySem.W.Frag) (mg : Str → Option Value) (C : Addr) : Prop where
  cl : Cls K C
  nS : NoAttr K C "_shape"
  nP : NoAttr K C "_plan"
  nN : NoAttr K C "_numbers"
  mC : mg "Stair" = some (.ref C)
/-- a stair: its shape's tuple, its numbers -/
def StairO (K : PySem.W.Frag) (H : Hp) (a C : Addr) (ns ms : List Int) : Prop := ∃ dx sh pln nm, H a = some (.ins C dx (stF (.ref sh) pln (.ref nm))) ∧ SqT K H sh (ns.map V.int) ∧ H nm = some (.tup (ms.map V.int)) ∧ Tv K H pln (planD ns)
theorem StairO.same {K : PySem.W.Frag} {H H' : Hp} {a C : Addr} {ns ms : List Int} (h : StairO K H a C ns ms) (s : Same H H') : StairO K H' a C ns ms := let ⟨dx, sh, pln, nm, e1, e2, e3, e4⟩ := h; ⟨dx, sh, pln, nm, s _ _ e1, sqt_same e2 s, s _ _ e3, e4.same s⟩
theorem dead {X : Cx} {b : List Stmt} : PSs X b (fun _ _ _ => False) := ⟨fun _ _ _ _ _ _ h => h.elim⟩
section
variable {P : Program} {w : World} {K : PySem.W.Frag} {mg : Str → Option Value} {base : Heap} {C CS : Addr}
abbrev s_init : Stmt := inClass (topS 32) 0
theorem sc_init : FnScope ["self", "shape", "entries", "place"] ["self", "shape", "entries"] (defScope s_init) := ⟨rfl, rfl, rfl, by decide +kernel, rfl, by decide +kernel, by decide +kernel⟩
abbrev s_nums : Stmt := inClass (topS 32) 7
theorem sc_nums : FnScope ["self"] ["self"] (defScope s_nums) := ⟨rfl, rfl, rfl, by decide +kernel, rfl, by decide +kernel, by decide +kernel⟩
abbrev s_slead : Stmt := inClass (topS 32) 9
theorem sc_slead : FnScope ["self", "at"] ["self"] (defScope s_slead) := ⟨rfl, rfl, rfl, by decide +kernel, rfl, by decide +kernel, by decide +kernel⟩
abbrev s_sbool : Stmt := inClass (topS 32) 18
theorem sc_sbool : FnScope ["self"] ["self"] (defScope s_sbool) := ⟨rfl, rfl, rfl, by decide +kernel, rfl, by decide +kernel, by decide +kernel⟩
abbrev s_slen : Stmt := inClass (topS 32) 19
theorem sc_slen : FnScope ["self"] ["self"] (defScope s_slen) := ⟨rfl, rfl, rfl, by decide +kernel, rfl, by decide +kernel, by decide +kernel⟩
/-! ### what asks it -/
def spNums (K : PySem.W.Frag) (C : Addr) : Sp := fun vs H Q _ => ∃ a ns ms, vs = [.ref a] ∧ StairO K H a C ns ms ∧ ∀ nm, H nm = some (.tup (ms.map V.int)) → Q (.ref nm) H
theorem ok_nums {f : Addr} {fd : FuncData} {k : Nat} (R : SC K mg C) (d : M K "numbers" "Stair.numbers" s_nums ["self"] f fd) : FnOk P w K mg base CX0 (k + 1) f fd ["self"] (spNums K C) := by
  refine d.F.ok sc_nums (fun vs H Q E h => ?_) (fun cdv A outer s H vs Q E hr h => ?_)
  · obtain ⟨a, ns, ms, rfl, _⟩ := h
    rfl
  · obtain ⟨a, ns, ms, rfl, ⟨dx, sh, pln, nm, e1, e2, e3, e4⟩, g⟩ := h
    exact ⟨_, pss_one (ps_ret (pe_fld (pv 0) rfl)), _, rfl, a, C, dx, _, _, rfl, e1, R.cl, R.nN, stF_numbers _ _ _, g nm e3⟩
def spLen (K : PySem.W.Frag) (C : Addr) : Sp := fun vs H Q _ => ∃ a ns ms, vs = [.ref a] ∧ StairO K H a C ns ms ∧ Q (.int (ms.length : Nat)) H
theorem ok_slen {f : Addr} {fd : FuncData} {k : Nat} (T : Txt mg) (R : SC K mg C) (d : M K "__len__" "Stair.__len__" s_slen ["self"] f fd) : FnOk P w K mg base CX0 (k + 1) f fd ["self"] (spLen K C) := by
  refine d.F.ok sc_slen (fun vs H Q E h => ?_) (fun cdv A outer s H vs Q E hr h => ?_)
  · obtain ⟨a, ns, ms, rfl, _⟩ := h
    rfl
  · obtain ⟨a, ns, ms, rfl, ⟨dx, sh, pln, nm, e1, e2, e3, e4⟩, g⟩ := h
    refine ⟨_, (pss_one (ps_ret (pe_callB call_len_seq (by rfl) T.n_len PySem.boot_len (pa_cons (pe_fld (pv 0) rfl) pa_nil)))), ?_⟩
    refine ⟨_, rfl, a, C, dx, _, _, rfl, e1, R.cl, R.nN, stF_numbers _ _ _, nm, _, rfl, .inr (.inl (.inl e3)), ?_⟩
    rw [List.length_map]
    exact g
def spSBool (K : PySem.W.Frag) (C : Addr) : Sp := fun vs H Q _ => ∃ a ns ms, vs = [.ref a] ∧ StairO K H a C ns ms ∧ Q (.bl (ms.any fun n => n != 0)) H
theorem ok_sbool {f : Addr} {fd : FuncData} {k : Nat} (N : Nam mg) (R : SC K mg C) (d : M K "__bool__" "Stair.__bool__" s_sbool ["self"] f fd) : FnOk P w K mg base CX0 (k + 1) f fd ["self"] (spSBool K C) := by
  refine d.F.ok sc_sbool (fun vs H Q E h => ?_) (fun cdv A outer s H vs Q E hr h => ?_)
  · obtain ⟨a, ns, ms, rfl, _⟩ := h
    rfl
  · obtain ⟨a, ns, ms, rfl, ⟨dx, sh, pln, nm, e1, e2, e3, e4⟩, g⟩ := h
    refine ⟨_, (pss_one (ps_ret (pe_callB (cr_anyT rfl) (by rfl) N.n_any (by decide +kernel) (pa_cons (pe_fld (pv 0) rfl) pa_nil)))), ?_⟩
    exact ⟨_, rfl, a, C, dx, _, _, rfl, e1, R.cl, R.nN, stF_numbers _ _ _, nm, _, rfl, .inl (.inl e3), g⟩
/-- the place at which it leads -/
def spSLead (K : PySem.W.Frag) (C : Addr) : Sp := fun vs H Q _ => ∃ a ns ms, vs = [.ref a] ∧ StairO K H a C ns ms ∧ Shp ns ∧ ms.length = (pl ns).length ∧
  (∀ H', Same H H' → firstNZ 0 ms = none → Q .non H') ∧ (∀ H' i t c, Same H H' → firstNZ 0 ms = some i → (pl ns)[i]? = some t → H' c = some (.tup (triV t)) → Q (.ref c) H')
theorem firstNZ_lt : ∀ {ms : List Int} {k i : Nat}, firstNZ k ms = some i → k ≤ i ∧ i < k + ms.length
  | [], k, i, h => nomatch h
  | m :: r, k, i, h => by
    unfold firstNZ at h
    split at h
    · have z := firstNZ_lt h
      rw [List.length_cons]
      omega
    · obtain rfl := Option.some.inj h
      rw [List.length_cons]
      omega
end
end K07

/-! # stairs made -/
namespace K07
open PySem PySem.Spec PyProof.Rows L2
/-- the number at a place -/
def numAt (ps : List (List L2.Key × V)) (t : Tri) : Int := match valV ps (triK t) with
  | some (.int n) => n
  | _ => 0
theorem numAt_v {ns : List Int} {ps : List (List L2.Key × V)} (E : Ent ns ps) (t : Tri) : (valV ps (triK t)).getD (.int 0) = .int (numAt ps t) := by
  unfold numAt
  cases e : valV ps (triK t) with
  | none => rfl
  | some v =>
    obtain ⟨p, m, rfl⟩ : ∃ p, p ∈ ps ∧ p.2 = v := by
      clear E
      induction ps with
      | nil => cases e
      | cons q r ih =>
        by_cases z : q.1 = triK t
        · have y : valV (q :: r) (triK t) = some q.2 := by
            unfold valV
            rw [List.find?_cons_of_pos (by simpa using z)]
            rfl
          rw [y] at e
          exact ⟨q, List.mem_cons_self, Option.some.inj e⟩
        · have y : valV (q :: r) (triK t) = valV r (triK t) := by
            unfold valV
            rw [List.find?_cons_of_neg (by simpa using z)]
          rw [y] at e
          obtain ⟨p, m, h⟩ := ih e
          exact ⟨p, List.mem_cons_of_mem _ m, h⟩
    obtain ⟨_, _, _, n, en, _, _⟩ := E.2 p m
    rw [en]
    rfl
section
variable {P : Program} {w : World} {K : PySem.W.Frag} {mg : Str → Option Value} {base : Heap} {C CS : Addr}
mutual
theorem Tv.putI {K : PySem.W.Frag} {H : Hp} {a C dx : Addr} {fs : List (Str × V)} {y : HO} (ha : H a = some (.ins C dx fs)) : ∀ {x : V} {d : PyData}, Tv K H x d → Tv K (upd H a y) x d
  | _, _, .non => .non
  | _, _, .bl b => .bl b
  | _, _, .int i => .int i
  | _, _, .str z => .str z
  | _, _, .tup e l => .tup (sqt_upd e fun o h => by
      rw [ha] at h
      cases h
      exact ⟨fun z => (by cases z), fun _ z => (by cases z)⟩) (TvL.putI ha l)
theorem TvL.putI {K : PySem.W.Frag} {H : Hp} {a C dx : Addr} {fs : List (Str × V)} {y : HO} (ha : H a = some (.ins C dx fs)) : ∀ {zs : List V} {ds : List PyData}, TvL K H zs ds → TvL K (upd H a y) zs ds
  | _, _, .nil => .nil
  | _, _, .cons h t => .cons (Tv.putI ha h) (TvL.putI ha t)
end
/-- the instance at a is filled -/
def spInit (K : PySem.W.Frag) (C : Addr) : Sp := fun vs H Q _ => ∃ (a sh D dx : Addr) (ns : List Int) (ps : List (List L2.Key × V)), vs = [.ref a, .ref sh, .ref D] ∧ H a = some (.ins C dx []) ∧ SqT K H sh (ns.map V.int) ∧ Shp ns ∧ H D = some (.dT ps) ∧ Ent ns ps ∧
  ∀ H', Old a H H' → StairO K H' a C ns ((pl ns).map (numAt ps)) → Q .non H'
theorem ok_init {f f1 f2 f3 f4 : Addr} {fd fd1 fd2 fd3 fd4 : FuncData} (T : Txt mg) (N : Nam mg) (R : SC K mg C) (d : M K "__init__" "Stair.__init__" s_init ["self", "shape", "entries"] f fd)
    (d1 : D K mg "check_shape" s_check ["shape"] f1 fd1) (d2 : D K mg "are_entries" s_ents ["shape", "value"] f2 fd2) (d3 : D K mg "plan_of" s_plan ["shape"] f3 fd3) (d4 : D K mg "places" s_places ["shape"] f4 fd4)
    (G1 : FnOk P w K mg base (L2.CX P w) 4 f1 fd1 ["shape"] (spCheck K CS)) (G2 : FnOk P w K mg base (L2.CX P w) 6 f2 fd2 ["shape", "value"] (spEnts K)) (G3 : FnOk P w K mg base (L2.CX P w) 6 f3 fd3 ["shape"] (spPlan K)) (G4 : FnOk P w K mg base (L2.CX P w) 5 f4 fd4 ["shape"] (spPlaces K CS)) :
    FnOk P w K mg base CX0 7 f fd ["self", "shape", "entries"] (spInit K C) := by
  refine d.F.ok sc_init (fun vs H Q E h => ?_) (fun cdv A outer s H vs Q E hr h => ?_)
  · obtain ⟨a, sh, D, dx, ns, ps, rfl, _⟩ := h
    rfl
  · obtain ⟨a, sh, D, dx, ns, ps, rfl, ea, es, S, eD, EN, q⟩ := h
    have un : (A.deeper (envOfC "Stair.__init__" (defScope s_init) s.heap.objs.size f cdv)).units + 1 < cLine := by have := hr.un; omega
    refine ⟨_, (pss_cons (ps_expr (pe_call (E := fun _ _ _ => False) G1 (hr.mono (by decide)) (by rfl) d1.g d1.F.kp d1.b .nil passF (pa_cons (pv 1) pa_nil)))
      (pss_cons (ps_if (pt_not (pt_val (pe_call (E := fun _ _ _ => False) G2 (hr.mono (by decide)) (by rfl) d2.g d2.F.kp d2.b .nil passF (pa_cons (pv 1) (pa_cons (pv 2) pa_nil))))) dead pss_nil)
      (pss_cons (ps_fld (pv 0) (pv 1) rfl)
      (pss_cons (ps_fld (pv 0) (pe_call (E := fun _ _ _ => False) G3 (hr.mono (by decide)) (by rfl) d3.g d3.F.kp d3.b .nil passF (pa_cons (pv 1) pa_nil)) rfl)
      (pss_one (ps_fld (pv 0) (pe_tupleOf (by rfl) T.n_tuple (pe_lc (own := [("place", 3)]) (g := gName 3) (tt := tYes) rfl sc_init.nd (pi_tup (pe_call (E := fun _ _ _ => False) G4 (hr.mono (by decide)) (by rfl) d4.g d4.F.kp d4.b .nil passF (pa_cons (pv 1) pa_nil))) (blkOk_by (own := [("place", 3)]) (N := ["self", "shape", "entries", "place"]) (sc := defScope s_init) (by decide +kernel))
            (fun _ _ _ _ _ => (pg_name (i := 3) sc_init.nd rfl (Or.inl rfl))) (fun _ _ _ _ _ => pts_nil) (fun _ _ _ _ _ => (pe_dget2 un (pv 2) (pv 3) pe_int ⟨rfl, rfl, rfl, rfl⟩)))) rfl)))))), ?_⟩
    refine ⟨_, rfl, _, .tuple (ns.map .int), rfl, .tv (.tup es (tvl_ints ns)), fun _ H1 s1 => ?_, fun z => absurd (shp_is S) (by rw [z]; decide)⟩
    refine ⟨_, rfl, _, rfl, sh, D, ns, ps, rfl, sqt_same es s1, S, s1 _ _ eD, EN, fun H2 s2 => ⟨true, rfl, ite2 (fun z => absurd z Bool.false_ne_true) (fun _ => ?_)⟩⟩
    have s12 := s1.trans s2
    have ea2 := s12 _ _ ea
    have es2 := sqt_same es s12
    have eD2 := s12 _ _ eD
    have fa : ∀ {y : HO}, SqT K (upd H2 a y) sh (ns.map V.int) := fun {y} => sqt_upd es2 fun o h => by
      rw [ea2] at h
      cases h
      exact ⟨fun z => (by cases z), fun _ z => (by cases z)⟩
    have Da : D ≠ a := fun z => by rw [z, ea] at eD; cases eD
    refine ⟨_, rfl, _, rfl, a, C, dx, [], rfl, ea2, R.cl, R.nS, (by show 0 < 1000; decide), ?_⟩
    have o3 : Old a H (upd H2 a (.ins C dx (putF "_shape" (.ref sh) []))) := fun b o n e => by rw [upd_ne n]; exact s12 _ _ e
    have ea3 : upd H2 a (.ins C dx (putF "_shape" (.ref sh) [])) a = some (.ins C dx (putF "_shape" (.ref sh) [])) := upd_same
    have es3 : SqT K (upd H2 a (.ins C dx (putF "_shape" (.ref sh) []))) sh (ns.map V.int) := fa
    have eD3 := o3 _ _ Da eD
    revert o3 ea3 es3 eD3
    generalize upd H2 a (.ins C dx (putF "_shape" (.ref sh) [])) = H3
    intro o3 ea3 es3 eD3
    refine ⟨_, rfl, sh, ns, rfl, es3, S, fun H4 pln s4 tp4 => ?_⟩
    refine ⟨_, rfl, a, C, dx, _, rfl, s4 _ _ ea3, R.cl, R.nP, (by show 1 < 1000; decide), ?_⟩
    have ea4 := s4 _ _ ea3
    have o5 : Old a H (upd H4 a (.ins C dx (putF "_plan" pln (putF "_shape" (.ref sh) [])))) := fun b o n e => by rw [upd_ne n]; exact s4 _ _ (o3 _ _ n e)
    have ea5 : upd H4 a (.ins C dx (putF "_plan" pln (putF "_shape" (.ref sh) []))) a = some (.ins C dx (putF "_plan" pln (putF "_shape" (.ref sh) []))) := upd_same
    have es5 : SqT K (upd H4 a (.ins C dx (putF "_plan" pln (putF "_shape" (.ref sh) [])))) sh (ns.map V.int) := sqt_upd (sqt_same es3 s4) fun o h => by
      rw [ea4] at h
      cases h
      exact ⟨fun z => (by cases z), fun _ z => (by cases z)⟩
    have eD5 := o5 _ _ Da eD
    have tp5 := tp4.putI (y := .ins C dx (putF "_plan" pln (putF "_shape" (.ref sh) []))) ea4
    revert o5 ea5 es5 eD5 tp5
    generalize upd H4 a (.ins C dx (putF "_plan" pln (putF "_shape" (.ref sh) []))) = H5
    intro o5 ea5 es5 eD5 tp5
    refine ⟨_, rfl, _, .tuple (ns.map .int), rfl, .tv (.tup es5 (tvl_ints ns)), fun ns' en S' H6 y s6 ty => ?_, fun z => absurd (shp_is S) (by rw [z]; decide)⟩
    obtain rfl : ns' = ns := (ints_inj (PyData.tuple.inj en)).symm
    obtain ⟨o, xs, rfl, eo, tl⟩ := ty
    have lx : xs.length = (pl ns').length := tl.len
    have lz := (tables3 ns' (shp_mem S)).2.1
    have o6 : Old a H H6 := fun b ob n e => s6 _ _ (o5 _ _ n e)
    refine ⟨o, rfl, ⟨xs, .inl (.inl eo)⟩, fun L nL => ?_⟩
    refine lc_tup (K := K) (a := o) (xs := xs) (fun i Z => Same H6 Z ∧ Z L = some (.lst ((((pl ns').take i).map (numAt ps)).map V.int))) ⟨sub_same nL, upd_same⟩ (fun i Z _ h => .inl (.inl (h.1 _ _ eo))) ?_ ?_
    · rintro i x Z hx ⟨sm, hl⟩
      obtain ⟨t, c, et, rfl, ec⟩ := tl.tri hx
      refine ⟨rfl, yesT ⟨_, rfl, D, rfl, .inr ⟨ps, .inl (sm _ _ (s6 _ _ eD5))⟩, _, rfl, _, DGet.t (k := triK t) (sm _ _ (s6 _ _ eD5)) (sm _ _ ec), ?_⟩⟩
      have il := (List.getElem?_eq_some_iff.mp et).1
      refine ⟨_, hl, ?_, fun b ob eb => ?_, ?_⟩
      · rw [List.length_map, List.length_map, List.length_take, sizeLine_eq]
        omega
      · rw [upd_ne (fun z => by rw [z, nL] at eb; cases eb)]
        exact sm _ _ eb
      · rw [upd_same, numAt_v EN t, List.take_succ, et, List.map_append, List.map_append]
        rfl
    · rintro Z ⟨sm, hl⟩
      rw [lx, List.take_length] at hl
      refine .inl ⟨L, _, rfl, .inl (.inl hl), fun nm nn => ?_⟩
      have s7 := sub_same (o := .tup (((pl ns').map (numAt ps)).map V.int)) nn
      have ea7 := s7 _ _ (sm _ _ (s6 _ _ ea5))
      have na : nm ≠ a := fun z => by rw [z, sm _ _ (s6 _ _ ea5)] at nn; cases nn
      refine ⟨_, rfl, a, C, dx, _, rfl, ea7, R.cl, R.nN, (by show 2 < 1000; decide), ?_⟩
      refine q _ (fun b ob n e => ?_) ⟨dx, sh, pln, nm, upd_same, ?_, ?_, ?_⟩
      · rw [upd_ne n]
        exact s7 _ _ (sm _ _ (o6 _ _ n e))
      · exact sqt_upd (sqt_same (sqt_same (sqt_same es5 s6) sm) s7) fun o h => by
          rw [ea7] at h
          cases h
          exact ⟨fun z => (by cases z), fun _ z => (by cases z)⟩
      · rw [upd_ne na]
        exact upd_same
      · exact (((tp5.same s6).same sm).same s7).putI ea7
/-- none is made of what is no shape -/
def spInitX (K : PySem.W.Frag) (CS : Addr) : Sp := fun vs H Q E => ∃ (a x y : V) (d : PyData), vs = [a, x, y] ∧ Dw K H x d ∧ isSh d = false ∧ ∀ H', Same H H' → E (.ref CS) none H'
theorem ok_initX {f f1 : Addr} {fd fd1 : FuncData} (T : Txt mg) (d : M K "__init__" "Stair.__init__" s_init ["self", "shape", "entries"] f fd)
    (d1 : D K mg "check_shape" s_check ["shape"] f1 fd1) (G1 : FnOk P w K mg base (L2.CX P w) 4 f1 fd1 ["shape"] (spCheck K CS)) : FnOk P w K mg base (L2.CX P w) 5 f fd ["self", "shape", "entries"] (spInitX K CS) := by
  refine d.F.okX sc_init (fun vs H Q E h => ?_) (fun cdv A outer s H vs Q E hr h => ?_)
  · obtain ⟨a, x, y, d, rfl, _⟩ := h
    rfl
  · obtain ⟨a, x, y, d, rfl, dx, ns, q⟩ := h
    refine ⟨_, pss_cons (ps_expr (pe_call (E := E) G1 (hr.mono (by decide)) (by rfl) d1.g d1.F.kp d1.b .nil (passes_call (takes_of rfl rfl rfl rfl) (fun _ _ _ _ h => h)) (pa_cons (pv 1) pa_nil))) dead, ?_⟩
    exact ⟨_, rfl, x, d, rfl, dx, (fun z => by rw [ns] at z; cases z), fun _ H' s => q H' s⟩
abbrev s_one1 : Stmt := inClass (topS 32) 1
theorem sc_one1 : FnScope ["cls", "shape"] ["cls", "shape"] (defScope s_one1) := ⟨rfl, rfl, rfl, by decide +kernel, rfl, by decide +kernel, by decide +kernel⟩
def spOne1 (K : PySem.W.Frag) (C CS : Addr) : Sp := fun vs H Q E => ∃ (x : V) (d : PyData), vs = [.ref C, x] ∧ Dw K H x d ∧ isSh d = false ∧ ∀ H', Same H H' → E (.ref CS) none H'
theorem ok_one1 {f fI : Addr} {fd fdI : FuncData} (mk : Mk K C fI) (bI : Binds K fdI ["self", "shape", "entries"] []) (d : M K "one" "Stair.one" s_one1 ["cls", "shape"] f fd)
    (GI : FnOk P w K mg base (L2.CX P w) 5 fI fdI ["self", "shape", "entries"] (spInitX K CS)) : FnOk P w K mg base (L2.CX P w) 7 f fd ["cls", "shape"] (spOne1 K C CS) := by
  refine d.F.okX sc_one1 (fun vs H Q E h => ?_) (fun cdv A outer s H vs Q E hr h => ?_)
  · obtain ⟨x, d, rfl, _⟩ := h
    rfl
  · obtain ⟨x, d, rfl, dx, ns, q⟩ := h
    refine ⟨_, (pss_one (ps_ret (pe_makeL mk GI hr bI .nil (passes_call (takes_of rfl rfl rfl rfl) (fun _ _ _ _ h => h)) (pv 0) (pa_cons (pv 1) (pa_cons pe_dnewT pa_nil))))), ?_⟩
    refine ⟨_, rfl, rfl, _, rfl, fun D nD a dd na nd ne => ?_⟩
    have s1 := sub_same (o := .dT []) nD
    have s2 : Same H (upd (upd (upd H D (.dT [])) dd (.own a)) a (.ins C dd [])) := s1.trans ((sub_same nd).trans (sub_same (by rw [upd_ne (Ne.symm ne)]; exact na)))
    exact ⟨_, x, _, d, rfl, dx.same s2, ns, fun H' s3 => q H' (s2.trans s3)⟩
end
end K07

/-! # stairs with given numbers; tables -/
namespace K07
open PySem PySem.Spec PyProof.Rows L2
theorem stF_eq (s p n : V) : stF s p n = [(("_shape" : Str), s), (("_plan" : Str), p), (("_numbers" : Str), n)] := by
  have e1 : putF "_plan" p [(("_shape" : Str), s)] = [(("_shape" : Str), s), (("_plan" : Str), p)] := by
    show (if ("_shape" : Str) = "_plan" then _ else (("_shape" : Str), s) :: [(("_plan" : Str), p)]) = _
    rw [if_neg sp_]
  show putF "_numbers" n (putF "_plan" p [(("_shape" : Str), s)]) = _
  rw [e1]
  show (if ("_shape" : Str) = "_numbers" then _ else (("_shape" : Str), s) :: (if ("_plan" : Str) = "_numbers" then _ else (("_plan" : Str), p) :: [(("_numbers" : Str), n)])) = _
  rw [if_neg sn_, if_neg pn_]
section
variable {P : Program} {w : World} {K : PySem.W.Frag} {mg : Str → Option Value} {base : Heap} {C CS TL : Addr}
abbrev s_with : Stmt := topS 33
theorem sc_with : FnScope ["shape", "plan", "numbers", "made"] ["shape", "plan", "numbers"] (defScope s_with) := ⟨rfl, rfl, rfl, by decide +kernel, rfl, by decide +kernel, by decide +kernel⟩
def spWith (K : PySem.W.Frag) (C : Addr) : Sp := fun vs H Q _ => ∃ (sh nm : Addr) (pln : V) (ns ms : List Int), vs = [.ref sh, pln, .ref nm] ∧ SqT K H sh (ns.map V.int) ∧ Tv K H pln (planD ns) ∧ H nm = some (.tup (ms.map V.int)) ∧
  ∀ H' b, Same H H' → H b = none → StairO K H' b C ns ms → Q (.ref b) H'
theorem ok_with {f fI : Addr} {fd fdI : FuncData} (R : SC K mg C) (gL : mg "_LEAST_SHAPE" = some (.ref TL)) (least : ∀ H : Hp, SqT K H TL ([2].map V.int)) (d : D K mg "stair_with" s_with ["shape", "plan", "numbers"] f fd)
    (mk : Mk K C fI) (GI : FnOk P w K mg base CX0 7 fI fdI ["self", "shape", "entries"] (spInit K C)) (bI : Binds K fdI ["self", "shape", "entries"] []) : FnOk P w K mg base CX0 9 f fd ["shape", "plan", "numbers"] (spWith K C) := by
  refine d.F.ok sc_with (fun vs H Q E h => ?_) (fun cdv A outer s H vs Q E hr h => ?_)
  · obtain ⟨sh, nm, pln, ns, ms, rfl, _⟩ := h
    rfl
  · obtain ⟨sh, nm, pln, ns, ms, rfl, es, tp, en, q⟩ := h
    refine ⟨_, (pss_cons (ps_set (i := 3) sc_with.nd rfl (.inl rfl) (pe_make mk GI (hr.mono (by decide)) (by rfl) R.mC bI .nil pass0 (pa_cons (pe_glob (v := .ref TL) rfl gL rfl) (pa_cons pe_dnewT pa_nil))))
      (pss_cons (ps_fld (pv 3) (pv 0) rfl)
      (pss_cons (ps_fld (pv 3) (pv 1) rfl)
      (pss_cons (ps_fld (pv 3) (pv 2) rfl)
      (pss_one (ps_ret (pv 3))))))), ?_⟩
    refine fun D nD x dx nx ndx nex => ?_
    have s1 := sub_same (o := .dT []) nD
    have eD : upd H D (.dT []) D = some (.dT []) := upd_same
    revert s1 eD nx ndx
    generalize upd H D (.dT []) = H1
    intro nx ndx s1 eD
    have s2 : Same H1 (upd (upd H1 dx (.own x)) x (.ins C dx [])) := (sub_same ndx).trans (sub_same (by rw [upd_ne (Ne.symm nex)]; exact nx))
    have ent : Ent [2] [] := ⟨by decide, fun p m => by cases m⟩
    have shp : Shp [2] := ⟨⟨by decide, by decide⟩, fun n m => by obtain rfl : n = 2 := List.mem_singleton.mp m; decide, by decide⟩
    refine ⟨x, TL, D, dx, [2], [], rfl, upd_same, least _, shp, s2 _ _ eD, ent, fun H2 o2 st => ⟨rfl, ?_⟩⟩
    obtain ⟨dx2, sh0, p0, n0, ex, _, _, _⟩ := st
    have s3 : Same H1 H2 := fun b o e => o2 _ _ (ne_of_none e nx) (s2 _ _ e)
    have sH := s1.trans s3
    have nH : H x = none := s1.free nx
    refine ⟨_, rfl, _, rfl, x, C, dx2, _, rfl, ex, R.cl, R.nS, (by rw [stF_eq]; show 3 < 1000; decide), ?_⟩
    have l1 : (putF "_shape" (.ref sh) (stF (.ref sh0) p0 (.ref n0))) = stF (.ref sh) p0 (.ref n0) := by
      rw [stF_eq, stF_eq]
      show (if ("_shape" : Str) = "_shape" then _ else _) = _
      rw [if_pos rfl]
    rw [l1]
    refine ⟨_, rfl, _, rfl, x, C, dx2, _, rfl, upd_same, R.cl, R.nP, (by rw [stF_eq]; show 3 < 1000; decide), ?_⟩
    have l2 : (putF "_plan" pln (stF (.ref sh) p0 (.ref n0))) = stF (.ref sh) pln (.ref n0) := by
      rw [stF_eq, stF_eq]
      show (if ("_shape" : Str) = "_plan" then _ else (("_shape" : Str), V.ref sh) :: (if ("_plan" : Str) = "_plan" then _ else _)) = _
      rw [if_neg sp_, if_pos rfl]
    rw [l2]
    refine ⟨_, rfl, _, rfl, x, C, dx2, _, rfl, upd_same, R.cl, R.nN, (by rw [stF_eq]; show 3 < 1000; decide), ?_⟩
    have l3 : (putF "_numbers" (.ref nm) (stF (.ref sh) pln (.ref n0))) = stF (.ref sh) pln (.ref nm) := by
      rw [stF_eq, stF_eq]
      show (if ("_shape" : Str) = "_numbers" then _ else (("_shape" : Str), V.ref sh) :: (if ("_plan" : Str) = "_numbers" then _ else (("_plan" : Str), pln) :: (if ("_numbers" : Str) = "_numbers" then _ else _))) = _
      rw [if_neg sn_, if_neg pn_, if_pos rfl]
    rw [l3]
    have off : ∀ {o1 o2 o3 : HO}, Same H (upd (upd (upd H2 x o1) x o2) x o3) := fun {o1 o2 o3} b o e => by
      have bx : b ≠ x := fun z => by rw [z, nH] at e; cases e
      rw [upd_ne bx, upd_ne bx, upd_ne bx]
      exact sH _ _ e
    exact ⟨_, rfl, q _ x off nH ⟨dx2, sh, pln, nm, upd_same, sqt_same es off, off _ _ en, tp.same off⟩⟩
/-! ### tables -/
/-- the entry of a table, ones from corner to corner -/
def tabE (num : Tri → Int) (b i j : Int) : Int := if i < j then num (b, i, j) else if i = j then 1 else 0
/-- a dict that holds the numbers of the places -/
def Hold (ns : List Int) (num : Tri → Int) (ps : List (List L2.Key × V)) : Prop := ∀ t ∈ pl ns, valV ps (triK t) = some (.int (num t))
abbrev s_tent : Stmt := topS 43
theorem sc_tent : FnScope ["entries", "block", "row", "column"] ["entries", "block", "row", "column"] (defScope s_tent) := ⟨rfl, rfl, rfl, by decide +kernel, rfl, by decide +kernel, by decide +kernel⟩
def spTent : Sp := fun vs H Q _ => ∃ (De : Addr) (ps : List (List L2.Key × V)) (ns : List Int) (num : Tri → Int) (b i j : Int), vs = [.ref De, .int b, .int i, .int j] ∧ H De = some (.dT ps) ∧ Hold ns num ps ∧ (i < j → (b, i, j) ∈ pl ns) ∧ ∀ H', Same H H' → Q (.int (tabE num b i j)) H'
theorem ok_tent {f : Addr} {fd : FuncData} {k : Nat} (d : D K mg "table_entry" s_tent ["entries", "block", "row", "column"] f fd) : FnOk P w K mg base CX0 (k + 1) f fd ["entries", "block", "row", "column"] spTent := by
  refine d.F.ok sc_tent (fun vs H Q E h => ?_) (fun cdv A outer s H vs Q E hr h => ?_)
  · obtain ⟨De, ps, ns, num, b, i, j, rfl, _⟩ := h
    rfl
  · obtain ⟨De, ps, ns, num, b, i, j, rfl, eD, hold, mem, q⟩ := h
    have un : (A.deeper (envOfC "table_entry" (defScope s_tent) s.heap.objs.size f cdv)).units + 1 < cLine := by have := hr.un; omega
    refine ⟨_, (pss_cons (ps_if (pt_cmpR op_lt (pv 2) (pv 3) (nomark _)) (pss_one (ps_ret (pe_dget un (pv 0) (pe_tup (pa_cons (pv 1) (pa_cons (pv 2) (pa_cons (pv 3) pa_nil)))) (fun _ _ => rfl)))) pss_nil)
      (pss_one (ps_ret (pe_ifExp (pt_cmpR op_eq (pv 2) (pv 3) (nomark _)) pe_int pe_int)))), ?_⟩
    unfold tabE at q
    refine ⟨_, rfl, _, rfl, _, _, rfl, rfl, _, rfl, ?_⟩
    by_cases lt : i < j
    · rw [if_pos lt] at q
      refine iteP lt ⟨_, rfl, _, rfl, _, rfl, _, rfl, (by show 3 ≤ sizeLine; decide), fun p np => ⟨De, _, rfl, ?_, q _ (sub_same np)⟩⟩
      rw [← hold _ (mem lt)]
      exact DGet.t (k := triK (b, i, j)) (sub_same np _ _ eD) upd_same
    · rw [if_neg lt] at q
      refine iteQ lt ⟨_, rfl, _, rfl, rfl, _, rfl, ?_⟩
      by_cases eq : i = j
      · rw [if_pos eq] at q
        exact ite2 (fun _ => q H (Same.refl H)) (fun z => absurd (decide_eq_true (by rw [eq])) z)
      · rw [if_neg eq] at q
        exact ite2 (fun z => absurd (V.int.inj (of_decide_eq_true z)) eq) (fun _ => q H (Same.refl H))
end
end K07

/-! # whole tables -/
namespace K07
open PySem PySem.Spec PyProof.Rows L2
def rowT (num : Tri → Int) (b i : Int) (k : Nat) : List Int := (List.range k).map fun (j : Nat) => tabE num b i (j : Int)
theorem rowT_succ (num : Tri → Int) (b i : Int) (k : Nat) : rowT num b i (k + 1) = rowT num b i k ++ [tabE num b i (k : Int)] := by
  unfold rowT
  rw [List.range_succ, List.map_append]
  rfl
theorem rowT_len (num : Tri → Int) (b i : Int) (k : Nat) : (rowT num b i k).length = k := by
  unfold rowT
  rw [List.length_map, List.length_range]
def rowD (num : Tri → Int) (b : Int) (s : Nat) (i : Nat) : PyData := .tuple ((rowT num b (i : Int) s).map .int)
/-- the table of the block b, of s rows -/
def tabD (num : Tri → Int) (b : Int) (s : Nat) : PyData := .tuple ((List.range s).map (rowD num b s))
section
variable {P : Program} {w : World} {K : PySem.W.Frag} {mg : Str → Option Value} {base : Heap} {C CS TL : Addr}
abbrev s_tof : Stmt := topS 42
theorem sc_tof : FnScope ["entries", "block", "size", "i", "j"] ["entries", "block", "size"] (defScope s_tof) := ⟨rfl, rfl, rfl, by decide +kernel, rfl, by decide +kernel, by decide +kernel⟩
def spTof (K : PySem.W.Frag) : Sp := fun vs H Q _ => ∃ (De : Addr) (ps : List (List L2.Key × V)) (ns : List Int) (num : Tri → Int) (b : Int) (s : Nat), vs = [.ref De, .int b, .int (s : Int)] ∧ H De = some (.dT ps) ∧ Hold ns num ps ∧ s ≤ 6 ∧
  (∀ i j : Nat, i < j → j < s → (b, (i : Int), (j : Int)) ∈ pl ns) ∧ ∀ H' y, Same H H' → Tv K H' y (tabD num b s) → Q y H'
theorem ok_tof {f f1 : Addr} {fd fd1 : FuncData} (T : Txt mg) (d : D K mg "table_of" s_tof ["entries", "block", "size"] f fd) (d1 : D K mg "table_entry" s_tent ["entries", "block", "row", "column"] f1 fd1)
    (G1 : FnOk P w K mg base CX0 1 f1 fd1 ["entries", "block", "row", "column"] spTent) : FnOk P w K mg base CX0 2 f fd ["entries", "block", "size"] (spTof K) := by
  refine d.F.ok sc_tof (fun vs H Q E h => ?_) (fun cdv A outer s H vs Q E hr h => ?_)
  · obtain ⟨De, ps, ns, num, b, z, rfl, _⟩ := h
    rfl
  · obtain ⟨De, ps, ns, num, b, z, rfl, eD, hold, z6, mem, q⟩ := h
    refine ⟨_, (pss_one (ps_ret (pe_tupleOf (by rfl) T.n_tuple (pe_lc (own := [("i", 3)]) (g := gName 3) (tt := tYes) rfl sc_tof.nd (pi_range1 (by rfl) T.n_range (pa_cons (pv 2) pa_nil)) (blkOk_by (own := [("i", 3)]) (N := ["entries", "block", "size", "i", "j"]) (sc := defScope s_tof) (by decide +kernel))
            (fun _ _ _ _ _ => (pg_name (i := 3) sc_tof.nd rfl (Or.inr rfl))) (fun _ _ _ _ _ => pts_nil) (fun _ _ _ _ _ => (pe_tupleOfK (K := K) rfl (by rfl) T.n_tuple (pe_lc (own := [("j", 4)]) (g := gName 4) (tt := tYes) rfl sc_tof.nd (pi_range1 (by rfl) T.n_range (pa_cons (pv 2) pa_nil)) (blkOk_by (own := [("j", 4)]) (N := ["entries", "block", "size", "i", "j"]) (sc := relS _ (defScope s_tof)) (by decide +kernel))
            (fun _ _ _ _ _ => (pg_name (i := 4) sc_tof.nd rfl (Or.inl rfl))) (fun _ _ _ _ _ => pts_nil) (fun _ _ _ _ _ => (pe_call G1 hr (by rfl) d1.g d1.F.kp d1.b .nil pass0 (pa_cons (pv 0) (pa_cons (pv 1) (pa_cons (pv 3) (pa_cons (pv 4) pa_nil))))))))))))), ?_⟩
    refine ⟨_, rfl, (z : Int), rfl, by omega, by omega, fun L nL => ?_⟩
    have e0 : ((z : Int)).toNat = z := Int.toNat_natCast z
    rw [e0]
    refine lc_range (lo := 0) (n := z) (fun i Y => Same H Y ∧ ∃ acc, Y L = some (.lst acc) ∧ TvL K Y acc ((List.range i).map (rowD num b z))) ⟨sub_same nL, [], upd_same, .nil⟩ ?_ ?_
    · rintro i Y hi ⟨sy, acc, ha, la⟩
      refine ⟨rfl, yesT ?_⟩
      refine ⟨_, rfl, (z : Int), rfl, by omega, by omega, fun L2 nL2 => ?_⟩
      rw [e0]
      refine lc_range (lo := 0) (n := z) (fun j U => Same Y U ∧ U L2 = some (.lst ((rowT num b (i : Int) j).map V.int))) ⟨sub_same nL2, upd_same⟩ ?_ ?_
      · rintro j U hj ⟨su, ha2⟩
        refine ⟨rfl, yesT ?_⟩
        refine ⟨_, rfl, _, rfl, _, rfl, _, rfl, De, ps, ns, num, b, _, _, rfl, su _ _ (sy _ _ eD), hold, fun lt => ?_, fun U2 s2 => ?_⟩
        · have m := mem i j (by omega) hj
          rw [Int.zero_add, Int.zero_add]
          exact m
        · rw [Int.zero_add, Int.zero_add]
          refine ⟨_, s2 _ _ ha2, ?_, fun k o e => ?_, ?_⟩
          · rw [List.length_map, rowT_len, sizeLine_eq]
            omega
          · rw [upd_ne (fun z => by rw [z, nL2] at e; cases e)]
            exact s2 _ _ (su _ _ e)
          · rw [upd_same, rowT_succ, List.map_append]
            rfl
      · rintro U ⟨su, ha2⟩
        refine .inl ⟨L2, _, rfl, .inl (.inl ha2), fun p np => ?_⟩
        have s4 := su.trans (sub_same (o := .tup ((rowT num b (i : Int) z).map V.int)) np)
        have l1 := la.len
        rw [List.length_map, List.length_range] at l1
        refine ⟨acc, s4 _ _ ha, ?_, fun k o e => ?_, _, upd_same, ?_⟩
        · rw [sizeLine_eq]
          omega
        · rw [upd_ne (fun z => by rw [z, nL] at e; cases e)]
          exact s4 _ _ (sy _ _ e)
        · rw [List.range_succ, List.map_append]
          exact ((la.same s4).snoc (.tup (sqt_new upd_same) (tvl_ints _))).put (s4 _ _ ha)
    · rintro Y ⟨sy, acc, ha, la⟩
      exact .inl ⟨L, acc, rfl, .inl (.inl ha), fun p np => q _ _ (sy.trans (sub_same np)) (.tup (sqt_new upd_same) (la.same (sub_same np)))⟩
end
end K07

/-! # stairs compared -/
namespace K07
open PySem PySem.Spec PyProof.Rows L2
theorem canLay_ints : ∀ l : List Int, PyData.canLayAll0 (l.map .int) = true
  | [] => rfl
  | n :: r => by
    show (true && PyData.canLayAll0 (r.map .int)) = true
    rw [canLay_ints r]
    rfl
theorem shaped_ints (ns : List Int) : SeqAt.shaped (.tuple (ns.map .int)) = true := by
  show (PyData.canLayAll0 (ns.map .int) && decide (PyData.depthAll (ns.map .int) + 1 ≤ 64)) = true
  rw [canLay_ints, dep_ints]
  rfl
theorem eqv_tups (ns ms : List Int) : PyData.eqv (.tuple (ns.map .int)) (.tuple (ms.map .int)) = decide (ns = ms) := by
  show PyData.eqvAll (ns.map .int) (ms.map .int) = _
  exact eqv_ints
section
variable {P : Program} {w : World} {K : PySem.W.Frag} {mg : Str → Option Value} {base : Heap} {C CS TL : Addr}
theorem StairO.ty {H : Hp} {a : Addr} {ns ms : List Int} (IC : C8.InsC K C) (h : StairO K H a C ns ms) : TyX K H (.ref a) (.ref C) := let ⟨_, _, _, _, e, _⟩ := h; .base (.ins e IC.cl IC.ha IC.hn IC.htk IC.hm)
abbrev s_shp : Stmt := inClass (topS 32) 5
theorem sc_shp : FnScope ["self"] ["self"] (defScope s_shp) := ⟨rfl, rfl, rfl, by decide +kernel, rfl, by decide +kernel, by decide +kernel⟩
def spShp (K : PySem.W.Frag) (C : Addr) : Sp := fun vs H Q _ => ∃ a ns ms, vs = [.ref a] ∧ StairO K H a C ns ms ∧ ∀ sh, SqT K H sh (ns.map V.int) → Q (.ref sh) H
theorem ok_shp {f : Addr} {fd : FuncData} {k : Nat} (R : SC K mg C) (d : M K "shape" "Stair.shape" s_shp ["self"] f fd) : FnOk P w K mg base CX0 (k + 1) f fd ["self"] (spShp K C) := by
  refine d.F.ok sc_shp (fun vs H Q E h => ?_) (fun cdv A outer s H vs Q E hr h => ?_)
  · obtain ⟨a, ns, ms, rfl, _⟩ := h
    rfl
  · obtain ⟨a, ns, ms, rfl, ⟨dx, sh, pln, nm, e1, e2, e3, e4⟩, g⟩ := h
    exact ⟨_, pss_one (ps_ret (pe_fld (pv 0) rfl)), _, rfl, a, C, dx, _, _, rfl, e1, R.cl, R.nS, stF_shape _ _ _, g sh e2⟩
abbrev s_isst : Stmt := topS 34
theorem sc_isst : FnScope ["shape", "value"] ["shape", "value"] (defScope s_isst) := ⟨rfl, rfl, rfl, by decide +kernel, rfl, by decide +kernel, by decide +kernel⟩
/-- a stair, perhaps of another shape -/
def spIsSt (K : PySem.W.Frag) (C : Addr) : Sp := fun vs H Q _ => ∃ (sh a : Addr) (ks ns ms : List Int), vs = [.ref sh, .ref a] ∧ SqT K H sh (ks.map V.int) ∧ StairO K H a C ns ms ∧ Q (.bl (decide (ns = ks))) H
theorem ok_isst {f : Addr} {fd : FuncData} {k : Nat} (T : Txt mg) (R : SC K mg C) (IC : C8.InsC K C) (own : kit K (.ref C) (.ref C) true) (d : D K mg "is_stair" s_isst ["shape", "value"] f fd) : FnOk P w K mg base CX0 (k + 1) f fd ["shape", "value"] (spIsSt K C) := by
  refine d.F.ok sc_isst (fun vs H Q E h => ?_) (fun cdv A outer s H vs Q E hr h => ?_)
  · obtain ⟨sh, a, ks, ns, ms, rfl, _⟩ := h
    rfl
  · obtain ⟨sh, a, ks, ns, ms, rfl, es, st, q⟩ := h
    have un : (A.deeper (envOfC "is_stair" (defScope s_isst) s.heap.objs.size f cdv)).units + 64 < cLine := by have := hr.un; omega
    refine ⟨_, (pss_one (ps_ret (pe_and (pe_callB call_isi (by rfl) T.n_isinstance (by decide +kernel) (pa_cons (pv 1) (pa_cons (pe_glob (v := .ref C) rfl R.mC rfl) pa_nil))) (pe_one (pe_cmpR (op_eqD un) (pe_fld (pv 1) rfl) (pv 0) (nomark _)))))), ?_⟩
    have ty := st.ty IC
    obtain ⟨dx, sh2, pln, nm, e1, e2, e3, e4⟩ := st
    refine ⟨_, rfl, _, _, _, _, _, rfl, .own C, ty, own, _, rfl, iteT ?_⟩
    refine ⟨_, rfl, a, C, dx, _, _, rfl, e1, R.cl, R.nS, stF_shape _ _ _, _, rfl, _, _, .tup e2 (dp_ints K H ns), .tup es (dp_ints K H ks), shaped_ints _, shaped_ints _, ?_⟩
    rw [eqv_tups]
    exact q
abbrev s_seq : Stmt := inClass (topS 32) 17
theorem sc_seq : FnScope ["self", "other"] ["self", "other"] (defScope s_seq) := ⟨rfl, rfl, rfl, by decide +kernel, rfl, by decide +kernel, by decide +kernel⟩
def spSEq (K : PySem.W.Frag) (C : Addr) : Sp := fun vs H Q _ => ∃ (a : Addr) (x : V) (ns ms : List Int), vs = [.ref a, x] ∧ StairO K H a C ns ms ∧
  ((∃ (b : Addr) (ks ls : List Int), x = .ref b ∧ StairO K H b C ks ls ∧ Q (.bl (decide (ns = ks) && decide (ms = ls))) H) ∨ ∃ t, TyX K H x t ∧ kit K t (.ref C) false ∧ Q (.bl false) H)
theorem ok_seq {f : Addr} {fd : FuncData} {k : Nat} (T : Txt mg) (R : SC K mg C) (IC : C8.InsC K C) (own : kit K (.ref C) (.ref C) true) (d : M K "__eq__" "Stair.__eq__" s_seq ["self", "other"] f fd) : FnOk P w K mg base CX0 (k + 1) f fd ["self", "other"] (spSEq K C) := by
  refine d.F.ok sc_seq (fun vs H Q E h => ?_) (fun cdv A outer s H vs Q E hr h => ?_)
  · obtain ⟨a, x, ns, ms, rfl, _⟩ := h
    rfl
  · obtain ⟨a, x, ns, ms, rfl, st, q⟩ := h
    have un : (A.deeper (envOfC "Stair.__eq__" (defScope s_seq) s.heap.objs.size f cdv)).units + 64 < cLine := by have := hr.un; omega
    refine ⟨_, (pss_one (ps_ret (pe_and (pe_callB call_isi (by rfl) T.n_isinstance (by decide +kernel) (pa_cons (pv 1) (pa_cons (pe_glob (v := .ref C) rfl R.mC rfl) pa_nil))) (pe_and (pe_cmpR (op_eqD un) (pe_fld (pv 0) rfl) (pe_fld (pv 1) rfl) (nomark _)) (pe_one (pe_cmpR (op_eqD un) (pe_fld (pv 0) rfl) (pe_fld (pv 1) rfl) (nomark _))))))), ?_⟩
    obtain ⟨dx, sh, pln, nm, e1, e2, e3, e4⟩ := st
    rcases q with ⟨b, ks, ls, rfl, sb, q⟩ | ⟨t, ty, no, q⟩
    · have ty := sb.ty IC
      obtain ⟨dx2, sh2, pln2, nm2, b1, b2, b3, b4⟩ := sb
      refine ⟨_, rfl, _, _, _, _, _, rfl, .own C, ty, own, _, rfl, iteT ?_⟩
      refine ⟨_, rfl, a, C, dx, _, _, rfl, e1, R.cl, R.nS, stF_shape _ _ _, _, rfl, b, C, dx2, _, _, rfl, b1, R.cl, R.nS, stF_shape _ _ _, _, _, .tup e2 (dp_ints K H ns), .tup b2 (dp_ints K H ks), shaped_ints _, shaped_ints _, ?_⟩
      rw [eqv_tups]
      by_cases z : ns = ks
      · rw [decide_eq_true z] at q ⊢
        rw [Bool.true_and] at q
        refine ⟨_, rfl, iteT ⟨_, rfl, a, C, dx, _, _, rfl, e1, R.cl, R.nN, stF_numbers _ _ _, _, rfl, b, C, dx2, _, _, rfl, b1, R.cl, R.nN, stF_numbers _ _ _, _, _, .tup (sqt_new e3) (dp_ints K H ms), .tup (sqt_new b3) (dp_ints K H ls), shaped_ints _, shaped_ints _, ?_⟩⟩
        rw [eqv_tups]
        exact q
      · rw [decide_eq_false z] at q ⊢
        rw [Bool.false_and] at q
        exact ⟨_, rfl, iteF q⟩
    · exact ⟨_, rfl, _, _, _, _, _, rfl, .own C, ty, no, _, rfl, iteF q⟩
end
end K07

/-! # products of numbers -/
namespace K07
open PySem PySem.Spec PyProof.Rows L2 RZ
theorem walk_zipT {K : PySem.W.Frag} {a b : Addr} {xs ys : List V} (e : xs.length = ys.length) : Walk (ItzT K a b) xs.length (fun H => SqT K H a xs ∧ SqT K H b ys) (YPair (fun i => xs[i]?) (fun i => ys[i]?)) := by
  refine ⟨fun i H l q => ⟨xs, ys, xs[i], ys[i], q.1, q.2, List.getElem?_eq_getElem l, List.getElem?_eq_getElem (by omega)⟩, fun H q => ⟨xs, ys, q.1, q.2, .inl (Nat.le_refl _)⟩, fun i H v H' _ q y => ?_⟩
  obtain ⟨T, x, z, h1, h2, h3, h4, h5⟩ := y
  exact ⟨T, x, z, h1, h2, h3, h4 xs q.1, h5 ys q.2⟩
theorem ixN_at {n j : Nat} (h : j < n) : ixN n (j : Int) = some j := by
  unfold ixN
  rw [if_pos (by omega), if_pos (by omega), Int.toNat_natCast]
/-- one use of a number -/
def stepU (ys : List Int) (m : Int) (f : List Int) (p : Int × Int) : List Int := f.set p.1.toNat (f.getD p.1.toNat 0 + m * ys.getD p.2.toNat 0)
def stepP (ys : List Int) (f : List Int) (q : Int × List (Int × Int)) : List Int := if q.1 = 0 then f else q.2.foldl (stepU ys q.1) f
/-- the numbers of a product -/
def prodL (xs ys : List Int) (us : List (List (Int × Int))) : List Int := (xs.zip us).foldl (stepP ys) (List.zipWith (· + ·) xs ys)
theorem stepU_len (ys : List Int) (m : Int) : ∀ (ps : List (Int × Int)) (f : List Int), (ps.foldl (stepU ys m) f).length = f.length
  | [], f => rfl
  | p :: r, f => by
    rw [List.foldl_cons, stepU_len ys m r]
    unfold stepU
    rw [List.length_set]
theorem stepP_len (ys : List Int) : ∀ (qs : List (Int × List (Int × Int))) (f : List Int), (qs.foldl (stepP ys) f).length = f.length
  | [], f => rfl
  | q :: r, f => by
    rw [List.foldl_cons, stepP_len ys r]
    unfold stepP
    split
    · rfl
    · exact stepU_len ys q.1 q.2 f
section
variable {P : Program} {w : World} {K : PySem.W.Frag} {mg : Str → Option Value} {base : Heap} {C CS TL : Addr}
abbrev s_rest : Stmt := topS 26
theorem sc_rest : FnScope ["numbers", "modulus", "number"] ["numbers", "modulus"] (defScope s_rest) := ⟨rfl, rfl, rfl, by decide +kernel, rfl, by decide +kernel, by decide +kernel⟩
/-- without a modulus -/
def spRest : Sp := fun vs H Q _ => ∃ (l : Addr) (xs : List V), vs = [.ref l, .int 0] ∧ H l = some (.lst xs) ∧ ∀ p, H p = none → Q (.ref p) (upd H p (.tup xs))
theorem ok_rest {f : Addr} {fd : FuncData} {k : Nat} (T : Txt mg) (d : D K mg "rest" s_rest ["numbers", "modulus"] f fd) : FnOk P w K mg base CX0 (k + 1) f fd ["numbers", "modulus"] spRest := by
  refine d.F.ok sc_rest (fun vs H Q E h => ?_) (fun cdv A outer s H vs Q E hr h => ?_)
  · obtain ⟨l, xs, rfl, _⟩ := h
    rfl
  · obtain ⟨l, xs, rfl, hl, q⟩ := h
    refine ⟨_, pss_cons (ps_if (pt_cmpR op_eq (pv 1) pe_int (nomark _)) (pss_one (ps_ret (pe_tupleOf (by rfl) T.n_tuple (pv 0)))) pss_nil) dead, ?_⟩
    exact ⟨_, rfl, rfl, _, rfl, ite2 (fun _ => ⟨_, rfl, .inl ⟨l, xs, rfl, .inl (.inl hl), fun p np => q p np⟩⟩) (fun z => absurd (decide_eq_true rfl) z)⟩
abbrev s_times : Stmt := topS 27
theorem sc_times : FnScope ["plan", "one", "other", "modulus", "found", "number", "uses", "at", "high", "a", "b"] ["plan", "one", "other", "modulus"] (defScope s_times) := ⟨rfl, rfl, rfl, by decide +kernel, rfl, by decide +kernel, by decide +kernel⟩
/-- the pairs are within the numbers -/
def InR (n : Nat) (us : List (List (Int × Int))) : Prop := ∀ u ∈ us, ∀ p ∈ u, (0 ≤ p.1 ∧ p.1 < n) ∧ 0 ≤ p.2 ∧ p.2 < n
def usD (us : List (List (Int × Int))) : PyData := .tuple (us.map fun u => .tuple (u.map prD))
def spTimes (K : PySem.W.Frag) : Sp := fun vs H Q _ => ∃ (pln : V) (a b : Addr) (xs ys : List Int) (us : List (List (Int × Int))), vs = [pln, .ref a, .ref b, .int 0] ∧ Tv K H pln (usD us) ∧ H a = some (.tup (xs.map V.int)) ∧ H b = some (.tup (ys.map V.int)) ∧
  xs.length = us.length ∧ ys.length = xs.length ∧ xs.length ≤ 100 ∧ InR xs.length us ∧ (∀ x ∈ xs, x.natAbs < 2 ^ 400) ∧ (∀ y ∈ ys, y.natAbs < 2 ^ 400) ∧
  ∀ H' p, Same H H' → H p = none → H' p = some (.tup ((prodL xs ys us).map V.int)) → Q (.ref p) H'
/-- the rule for a def of four parameters with a default -/
def BodyT (P : Program) (w : World) (K : PySem.W.Frag) (mg : Str → Option Value) (base : Heap) (f : Addr) (fd : FuncData) : Prop := ∀ (sp : Sp) (j : Nat), (∀ vs H Q E, sp vs H Q E → vs.length = 4) →
  (∀ (cdv : Value) (A : Around) (outer : List Env) (s : Shared) (H : Hp) (vs : List V) (Q : VK) (E : XK), Room j (A.deeper (envOfC "times" (defScope s_times) s.heap.objs.size f cdv)) → sp vs H Q E →
    ∃ t, PSs (cxOf CX0 P w K mg base ["plan", "one", "other", "modulus", "found", "number", "uses", "at", "high", "a", "b"] "times" (defScope s_times) f cdv A outer s H E).nox (defBody s_times) t ∧ t { nx := fun _ H' => Q .non H', rt := Q } (L2.start ["plan", "one", "other", "modulus", "found", "number", "uses", "at", "high", "a", "b"] vs) H) →
  FnOk P w K mg base CX0 (j + 1) f fd ["plan", "one", "other", "modulus"] sp
theorem ok_times {f f1 : Addr} {fd fd1 : FuncData} {k : Nat} (T : Txt mg) (nz : mg "zip" = none) (body : BodyT P w K mg base f fd) (d1 : D K mg "rest" s_rest ["numbers", "modulus"] f1 fd1) : FnOk P w K mg base CX0 (k + 2) f fd ["plan", "one", "other", "modulus"] (spTimes K) := by
  have G1 : FnOk P w K mg base CX0 (k + 1) f1 fd1 ["numbers", "modulus"] spRest := ok_rest T d1
  refine body (spTimes K) (k + 1) (fun vs H Q E h => ?_) (fun cdv A outer s H vs Q E hr h => ?_)
  · obtain ⟨pln, a, b, xs, ys, us, rfl, _⟩ := h
    rfl
  · obtain ⟨pln, a, b, xs, ys, us, rfl, tp, ea, eb, lu, ly, l100, inr, bx, by_, q⟩ := h
    refine ⟨_, (pss_cons (ps_setLc (i := 4) (own := [("a", 9), ("b", 10)]) (g := gTup K 2 (gCons (gName 9) (gCons (gName 10) gNil))) (tt := tYes) rfl sc_times.nd rfl rfl rfl (pi_zipA (by rfl) nz (pa_cons (pv 1) (pa_cons (pv 2) pa_nil))) (blkOk_by (own := [("a", 9), ("b", 10)]) (N := ["plan", "one", "other", "modulus", "found", "number", "uses", "at", "high", "a", "b"]) (sc := defScope s_times) (by decide +kernel))
            (fun _ _ _ _ _ => (pg_tup rfl (pgs_cons (pg_name (i := 9) sc_times.nd rfl (Or.inl rfl)) (pgs_cons (pg_name (i := 10) sc_times.nd rfl (Or.inl rfl)) pgs_nil)))) (fun _ _ _ _ _ => pts_nil) (fun _ _ _ _ _ => (pe_op op_add (pv 9) (pv 10))))
      (pss_cons (ps_for PassesOwn.never rfl (pi_zipA (by rfl) nz (pa_cons (pv 1) (pa_cons (pv 0) pa_nil))) (pg_tup rfl (pgs_cons (pg_name (i := 5) sc_times.nd rfl (.inl rfl)) (pgs_cons (pg_name (i := 6) sc_times.nd rfl (.inl rfl)) pgs_nil)))
        (pss_one (ps_if (pt_truth (pv 5) (fun _ => rfl)) (pss_one (ps_for PassesOwn.never rfl (pi_tup (pv 6)) (pg_tup rfl (pgs_cons (pg_name (i := 7) sc_times.nd rfl (.inl rfl)) (pgs_cons (pg_name (i := 8) sc_times.nd rfl (.inl rfl)) pgs_nil)))
        (pss_one (ps_asg (pe_op op_add (pe_ix ix_list (pv 4) (pv 7) (fun _ _ => rfl)) (pe_op op_mulW (pv 5) (pe_ix ix_tup (pv 2) (pv 8) (fun _ _ => rfl)))) (pg_sub (pv 4) (pv 7) set_list))))) pss_nil)))
      (pss_one (ps_ret (pe_call G1 hr (by rfl) d1.g d1.F.kp d1.b .nil pass0 (pa_cons (pv 4) (pa_cons (pv 3) pa_nil))))))), ?_⟩
    obtain ⟨o, ws, rfl, eo, tl⟩ : ∃ o ws, pln = .ref o ∧ SqT K H o ws ∧ TvL K H ws (us.map fun u => .tuple (u.map prD)) := by
      cases tp with
      | tup e l => exact ⟨_, _, rfl, e, l⟩
    have lw : ws.length = us.length := by rw [tl.len, List.length_map]
    refine ⟨_, rfl, _, rfl, a, b, _, _, rfl, .inr ⟨sqt_new ea, sqt_new eb, fun L nL => ?_⟩⟩
    have lxy : (xs.map V.int).length = (ys.map V.int).length := by rw [List.length_map, List.length_map, ly]
    refine lc_it (walk_zipT (K := K) (a := a) (b := b) lxy) (fun i Z => Same H Z ∧ Z L = some (.lst (((List.zipWith (· + ·) xs ys).take i).map V.int))) ⟨sub_same nL, upd_same⟩ (fun i Z _ h => ⟨sqt_same (sqt_new ea) h.1, sqt_same (sqt_new eb) h.1⟩) ?_ ?_
    · rintro i v Z Z' hi ⟨sm, hl⟩ ⟨Tp, x0, y0, rfl, nT, rfl, ex, ey⟩
      obtain ⟨x, ex2, rfl⟩ := int_at ex
      obtain ⟨y, ey2, rfl⟩ := int_at ey
      have s2 := sub_same (o := .tup [V.int x, V.int y]) nT
      have hl2 := s2 _ _ hl
      have sm2 := sm.trans s2
      have hT : upd Z Tp (.tup [V.int x, V.int y]) Tp = some (.tup [V.int x, V.int y]) := upd_same
      revert hl2 sm2 hT
      generalize upd Z Tp (.tup [V.int x, V.int y]) = Z2
      intro hl2 sm2 hT
      refine ⟨Tp, _, rfl, .inl (.inl hT), rfl, _, _, rfl, _, _, rfl, rfl, rfl, yesT ?_⟩
      refine ⟨_, rfl, _, rfl, _, _, rfl, rfl, _, hl2, ?_, fun k ob e => ?_, ?_⟩
      · rw [List.length_map, List.length_take, sizeLine_eq]
        rw [List.length_map] at hi
        omega
      · rw [upd_ne (fun z => by rw [z, nL] at e; cases e)]
        exact sm2 _ _ e
      · have ez : (List.zipWith (· + ·) xs ys)[i]? = some (x + y) := by rw [List.getElem?_zipWith, ex2, ey2]
        rw [upd_same, List.take_succ, ez, List.map_append]
        rfl
    · rintro Z ⟨sm, hl⟩
      have lz : (List.zipWith (· + ·) xs ys).length = xs.length := by rw [List.length_zipWith, ly, Nat.min_self]
      rw [List.length_map, ← lz, List.take_length] at hl
      have lxw : (xs.map V.int).length = ws.length := by rw [List.length_map, lw, lu]
      refine ⟨_, rfl, _, rfl, a, o, _, _, rfl, .inr ⟨sqt_same (sqt_new ea) sm, sqt_same eo sm, ?_⟩⟩
      refine for_it (walk_zipT (K := K) (a := a) (b := o) lxw) (fun i σ Y => (∃ y5 y6 y7 y8, σ = [some (.ref o), some (.ref a), some (.ref b), some (.int 0), some (.ref L), y5, y6, y7, y8, none, none]) ∧ Same H Y ∧ Y L = some (.lst ((((xs.zip us).take i).foldl (stepP ys) (List.zipWith (· + ·) xs ys)).map V.int)))
        ⟨⟨_, _, _, _, rfl⟩, sm, hl⟩ (fun i σ Y _ h => ⟨sqt_same (sqt_new ea) h.2.1, sqt_same eo h.2.1⟩) ?_ ?_
      · rintro i v σ Y Y' hi ⟨⟨y5, y6, y7, y8, rfl⟩, sy, hy⟩ ⟨Tp, x0, y0, rfl, nT, rfl, ex, ey⟩
        obtain ⟨x, ex2, rfl⟩ := int_at ex
        obtain ⟨d, ed, td⟩ := tl.get ey
        rw [List.getElem?_map] at ed
        obtain ⟨u, eu, rfl⟩ := Option.map_eq_some_iff.mp ed
        have eq : (xs.zip us)[i]? = some (x, u) := by rw [List.getElem?_zip_eq_some]; exact ⟨ex2, eu⟩
        have s2 := sub_same (o := .tup [V.int x, y0]) nT
        have hy2 := s2 _ _ hy
        have sy2 := sy.trans s2
        have hT : upd Y Tp (.tup [V.int x, y0]) Tp = some (.tup [V.int x, y0]) := upd_same
        revert hy2 sy2 hT
        generalize upd Y Tp (.tup [V.int x, y0]) = Y2
        intro hy2 sy2 hT
        refine ⟨Tp, _, rfl, .inl (.inl hT), rfl, _, _, rfl, _, _, rfl, rfl, _, rfl, _, rfl, ?_⟩
        have next : ((xs.zip us).take (i + 1)).foldl (stepP ys) (List.zipWith (· + ·) xs ys) = stepP ys (((xs.zip us).take i).foldl (stepP ys) (List.zipWith (· + ·) xs ys)) (x, u) := by
          rw [List.take_succ, eq, List.foldl_append]
          rfl
        have lF : (((xs.zip us).take i).foldl (stepP ys) (List.zipWith (· + ·) xs ys)).length = xs.length := by rw [stepP_len, lz]
        rw [next]
        revert hy2 lF
        generalize ((xs.zip us).take i).foldl (stepP ys) (List.zipWith (· + ·) xs ys) = F
        intro hy2 lF
        have bx1 := bx x (List.mem_of_getElem? ex2)
        refine ite2 (fun e => ?_) (fun e => ?_)
        · have hx : x ≠ 0 := fun z => by rw [z] at e; exact absurd e (by decide)
          obtain ⟨ou, zs, rfl, eou, tlu⟩ : ∃ ou zs, y0 = .ref ou ∧ SqT K H ou zs ∧ TvL K H zs (u.map prD) := by
            cases td with
            | tup e l => exact ⟨_, _, rfl, e, l⟩
          have lzu : zs.length = u.length := by rw [tlu.len, List.length_map]
          have hF : stepP ys F (x, u) = u.foldl (stepU ys x) F := if_neg hx
          rw [hF]
          refine ⟨_, rfl, ou, rfl, ⟨zs, sqt_same eou sy2⟩, ?_⟩
          refine for_it (walk_tup (K := K) (a := ou) (xs := zs)) (fun j σ Z => (∃ y7 y8, σ = [some (.ref o), some (.ref a), some (.ref b), some (.int 0), some (.ref L), some (.int x), some (.ref ou), y7, y8, none, none]) ∧ Same H Z ∧ Z L = some (.lst (((u.take j).foldl (stepU ys x) F).map V.int)))
            ⟨⟨_, _, rfl⟩, sy2, hy2⟩ (fun j σ Z _ h => sqt_same eou h.2.1) ?_ ?_
          · rintro j v σ Z Z' hj ⟨⟨y7, y8, rfl⟩, sz, hz⟩ ⟨rfl, ev⟩
            obtain ⟨d, ed2, tdv⟩ := tlu.get ev
            rw [List.getElem?_map] at ed2
            obtain ⟨⟨p1, p2⟩, ep, rfl⟩ := Option.map_eq_some_iff.mp ed2
            obtain ⟨pa, rfl, spa⟩ : ∃ pa, v = .ref pa ∧ SqT K H pa [.int p1, .int p2] := by
              unfold prD at tdv
              cases tdv with
              | tup e l =>
                cases l with
                | cons h1 l =>
                  cases l with
                  | cons h2 l =>
                    cases l
                    cases h1
                    cases h2
                    exact ⟨_, rfl, e⟩
            obtain ⟨⟨a0, a1⟩, b0, b1⟩ := inr u (List.mem_of_getElem? eu) _ (List.mem_of_getElem? ep)
            dsimp only at a0 a1 b0 b1
            obtain ⟨n1, rfl⟩ := Int.eq_ofNat_of_zero_le a0
            obtain ⟨n2, rfl⟩ := Int.eq_ofNat_of_zero_le b0
            have nx2 : (u.take (j + 1)).foldl (stepU ys x) F = stepU ys x ((u.take j).foldl (stepU ys x) F) ((n1 : Int), (n2 : Int)) := by
              rw [List.take_succ, ep, List.foldl_append]
              rfl
            have lG : ((u.take j).foldl (stepU ys x) F).length = xs.length := by rw [stepU_len, lF]
            rw [nx2]
            revert hz lG
            generalize (u.take j).foldl (stepU ys x) F = G
            intro hz lG
            have i1 : n1 < G.length := by omega
            have i2 : n2 < ys.length := by omega
            have g1 : (G.map V.int)[n1]? = some (V.int (G.getD n1 0)) := by
              rw [List.getElem?_map, List.getD_eq_getElem?_getD, List.getElem?_eq_getElem i1]
              rfl
            have g2 : (ys.map V.int)[n2]? = some (V.int (ys.getD n2 0)) := by
              rw [List.getElem?_map, List.getD_eq_getElem?_getD, List.getElem?_eq_getElem i2]
              rfl
            have by1 : (ys.getD n2 0).natAbs < 2 ^ 400 := by
              rw [List.getD_eq_getElem?_getD, List.getElem?_eq_getElem i2]
              exact by_ _ (List.getElem_mem i2)
            have hst : (G.set n1 (G.getD n1 0 + x * ys.getD n2 0)).map V.int = (G.map V.int).set n1 (V.int (G.getD n1 0 + x * ys.getD n2 0)) := by rw [List.map_set]
            refine ⟨pa, _, rfl, sqt_same spa sz, rfl, _, _, rfl, _, _, rfl, rfl, ?_⟩
            refine ⟨_, rfl, _, rfl, L, _, (n1 : Int), _, rfl, rfl, .inl (.inl hz), atI_nat g1, ?_⟩
            refine ⟨_, rfl, _, rfl, _, rfl, b, _, (n2 : Int), _, rfl, rfl, sqt_same (sqt_new eb) sz, atI_nat g2, ?_⟩
            refine ⟨_, _, rfl, rfl, wide_mul bx1 by1 (by decide) (by decide) (by decide), _, _, rfl, rfl, ?_⟩
            refine ⟨_, rfl, _, rfl, L, _, (n1 : Int), n1, rfl, rfl, hz, ixN_at (by rw [List.length_map]; exact i1), ⟨_, _, rfl⟩, fun k ob e => ?_, ?_⟩
            · rw [upd_ne (fun z => by rw [z, nL] at e; cases e)]
              exact sz _ _ e
            · rw [upd_same, ← hst]
              rfl
          · rintro σ Z ⟨⟨y7, y8, rfl⟩, sz, hz⟩
            rw [lzu, List.take_length] at hz
            exact ⟨⟨_, _, _, _, rfl⟩, sz, hz⟩
        · have hx : x = 0 := Decidable.byContradiction fun z => e (bne_iff_ne.mpr z)
          have hF : stepP ys F (x, u) = F := if_pos hx
          rw [hF]
          exact ⟨⟨_, _, _, _, rfl⟩, sy2, hy2⟩
      · rintro σ Y ⟨⟨y5, y6, y7, y8, rfl⟩, sy, hy⟩
        have lt : (xs.map V.int).length = (xs.zip us).length := by rw [List.length_map, List.length_zip, lu, Nat.min_self]
        rw [lt, List.take_length] at hy
        exact ⟨_, rfl, _, rfl, L, _, rfl, hy, fun p np => q _ p (sy.trans (sub_same np)) (sy.free np) upd_same⟩
end
end K07

/-! # stairs multiplied -/
namespace K07
open PySem PySem.Spec PyProof.Rows L2
/-- the pairs of a plan -/
def usL (ns : List Int) : List (List (Int × Int)) := (pl ns).map fun t => useP ns t (useN ns t)
theorem planD_us (ns : List Int) : planD ns = usD (usL ns) := by
  unfold planD usD usL
  rw [List.map_map]
  rfl
theorem usL_len (ns : List Int) : (usL ns).length = (pl ns).length := List.length_map _
theorem inR_plan {ns : List Int} (S : Shp ns) : InR (pl ns).length (usL ns) := by
  intro u hu p hp
  obtain ⟨t, ht, rfl⟩ := List.mem_map.mp hu
  unfold useP at hp
  obtain ⟨c, hc, rfl⟩ := List.mem_map.mp hp
  rw [List.mem_range] at hc
  obtain ⟨_, _, h3⟩ := tables3 ns (shp_mem S)
  obtain ⟨_, ⟨a0, a1, a2⟩, h6, hall⟩ := h3 t ht
  unfold useN at hc
  have c6 : c < 6 := by omega
  have hx := List.all_eq_true.mp hall c (List.mem_range.mpr c6)
  have dc : decide ((c : Int) < ns.getD t.1.toNat 0 - (t.2.2 + 1)) = true := decide_eq_true (by omega)
  rw [dc, Bool.not_true, Bool.false_or, Bool.and_eq_true, decide_eq_true_eq, decide_eq_true_eq] at hx
  exact ⟨⟨Int.natCast_nonneg _, Int.ofNat_lt.mpr (List.idxOf_lt_length_of_mem hx.1)⟩, Int.natCast_nonneg _, Int.ofNat_lt.mpr (List.idxOf_lt_length_of_mem hx.2)⟩
theorem stF_plan (s p n : V) : (stF s p n).lookup ("_plan" : Str) = some p := by
  rw [stF_eq]
  rfl
section
variable {P : Program} {w : World} {K : PySem.W.Frag} {mg : Str → Option Value} {base : Heap} {C CS TL : Addr}
abbrev s_ckst : Stmt := topS 35
theorem sc_ckst : FnScope ["shape", "value"] ["shape", "value"] (defScope s_ckst) := ⟨rfl, rfl, rfl, by decide +kernel, rfl, by decide +kernel, by decide +kernel⟩
/-- a stair of the shape -/
def spCkSt (K : PySem.W.Frag) (C : Addr) : Sp := fun vs H Q _ => ∃ (sh a : Addr) (ns ms : List Int), vs = [.ref sh, .ref a] ∧ SqT K H sh (ns.map V.int) ∧ StairO K H a C ns ms ∧ Q .non H
theorem ok_ckst {f f1 : Addr} {fd fd1 : FuncData} {k : Nat} (d : D K mg "check_stair" s_ckst ["shape", "value"] f fd) (d1 : D K mg "is_stair" s_isst ["shape", "value"] f1 fd1) (G1 : FnOk P w K mg base CX0 (k + 1) f1 fd1 ["shape", "value"] (spIsSt K C)) :
    FnOk P w K mg base CX0 (k + 2) f fd ["shape", "value"] (spCkSt K C) := by
  refine d.F.ok sc_ckst (fun vs H Q E h => ?_) (fun cdv A outer s H vs Q E hr h => ?_)
  · obtain ⟨sh, a, ns, ms, rfl, _⟩ := h
    rfl
  · obtain ⟨sh, a, ns, ms, rfl, es, st, q⟩ := h
    refine ⟨_, pss_one (ps_if (pt_not (pt_val (pe_call G1 hr (by rfl) d1.g d1.F.kp d1.b .nil pass0 (pa_cons (pv 0) (pa_cons (pv 1) pa_nil))))) dead pss_nil), ?_⟩
    exact ⟨_, rfl, _, rfl, sh, a, ns, ns, ms, rfl, es, st, _, rfl, ite2 (fun z => by rw [decide_eq_true rfl] at z; exact absurd z Bool.false_ne_true) (fun _ => q)⟩
abbrev s_mul : Stmt := inClass (topS 32) 10
theorem sc_mul : FnScope ["self", "other"] ["self", "other"] (defScope s_mul) := ⟨rfl, rfl, rfl, by decide +kernel, rfl, by decide +kernel, by decide +kernel⟩
def spMul (K : PySem.W.Frag) (C : Addr) : Sp := fun vs H Q _ => ∃ (a b : Addr) (ns xs ys : List Int), vs = [.ref a, .ref b] ∧ StairO K H a C ns xs ∧ StairO K H b C ns ys ∧ Shp ns ∧ xs.length = (pl ns).length ∧ ys.length = (pl ns).length ∧
  (∀ x ∈ xs, x.natAbs < 2 ^ 400) ∧ (∀ y ∈ ys, y.natAbs < 2 ^ 400) ∧ ∀ H' c, Same H H' → StairO K H' c C ns (prodL xs ys (usL ns)) → Q (.ref c) H'
theorem ok_mul {f f1 f2 fT : Addr} {fd fd1 fd2 fdT : FuncData} {ds : List Value} (T : Txt mg) (R : SC K mg C) (IC : C8.InsC K C) (own : kit K (.ref C) (.ref C) true) (d : M K "__mul__" "Stair.__mul__" s_mul ["self", "other"] f fd)
    (d1 : D K mg "check_stair" s_ckst ["shape", "value"] f1 fd1) (G1 : FnOk P w K mg base CX0 2 f1 fd1 ["shape", "value"] (spCkSt K C))
    (d2 : D K mg "stair_with" s_with ["shape", "plan", "numbers"] f2 fd2) (G2 : FnOk P w K mg base CX0 9 f2 fd2 ["shape", "plan", "numbers"] (spWith K C))
    (gT : mg "times" = some (.ref fT)) (kT : PySem.W.keepIn K (.ref fT) = true) (bT : Binds K fdT ["plan", "one", "other", "modulus"] ds) (vT : Vals [.int 0] ds) (G3 : FnOk P w K mg base CX0 2 fT fdT ["plan", "one", "other", "modulus"] (spTimes K)) :
    FnOk P w K mg base CX0 10 f fd ["self", "other"] (spMul K C) := by
  refine d.F.ok sc_mul (fun vs H Q E h => ?_) (fun cdv A outer s H vs Q E hr h => ?_)
  · obtain ⟨a, b, ns, xs, ys, rfl, _⟩ := h
    rfl
  · obtain ⟨a, b, ns, xs, ys, rfl, sa, sb, S, lx, ly, bx, by_, q⟩ := h
    refine ⟨_, (pss_cons (ps_if (pt_not (pt_val (pe_callB call_isi (by rfl) T.n_isinstance (by decide +kernel) (pa_cons (pv 1) (pa_cons (pe_glob (v := .ref C) rfl R.mC rfl) pa_nil))))) dead pss_nil)
      (pss_cons (ps_expr (pe_call G1 (hr.mono (by decide)) (by rfl) d1.g d1.F.kp d1.b .nil pass0 (pa_cons (pe_fld (pv 0) rfl) (pa_cons (pv 1) pa_nil))))
      (pss_one (ps_ret (pe_call G2 hr (by rfl) d2.g d2.F.kp d2.b .nil pass0 (pa_cons (pe_fld (pv 0) rfl) (pa_cons (pe_fld (pv 0) rfl) (pa_cons (pe_call G3 (hr.mono (by decide)) (by rfl) gT kT bT vT pass0 (pa_cons (pe_fld (pv 0) rfl) (pa_cons (pe_fld (pv 0) rfl) (pa_cons (pe_fld (pv 1) rfl) pa_nil)))) pa_nil)))))))), ?_⟩
    have ty := sb.ty IC
    have sb0 := sb
    obtain ⟨dx, sh, pln, nm, e1, e2, e3, e4⟩ := sa
    obtain ⟨dx2, sh2, pln2, nm2, b1, b2, b3, b4⟩ := sb
    have t30 : (pl ns).length ≤ 30 := (tables3 ns (shp_mem S)).2.1
    refine ⟨_, rfl, _, _, _, _, _, rfl, .own C, ty, own, _, rfl, ite2 (fun z => absurd z Bool.false_ne_true) (fun _ => ?_)⟩
    refine ⟨_, rfl, a, C, dx, _, _, rfl, e1, R.cl, R.nS, stF_shape _ _ _, _, rfl, sh, b, ns, ys, rfl, e2, sb0, ?_⟩
    refine ⟨_, rfl, a, C, dx, _, _, rfl, e1, R.cl, R.nS, stF_shape _ _ _, _, rfl, a, C, dx, _, _, rfl, e1, R.cl, R.nP, stF_plan _ _ _, ?_⟩
    refine ⟨_, rfl, a, C, dx, _, _, rfl, e1, R.cl, R.nP, stF_plan _ _ _, _, rfl, a, C, dx, _, _, rfl, e1, R.cl, R.nN, stF_numbers _ _ _, _, rfl, b, C, dx2, _, _, rfl, b1, R.cl, R.nN, stF_numbers _ _ _, ?_⟩
    have e4' := e4
    rw [planD_us] at e4'
    refine ⟨pln, nm, nm2, xs, ys, usL ns, rfl, e4', e3, b3, by rw [usL_len, lx], by rw [lx, ly], by omega, by rw [lx]; exact inR_plan S, bx, by_, fun H2 p sm np ep => ?_⟩
    exact ⟨sh, p, pln, ns, _, rfl, sqt_same e2 sm, e4.same sm, ep, fun H3 c s3 _ st => q H3 c (sm.trans s3) st⟩
end
end K07

/-! # tables that are given -/
namespace K07
open PySem PySem.Spec PyProof.Rows L2
theorem call_len_seqK {X : Cx} {K : PySem.W.Frag} (h : X.K = K) : CallR X (.builtin "len") (fun vs H Q => ∃ (a : Addr) (xs : List V), vs = [V.ref a] ∧ (SqL K H a xs ∨ SqT K H a xs) ∧ Q (.int (xs.length : Nat)) H) := by
  rw [← h]
  exact call_len_seq
/-- a good row of a table -/
def RowOk (i n : Nat) (r : List Int) : Prop := r.length = n ∧ i < n ∧ (∀ x ∈ r, -(10 ^ 60) < x ∧ x < 10 ^ 60) ∧ r[i]? = some 1 ∧ ∀ x ∈ r.take i, x = 0
theorem sIx_nat {n d i : Nat} (h : i ≤ n) : HT.sIx n d (some (i : Int)) = i := by
  show (if ((i : Int) < 0) then ((i : Int) + (n : Int)).toNat else min ((i : Int)).toNat n) = i
  rw [if_neg (by omega), Int.toNat_natCast, Nat.min_eq_left h]
section
variable {P : Program} {w : World} {K : PySem.W.Frag} {mg : Str → Option Value} {base : Heap} {C CS TL : Addr}
abbrev s_sqrow : Stmt := topS 38
theorem sc_sqrow : FnScope ["value", "at", "size", "number"] ["value", "at", "size"] (defScope s_sqrow) := ⟨rfl, rfl, rfl, by decide +kernel, rfl, by decide +kernel, by decide +kernel⟩
def spSqRow (K : PySem.W.Frag) : Sp := fun vs H Q _ => ∃ (v : V) (i n : Nat) (r : List Int), vs = [v, .int i, .int n] ∧ Tv K H v (.tuple (r.map .int)) ∧ RowOk i n r ∧ n ≤ 100 ∧ ∀ H', Same H H' → Q (.bl true) H'
theorem ok_sqrow {f f1 : Addr} {fd fd1 : FuncData} (T : Txt mg) (N : Nam mg) (d : D K mg "is_square_row" s_sqrow ["value", "at", "size"] f fd) (d1 : D K mg "is_integer" s_is_integer ["value"] f1 fd1) (G1 : FnOk P w K mg base CX0 2 f1 fd1 ["value"] spInt) :
    FnOk P w K mg base CX0 3 f fd ["value", "at", "size"] (spSqRow K) := by
  refine d.F.ok sc_sqrow (fun vs H Q E h => ?_) (fun cdv A outer s H vs Q E hr h => ?_)
  · obtain ⟨v, i, n, r, rfl, _⟩ := h
    rfl
  · obtain ⟨v, i, n, r, rfl, tv, ⟨ln, il, bd, r1, r0⟩, n100, q⟩ := h
    refine ⟨_, (pss_cons (ps_if (PW.pt (pw_or (pt_not (pt_val (pe_callB call_isi (by rfl) T.n_isinstance (by decide +kernel) (pa_cons (pv 0) (pa_cons (pe_bltn (v := .ty "tuple") (by rfl) T.n_tuple (by decide +kernel) rfl) pa_nil))))) (pw_or1 (pt_cmpR op_ne (pe_callB call_len_seq (by rfl) T.n_len PySem.boot_len (pa_cons (pv 0) pa_nil)) (pv 2) (nomark _))))) (pss_one (ps_ret pe_bl)) pss_nil)
      (pss_cons (ps_if (pt_not (pt_val (pe_callB (cr_all rfl) (by rfl) N.n_all (by decide +kernel) (pa_cons (pe_lc (own := [("number", 3)]) (g := gName 3) (tt := tYes) rfl sc_sqrow.nd (pi_tup (pv 0)) (blkOk_by (own := [("number", 3)]) (N := ["value", "at", "size", "number"]) (sc := defScope s_sqrow) (by decide +kernel))
            (fun _ _ _ _ _ => (pg_name (i := 3) sc_sqrow.nd rfl (Or.inl rfl))) (fun _ _ _ _ _ => pts_nil) (fun _ _ _ _ _ => (pe_call G1 (hr.mono (by decide)) (by rfl) d1.g d1.F.kp d1.b .nil pass0 (pa_cons (pv 3) pa_nil)))) pa_nil)))) (pss_one (ps_ret pe_bl)) pss_nil)
      (pss_one (ps_ret (pe_and (pe_cmpR op_eq (pe_ix ix_tup (pv 0) (pv 1) (fun _ _ => rfl)) pe_int (nomark _)) (pe_one (pe_not (pe_callB (cr_anyT rfl) (by rfl) N.n_any (by decide +kernel) (pa_cons (pe_slice sl_tup (pv 0) po_none (po_some (pv 1))) pa_nil))))))))), ?_⟩
    obtain ⟨o, rfl, eo⟩ : ∃ o, v = .ref o ∧ SqT K H o (r.map V.int) := by
      cases tv with
      | tup e l => exact ⟨_, rfl, l.ints ▸ e⟩
    have lv : (r.map V.int).length = r.length := List.length_map _
    refine ⟨_, rfl, _, _, _, _, _, rfl, .ty _, (Dw.tv tv).ty, kitT _, _, rfl, ?_⟩
    refine ite2 (fun z => absurd z Bool.false_ne_true) (fun _ => ?_)
    refine ⟨_, rfl, o, _, rfl, .inr eo, _, rfl, ?_⟩
    rw [lv, ln]
    refine ⟨rfl, _, rfl, ite2 (fun z => ?_) (fun _ => ?_)⟩
    · rw [decide_eq_true rfl] at z
      cases z
    refine ⟨_, rfl, o, rfl, ⟨_, eo⟩, fun D hD => ?_⟩
    have off : ∀ {Z : Hp} {o : HO}, Same H Z → Same H (upd Z D o) := fun sz b o h => by
      rw [upd_ne (ne_of_none h hD)]
      exact sz b o h
    refine lc_tup (K := K) (a := o) (xs := r.map V.int) (fun j H' => Same H H' ∧ H' D = some (.lst (((r.take j).map fun _ => true).map V.bl))) ⟨off (Same.refl H), upd_same⟩ (fun j H' _ h => sqt_same eo h.1) ?_ ?_
    · rintro j x H' hx ⟨sm, hl⟩
      obtain ⟨m, hm, rfl⟩ := int_at hx
      have jl : j < r.length := (List.getElem?_eq_some_iff.mp hm).1
      refine ⟨rfl, ?_⟩
      unfold tYes
      refine ite2 (fun _ => ?_) (fun q => absurd rfl q)
      have bm := bd m (List.mem_of_getElem? hm)
      refine ⟨_, rfl, m, rfl, bm.1, bm.2, ?_⟩
      refine ⟨_, hl, Nat.lt_of_lt_of_le (show _ < 101 by rw [List.length_map, List.length_map, List.length_take]; omega) (by decide), off sm, ?_⟩
      have tk : r.take (j + 1) = r.take j ++ [m] := by rw [List.take_succ, hm]; rfl
      rw [upd_same, tk, List.map_append, List.map_append]
      rfl
    · rintro H' ⟨sm, hl⟩
      rw [lv, List.take_length] at hl
      refine ⟨D, r.map fun _ => true, rfl, .inl (.inl hl), _, rfl, ?_⟩
      have e1 : (r.map fun _ => true).all id = true := List.all_eq_true.mpr fun b m => by
        obtain ⟨_, _, rfl⟩ := List.mem_map.mp m
        rfl
      rw [e1]
      refine ite2 (fun z => absurd z Bool.false_ne_true) (fun _ => ?_)
      have g1 : (r.map V.int)[i]? = some (V.int 1) := by rw [List.getElem?_map, r1]; rfl
      have eo' := sqt_same eo sm
      refine ⟨_, rfl, _, rfl, o, _, (i : Int), _, rfl, rfl, eo', atI_nat g1, rfl, _, rfl, ite2 (fun _ => ?_) (fun z => absurd (decide_eq_true rfl) z)⟩
      have hi : HT.sIx (r.map V.int).length (r.map V.int).length (some (i : Int)) = i := by
        rw [lv]
        exact sIx_nat (by omega)
      refine ⟨_, rfl, _, rfl, _, rfl, o, _, rfl, eo', fun z => ?_, fun p np => ⟨p, r.take i, rfl, .inl (.inl ?_), _, rfl, ?_⟩⟩
      · rw [hi, lv] at z
        omega
      · rw [upd_same]
        unfold cutV
        rw [hi]
        show some (HO.tup (((r.map V.int).drop 0).take (i - 0))) = _
        rw [List.drop_zero, Nat.sub_zero, List.map_take]
      · have e2 : ((r.take i).any fun n => n != 0) = false := by
          rw [List.any_eq_false]
          intro x m
          rw [r0 x m]
          decide
        rw [e2]
        exact q _ (sm.trans (sub_same np))
abbrev s_square : Stmt := topS 37
theorem sc_square : FnScope ["value", "at", "row"] ["value"] (defScope s_square) := ⟨rfl, rfl, rfl, by decide +kernel, rfl, by decide +kernel, by decide +kernel⟩
/-- a table -/
def rowsD (rows : List (List Int)) : PyData := .tuple (rows.map fun r => .tuple (r.map .int))
def SqOk (rows : List (List Int)) : Prop := ∀ (i : Nat) (r : List Int), rows[i]? = some r → RowOk i rows.length r
def spSquare (K : PySem.W.Frag) : Sp := fun vs H Q _ => ∃ (v : V) (rows : List (List Int)), vs = [v] ∧ Tv K H v (rowsD rows) ∧ SqOk rows ∧ rows.length ≤ 100 ∧ ∀ H', Same H H' → Q (.bl true) H'
theorem ok_square {f f1 : Addr} {fd fd1 : FuncData} (T : Txt mg) (N : Nam mg) (d : D K mg "is_square" s_square ["value"] f fd) (d1 : D K mg "is_square_row" s_sqrow ["value", "at", "size"] f1 fd1) (G1 : FnOk P w K mg base CX0 3 f1 fd1 ["value", "at", "size"] (spSqRow K)) :
    FnOk P w K mg base CX0 4 f fd ["value"] (spSquare K) := by
  refine d.F.ok sc_square (fun vs H Q E h => ?_) (fun cdv A outer s H vs Q E hr h => ?_)
  · obtain ⟨v, rows, rfl, _⟩ := h
    rfl
  · obtain ⟨v, rows, rfl, tv, sq, n100, q⟩ := h
    refine ⟨_, (pss_cons (ps_if (pt_not (pt_val (pe_callB call_isi (by rfl) T.n_isinstance (by decide +kernel) (pa_cons (pv 0) (pa_cons (pe_bltn (v := .ty "tuple") (by rfl) T.n_tuple (by decide +kernel) rfl) pa_nil))))) (pss_one (ps_ret pe_bl)) pss_nil)
      (pss_one (ps_ret (pe_callB (cr_all rfl) (by rfl) N.n_all (by decide +kernel) (pa_cons (pe_lc (own := [("at", 1), ("row", 2)]) (g := gTup K 2 (gCons (gName 1) (gCons (gName 2) gNil))) (tt := tYes) rfl sc_square.nd (pi_enumT (by rfl) N.n_enumerate (pa_cons (pv 0) pa_nil)) (blkOk_by (own := [("at", 1), ("row", 2)]) (N := ["value", "at", "row"]) (sc := defScope s_square) (by decide +kernel))
            (fun _ _ _ _ _ => (pg_tup rfl (pgs_cons (pg_name (i := 1) sc_square.nd rfl (Or.inl rfl)) (pgs_cons (pg_name (i := 2) sc_square.nd rfl (Or.inl rfl)) pgs_nil)))) (fun _ _ _ _ _ => pts_nil) (fun _ _ _ _ _ => (pe_call G1 (hr.mono (by decide)) (by rfl) d1.g d1.F.kp d1.b .nil pass0 (pa_cons (pv 2) (pa_cons (pv 1) (pa_cons (pe_callB (call_len_seqK (K := K) rfl) (by rfl) T.n_len PySem.boot_len (pa_cons (pv 0) pa_nil)) pa_nil)))))) pa_nil))))), ?_⟩
    obtain ⟨o, xs, rfl, eo, tl⟩ : ∃ o xs, v = .ref o ∧ SqT K H o xs ∧ TvL K H xs (rows.map fun r => .tuple (r.map .int)) := by
      cases tv with
      | tup e l => exact ⟨_, _, rfl, e, l⟩
    have lx : xs.length = rows.length := by rw [tl.len, List.length_map]
    refine ⟨_, rfl, _, _, _, _, _, rfl, .ty _, (Dw.tv tv).ty, kitT _, _, rfl, ?_⟩
    refine ite2 (fun z => absurd z Bool.false_ne_true) (fun _ => ?_)
    refine ⟨_, rfl, o, _, rfl, eo, fun D hD => ?_⟩
    have off : ∀ {Z : Hp} {o : HO}, Same H Z → Same H (upd Z D o) := fun sz b o h => by
      rw [upd_ne (ne_of_none h hD)]
      exact sz b o h
    refine lc_it (walk_enumT (K := K) (a := o) (xs := xs)) (fun j Z => Same H Z ∧ Z D = some (.lst (((rows.take j).map fun _ => true).map V.bl))) ⟨off (Same.refl H), upd_same⟩ (fun j Z _ h => sqt_same eo h.1) ?_ ?_
    · rintro i v Z Z' hi ⟨sm, hl⟩ ⟨Tp, x0, y0, rfl, nT, rfl, ex, ey⟩
      obtain rfl := Option.some.inj ex
      obtain ⟨d0, ed, td⟩ := tl.get ey
      rw [List.getElem?_map] at ed
      obtain ⟨r, er, rfl⟩ := Option.map_eq_some_iff.mp ed
      have s2 := sub_same (o := .tup [V.int (i : Nat), y0]) nT
      have hl2 := s2 _ _ hl
      have sm2 := sm.trans s2
      have hT : upd Z Tp (.tup [V.int (i : Nat), y0]) Tp = some (.tup [V.int (i : Nat), y0]) := upd_same
      revert hl2 sm2 hT
      generalize upd Z Tp (.tup [V.int (i : Nat), y0]) = Z2
      intro hl2 sm2 hT
      refine ⟨Tp, _, rfl, .inl (.inl hT), rfl, _, _, rfl, _, _, rfl, rfl, rfl, yesT ?_⟩
      refine ⟨_, rfl, _, rfl, _, rfl, o, _, rfl, .inr (sqt_same eo sm2), y0, i, xs.length, r, rfl, td.same sm2, by rw [lx]; exact sq i r er, by omega, fun Z3 s3 => ?_⟩
      refine ⟨_, s3 _ _ hl2, Nat.lt_of_lt_of_le (show _ < 101 by rw [List.length_map, List.length_map, List.length_take]; omega) (by decide), off (sm2.trans s3), ?_⟩
      have tk : rows.take (i + 1) = rows.take i ++ [r] := by rw [List.take_succ, er]; rfl
      rw [upd_same, tk, List.map_append, List.map_append]
      rfl
    · rintro Z ⟨sm, hl⟩
      rw [lx, List.take_length] at hl
      refine ⟨D, rows.map fun _ => true, rfl, .inl (.inl hl), ?_⟩
      have e1 : (rows.map fun _ => true).all id = true := List.all_eq_true.mpr fun b m => by
        obtain ⟨_, _, rfl⟩ := List.mem_map.mp m
        rfl
      rw [e1]
      exact q Z sm
end
end K07

/-! # texts of integers, read -/
namespace K07
open PySem PySem.Spec PyProof.Rows L2 TL NumText
/-- digits without a nought too many, at most sixty -/
def canon (cs : List Nat) : Bool := !cs.isEmpty && (decide (cs.length ≤ 60) && (cs.all (fun c => decide (48 ≤ c) && decide (c ≤ 57)) && (decide (cs.head? ≠ some 48) || decide (cs = [48]))))
theorem canon_iff {cs : List Nat} : canon cs = true ↔ cs ≠ [] ∧ cs.length ≤ 60 ∧ AllDigits cs ∧ (cs.head? = some 48 → cs = [48]) := by
  unfold canon AllDigits
  simp only [Bool.and_eq_true, Bool.not_eq_true', List.isEmpty_eq_false_iff, decide_eq_true_eq, List.all_eq_true, Bool.or_eq_true]
  constructor
  · rintro ⟨a, b, c, d⟩
    exact ⟨a, b, c, fun h => d.elim (fun z => absurd h z) id⟩
  · rintro ⟨a, b, c, d⟩
    refine ⟨a, b, c, ?_⟩
    by_cases h : cs.head? = some 48
    · exact .inr (d h)
    · exact .inl h
theorem val_lt : ∀ (cs : List Nat) (a : Nat), AllDigits cs → cs.foldl (fun acc c => acc * 10 + (c - 48)) a < (a + 1) * 10 ^ cs.length
  | [], a, _ => by simp
  | c :: cs, a, h => by
    have ih := val_lt cs (a * 10 + (c - 48)) h.tail
    have hc := h.head
    have e : (a * 10 + (c - 48) + 1) * 10 ^ cs.length ≤ (a + 1) * 10 ^ (c :: cs).length := by
      rw [List.length_cons, Nat.pow_succ, Nat.mul_comm (10 ^ cs.length) 10, ← Nat.mul_assoc]
      exact Nat.mul_le_mul_right _ (by omega)
    exact Nat.lt_of_lt_of_le ih e
theorem canon_num {cs : List Nat} (h : canon cs = true) : numL (digitsVal cs) = cs ∧ digitsVal cs < 10 ^ 60 := by
  obtain ⟨h1, h2, h3, h4⟩ := canon_iff.mp h
  have hb : digitsVal cs < 10 ^ 60 := by
    have z := val_lt cs 0 h3
    rw [Nat.zero_add, Nat.one_mul] at z
    exact Nat.lt_of_lt_of_le z (Nat.pow_le_pow_right (by decide) h2)
  refine ⟨?_, hb⟩
  cases cs with
  | nil => exact absurd rfl h1
  | cons c r =>
    by_cases e : c = 48
    · subst e
      have z := h4 rfl
      rw [z]
      decide
    · have hc := h3.head
      have t := toDigits_digitsVal r.length (c :: r) rfl h3 (.inr ⟨c, r, rfl, by omega⟩)
      unfold numL
      rw [t, List.map_map]
      have q : ∀ x ∈ c :: r, (Char.toNat ∘ Char.ofNat) x = x := fun x hx => by
        have b := h3 x hx
        have : ∀ d : Nat, d < 58 → (Char.ofNat d).toNat = d := by decide
        exact this x (by omega)
      rw [List.map_congr_left q, List.map_id']
theorem numL_head {n : Nat} (h : 0 < n) : (numL n).head? ≠ some 48 := by
  induction n using Nat.strongRecOn with
  | _ n ih =>
    by_cases hn : n < 10
    · rw [numL_lt hn]
      intro z
      have z' : 48 + n = 48 := Option.some.inj z
      omega
    · rw [numL_step (by omega)]
      have i := ih (n / 10) (by omega) (by omega)
      intro z
      cases e : numL (n / 10) with
      | nil => exact numL_ne _ e
      | cons c r =>
        rw [e] at z i
        exact i z
theorem num_canon {n : Nat} (h : n < 10 ^ 60) : canon (numL n) = true := by
  refine canon_iff.mpr ⟨numL_ne n, numL_len (by decide) h, numL_digits n, fun z => ?_⟩
  by_cases hn : 0 < n
  · exact absurd z (numL_head hn)
  · have e : n = 0 := by omega
    subst e
    exact numL_lt (by decide)
/-! ### integers -/
def intL (i : Int) : List Nat := if i < 0 then 45 :: numL i.natAbs else numL i.natAbs
def rd (cs : List Nat) : Option Int :=
  if cs.head? = some 45 then (if canon cs.tail = true ∧ cs.tail ≠ [48] then some (-((digitsVal cs.tail : Nat) : Int)) else none)
  else if canon cs = true then some ((digitsVal cs : Nat) : Int) else none
theorem intL_free {i : Int} {s : Nat} (h : s < 45 ∨ (45 < s ∧ s < 48) ∨ 57 < s) : s ∉ intL i := by
  unfold intL
  split
  · intro z
    rcases List.mem_cons.mp z with z | z
    · omega
    · exact numL_free (by omega) z
  · exact numL_free (by omega)
theorem head_num (n : Nat) : (numL n).head? ≠ some 45 := fun z => by
  cases e : numL n with
  | nil => exact numL_ne _ e
  | cons c r =>
    rw [e] at z
    have z' : c = 45 := Option.some.inj z
    have d := numL_digits n c (by rw [e]; exact List.mem_cons_self ..)
    omega
theorem rd_int {cs : List Nat} {i : Int} (h : rd cs = some i) : cs = intL i ∧ i.natAbs < 10 ^ 60 := by
  unfold rd at h
  split at h
  · rename_i hd
    split at h
    · rename_i hc
      obtain ⟨c1, c2⟩ := hc
      have e := Option.some.inj h
      obtain ⟨n1, n2⟩ := canon_num c1
      have pos : 0 < digitsVal cs.tail := by
        rcases Nat.eq_zero_or_pos (digitsVal cs.tail) with z | z
        · rw [z, numL_lt (by decide)] at n1
          exact absurd n1.symm c2
        · exact z
      have ei : i.natAbs = digitsVal cs.tail := by omega
      refine ⟨?_, by omega⟩
      unfold intL
      rw [if_pos (by omega), ei, n1]
      cases cs with
      | nil => cases hd
      | cons c r =>
        have z : c = 45 := Option.some.inj hd
        rw [z]
        rfl
    · cases h
  · split at h
    · rename_i hc
      have e := Option.some.inj h
      obtain ⟨n1, n2⟩ := canon_num hc
      have ei : i.natAbs = digitsVal cs := by omega
      refine ⟨?_, by omega⟩
      unfold intL
      rw [if_neg (by omega), ei, n1]
    · cases h
theorem int_rd {i : Int} (h : i.natAbs < 10 ^ 60) : rd (intL i) = some i := by
  unfold rd intL
  by_cases hi : i < 0
  · rw [if_pos hi, if_pos (by rfl)]
    show (if canon (numL i.natAbs) = true ∧ numL i.natAbs ≠ [48] then _ else _) = _
    have ne : numL i.natAbs ≠ [48] := fun z => by
      have q := congrArg digitsVal z
      rw [numL_val] at q
      have q2 : i.natAbs = 0 := q
      omega
    rw [if_pos ⟨num_canon h, ne⟩]
    show some (-((digitsVal (numL i.natAbs) : Nat) : Int)) = some i
    rw [numL_val]
    congr 1
    omega
  · rw [if_neg hi, if_neg (head_num _), if_pos (num_canon h), numL_val]
    congr 1
    omega
theorem intL_inj {i j : Int} (hi : i.natAbs < 10 ^ 60) (hj : j.natAbs < 10 ^ 60) (h : intL i = intL j) : i = j := by
  have a := int_rd hi
  rw [h, int_rd hj] at a
  exact (Option.some.inj a).symm
theorem rd_nat {cs : List Nat} {j : Int} (h : rd cs = some j) (h0 : 0 ≤ j) : canon cs = true ∧ j = ((digitsVal cs : Nat) : Int) := by
  obtain ⟨e, b⟩ := rd_int h
  have e2 : cs = numL j.natAbs := by rw [e]; unfold intL; rw [if_neg (by omega)]
  rw [e2]
  exact ⟨num_canon b, by rw [numL_val]; omega⟩
theorem canon_rd {cs : List Nat} (h : canon cs = true) : rd cs = some ((digitsVal cs : Nat) : Int) := by
  obtain ⟨n1, n2⟩ := canon_num h
  have z := int_rd (i := ((digitsVal cs : Nat) : Int)) (by omega)
  have e : intL ((digitsVal cs : Nat) : Int) = cs := by
    unfold intL
    rw [if_neg (by omega), Int.natAbs_natCast, n1]
  rw [e] at z
  exact z
/-! ### cut at the bar -/
def sp (cs : List Nat) : List (List Nat) := spl [47] 0 [] cs
theorem sp_acc : ∀ (cs acc : List Nat), 47 ∉ acc → joinL [47] (spl [47] 0 acc cs) = acc ++ cs ∧ (∀ p ∈ spl [47] 0 acc cs, 47 ∉ p) ∧ spl [47] 0 acc cs ≠ []
  | [], acc, h => by
    rw [spl_nil]
    exact ⟨by rw [List.append_nil]; rfl, fun p hp => by rw [List.mem_singleton.mp hp]; exact h, by simp⟩
  | c :: r, acc, h => by
    by_cases e : c = 47
    · subst e
      rw [spl_hit (S := [47]) (acc := acc) (r := r) (c := 47) (pre_self [47] r)]
      obtain ⟨i1, i2, i3⟩ := sp_acc r [] (by simp)
      show joinL [47] (acc :: spl [47] 0 [] r) = _ ∧ (∀ p ∈ acc :: spl [47] 0 [] r, 47 ∉ p) ∧ acc :: spl [47] 0 [] r ≠ []
      refine ⟨?_, fun p hp => ?_, by simp⟩
      · cases q : spl [47] 0 [] r with
        | nil => exact absurd q i3
        | cons x y =>
          rw [q] at i1
          show acc ++ ([47] ++ joinL [47] (x :: y)) = _
          rw [i1]
          rfl
      · rcases List.mem_cons.mp hp with z | z
        · rw [z]; exact h
        · exact i2 p z
    · rw [spl_miss (pre_of_head [] r e)]
      have i := sp_acc r (acc ++ [c]) (by simp [h, Ne.symm e])
      rw [List.append_assoc] at i
      exact i
theorem sp_join (cs : List Nat) : joinL [47] (sp cs) = cs := (sp_acc cs [] (by simp)).1
theorem sp_ne (cs : List Nat) : sp cs ≠ [] := (sp_acc cs [] (by simp)).2.2
theorem sp_of {ps : List (List Nat)} (h : ps ≠ []) (hp : ∀ p ∈ ps, 47 ∉ p) : sp (joinL [47] ps) = ps := spl_join h hp
/-! ### texts -/
theorem cut_one (z : Str) : tl (cutS z none (some 1)) = (tl z).take 1 := by
  show ((z.cps.toList.drop (HT.sIx z.length 0 none)).take (HT.sIx z.length z.length (some ((1 : Nat) : Int)) - HT.sIx z.length 0 none)) = _
  rw [HT.sIx_none, HT.sIx_nat, List.drop_zero, Nat.sub_zero, len_tl z]
  cases h : tl z with
  | nil => simp
  | cons c r =>
    have e : min 1 (c :: r).length = 1 := by rw [List.length_cons]; omega
    have h' : z.cps.toList = c :: r := h
    rw [e, h']
theorem cut_rest (z : Str) : tl (cutS z (some 1) none) = (tl z).tail := by
  show ((z.cps.toList.drop (HT.sIx z.length 0 (some ((1 : Nat) : Int)))).take (HT.sIx z.length z.length none - HT.sIx z.length 0 (some ((1 : Nat) : Int)))) = _
  rw [HT.sIx_none, HT.sIx_nat, len_tl z]
  cases h : tl z with
  | nil => simp
  | cons c r =>
    have e : min 1 (c :: r).length = 1 := by rw [List.length_cons]; omega
    have h' : z.cps.toList = c :: r := h
    rw [e, h']
    show List.take _ r = r
    exact List.take_of_length_le (by rw [List.length_cons]; omega)
theorem str_eq {x y : Str} : (V.str x = V.str y) ↔ tl x = tl y := ⟨fun h => by rw [V.str.inj h], fun h => by rw [ext_tl h]⟩
/-- the digits of a text: without the sign -/
def dg (cs : List Nat) : List Nat := if cs.head? = some 45 then cs.tail else cs
theorem dg_len (cs : List Nat) : (dg cs).length ≤ cs.length := by
  unfold dg
  split
  · rw [List.length_tail]; omega
  · exact Nat.le_refl _
theorem dg_len1 (cs : List Nat) : cs.length ≤ (dg cs).length + 1 := by
  unfold dg
  split
  · have e : cs.tail.length = cs.length - 1 := List.length_tail
    omega
  · exact Nat.le_succ _
theorem take_one {cs : List Nat} {c : Nat} : cs.take 1 = [c] ↔ cs.head? = some c := by
  cases cs with
  | nil => simp
  | cons d r => simp
theorem rd_of {cs : List Nat} (h : canon (dg cs) = false) : rd cs = none := by
  unfold dg at h
  unfold rd
  split
  · rename_i c
    rw [if_pos c] at h
    rw [if_neg (by rw [h]; simp)]
  · rename_i c
    rw [if_neg c] at h
    rw [if_neg (by rw [h]; simp)]
theorem rd_A {cs : List Nat} (h : dg cs = [] ∨ 60 < (dg cs).length ∨ (dg cs).all (fun c => decide (48 ≤ c) && decide (c ≤ 57)) = false) : rd cs = none := by
  refine rd_of ?_
  unfold canon
  rcases h with h | h | h
  · rw [h]; rfl
  · rw [decide_eq_false (by omega : ¬ (dg cs).length ≤ 60)]; simp
  · rw [h]; simp
theorem rd_B {cs : List Nat} (h : (dg cs).head? = some 48) (h2 : cs ≠ [48]) : rd cs = none := by
  cases hc : canon (dg cs) with
  | false => exact rd_of hc
  | true =>
    have e := (canon_iff.mp hc).2.2.2 h
    unfold dg at e hc
    unfold rd
    split
    · rename_i c
      rw [if_pos c] at e
      rw [if_neg (fun z => z.2 e)]
    · rename_i c
      rw [if_neg c] at e
      exact absurd e h2
theorem rd_C {z : Str} (hz : z.length ≤ 1000) (h1 : dg (tl z) ≠ []) (h2 : (dg (tl z)).length ≤ 60) (h3 : (dg (tl z)).all (fun c => decide (48 ≤ c) && decide (c ≤ 57)) = true) (h4 : (dg (tl z)).head? = some 48 → tl z = [48]) :
    ∃ i, rd (tl z) = some i ∧ PySem.intText? z = some i := by
  have ad : AllDigits (dg (tl z)) := fun c hc => by
    have q := List.all_eq_true.mp h3 c hc
    simp only [Bool.and_eq_true, decide_eq_true_eq] at q
    exact q
  have zero : tl z = [48] → dg (tl z) = [48] := fun e => by rw [e]; rfl
  have cn : canon (dg (tl z)) = true := canon_iff.mpr ⟨h1, h2, ad, fun e => zero (h4 e)⟩
  by_cases c : (tl z).head? = some 45
  · have ed : dg (tl z) = (tl z).tail := by unfold dg; rw [if_pos c]
    rw [ed] at h1 ad cn
    have n48 : (tl z).tail ≠ [48] := fun e => by
      have q := h4 (by rw [ed, e]; rfl)
      rw [q] at c
      cases c
    have ez : tl z = 45 :: (tl z).tail := by
      cases hl : tl z with
      | nil => rw [hl] at c; cases c
      | cons x r =>
        rw [hl] at c
        have := Option.some.inj c
        rw [this]
        rfl
    refine ⟨_, ?_, intText_neg ez ad h1 (by omega)⟩
    unfold rd
    rw [if_pos c, if_pos ⟨cn, n48⟩]
  · have ed : dg (tl z) = tl z := by unfold dg; rw [if_neg c]
    rw [ed] at h1 ad cn
    refine ⟨_, ?_, intText_digits ad h1 (by omega)⟩
    unfold rd
    rw [if_neg c, if_pos cn]
theorem tl_int (i : Int) : tl (Str.ofString (toString i)) = intL i := by
  unfold intL
  split
  · rename_i h
    obtain ⟨n, rfl⟩ : ∃ n : Nat, i = Int.negSucc n := ⟨i.natAbs - 1, by omega⟩
    rw [tl_ofString]
    show ("-" ++ Nat.repr (n + 1)).toList.map Char.toNat = 45 :: numL (n + 1)
    rw [String.toList_append, List.map_append, Nat.toList_repr]
    rfl
  · rename_i h
    obtain ⟨n, rfl⟩ : ∃ n : Nat, i = (n : Int) := ⟨i.natAbs, by omega⟩
    rw [tl_num, Int.natAbs_natCast]
section
variable {P : Program} {w : World} {K : PySem.W.Frag} {mg : Str → Option Value} {base : Heap}
abbrev s_read_integer : Stmt := topS 14
theorem sc_read_integer : FnScope ["text", "digits", "sign"] ["text"] (defScope s_read_integer) := ⟨rfl, rfl, rfl, by decide +kernel, rfl, by decide +kernel, by decide +kernel⟩
def ov (o : Option Int) : V := match o with
  | some i => .int i
  | none => .non
def spRead : Sp := fun vs H Q _ => ∃ z : Str, vs = [.str z] ∧ z.length ≤ 1000 ∧ ∀ H', Same H H' → Q (ov (rd (tl z))) H'
theorem all_num (cs : List Nat) : (cs.map fun c => decide (c ∈ tl ("0123456789" : Str))).all id = cs.all (fun c => decide (48 ≤ c) && decide (c ≤ 57)) := by
  rw [List.all_map]
  congr 1
  funext c
  show decide (c ∈ tl ("0123456789" : Str)) = _
  have e : tl ("0123456789" : Str) = [48, 49, 50, 51, 52, 53, 54, 55, 56, 57] := by decide +kernel
  rw [e, ← Bool.decide_and]
  apply decide_eq_decide.mpr
  constructor
  · intro h
    simp at h
    omega
  · intro h
    simp
    omega
theorem ok_read {f : Addr} {fd : FuncData} {k : Nat} (T : Txt mg) (N : Nam mg) (mM : ∃ t, mg "MAX_DIGITS" = some (.int 60 t)) (d : D K mg "read_integer" s_read_integer ["text"] f fd) : FnOk P w K mg base CX0 (k + 1) f fd ["text"] spRead := by
  obtain ⟨tM, m_MAX⟩ := mM
  refine d.F.ok sc_read_integer (fun vs H Q E h => ?_) (fun cdv A outer s H vs Q E hr h => ?_)
  · obtain ⟨z, rfl, _⟩ := h
    rfl
  · obtain ⟨z, rfl, hz, q⟩ := h
    refine ⟨_, (pss_cons (ps_set (i := 1) sc_read_integer.nd rfl (.inl rfl) (pe_ifExp (pt_cmpR op_eq (pe_slice sl_str (pv 0) po_none (po_some pe_int)) pe_str (nomark _)) (pe_slice sl_str (pv 0) (po_some pe_int) po_none) (pv 0)))
      (pss_cons (ps_if (PW.pt (pw_or (pt_cmpR op_eq (pv 1) pe_str (nomark _)) (pw_or1 (pt_cmpR op_gt (pe_callB call_len_str (by rfl) T.n_len PySem.boot_len (pa_cons (pv 1) pa_nil)) (pe_glob (v := .int 60) rfl m_MAX ⟨_, rfl⟩) (nomark _))))) (pss_one (ps_ret pe_non)) pss_nil)
      (pss_cons (ps_if (pt_not (pt_val (pe_callB (cr_all rfl) (by rfl) N.n_all (by decide +kernel) (pa_cons (pe_lc (own := [("sign", 2)]) (g := gName 2) (tt := tYes) rfl sc_read_integer.nd (pi_str (pv 1)) (blkOk_by (own := [("sign", 2)]) (N := ["text", "digits", "sign"]) (sc := defScope s_read_integer) (by decide +kernel))
          (fun _ _ _ _ _ => pg_name (i := 2) sc_read_integer.nd rfl (Or.inl rfl)) (fun _ _ _ _ _ => pts_nil) (fun _ _ _ _ _ => pe_cmpR op_in_sign (pv 2) pe_str (by rfl))) pa_nil)))) (pss_one (ps_ret pe_non)) pss_nil)
      (pss_cons (ps_if (PW.pt (pw_and (pt_cmpR op_eq (pe_ix ix_str (pv 1) pe_int (fun _ _ => rfl)) pe_str (nomark _)) (pw_and1 (pt_cmpR op_ne (pv 0) pe_str (nomark _))))) (pss_one (ps_ret pe_non)) pss_nil)
      (pss_one (ps_ret (pe_callTy call_int_str (by rfl) T.n_int (by decide +kernel) (pa_cons (pv 0) pa_nil)))))))), ?_⟩
    have zl : (tl z).length ≤ 1000 := by rw [← len_tl z]; exact hz
    have sz : z.length ≤ sizeLine := Nat.le_of_lt (small1000 hz)
    have e45 : tl ("-" : Str) = [45] := by decide +kernel
    have e0 : tl ("" : Str) = [] := by decide +kernel
    have e48 : tl ("0" : Str) = [48] := by decide +kernel
    have no : rd (tl z) = none → ∀ H', Same H H' → Q .non H' := fun e H' hs => by
      have x := q H' hs
      rw [e] at x
      exact x
    have f0 : ∀ y : Str, decide (V.str y = V.str "") = decide (tl y = []) := fun y => decide_eq_decide.mpr (by rw [str_eq, e0])
    have f45 : decide (V.str (cutS z none (some 1)) = V.str "-") = decide ((tl z).head? = some 45) := decide_eq_decide.mpr (by rw [str_eq, e45, cut_one, take_one])
    refine ⟨.str z, rfl, 1, rfl, z, rfl, sz, rfl, _, rfl, ?_⟩
    show if decide (V.str (cutS z none (some 1)) = V.str "-") = true then _ else _
    rw [f45]
    refine ite2 (fun e => ?first) (fun e => ?second)
    case' first =>
      have c : (tl z).head? = some 45 := of_decide_eq_true e
      have hy : tl (cutS z (some 1) none) = dg (tl z) := by rw [cut_rest]; unfold dg; rw [if_pos c]
      refine ⟨.str z, rfl, 1, rfl, z, rfl, sz, ?_⟩
      revert hy
      generalize cutS z (some 1) none = y
      intro hy
    case' second =>
      have c : ¬ (tl z).head? = some 45 := fun q => e (decide_eq_true q)
      obtain ⟨y, ey⟩ : ∃ y, z = y := ⟨z, rfl⟩
      have hy : tl y = dg (tl z) := by unfold dg; rw [if_neg c, ey]
      refine ⟨_, rfl, ?_⟩
      refine Eq.mpr (congrArg (fun x => gName 1 x _ _ _) (congrArg V.str ey)) ?_
    all_goals
      refine ⟨_, rfl, rfl, _, rfl, ?_⟩
      show if decide (V.str y = V.str "") = true then _ else _
      rw [f0, hy]
      have yl : y.length = (dg (tl z)).length := by rw [len_tl y, hy]
      have ys : y.length ≤ sizeLine := Nat.le_of_lt (small1000 (by have := dg_len (tl z); omega))
      refine ite2 (fun e1 => ?_) (fun e1 => ?_)
      · exact no (rd_A (.inl (of_decide_eq_true e1))) H (Same.refl H)
      · have h1 : dg (tl z) ≠ [] := fun q => e1 (decide_eq_true q)
        refine ⟨_, rfl, _, rfl, ys, _, _, rfl, rfl, _, rfl, ?_⟩
        refine ite2 (fun e2 => ?_) (fun e2 => ?_)
        · have e2' := of_decide_eq_true e2
          exact no (rd_A (.inr (.inl (by omega)))) H (Same.refl H)
        · have l60 : (dg (tl z)).length ≤ 60 := by
            have e2' : ¬ (60 : Int) < (y.length : Int) := fun q => e2 (decide_eq_true q)
            omega
          refine ⟨_, rfl, y, rfl, fun L hL => ?_⟩
          refine lc_it walk_str (fun i H' => Same H H' ∧ H' L = some (.lst (((tl y).take i).map fun c => V.bl (decide (c ∈ tl ("0123456789" : Str)))))) ⟨sub_same hL, upd_same⟩ (fun _ _ _ _ => trivial) ?_ ?_
          · rintro i x H1 H2 hi ⟨s1, hD1⟩ ⟨rfl, c, hc, rfl⟩
            refine ⟨rfl, ?_⟩
            unfold tYes
            refine ite2 (fun _ => ?_) (fun q => absurd rfl q)
            refine ⟨_, rfl, c, _, rfl, rfl, _, hD1, ?_, ?_, ?_⟩
            · rw [List.length_map, List.length_take]
              exact small1000 (by have := dg_len (tl z); rw [hy]; omega)
            · intro b o hb
              rw [upd_ne (ne_of_none hb hL)]
              exact s1 b o hb
            · rw [upd_same]
              have hc' : (tl y)[i]? = some c := by rw [← hc]; exact Array.getElem?_toList
              rw [List.take_succ, hc', List.map_append]
              rfl
          · rintro H1 ⟨s1, hD1⟩
            have full : (tl y).take y.cps.size = tl y := List.take_of_length_le (by rw [← len_tl y]; exact Nat.le_refl _)
            rw [full] at hD1
            refine ⟨L, _, rfl, .inl (.inl (by rw [hD1]; exact congrArg some (congrArg HO.lst (List.map_map ..).symm))), _, rfl, ?_⟩
            rw [all_num, hy]
            refine ite2 (fun e3 => ?_) (fun e3 => ?_)
            · exact no (rd_A (.inr (.inr (by simpa using e3)))) H1 s1
            · have h3 : (dg (tl z)).all (fun c => decide (48 ≤ c) && decide (c ≤ 57)) = true := by simpa using e3
              have fin : ((dg (tl z)).head? = some 48 → tl z = [48]) → ∃ i, PySem.intText? z = some i ∧ Q (.int i) H1 := fun h4 => by
                obtain ⟨i, r1, r2⟩ := rd_C hz h1 l60 h3 h4
                have x := q H1 s1
                rw [r1] at x
                exact ⟨i, r2, x⟩
              have l640 : z.length ≤ 640 := by
                have := dg_len1 (tl z)
                rw [len_tl z]
                omega
              cases hd : dg (tl z) with
              | nil => exact absurd hd h1
              | cons c0 r0 =>
                rw [hd] at fin
                refine ⟨_, rfl, y, 0, c0, rfl, rfl, ys, atI_nat (j := 0) (by show (tl y)[0]? = _; rw [hy, hd]; rfl), rfl, _, rfl, ?_⟩
                have f48 : decide (V.str ⟨#[c0]⟩ = V.str "0") = decide (c0 = 48) := decide_eq_decide.mpr (by
                  rw [str_eq, e48]
                  show [c0] = [48] ↔ _
                  simp)
                show if decide (V.str ⟨#[c0]⟩ = V.str "0") = true then _ else _
                rw [f48]
                have fz : decide (V.str z = V.str "0") = decide (tl z = [48]) := decide_eq_decide.mpr (by rw [str_eq, e48])
                refine ite2 (fun e4 => ?_) (fun e4 => ?_)
                · refine ⟨_, rfl, rfl, _, rfl, ?_⟩
                  show if (!decide (V.str z = V.str "0")) = true then _ else _
                  rw [fz]
                  refine ite2 (fun e5 => ?_) (fun e5 => ?_)
                  · exact no (rd_B (by rw [hd]; exact congrArg some (of_decide_eq_true e4)) (by simpa using e5)) H1 s1
                  · obtain ⟨i, r2, x⟩ := fin fun _ => by simpa using e5
                    exact ⟨_, rfl, z, i, rfl, r2, l640, x⟩
                · obtain ⟨i, r2, x⟩ := fin fun q => absurd (decide_eq_true (Option.some.inj q)) e4
                  exact ⟨_, rfl, z, i, rfl, r2, l640, x⟩
end
end K07

/-! # the text of a stair -/
namespace K07
open PySem PySem.Spec PyProof.Rows L2 TL NumText
theorem sl_tupK {X : Cx} {K : PySem.W.Frag} (h : X.K = K) : SlR X (rSlT K) := by
  rw [← h]
  exact sl_tup
theorem pe_joinK {X : Cx} {K : PySem.W.Frag} {o e : Expr} {to te : TE} {apos pos : Pos} (h : X.K = K) (ho : PE X o to) (he : PE X e te) (hs : starEach [e] X.env = [(false, eval e X.env)] := by rfl) (hbase : attributeBase o "join" X.env (eval o X.env) = eval o X.env := by rfl) (hline : (apos.endLine == pos.line) = true := by rfl) :
    PE X (.Call (.Attribute o "join" apos) [e] [] pos) (tM1 (fun x xs H Q => ∃ a p, ∃ ys : List Str, x = .str a ∧ xs = [.ref p] ∧ (SqL K H p (ys.map V.str) ∨ SqT K H p (ys.map V.str)) ∧
      (ys.map (·.length)).sum + ys.length * a.length ≤ 16777216 ∧ Q (.str (Txt.join a ys)) H) to te) := by
  rw [← h]
  exact pe_join ho he hs hbase hline
theorem pi_tupK {X : Cx} {K : PySem.W.Frag} {tg l : Expr} {tl : TE} (h : X.K = K) (hl : PE X l tl) : PI X tg l (iTup K tl) := by
  rw [← h]
  exact pi_tup hl
theorem pi_listK {X : Cx} {K : PySem.W.Frag} {tg l : Expr} {tl : TE} (h : X.K = K) (hl : PE X l tl) : PI X tg l (iList K tl) := by
  rw [← h]
  exact pi_list hl
theorem pi_enumTK {X : Cx} {K : PySem.W.Frag} {e : Expr} {ta : TA} {p pos tpos : Pos} {elts : List Expr} {kk : Nat} (h : X.K = K) (hg : Gl X "enumerate") (hm : X.mg "enumerate" = none) (ha : PA X [e] ta) (hs : starEach [e] X.env = [(false, eval e X.env)] := by rfl) :
    PI X (.Tuple elts kk tpos) (.Call (.Name "enumerate" p) [e] [] pos) (iEnumT K ta) := by
  rw [← h]
  exact pi_enumT hg hm ha hs
/-! ### texts -/
def intS (i : Int) : Str := Str.ofString (toString i)
/-- the row i of the block b, the first k of its numbers -/
def rowNs (num : Tri → Int) (b i : Int) (k : Nat) : List Int := (List.range k).map fun (c : Nat) => num (b, i, i + 1 + (c : Int))
def rowS (num : Tri → Int) (b i : Int) (k : Nat) : Str := Txt.join " " ((rowNs num b i k).map intS)
def blkS (num : Tri → Int) (b : Int) (s : Nat) : Str := Txt.join "/" ((List.range (s - 1)).map fun (i : Nat) => rowS num b (i : Int) (s - 1 - i))
def stairS (num : Tri → Int) (ns : List Int) : Str := Txt.join "; " ((List.range ns.length).map fun (b : Nat) => blkS num (b : Int) (ns.getD b 0).toNat)
theorem rowNs_len (num : Tri → Int) (b i : Int) (k : Nat) : (rowNs num b i k).length = k := by
  unfold rowNs
  rw [List.length_map, List.length_range]
/-- numbers that are not too long -/
def Lo (i : Int) : Prop := i.natAbs < 10 ^ 200
theorem intL_le {i : Int} (h : Lo i) : (intL i).length ≤ 201 := by
  have z := numL_len (n := i.natAbs) (k := 200) (by decide) h
  unfold intL
  split
  · rw [List.length_cons]
    omega
  · omega
theorem intS_le {i : Int} (h : Lo i) : (intS i).length ≤ 201 := by
  have e : tl (intS i) = intL i := tl_int i
  rw [len_tl, e]
  exact intL_le h
theorem lo_log {i : Int} (h : Lo i) : i.natAbs.log2 < 1920 := by
  rcases Nat.eq_zero_or_pos i.natAbs with z | z
  · rw [z]
    decide
  · exact (Nat.log2_lt (by omega)).mpr (Nat.lt_trans h (by decide +kernel))
theorem joinL_len (S : List Nat) : ∀ ps : List (List Nat), (joinL S ps).length ≤ (ps.map List.length).sum + ps.length * S.length
  | [] => Nat.zero_le _
  | [p] => by
    show p.length ≤ p.length + 0 + 1 * S.length
    omega
  | p :: q :: r => by
    have z := joinL_len S (q :: r)
    show (p ++ (S ++ joinL S (q :: r))).length ≤ (p.length + ((q :: r).map List.length).sum) + ((q :: r).length + 1) * S.length
    rw [List.length_append, List.length_append, Nat.add_mul, Nat.one_mul]
    omega
theorem sum_le : ∀ {l : List Nat} {m : Nat}, (∀ x ∈ l, x ≤ m) → l.sum ≤ l.length * m
  | [], _, _ => Nat.zero_le _
  | x :: r, m, h => by
    rw [List.sum_cons, List.length_cons, Nat.add_mul, Nat.one_mul]
    have a := h x (List.mem_cons_self ..)
    have b := sum_le (l := r) (m := m) fun y hy => h y (List.mem_cons_of_mem _ hy)
    omega
theorem join_le {y : Str} {ps : List Str} {m n d : Nat} (h : ∀ p ∈ ps, p.length ≤ m) (hn : ps.length ≤ n) (hy : y.length ≤ d) : (Txt.join y ps).length ≤ n * m + n * d ∧ (ps.map (·.length)).sum + ps.length * y.length ≤ n * m + n * d := by
  have a := sum_le (l := ps.map (·.length)) (m := m) fun x hx => by
    obtain ⟨p, hp, rfl⟩ := List.mem_map.mp hx
    exact h p hp
  rw [List.length_map] at a
  have b : ps.length * m ≤ n * m := Nat.mul_le_mul_right _ hn
  have c : ps.length * y.length ≤ n * d := Nat.mul_le_mul hn hy
  refine ⟨?_, by omega⟩
  have j := joinL_len (tl y) (ps.map tl)
  rw [← tl_join, ← join_eq, List.length_map, List.map_map] at j
  rw [len_tl]
  have e1 : (List.length ∘ tl) = fun p : Str => p.length := by
    funext p
    exact (len_tl p).symm
  rw [e1, ← len_tl] at j
  have e2 : (ps.map fun p : Str => p.length).sum = (ps.map (·.length)).sum := rfl
  have j2 : (tl (Txt.join y ps)).length ≤ (ps.map (·.length)).sum + ps.length * y.length := j
  omega
theorem rowS_le {num : Tri → Int} {b i : Int} {k : Nat} (h : ∀ x ∈ rowNs num b i k, Lo x) (hk : k ≤ 6) : (rowS num b i k).length ≤ 1300 := by
  have z := (join_le (y := " ") (ps := (rowNs num b i k).map intS) (m := 201) (n := 6) (d := 1) (fun p hp => by
    obtain ⟨x, hx, rfl⟩ := List.mem_map.mp hp
    exact intS_le (h x hx)) (by rw [List.length_map, rowNs_len]; exact hk) (by decide +kernel)).1
  exact Nat.le_trans z (by decide)
theorem blkS_le {num : Tri → Int} {b : Int} {s : Nat} (h : ∀ i : Nat, ∀ x ∈ rowNs num b (i : Int) (s - 1 - i), Lo x) (hs : s ≤ 6) : (blkS num b s).length ≤ 8000 := by
  have z := (join_le (y := "/") (ps := (List.range (s - 1)).map fun (i : Nat) => rowS num b (i : Int) (s - 1 - i)) (m := 1300) (n := 6) (d := 1) (fun p hp => by
    obtain ⟨i, hi, rfl⟩ := List.mem_map.mp hp
    exact rowS_le (h i) (by omega)) (by rw [List.length_map, List.length_range]; omega) (by decide +kernel)).1
  exact Nat.le_trans z (by decide)
section
variable {P : Program} {w : World} {K : PySem.W.Frag} {mg : Str → Option Value} {base : Heap} {C CS TL : Addr}
abbrev s_text : Stmt := topS 44
theorem sc_text : FnScope ["table", "at", "row", "number"] ["table"] (defScope s_text) := ⟨rfl, rfl, rfl, by decide +kernel, rfl, by decide +kernel, by decide +kernel⟩
/-- the text of a table -/
def spText (K : PySem.W.Frag) : Sp := fun vs H Q _ => ∃ (v : V) (num : Tri → Int) (b : Int) (s : Nat), vs = [v] ∧ Tv K H v (tabD num b s) ∧ 1 ≤ s ∧ s ≤ 6 ∧ (∀ i j : Nat, i < j → j < s → Lo (num (b, (i : Int), (j : Int)))) ∧
  ∀ H', Same H H' → Q (.str (blkS num b s)) H'
theorem ok_text {f : Addr} {fd : FuncData} {k : Nat} (T : Txt mg) (N : Nam mg) (d : D K mg "text_of" s_text ["table"] f fd) : FnOk P w K mg base CX0 (k + 1) f fd ["table"] (spText K) := by
  refine d.F.ok sc_text (fun vs H Q E h => ?_) (fun cdv A outer s H vs Q E hr h => ?_)
  · obtain ⟨v, num, b, z, rfl, _⟩ := h
    rfl
  · obtain ⟨v, num, b, z, rfl, tv, z1, z6, lo, q⟩ := h
    refine ⟨_, (pss_one (ps_ret (pe_join pe_str (pe_lc (own := [("at", 1), ("row", 2)]) (g := gTup K 2 (gCons (gName 1) (gCons (gName 2) gNil))) (tt := tYes) rfl sc_text.nd (pi_enumT (by rfl) N.n_enumerate (pa_cons (pe_slice sl_tup (pv 0) po_none (po_some (pe_un un_neg pe_int))) pa_nil)) (blkOk_by (own := [("at", 1), ("row", 2)]) (N := ["table", "at", "row", "number"]) (sc := defScope s_text) (by decide +kernel))
            (fun _ _ _ _ _ => (pg_tup rfl (pgs_cons (pg_name (i := 1) sc_text.nd rfl (Or.inl rfl)) (pgs_cons (pg_name (i := 2) sc_text.nd rfl (Or.inl rfl)) pgs_nil)))) (fun _ _ _ _ _ => pts_nil) (fun _ _ _ _ _ => (pe_joinK (K := K) rfl pe_str (pe_lc (own := [("number", 3)]) (g := gName 3) (tt := tYes) rfl sc_text.nd (pi_tupK (K := K) rfl (pe_slice (sl_tupK (K := K) rfl) (pv 2) (po_some (pe_op op_add (pv 1) pe_int)) po_none)) (blkOk_by (own := [("number", 3)]) (N := ["table", "at", "row", "number"]) (sc := relS _ (defScope s_text)) (by decide +kernel))
            (fun _ _ _ _ _ => (pg_name (i := 3) sc_text.nd rfl (Or.inl rfl))) (fun _ _ _ _ _ => pts_nil) (fun _ _ _ _ _ => (pe_callTy call_str_int (by rfl) N.n_str (by decide +kernel) (pa_cons (pv 3) pa_nil)))))))))), ?_⟩
    obtain ⟨o, xs, rfl, eo, tl0⟩ : ∃ o xs, v = .ref o ∧ SqT K H o xs ∧ TvL K H xs ((List.range z).map (rowD num b z)) := by
      cases tv with
      | tup e l => exact ⟨_, _, rfl, e, l⟩
    have lx : xs.length = z := by rw [tl0.len, List.length_map, List.length_range]
    have cut1 : cutV xs none (some (-1)) = xs.take (z - 1) := by
      show (xs.drop 0).take (HT.sIx xs.length xs.length (some (-1)) - 0) = _
      have e : HT.sIx xs.length xs.length (some (-1)) = z - 1 := by
        show (if ((-1 : Int) < 0) then ((-1 : Int) + (xs.length : Int)).toNat else min ((-1 : Int)).toNat xs.length) = _
        rw [if_pos (by decide), lx]
        omega
      rw [e, List.drop_zero, Nat.sub_zero]
    have l1 : (xs.take (z - 1)).length = z - 1 := by rw [List.length_take]; omega
    refine ⟨⟨_, rfl⟩, _, rfl, _, rfl, _, rfl, o, _, rfl, eo, ?_, fun p np => ⟨p, _, rfl, sqt_new upd_same, fun D nD => ?_⟩⟩
    · rintro ⟨_, h⟩
      have e : HT.sIx xs.length xs.length (some (-1)) = z - 1 := by
        show (if ((-1 : Int) < 0) then ((-1 : Int) + (xs.length : Int)).toNat else min ((-1 : Int)).toNat xs.length) = _
        rw [if_pos (by decide), lx]
        omega
      omega
    · rw [cut1] at nD ⊢
      have s1 := sub_same (o := .tup (xs.take (z - 1))) np
      have ep : upd H p (.tup (xs.take (z - 1))) p = some (.tup (xs.take (z - 1))) := upd_same
      revert nD s1 ep
      generalize upd H p (.tup (xs.take (z - 1))) = H1
      intro nD s1 ep
      refine lc_it (walk_enumT (K := K) (a := p) (xs := xs.take (z - 1))) (fun i Y => Same H1 Y ∧ Y D = some (.lst ((List.range i).map fun (i : Nat) => V.str (rowS num b (i : Int) (z - 1 - i))))) ⟨sub_same nD, upd_same⟩ (fun i Y _ h => sqt_same (sqt_new ep) h.1) ?_ ?_
      · rintro i v Y Y' hi ⟨sy, hd⟩ ⟨Tp, x0, y0, rfl, nT, rfl, ex, ey⟩
        obtain rfl := Option.some.inj ex
        rw [l1] at hi
        have ey2 : xs[i]? = some y0 := by
          have ey : (xs.take (z - 1))[i]? = some y0 := ey
          rw [List.getElem?_take, if_pos hi] at ey
          exact ey
        obtain ⟨d0, ed, td⟩ := tl0.get ey2
        rw [List.getElem?_map, List.getElem?_range (by omega)] at ed
        obtain rfl := Option.some.inj ed
        obtain ⟨rr, rfl, er⟩ : ∃ rr, y0 = .ref rr ∧ SqT K H rr ((rowT num b (i : Int) z).map V.int) := by
          unfold rowD at td
          cases td with
          | tup e l => exact ⟨_, rfl, l.ints ▸ e⟩
        have s2 := sub_same (o := .tup [V.int (i : Nat), V.ref rr]) nT
        have hd2 := s2 _ _ hd
        have sy2 := sy.trans s2
        have hT : upd Y Tp (.tup [V.int (i : Nat), V.ref rr]) Tp = some (.tup [V.int (i : Nat), V.ref rr]) := upd_same
        revert hd2 sy2 hT
        generalize upd Y Tp (.tup [V.int (i : Nat), V.ref rr]) = Y2
        intro hd2 sy2 hT
        have lr : ((rowT num b (i : Int) z).map V.int).length = z := by rw [List.length_map, rowT_len]
        have six : HT.sIx z 0 (some ((i : Int) + 1)) = i + 1 := by
          have e : ((i : Int) + 1) = ((i + 1 : Nat) : Int) := by omega
          rw [e]
          exact sIx_nat (by omega)
        have cut2 : cutV ((rowT num b (i : Int) z).map V.int) (some ((i : Int) + 1)) none = (rowNs num b (i : Int) (z - 1 - i)).map V.int := by
          unfold cutV
          rw [lr, six, HT.sIx_none]
          refine List.ext_getElem (by simp [rowT_len, rowNs_len]; omega) fun n h1 h2 => ?_
          rw [List.length_map, rowNs_len] at h2
          have lt : (i : Int) < ((i + 1 + n : Nat) : Int) := by omega
          simp only [List.getElem_take, List.getElem_drop, List.getElem_map]
          unfold rowT rowNs
          simp only [List.getElem_map, List.getElem_range]
          unfold tabE
          rw [if_pos lt]
          congr 3
        have lo2 : ∀ x ∈ rowNs num b (i : Int) (z - 1 - i), Lo x := fun x hx => by
          unfold rowNs at hx
          obtain ⟨c, hc, rfl⟩ := List.mem_map.mp hx
          rw [List.mem_range] at hc
          have z := lo i (i + 1 + c) (by omega) (by omega)
          have e : ((i + 1 + c : Nat) : Int) = (i : Int) + 1 + (c : Int) := by omega
          rw [e] at z
          exact z
        refine ⟨Tp, _, rfl, .inl (.inl hT), rfl, _, _, rfl, _, _, rfl, rfl, rfl, yesT ?_⟩
        refine ⟨⟨_, rfl⟩, _, rfl, _, rfl, _, _, rfl, rfl, _, rfl, rr, _, rfl, sqt_same er (s1.trans sy2), ?_, fun p2 np2 => ⟨p2, rfl, ⟨_, sqt_new upd_same⟩, fun L nL => ?_⟩⟩
        · rintro ⟨h, _⟩
          rw [lr, six] at h
          omega
        · rw [cut2] at nL ⊢
          have s3 := sub_same (o := .tup ((rowNs num b (i : Int) (z - 1 - i)).map V.int)) np2
          have ep2 : upd Y2 p2 (.tup ((rowNs num b (i : Int) (z - 1 - i)).map V.int)) p2 = some (.tup ((rowNs num b (i : Int) (z - 1 - i)).map V.int)) := upd_same
          have hd3 := s3 _ _ hd2
          have sy3 := sy2.trans s3
          revert nL hd3 sy3 ep2
          generalize upd Y2 p2 (.tup ((rowNs num b (i : Int) (z - 1 - i)).map V.int)) = Y3
          intro nL ep2 hd3 sy3
          have l3 : ((rowNs num b (i : Int) (z - 1 - i)).map V.int).length = (rowNs num b (i : Int) (z - 1 - i)).length := List.length_map _
          refine lc_tup (K := K) (a := p2) (xs := (rowNs num b (i : Int) (z - 1 - i)).map V.int) (fun j U => Same Y3 U ∧ U L = some (.lst (((rowNs num b (i : Int) (z - 1 - i)).take j).map fun x => V.str (intS x)))) ⟨sub_same nL, upd_same⟩ (fun j U _ h => sqt_same (sqt_new ep2) h.1) ?_ ?_
          · rintro j x U hx ⟨su, hl⟩
            obtain ⟨n, hn, rfl⟩ := int_at hx
            have jl := (List.getElem?_eq_some_iff.mp hn).1
            rw [rowNs_len] at jl
            refine ⟨rfl, yesT ⟨_, rfl, n, rfl, lo_log (lo2 n (List.mem_of_getElem? hn)), _, hl, ?_, fun k ob e => ?_, ?_⟩⟩
            · rw [List.length_map, List.length_take, sizeLine_eq]
              omega
            · rw [upd_ne (fun z => by rw [z, nL] at e; cases e)]
              exact su _ _ e
            · rw [upd_same, List.take_succ, hn, List.map_append]
              rfl
          · rintro U ⟨su, hl⟩
            rw [l3, List.take_length] at hl
            have hl2 : U L = some (.lst (((rowNs num b (i : Int) (z - 1 - i)).map intS).map V.str)) := by
              rw [hl, List.map_map]
              rfl
            refine ⟨_, L, (rowNs num b (i : Int) (z - 1 - i)).map intS, rfl, rfl, .inl (.inl (.inl hl2)), ?_, ?_⟩
            · refine Nat.le_trans (join_le (m := 201) (n := 6) (d := 1) (fun p hp => ?_) ?_ (by decide +kernel)).2 (by decide)
              · obtain ⟨x, hx, rfl⟩ := List.mem_map.mp hp
                exact intS_le (lo2 x hx)
              · rw [List.length_map, rowNs_len]
                omega
            · refine ⟨_, su _ _ hd3, ?_, fun k ob e => ?_, ?_⟩
              · rw [List.length_map, List.length_range, sizeLine_eq]
                omega
              · rw [upd_ne (fun z => by rw [z, nD] at e; cases e)]
                exact su _ _ (sy3 _ _ e)
              · rw [upd_same, List.range_succ, List.map_append]
                rfl
      · rintro Y ⟨sy, hd⟩
        rw [l1] at hd
        have hd2 : Y D = some (.lst (((List.range (z - 1)).map fun (i : Nat) => rowS num b (i : Int) (z - 1 - i)).map V.str)) := by
          rw [hd, List.map_map]
          rfl
        refine ⟨_, D, _, rfl, rfl, .inl (.inl (.inl hd2)), ?_, q Y (s1.trans sy)⟩
        refine Nat.le_trans (join_le (m := 1300) (n := 6) (d := 1) (fun p hp => ?_) ?_ (by decide +kernel)).2 (by decide)
        · obtain ⟨i, hi, rfl⟩ := List.mem_map.mp hp
          rw [List.mem_range] at hi
          refine rowS_le (fun x hx => ?_) (by omega)
          unfold rowNs at hx
          obtain ⟨c, hc, rfl⟩ := List.mem_map.mp hx
          rw [List.mem_range] at hc
          have z := lo i (i + 1 + c) (by omega) (by omega)
          have e : ((i + 1 + c : Nat) : Int) = (i : Int) + 1 + (c : Int) := by omega
          rw [e] at z
          exact z
        · rw [List.length_map, List.length_range]
          omega
end
end K07

/-! # dict(zip(tuple, tuple)), the keys tuples -/
namespace K07W
open PySem PySem.Spec PyProof.Rows
section
variable {prog : Program} {w : World} {A : Around} {E : Value → Shared → Prop} {s : Shared} {z TI TO T i1 i2 l1 l2 : Addr} {f : Bool} {oT : Obj} {k : Nat} {xs ys : Array Value} {x y : Value}
/-- the state of a zip over two tuples, its last tuple in use -/
structure ZT (h : Heap) (z TI TO T i1 i2 l1 l2 : Addr) (f : Bool) (oT : Obj) (k : Nat) (xs ys : Array Value) : Prop where
  zh : IsZipHeld h z TI TO T f
  tT : h.get? T = some oT
  tI : IsPair h TI (.ref i1) (.ref i2)
  u1 : h.IsTupleIter i1 l1 k
  u2 : h.IsTupleIter i2 l2 k
  t1 : h.IsTuple l1 xs
  t2 : h.IsTuple l2 ys
theorem zt_item {Q : Value → Shared → Prop} (D : ZipApart z TI TO i1 i2 l1 l2) (S : ZT s.heap z TI TO T i1 i2 l1 l2 f oT k xs ys) (ex : xs[k]? = some x) (ey : ys[k]? = some y)
    (q : ∀ h', IsZipHeld h' z TI TO T true → h'.IsTupleIter i1 l1 (k + 1) → h'.IsTupleIter i2 l2 (k + 1) → IsPair h' s.heap.objs.size x y →
      (∀ c o, c ≠ z → c ≠ i1 → c ≠ i2 → s.heap.get? c = some o → h'.get? c = some o) → Q (.ref s.heap.objs.size) { s with heap := h' }) :
    wpAny (model prog w) A (Builtin.«zip.__next__» ⟨[.ref z], []⟩) (fun fin s' => ∃ v, fin = .done (.ret v) ∧ Q v s') E s := by
  show wpAny (model prog w) A (field (.ref z) 2 >>= _) _ E s
  refine wpAny_bind (wpAny_field S.zh rfl (x := .bool false) rfl ?_)
  show wpAny (model prog w) A (field (.ref z) 3 >>= _) _ E s
  refine wpAny_bind (wpAny_field S.zh rfl (x := .ref TI) rfl ?_)
  refine wpAny_bind (wpAny_seqItems S.tI rfl ?_)
  show wpAny (model prog w) A (Builtin.SmallTypes.ownedTupleIsFree (.ref z) >>= _) _ E s
  refine wpAny_bind (wpAny_tupleHeld_zip S.zh S.tT fun g1 za sa => ?_)
  simp only [if_false, Bool.false_eq_true]
  refine wpAny_bind ?_
  rw [← Array.forIn_toList]
  simp only [List.forIn_nil, List.forIn_cons]
  refine wpAny_bind (wpAny_bind (wpAny_holding (?_)))
  show wpAny (model prog w) _ (Builtin.SmallTypes.nextOf (.ref i1) >>= _) _ _ _
  refine wpAny_bind (wpAny_nextOf_tuple_item (s := { s with heap := g1 }) (S.u1.extBut sa.extBut D.i1z) (S.t1.extBut sa.extBut D.l1z) ex fun g2 ua sb => wpAny_pure ?_)
  refine wpAny_pure (?_)
  refine wpAny_bind (wpAny_bind (wpAny_holding (?_)))
  show wpAny (model prog w) _ (Builtin.SmallTypes.nextOf (.ref i2) >>= _) _ _ _
  refine wpAny_bind (wpAny_nextOf_tuple_item (s := { s with heap := g2 }) ((S.u2.extBut sa.extBut D.i2z).extBut sb.extBut D.i12.symm) ((S.t2.extBut sa.extBut D.l2z).extBut sb.extBut D.l2i1) ey fun g3 ub sc => wpAny_pure ?_)
  refine wpAny_pure (wpAny_pure (?_))
  show wpAny (model prog w) _ (newTuple [x, y] >>= _) _ _ _
  refine wpAny_bind (wpAny_newTuple (?_))
  have sz : g3.objs.size = s.heap.objs.size := by rw [sc.1, sb.1, sa.1]
  have z3 : IsZipHeld g3 z TI TO T true := sc.extBut _ _ D.i2z.symm (sb.extBut _ _ D.i1z.symm za)
  have kk : ∀ c o, c ≠ z → c ≠ i1 → c ≠ i2 → s.heap.get? c = some o → g3.get? c = some o := fun c o a b d e => sc.extBut _ _ d (sb.extBut _ _ b (sa.extBut _ _ a e))
  have v1 : g3.IsTupleIter i1 l1 (k + 1) := ua.extBut sc.extBut D.i12
  refine wpAny_pure ⟨_, rfl, (?_)⟩
  show Q (.ref g3.objs.size) _
  have pr : IsPair (g3.push { cls := .type "tuple", data := .seq #[x, y] }) g3.objs.size x y := Heap.get?_push_size _ rfl
  rw [sz] at pr ⊢
  exact q _ (Heap.get?_push_of_some _ z3) (v1.at fun o e => Heap.get?_push_of_some _ e) (ub.at fun o e => Heap.get?_push_of_some _ e) pr fun c o a b d e => Heap.get?_push_of_some _ (kk c o a b d e)
theorem zt_end {Q : Fin → Shared → Prop} (hh : A.handled = none) (D : ZipApart z TI TO i1 i2 l1 l2) (S : ZT s.heap z TI TO T i1 i2 l1 l2 f oT k xs ys) (hx : xs[k]? = none)
    (q : ∀ h' e, (∀ c o, c ≠ z → c ≠ i1 → c ≠ i2 → s.heap.get? c = some o → h'.get? c = some o) → (∃ o, h'.get? e = some o ∧ o.cls = .type "StopIteration") → E (.ref e) { s with heap := h' }) :
    wpAny (model prog w) A (Builtin.«zip.__next__» ⟨[.ref z], []⟩) Q E s := by
  show wpAny (model prog w) A (field (.ref z) 2 >>= _) _ E s
  refine wpAny_bind (wpAny_field S.zh rfl (x := .bool false) rfl ?_)
  show wpAny (model prog w) A (field (.ref z) 3 >>= _) _ E s
  refine wpAny_bind (wpAny_field S.zh rfl (x := .ref TI) rfl ?_)
  refine wpAny_bind (wpAny_seqItems S.tI rfl ?_)
  show wpAny (model prog w) A (Builtin.SmallTypes.ownedTupleIsFree (.ref z) >>= _) _ E s
  refine wpAny_bind (wpAny_tupleHeld_zip S.zh S.tT fun g1 za sa => ?_)
  simp only [if_false, Bool.false_eq_true]
  refine wpAny_bind ?_
  rw [← Array.forIn_toList]
  simp only [List.forIn_nil, List.forIn_cons]
  refine wpAny_bind (wpAny_bind (wpAny_holding (?_)))
  show wpAny (model prog w) _ (Builtin.SmallTypes.nextOf (.ref i1) >>= _) _ _ _
  refine wpAny_bind (wpAny_nextOf_tuple_end (s := { s with heap := g1 }) hh (S.u1.extBut sa.extBut D.i1z) (S.t1.extBut sa.extBut D.l1z) hx fun g2 e sb he => ?_)
  exact q g2 e (fun c o a b _ e => sb _ _ b (sa.extBut _ _ a e)) he
theorem next_zt_item {Q : Option Value → Shared → Prop} (D : ZipApart z TI TO i1 i2 l1 l2) (S : ZT s.heap z TI TO T i1 i2 l1 l2 f oT k xs ys) (ex : xs[k]? = some x) (ey : ys[k]? = some y)
    (q : ∀ h', IsZipHeld h' z TI TO T true → h'.IsTupleIter i1 l1 (k + 1) → h'.IsTupleIter i2 l2 (k + 1) → IsPair h' s.heap.objs.size x y →
      (∀ c o, c ≠ z → c ≠ i1 → c ≠ i2 → s.heap.get? c = some o → h'.get? c = some o) → Q (some (.ref s.heap.objs.size)) { s with heap := h' }) : wpAny (model prog w) A (pyNext (.ref z)) Q E s := by
  have ty : s.TypeIs (.ref z) "zip" := ⟨_, S.zh, rfl⟩
  unfold pyNext
  exact wpAny_bind (wpAny_attempt (wpAny_callSpecial?_slot (name := Str.ofString "__next__") ty F.slot_zip_next (wpAny_call_entry F.slot_zip_next ty F.entry_zip_next
    (zt_item D S ex ey fun h' a b c d e => wpAny_pure (q h' a b c d e)) (F.args_zip_next_1 _))))
theorem next_zt_end {Q : Option Value → Shared → Prop} (hh : A.handled = none) (D : ZipApart z TI TO i1 i2 l1 l2) (S : ZT s.heap z TI TO T i1 i2 l1 l2 f oT k xs ys) (hx : xs[k]? = none)
    (q : ∀ h', (∀ c o, c ≠ z → c ≠ i1 → c ≠ i2 → s.heap.get? c = some o → h'.get? c = some o) → Q none { s with heap := h' }) : wpAny (model prog w) A (pyNext (.ref z)) Q E s := by
  have ty : s.TypeIs (.ref z) "zip" := ⟨_, S.zh, rfl⟩
  unfold pyNext
  refine wpAny_bind (wpAny_attempt (wpAny_callSpecial?_slot (name := Str.ofString "__next__") ty F.slot_zip_next (wpAny_call_entry F.slot_zip_next ty F.entry_zip_next
    (zt_end hh D S hx fun h' e kk he => ?_) (F.args_zip_next_1 _))))
  obtain ⟨o, ho, hc⟩ := he
  exact wpAny_bind (wpAny_isInstance (T := "StopIteration") (b := true) ⟨o, ho, hc⟩ isSubtype_stop (wpAny_pure (q _ kk)))
end
section
variable {prog : Program} {w : World}
/-- what a new zip of two tuples of one length holds -/
structure ZN (h : Heap) (z TI TO i1 i2 l1 l2 : Addr) (xs ys : Array Value) : Prop where
  z0 : IsZip h z TI TO .none
  tI : IsPair h TI (.ref i1) (.ref i2)
  tO : ∃ a b, IsPair h TO a b
  u1 : h.IsTupleIter i1 l1 0
  u2 : h.IsTupleIter i2 l2 0
  t1 : h.IsTuple l1 xs
  t2 : h.IsTuple l2 ys
theorem zipArg (z TI TO i1 i2 l1 l2 : Addr) (D : ZipApart z TI TO i1 i2 l1 l2) (xs ys : Array Value) (le : xs.size = ys.size) :
    PairArg prog w "zip" z [z, TI, TO, i1, i2, l1, l2] [z, TO, i1, i2] xs.size (fun i k v => xs[i]? = some k ∧ ys[i]? = some v) (fun h => ZN h z TI TO i1 i2 l1 l2 xs ys) where
  type := fun s ok => ⟨_, ok.z0, rfl⟩
  notDict := by decide
  keep := fun h h' ok kk => let ⟨a, b, c⟩ := ok.tO; ⟨kk _ _ ok.z0, kk _ _ ok.tI, ⟨a, b, kk _ _ c⟩, ok.u1.at fun o e => kk _ o e, ok.u2.at fun o e => kk _ o e, ok.t1.at fun o e => kk _ o e, ok.t2.at fun o e => kk _ o e⟩
  there := fun h ok b hb => by
    obtain ⟨z0, tI, ⟨_, _, tO⟩, ⟨_, a1, _⟩, ⟨_, a2, _⟩, ⟨_, a3, _⟩, ⟨_, a4, _⟩⟩ := ok
    simp only [List.mem_cons, List.not_mem_nil, or_false] at hb
    rcases hb with rfl | rfl | rfl | rfl | rfl | rfl | rfl <;> exact ⟨_, by assumption⟩
  sub := fun b hb => by
    simp only [List.mem_cons, List.not_mem_nil, or_false] at hb ⊢
    rcases hb with z | z | z | z <;> simp [z]
  noKeys := fun A s Q E hA ok q => getAttrOr_miss_zip ok.z0 rfl rfl rfl zip_no_keys (by decide +kernel) hA q
  iter := fun A s d Q E hA ok hd off q => by
    simp only [List.mem_cons, List.not_mem_nil, or_false, not_or] at off
    obtain ⟨dz, dI, dO, d1, d2, d3, d4⟩ := off
    refine wpAny_pyIter_zip ok.z0 (q z [z, TO, i1, i2] (fun i h => (h.IsTupleIter i1 l1 i ∧ h.IsTupleIter i2 l2 i ∧ IsPair h TI (.ref i1) (.ref i2) ∧ h.IsTuple l1 xs ∧ h.IsTuple l2 ys) ∧
      ((IsZip h z TI TO .none ∧ ∃ a b, IsPair h TO a b) ∨ ∃ T f oT, (IsZipHeld h z TI TO T f ∧ h.get? T = some oT) ∧ T ≠ z ∧ T ≠ i1 ∧ T ≠ i2 ∧ T ≠ d)) s.heap s.toks ?_
      ⟨⟨ok.u1, ok.u2, ok.tI, ok.t1, ok.t2⟩, .inl ⟨ok.z0, ok.tO⟩⟩ (fun _ _ e => e) fun b hb => .inl hb)
    refine { off := fun hm => ?_, frame := fun i h1 h2 st kk => ?_, item := fun i s1 Q1 E1 hi st ds q1 => ?_, done := fun s1 Q1 E1 st q1 => ?_ }
    · simp only [List.mem_cons, List.not_mem_nil, or_false] at hm
      rcases hm with e | e | e | e
      · exact dz e
      · exact dO e
      · exact d1 e
      · exact d2 e
    · obtain ⟨⟨a1, a2, a3, a4, a5⟩, b⟩ := st
      refine ⟨⟨a1.at fun o e => kk _ o (Ne.symm d1) e, a2.at fun o e => kk _ o (Ne.symm d2) e, kk _ _ (Ne.symm dI) a3, a4.at fun o e => kk _ o (Ne.symm d3) e, a5.at fun o e => kk _ o (Ne.symm d4) e⟩, ?_⟩
      rcases b with ⟨b1, c, e, b2⟩ | ⟨T, f, oT, ⟨b1, b2⟩, r1, r2, r3, r4⟩
      · exact .inl ⟨kk _ _ (Ne.symm dz) b1, c, e, kk _ _ (Ne.symm dO) b2⟩
      · exact .inr ⟨T, f, oT, ⟨kk _ _ (Ne.symm dz) b1, kk _ _ r4 b2⟩, r1, r2, r3, r4⟩
    · obtain ⟨⟨a1, a2, a3, a4, a5⟩, b⟩ := st
      have ex := Array.getElem?_eq_getElem hi
      have ey := Array.getElem?_eq_getElem (xs := ys) (i := i) (by omega)
      have lt : ∀ {c o}, s1.heap.get? c = some o → s1.heap.objs.size ≠ c := fun e => Nat.ne_of_gt (Heap.lt_size e)
      have k1 : s1.heap.objs.size ≠ i1 := let ⟨_, e, _⟩ := a1; lt e
      have k2 : s1.heap.objs.size ≠ i2 := let ⟨_, e, _⟩ := a2; lt e
      rcases b with ⟨b1, c, e, b2⟩ | ⟨T, f, oT, ⟨b1, b2⟩, r1, r2, r3, r4⟩
      · refine RZ.pyNext_zipT_item D b1 a3 b2 a1 a2 a4 a5 ex ey fun h' c1 c2 c3 c4 c5 c6 kk => ?_
        exact q1 s1.heap.objs.size _ _ h' s1.toks ⟨ex, ey⟩ (.inl ⟨_, c5, rfl, _, rfl⟩)
          ⟨⟨c3, c4, kk _ _ D.TIz D.TITO D.TIi1 D.TIi2 a3, a4.at fun o e => kk _ o D.l1z D.l1TO D.l1i1 D.l1i2 e, a5.at fun o e => kk _ o D.l2z D.l2TO D.l2i1 D.l2i2 e⟩,
            .inr ⟨s1.heap.objs.size, false, _, ⟨c1, c5⟩, lt b1, k1, k2, Nat.ne_of_gt ds⟩⟩
          fun c o hc e => kk c o (fun x => hc (by simp [x])) (fun x => hc (by simp [x])) (fun x => hc (by simp [x])) (fun x => hc (by simp [x])) e
      · refine next_zt_item D ⟨b1, b2, a3, a1, a2, a4, a5⟩ ex ey fun h' c1 c3 c4 c5 kk => ?_
        exact q1 s1.heap.objs.size _ _ h' s1.toks ⟨ex, ey⟩ (.inl ⟨_, c5, rfl, _, rfl⟩)
          ⟨⟨c3, c4, kk _ _ D.TIz D.TIi1 D.TIi2 a3, a4.at fun o e => kk _ o D.l1z D.l1i1 D.l1i2 e, a5.at fun o e => kk _ o D.l2z D.l2i1 D.l2i2 e⟩,
            .inr ⟨T, true, oT, ⟨c1, kk _ _ r1 r2 r3 b2⟩, r1, r2, r3, r4⟩⟩
          fun c o hc e => kk c o (fun x => hc (by simp [x])) (fun x => hc (by simp [x])) (fun x => hc (by simp [x])) e
    · obtain ⟨⟨a1, a2, a3, a4, a5⟩, b⟩ := st
      have hx : xs[xs.size]? = none := Array.getElem?_eq_none (Nat.le_refl _)
      rcases b with ⟨b1, c, e, b2⟩ | ⟨T, f, oT, ⟨b1, b2⟩, r1, r2, r3, r4⟩
      · exact RZ.pyNext_zipT_end hA D b1 a3 b2 a1 a2 a4 a5 (.inl hx) fun h' kk => q1 h' s1.toks fun c o hc e => kk c o (fun x => hc (by simp [x])) (fun x => hc (by simp [x])) (fun x => hc (by simp [x])) (fun x => hc (by simp [x])) e
      · exact next_zt_end hA D ⟨b1, b2, a3, a1, a2, a4, a5⟩ hx fun h' kk => q1 h' s1.toks fun c o hc e => kk c o (fun x => hc (by simp [x])) (fun x => hc (by simp [x])) (fun x => hc (by simp [x])) e
end
end K07W
namespace K07
open PySem PySem.Spec PyProof.Rows L2
section
variable {X : Cx}
/-- the key at a place of a tuple of keys -/
def KeyAt (H : Hp) (v : V) (k : List L2.Key) : Prop := ∃ q, v = .ref q ∧ H q = some (.tup (k.map kV))
theorem keys_kt {H : Hp} : ∀ {vs : List V} {us : List Value} {ks : List (List L2.Key)} {zs : List V} {ws : List Value}, Paired (KeyAt H) vs ks → Vals vs us → Vals zs ws → vs.length = zs.length →
    ∃ ys : List (List L2.Key × Addr × Value), KT H (ks.zip zs) ys ∧ ys.length = us.length ∧ ∀ (i : Nat) (y : List L2.Key × Addr × Value), ys[i]? = some y → us[i]? = some (Value.ref y.2.1) ∧ ws[i]? = some y.2.2
  | _, _, _, _, _, .nil, .nil, .nil, _ => ⟨[], .nil, rfl, fun i y e => by simp at e⟩
  | _, _, _, _ :: _, _, .nil, .nil, .cons _ _, e => nomatch e
  | _, _, _, _, _, .cons (a := v) (b := k) p t, .cons r rt, .nil, e => nomatch e
  | _, _, _, _, _, .cons (a := v) (b := k) p t, .cons r rt, .cons (a := z) (b := w0) r2 rt2, e => by
    obtain ⟨ys, k1, k2, k3⟩ := keys_kt t rt rt2 (Nat.succ.inj e)
    obtain ⟨q, rfl, hq⟩ := p
    refine ⟨(k, q, w0) :: ys, .cons ⟨rfl, hq, r2⟩ k1, congrArg (· + 1) k2, fun i y ey => ?_⟩
    cases i with
    | zero =>
      obtain rfl := Option.some.inj ey
      rw [show _ = Value.ref q from r]
      exact ⟨rfl, rfl⟩
    | succ i => exact k3 i y ey
/-- dict(zip(a, b)), a tuple of keys, b a tuple of values -/
def tDictZ (K : PySem.W.Frag) (ta : TA) : TE := fun σ H Q => ta σ H fun vs H1 => ∃ (a b : Addr) (ks : List (List L2.Key)) (xs zs : List V), vs = [.ref a, .ref b] ∧ SqT K H1 a xs ∧ Paired (KeyAt H1) xs ks ∧ SqT K H1 b zs ∧ xs.length = zs.length ∧
  ∀ p, H1 p = none → Q (.ref p) (upd H1 p (.dT (putAll [] (ks.zip zs))))
theorem pe_dictZip {e e2 : Expr} {ta : TA} {p pos p2 pos2 : Pos} (calm : X.calm = true) (un : X.A.units + 2 < cLine) (gd : Gl X "dict") (md : X.mg "dict" = none) (gz : Gl X "zip") (mz : X.mg "zip" = none) (ha : PA X [e, e2] ta)
    (hs : starEach [e, e2] X.env = (false, eval e X.env) :: starEach [e2] X.env := by rfl) (hpl : (backTo pos2 (starEach [e2] X.env)).any (·.1) = false := by rfl)
    (hs2 : starEach [.Call (.Name "zip" p2) [e, e2] [] pos2] X.env = (false, eval (.Call (.Name "zip" p2) [e, e2] [] pos2) X.env) :: starEach [] X.env := by rfl) (hpl2 : (backTo pos (starEach [] X.env)).any (·.1) = false := by rfl) :
    PE X (.Call (.Name "dict" p) [.Call (.Name "zip" p2) [e, e2] [] pos2] [] pos) (tDictZ X.K ta) := by
  refine ⟨fun pins s σ H Q I h => ?_⟩
  refine wpAny_Call_Name_kw (ld_blt I gd md (show bootBuiltins "dict" = some (.type "dict") by decide +kernel) ?_)
  refine PyProof.Rows.callWith_type1 ?_ hs2 hpl2
  rw [hs2]
  show wpAny _ _ (spliced ((false, eval (.Call (.Name "zip" p2) [e, e2] [] pos2) X.env) :: [])) _ _ s
  refine Calls.spliced_cons ?_
  refine wpAny_Call_Name_kw (ld_blt I gz mz PyProof.Rows.boot_zip ?_)
  refine PyProof.Rows.callWith_type1 (thn (ha.run pos2 pins s σ H _ I h) fun us s1 w1 => ?_) hs hpl
  obtain ⟨vs, H1, I1, r1, a, b, ks, xs, zs, rfl, hq1, pk, hq2, le, q⟩ := w1
  obtain ⟨u1, u2, rfl, ra, rb⟩ := vals2 r1
  obtain rfl : u1 = Value.ref a := ra
  obtain rfl : u2 = Value.ref b := rb
  obtain ⟨its, rv, p1, z1⟩ := I1.tuple hq1
  obtain ⟨its2, rv2, p2', _⟩ := I1.tuple hq2
  obtain ⟨ys, kt, n1, n2⟩ := keys_kt pk rv rv2 le
  have p1 : s1.heap.IsTuple a its.toArray := p1
  have p2' : s1.heap.IsTuple b its2.toArray := p2'
  have la : a < s1.heap.objs.size := let ⟨_, e, _⟩ := p1; Heap.lt_size e
  have lb : b < s1.heap.objs.size := let ⟨_, e, _⟩ := p2'; Heap.lt_size e
  have l12 : its.length = its2.length := by rw [← rv.length, ← rv2.length, le]
  refine RZ.call_zipT p1 p2' fun h' z0 tI tO v1 v2 hsz kk => ?_
  refine Calls.spliced_nil ?_
  have I2 : Inv X pins σ H1 { s1 with heap := h' } := I1.kept (t' := s1.toks) kk
  have offw : ∀ {c : Addr}, c < s1.heap.objs.size → c ∉ [s1.heap.objs.size + 4, s1.heap.objs.size + 3, s1.heap.objs.size, s1.heap.objs.size + 1] := fun {c} l m => by
    simp only [List.mem_cons, List.not_mem_nil, or_false] at m
    have l : (c : Nat) < s1.heap.objs.size := l
    rcases m with m | m | m | m
    all_goals
      rw [m] at l
      exact absurd l (Nat.not_lt.mpr (by first | exact Nat.le_add_right _ _ | exact Nat.le_refl _))
  refine call_dict_pairsH (s := { s1 with heap := h' }) (knd := tupleKind (mixKind X.prog X.w)) (ps := ys) (K07W.zipArg _ _ _ _ _ a b (PySem.W.ktu_apart s1.heap.objs.size a b la lb) its.toArray its2.toArray (by simpa using l12)) (I.ok.hd calm) (by show X.A.units + 2 < cLine; exact un)
    ⟨z0, tI, ⟨_, _, tO⟩, v1, v2, p1.at fun o e => kk _ o e, p2'.at fun o e => kk _ o e⟩ ⟨by simpa using n1, fun i kv v e => ?_⟩ (fun h2 ke z m => ?_) (by simpa [← rv.length] using z1) fun h2 tk hd' ke => ?_
  · obtain ⟨e1, e2⟩ := e
    have li : i < ys.length := by
      rw [n1]
      have := (Array.getElem?_eq_some_iff.mp e1).1
      simpa using this
    obtain ⟨f1, f2⟩ := n2 i ys[i] (List.getElem?_eq_getElem li)
    have e1 : its[i]? = some kv := by simpa using e1
    have e2 : its2[i]? = some v := by simpa using e2
    rw [e1] at f1
    rw [e2] at f2
    refine ⟨ys[i].1, ys[i].2.1, ?_, Option.some.inj f1⟩
    rw [List.getElem?_eq_getElem li, Option.some.inj f2]
  · obtain ⟨j, e⟩ := List.mem_iff_getElem?.mp m
    obtain ⟨pp, _, q1, q2, _⟩ := L2.DX.pget kt e
    have ky := key_of I1.hok q2
    rw [q1] at ky
    obtain ⟨ob, iv, nv, g1, g2, g3, g4⟩ := ky
    have lg := Heap.lt_size g1
    exact ⟨ob, iv, nv, ke _ _ (Nat.ne_of_lt (Nat.lt_of_lt_of_le lg (by rw [hsz]; exact Nat.le_add_right _ _))) (offw lg) (kk _ _ g1), g2, g3, g4⟩
  · have big := I2.big
    have sm : (h'.objs.size == sysModules) = false := beq_eq_false_iff_ne.mpr (Nat.ne_of_gt big)
    have le2 := putAll_len (ks.zip zs) []
    have free : H1 h'.objs.size = none := I2.hok.fresh (Nat.le_refl _)
    obtain ⟨od, es, ep, g1, g2, g3, g4, g5, g6⟩ := hd'
    have lz : (ks.zip zs).length ≤ sizeLine := by
      have a1 : (ks.zip zs).length ≤ ks.length := by rw [List.length_zip]; exact Nat.min_le_left _ _
      have a2 : xs.length = ks.length := Paired.length pk
      have a3 := z1
      omega
    refine ⟨.ref h'.objs.size, upd H1 h'.objs.size (.dT (putAll [] (ks.zip zs))), I1.laid (t' := tk) (fun b o e => ke b o (offw (Heap.lt_size e)) (kk b o e)) (by rw [hsz]; exact Nat.le_add_right _ _) ⟨by simp at le2; omega, sm, _, (kt_all kt .nil).keeps fun c ys ec => ?_, od, es, ep, g1, g2, g3, g4, g6⟩, rfl, q _ free⟩
    rw [upd_ne (ne_of_none ec free)]
    exact ec
end
end K07

/-! # the tables of a stair, its text -/
namespace K07
open PySem PySem.Spec PyProof.Rows L2 TL NumText
/-! ### places -/
theorem tables5 : ∀ ns ∈ shapesL, ((List.range 3).all fun b => (List.range 6).all fun i => (List.range 6).all fun j => !(decide (b < ns.length) && decide (i < j) && decide ((j : Int) < ns.getD b 0)) || decide ((((b : Nat) : Int), ((i : Nat) : Int), ((j : Nat) : Int)) ∈ pl ns)) = true := by decide +kernel
theorem mem_pl {ns : List Int} (S : Shp ns) {b i j : Nat} (hb : b < ns.length) (hij : i < j) (hj : (j : Int) < ns.getD b 0) : (((b : Nat) : Int), ((i : Nat) : Int), ((j : Nat) : Int)) ∈ pl ns := by
  have l3 := S.1.2
  have g6 : ns.getD b 0 ≤ 6 := by
    rw [List.getD_eq_getElem?_getD, List.getElem?_eq_getElem hb]
    exact (S.2.1 _ (List.getElem_mem hb)).2
  have y := List.all_eq_true.mp (List.all_eq_true.mp (List.all_eq_true.mp (tables5 ns (shp_mem S)) b (List.mem_range.mpr (by omega))) i (List.mem_range.mpr (by omega))) j (List.mem_range.mpr (by omega))
  rw [decide_eq_true hb, decide_eq_true hij, decide_eq_true hj] at y
  exact of_decide_eq_true (by simpa using y)
/-- a place, by its three numbers -/
theorem pl_mem {ns : List Int} (S : Shp ns) {t : Tri} (h : t ∈ pl ns) : ∃ b i j : Nat, t = (((b : Nat) : Int), ((i : Nat) : Int), ((j : Nat) : Int)) ∧ b < ns.length ∧ i < j ∧ (j : Int) < ns.getD b 0 := by
  have z := (tables2 ns (shp_mem S)).2.1 t h
  obtain ⟨tb, ti, tj⟩ := t
  obtain ⟨n, k, m, e1, e2, e3, n0, n1, k0, k1, m0, m1⟩ := isP3_ints (show isP3 ns (.int tb) (.int ti) (.int tj) = true from z)
  cases e1
  cases e2
  cases e3
  obtain ⟨n, rfl⟩ := Int.eq_ofNat_of_zero_le n0
  obtain ⟨k, rfl⟩ := Int.eq_ofNat_of_zero_le k0
  obtain ⟨m, rfl⟩ := Int.eq_ofNat_of_zero_le m0
  exact ⟨n, k, m, rfl, by omega, by omega, m1⟩
/-! ### dicts of numbers at places -/
def dictO (l : List Tri) (num : Tri → Int) : List (List L2.Key × V) := l.map fun t => (triK t, .int (num t))
theorem dictO_keys (l : List Tri) (num : Tri → Int) : (dictO l num).map (·.1) = l.map triK := by
  unfold dictO
  rw [List.map_map]
  rfl
theorem keys_nodup {l : List Tri} (h : l.Nodup) : (l.map triK).Nodup := by
  rw [List.Nodup, List.pairwise_map]
  exact h.imp fun ne z => ne (triK_inj z)
theorem valV_dictO {num : Tri → Int} {t : Tri} : ∀ {l : List Tri}, valV (dictO l num) (triK t) = if t ∈ l then some (.int (num t)) else none
  | [] => by
    rw [if_neg (by simp)]
    rfl
  | u :: r => by
    show valV ((triK u, V.int (num u)) :: dictO r num) (triK t) = _
    by_cases e : triK u = triK t
    · have y : valV ((triK u, V.int (num u)) :: dictO r num) (triK t) = some (V.int (num u)) := by
        unfold valV
        rw [List.find?_cons_of_pos (by simpa using e)]
        rfl
      have eu := triK_inj e
      rw [y, eu, if_pos (List.mem_cons_self ..)]
    · have y : valV ((triK u, V.int (num u)) :: dictO r num) (triK t) = valV (dictO r num) (triK t) := by
        unfold valV
        rw [List.find?_cons_of_neg (by simpa using e)]
      rw [y, valV_dictO]
      have ne : t ≠ u := fun z => e (by rw [z])
      by_cases m : t ∈ r
      · rw [if_pos m, if_pos (List.mem_cons_of_mem _ m)]
      · rw [if_neg m, if_neg (fun z => (List.mem_cons.mp z).elim ne m)]
theorem put_dictO {l : List Tri} (h : l.Nodup) (num : Tri → Int) : putAll [] (dictO l num) = dictO l num := by
  rw [putAll_new _ [] (by rw [List.nil_append, dictO_keys]; exact keys_nodup h), List.nil_append]
theorem zip_dictO (l : List Tri) (num : Tri → Int) : (l.map triK).zip ((l.map num).map V.int) = dictO l num := by
  unfold dictO
  rw [List.map_map, List.zip_map']
  rfl
theorem trl_keys {H : Hp} : ∀ {xs : List V} {ts : List Tri}, TrL H xs ts → Paired (KeyAt H) xs (ts.map triK)
  | _, _, .nil => .nil
  | _, _, .cons e l => .cons ⟨_, rfl, e⟩ (trl_keys l)
theorem hold_dictO {ns : List Int} (num : Tri → Int) : Hold ns num (dictO (pl ns) num) := fun t m => by
  rw [valV_dictO, if_pos m]
/-- all its tables -/
def tabsD (num : Tri → Int) (ns : List Int) : PyData := .tuple ((List.range ns.length).map fun (b : Nat) => tabD num (b : Int) (ns.getD b 0).toNat)
/-- its numbers, place by place -/
abbrev numsL (num : Tri → Int) (ns : List Int) : List Int := (pl ns).map num
section
variable {P : Program} {w : World} {K : PySem.W.Frag} {mg : Str → Option Value} {base : Heap} {C CS TL : Addr}
abbrev s_tabs : Stmt := inClass (topS 32) 8
theorem sc_tabs : FnScope ["self", "found", "block", "size"] ["self"] (defScope s_tabs) := ⟨rfl, rfl, rfl, by decide +kernel, rfl, by decide +kernel, by decide +kernel⟩
def spTabs (K : PySem.W.Frag) (C : Addr) : Sp := fun vs H Q _ => ∃ a ns num, vs = [.ref a] ∧ StairO K H a C ns (numsL num ns) ∧ Shp ns ∧ ∀ H' y, Same H H' → Tv K H' y (tabsD num ns) → Q y H'
theorem ok_tabs {f f1 f2 : Addr} {fd fd1 fd2 : FuncData} (T : Txt mg) (N : Nam mg) (nz : mg "zip" = none) (R : SC K mg C) (d : M K "tables" "Stair.tables" s_tabs ["self"] f fd)
    (d1 : D K mg "places" s_places ["shape"] f1 fd1) (G1 : FnOk P w K mg base (L2.CX P w) 5 f1 fd1 ["shape"] (spPlaces K CS)) (d2 : D K mg "table_of" s_tof ["entries", "block", "size"] f2 fd2) (G2 : FnOk P w K mg base CX0 2 f2 fd2 ["entries", "block", "size"] (spTof K)) :
    FnOk P w K mg base CX0 6 f fd ["self"] (spTabs K C) := by
  refine d.F.ok sc_tabs (fun vs H Q E h => ?_) (fun cdv A outer s H vs Q E hr h => ?_)
  · obtain ⟨a, ns, num, rfl, _⟩ := h
    rfl
  · obtain ⟨a, ns, num, rfl, ⟨dx, sh, pln, nm, e1, e2, e3, e4⟩, S, q⟩ := h
    have un2 : (A.deeper (envOfC "Stair.tables" (defScope s_tabs) s.heap.objs.size f cdv)).units + 2 < cLine := by have := hr.un; omega
    refine ⟨_, (pss_cons (ps_set (i := 1) sc_tabs.nd rfl (.inr rfl) (pe_dictZip rfl un2 (by rfl) N.n_dict (by rfl) nz (pa_cons (pe_call (E := fun _ _ _ => False) G1 (hr.mono (by decide)) (by rfl) d1.g d1.F.kp d1.b .nil passF (pa_cons (pe_fld (pv 0) rfl) pa_nil)) (pa_cons (pe_fld (pv 0) rfl) pa_nil))))
      (pss_one (ps_ret (pe_tupleOf (by rfl) T.n_tuple (pe_lc (own := [("block", 2), ("size", 3)]) (g := gTup K 2 (gCons (gName 2) (gCons (gName 3) gNil))) (tt := tYes) rfl sc_tabs.nd (pi_enumT (by rfl) N.n_enumerate (pa_cons (pe_fld (pv 0) rfl) pa_nil)) (blkOk_by (own := [("block", 2), ("size", 3)]) (N := ["self", "found", "block", "size"]) (sc := defScope s_tabs) (by decide +kernel))
            (fun _ _ _ _ _ => (pg_tup rfl (pgs_cons (pg_name (i := 2) sc_tabs.nd rfl (Or.inl rfl)) (pgs_cons (pg_name (i := 3) sc_tabs.nd rfl (Or.inl rfl)) pgs_nil)))) (fun _ _ _ _ _ => pts_nil) (fun _ _ _ _ _ => (pe_call G2 (hr.mono (by decide)) (by rfl) d2.g d2.F.kp d2.b .nil pass0 (pa_cons (pv 1) (pa_cons (pv 2) (pa_cons (pv 3) pa_nil)))))))))), ?_⟩
    refine ⟨_, rfl, a, C, dx, _, _, rfl, e1, R.cl, R.nS, stF_shape _ _ _, _, .tuple (ns.map .int), rfl, .tv (.tup e2 (tvl_ints ns)), fun ns' en S' H1 y s1 ty => ?_, fun z => absurd (shp_is S) (by rw [z]; decide)⟩
    obtain rfl : ns' = ns := (ints_inj (PyData.tuple.inj en)).symm
    obtain ⟨o, xs, rfl, eo, tl⟩ := ty
    have M := tables3 ns' (shp_mem S)
    have lx : xs.length = (pl ns').length := tl.len
    refine ⟨_, rfl, a, C, dx, _, _, rfl, s1 _ _ e1, R.cl, R.nN, stF_numbers _ _ _, ?_⟩
    refine ⟨o, nm, _, xs, _, rfl, sqt_new eo, trl_keys tl, sqt_new (s1 _ _ e3), by rw [lx, List.length_map, List.length_map], fun D nD => ?_⟩
    rw [zip_dictO, put_dictO M.1]
    have s2 := s1.trans (sub_same (o := .dT (dictO (pl ns') num)) nD)
    have eD : upd H1 D (.dT (dictO (pl ns') num)) D = some (.dT (dictO (pl ns') num)) := upd_same
    revert s2 eD
    generalize upd H1 D (.dT (dictO (pl ns') num)) = H2
    intro s2 eD
    refine ⟨_, rfl, a, C, dx, _, _, rfl, s2 _ _ e1, R.cl, R.nS, stF_shape _ _ _, sh, _, rfl, sqt_same e2 s2, fun L nL => ?_⟩
    have e2' := sqt_same e2 s2
    refine lc_it (walk_enumT (K := K) (a := sh) (xs := ns'.map V.int)) (fun i Y => Same H2 Y ∧ ∃ acc, Y L = some (.lst acc) ∧ TvL K Y acc ((List.range i).map fun (b : Nat) => tabD num (b : Int) (ns'.getD b 0).toNat)) ⟨sub_same nL, [], upd_same, .nil⟩ (fun i Y _ h => sqt_same e2' h.1) ?_ ?_
    · rintro i v Y Y' hi ⟨sy, acc, ha, la⟩ ⟨Tp, x0, y0, rfl, nT, rfl, ex, ey⟩
      obtain rfl := Option.some.inj ex
      obtain ⟨z, ez, rfl⟩ := int_at ey
      have z6 := S'.2.1 z (List.mem_of_getElem? ez)
      obtain ⟨zn, rfl⟩ : ∃ k : Nat, z = (k : Int) := ⟨z.toNat, by omega⟩
      have il := (List.getElem?_eq_some_iff.mp ez).1
      have gd : ns'.getD i 0 = (zn : Int) := by rw [List.getD_eq_getElem?_getD, ez]; rfl
      have s3 := sub_same (o := .tup [V.int (i : Nat), V.int (zn : Int)]) nT
      have ha2 := s3 _ _ ha
      have la2 := la.same s3
      have sy2 := sy.trans s3
      have hT : upd Y Tp (.tup [V.int (i : Nat), V.int (zn : Int)]) Tp = some (.tup [V.int (i : Nat), V.int (zn : Int)]) := upd_same
      revert ha2 sy2 hT la2
      generalize upd Y Tp (.tup [V.int (i : Nat), V.int (zn : Int)]) = Y2
      intro ha2 la2 sy2 hT
      refine ⟨Tp, _, rfl, .inl (.inl hT), rfl, _, _, rfl, _, _, rfl, rfl, rfl, yesT ?_⟩
      refine ⟨_, rfl, _, rfl, _, rfl, D, _, ns', num, _, zn, rfl, sy2 _ _ eD, hold_dictO num, by omega, fun a b ab bz => mem_pl S' il ab (by rw [gd]; omega), fun Z y s4 ty => ?_⟩
      have l1 := la.len
      rw [List.length_map, List.length_range] at l1
      have b3 := S'.1.2
      refine ⟨acc, s4 _ _ ha2, ?_, fun k ob e => ?_, _, upd_same, ?_⟩
      · rw [sizeLine_eq]
        omega
      · rw [upd_ne (fun z => by rw [z, nL] at e; cases e)]
        exact s4 _ _ (sy2 _ _ e)
      · rw [List.range_succ, List.map_append, List.map_singleton, gd]
        exact ((la2.same s4).snoc ty).put (s4 _ _ ha2)
    · rintro Y ⟨sy, acc, ha, la⟩
      rw [List.length_map] at la
      exact .inl ⟨L, acc, rfl, .inl (.inl ha), fun p np => q _ _ ((s2.trans sy).trans (sub_same np)) (.tup (sqt_new upd_same) (la.same (sub_same np)))⟩
/-- numbers of a shape, none too long -/
def LoN (num : Tri → Int) (ns : List Int) : Prop := ∀ t ∈ pl ns, Lo (num t)
abbrev s_str : Stmt := inClass (topS 32) 20
theorem sc_str : FnScope ["self", "table"] ["self"] (defScope s_str) := ⟨rfl, rfl, rfl, by decide +kernel, rfl, by decide +kernel, by decide +kernel⟩
def spStr (K : PySem.W.Frag) (C : Addr) : Sp := fun vs H Q _ => ∃ a ns num, vs = [.ref a] ∧ StairO K H a C ns (numsL num ns) ∧ Shp ns ∧ LoN num ns ∧ ∀ H', Same H H' → Q (.str (stairS num ns)) H'
theorem ok_str {f f1 qT gT : Addr} {fd fd1 fdT : FuncData} (T : Txt mg) (R : SC K mg C) (d : M K "__str__" "Stair.__str__" s_str ["self"] f fd)
    (d1 : D K mg "text_of" s_text ["table"] f1 fd1) (G1 : FnOk P w K mg base CX0 1 f1 fd1 ["table"] (spText K)) (pT : PropOf K C "tables" qT gT) (GT : FnOk P w K mg base CX0 6 gT fdT ["self"] (spTabs K C)) (bT : Binds K fdT ["self"] []) :
    FnOk P w K mg base CX0 8 f fd ["self"] (spStr K C) := by
  refine d.F.ok sc_str (fun vs H Q E h => ?_) (fun cdv A outer s H vs Q E hr h => ?_)
  · obtain ⟨a, ns, num, rfl, _⟩ := h
    rfl
  · obtain ⟨a, ns, num, rfl, st, S, lo, q⟩ := h
    refine ⟨_, (pss_one (ps_ret (pe_join pe_str (pe_lc (own := [("table", 1)]) (g := gName 1) (tt := tYes) rfl sc_str.nd (pi_tup (pe_prop (pv 0) R.cl pT GT (hr.mono (by decide)) bT .nil pass0 (by rfl))) (blkOk_by (own := [("table", 1)]) (N := ["self", "table"]) (sc := defScope s_str) (by decide +kernel))
            (fun _ _ _ _ _ => (pg_name (i := 1) sc_str.nd rfl (Or.inl rfl))) (fun _ _ _ _ _ => pts_nil) (fun _ _ _ _ _ => (pe_call G1 (hr.mono (by decide)) (by rfl) d1.g d1.F.kp d1.b .nil pass0 (pa_cons (pv 1) pa_nil))))))), ?_⟩
    obtain ⟨dx, sh, pln, nm, e1, _⟩ := id st
    have b3 := S.1.2
    refine ⟨⟨_, rfl⟩, _, rfl, a, dx, _, rfl, e1, a, ns, num, rfl, st, S, fun H1 y s1 ty => ?_⟩
    obtain ⟨o, xs, rfl, eo, tl0⟩ : ∃ o xs, y = .ref o ∧ SqT K H1 o xs ∧ TvL K H1 xs ((List.range ns.length).map fun (b : Nat) => tabD num (b : Int) (ns.getD b 0).toNat) := by
      cases ty with
      | tup e l => exact ⟨_, _, rfl, e, l⟩
    have lx : xs.length = ns.length := by rw [tl0.len, List.length_map, List.length_range]
    refine ⟨o, rfl, ⟨_, eo⟩, fun L nL => ?_⟩
    refine lc_tup (K := K) (a := o) (xs := xs) (fun i Y => Same H1 Y ∧ Y L = some (.lst (((List.range i).map fun (b : Nat) => blkS num (b : Int) (ns.getD b 0).toNat).map V.str))) ⟨sub_same nL, upd_same⟩ (fun i Y _ h => sqt_same eo h.1) ?_ ?_
    · rintro i x Y hx ⟨sy, hl⟩
      obtain ⟨d0, ed, td⟩ := tl0.get hx
      have il := (List.getElem?_eq_some_iff.mp hx).1
      rw [lx] at il
      rw [List.getElem?_map, List.getElem?_range il] at ed
      obtain rfl := Option.some.inj ed
      have z6 := S.2.1 _ (List.getElem_mem il)
      have gd : ns.getD i 0 = ns[i] := by rw [List.getD_eq_getElem?_getD, List.getElem?_eq_getElem il]; rfl
      refine ⟨rfl, yesT ⟨_, rfl, x, num, _, _, rfl, td.same sy, by rw [gd]; omega, by rw [gd]; omega, fun a b ab bz => lo _ (mem_pl S il ab (by omega)), fun Z s2 => ?_⟩⟩
      refine ⟨_, s2 _ _ hl, ?_, fun k ob e => ?_, ?_⟩
      · rw [List.length_map, List.length_map, List.length_range, sizeLine_eq]
        omega
      · rw [upd_ne (fun z => by rw [z, nL] at e; cases e)]
        exact s2 _ _ (sy _ _ e)
      · rw [upd_same, List.range_succ, List.map_append, List.map_append]
        rfl
    · rintro Y ⟨sy, hl⟩
      rw [lx] at hl
      refine ⟨_, L, _, rfl, rfl, .inl (.inl (.inl hl)), ?_, q Y (s1.trans sy)⟩
      refine Nat.le_trans (join_le (m := 8000) (n := 3) (d := 2) (fun p hp => ?_) ?_ (by decide +kernel)).2 (by decide)
      · obtain ⟨b, hb, rfl⟩ := List.mem_map.mp hp
        rw [List.mem_range] at hb
        have z6 := S.2.1 _ (List.getElem_mem hb)
        have gd : ns.getD b 0 = ns[b] := by rw [List.getD_eq_getElem?_getD, List.getElem?_eq_getElem hb]; rfl
        refine blkS_le (fun i x hx => ?_) (by rw [gd]; omega)
        unfold rowNs at hx
        obtain ⟨c, hc, rfl⟩ := List.mem_map.mp hx
        rw [List.mem_range] at hc
        have z := lo _ (mem_pl S (b := b) (i := i) (j := i + 1 + c) hb (by omega) (by omega))
        have e : ((i + 1 + c : Nat) : Int) = (i : Int) + 1 + (c : Int) := by omega
        rw [e] at z
        exact z
      · rw [List.length_map, List.length_range]
        exact b3
end
end K07

/-! # the keys of a dict, in their order and sorted -/
namespace K07W
open PySem PySem.Spec PyProof.Rows
section
variable {prog : Program} {w : World} {A : Around}
theorem keysWalk (hh : A.handled = none) (I d : Addr) (ne : d ≠ I) (es : Array DictEntry) (ep : Nat) :
    Walks prog w A I [I, d] [I] es.size (fun i v => ∃ li : i < es.size, v = es[i].key) (fun i h => h.IsKeyIter I d i es.size ep ∧ h.DictRaw d es ep) where
  sub := fun b m => by
    rw [List.mem_singleton.mp m]
    exact List.mem_cons_self ..
  frame := fun _ _ _ st kk => ⟨st.1.at fun o e => kk I (List.mem_cons_self ..) o e, st.2.at fun o e => kk d (List.mem_cons_of_mem _ (List.mem_singleton.mpr rfl)) o e⟩
  item := fun i s Q E hi st q => wpAny_pyNext_keys_item_raw st.1 st.2 hi fun h' it' sb => q _ h' s.toks ⟨hi, rfl⟩ ⟨it', st.2.at fun o e => sb.extBut d o ne e⟩ fun b o nb e => sb.extBut b o (fun z => nb (by rw [z]; exact List.mem_singleton.mpr rfl)) e
  done := fun s Q E st q => wpAny_pyNext_keys_end_raw hh st.1 st.2 (Nat.le_refl _) fun h' eb => q h' s.toks fun b o nb e => eb b o (fun z => nb (by rw [z]; exact List.mem_singleton.mpr rfl)) e
  self := fun _ _ _ _ st q => wpAny_pyIter_keyiter st.1 q
theorem keysSrc {d : Addr} {es : Array DictEntry} {ep : Nat} (lo : (d == sysModules) = false) : PySem.W.KdlSrc prog w "dict" d d es.size (fun i v => ∃ li : i < es.size, v = es[i].key) (fun h => h.DictRaw d es ep) where
  type := fun _ r => r.typeIs
  there := fun _ ⟨_, ho, _⟩ => ⟨Heap.lt_size ho, Heap.lt_size ho⟩
  keep := fun _ _ r kk => r.at fun o e => kk d (.inl rfl) o e
  notList := by decide
  notTuple := by decide
  hint := fun _ _ _ _ r q => PySem.W.kdl_hint_dict r.typeIs q
  iter := fun _ s hh r => by
    obtain ⟨o, ho, hc, hd⟩ := id r
    exact ⟨_, _, (fun _ _ q => L2.iter_keys lo ho hc hd q), keysWalk hh _ d (Nat.ne_of_lt (Heap.lt_size ho)) es ep, ⟨⟨_, Heap.get?_push_size _ rfl, rfl, rfl⟩, r.at fun o e => Heap.get?_push_of_some _ e⟩⟩
end
end K07W
namespace K07
open PySem PySem.Spec PyProof.Rows L2
section
variable {X : Cx} {pins : List (Addr × Obj)} {σ : L2.St} {H : Hp} {s : Shared}
theorem dt_raw {d : Addr} {ps : List (List L2.Key × V)} (I : Inv X pins σ H s) (e : H d = some (.dT ps)) :
    (d == sysModules) = false ∧ ∃ (es : Array DictEntry) (ep : Nat), s.heap.DictRaw d es ep ∧ es.size = ps.length ∧ es.size ≤ sizeLine ∧
      ∀ (i : Nat) (k : List L2.Key) (v : V) (li : i < es.size), ps[i]? = some (k, v) → ∃ q : Addr, es[i].key = .ref q ∧ H q = some (.tup (k.map kV)) ∧ RelV v es[i].val := by
  obtain ⟨z, sm, xs, pr, o, es, ep, h1, h2, h3, h4, _⟩ := dt_of I.hok e
  have n1 : es.size = xs.length := size_of_entries h4
  have n2 : ps.length = xs.length := Paired.length pr
  refine ⟨sm, es, ep, ⟨o, h1, h2, h3⟩, by omega, by omega, fun i k v li ek => ?_⟩
  obtain ⟨b, hb, e1, e2, e3⟩ := paired_get pr ek
  have y := entry_at h4 i
  rw [hb, Array.getElem?_eq_getElem li] at y
  have w := Option.some.inj y
  exact ⟨b.2.1, by rw [w]; rfl, e2, by rw [w]; exact e3⟩
theorem trl_of {H : Hp} : ∀ {us : List Value} {l : List Tri}, us.length = l.length → (∀ (i : Nat) (u : Value), us[i]? = some u → ∃ (t : Tri) (q : Addr), l[i]? = some t ∧ u = .ref q ∧ H q = some (.tup (triV t))) → TrL H (us.map bkV) l ∧ ∀ u ∈ us, ∃ a, u = Value.ref a
  | [], [], _, _ => ⟨.nil, fun u h => by cases h⟩
  | u :: us, t :: l, h, all => by
    obtain ⟨t', q, e1, rfl, e3⟩ := all 0 u rfl
    obtain rfl : t = t' := Option.some.inj e1
    obtain ⟨a, b⟩ := trl_of (us := us) (l := l) (by simpa using h) fun i v e => by
      obtain ⟨t2, q2, f1, f2, f3⟩ := all (i + 1) v (by simpa using e)
      exact ⟨t2, q2, by simpa using f1, f2, f3⟩
    exact ⟨.cons e3 a, fun v m => (List.mem_cons.mp m).elim (fun z => ⟨q, z⟩) (b v)⟩
  | [], _ :: _, h, _ => by simp at h
  | _ :: _, [], h, _ => by simp at h
/-- what collect gives of such a dict -/
theorem collect_keys {d : Addr} {ps : List (List L2.Key × V)} {l : List Tri} {A : Around} {R : List Value → Shared → Prop} {E : Value → Shared → Prop} (I : Inv X pins σ H s) (e : H d = some (.dT ps)) (ek : ps.map (·.1) = l.map triK) (hh : A.handled = none)
    (q : ∀ h' tk us, Inv X pins σ H { s with heap := h', toks := tk } → (∀ b o, s.heap.get? b = some o → h'.get? b = some o) → TrL H (us.map bkV) l → (∀ u ∈ us, ∃ a, u = Value.ref a) → us.length = l.length → R us { s with heap := h', toks := tk }) :
    wpAny (model X.prog X.w) A (collect (.ref d)) R E s := by
  obtain ⟨sm, es, ep, raw, n, nz, all⟩ := dt_raw I e
  refine PySem.W.kdu_collect (K07W.keysSrc (ep := ep) sm) hh raw nz fun h' tk acc kk ac => ?_
  have l1 : ps.length = l.length := by
    have z := congrArg List.length ek
    rwa [List.length_map, List.length_map] at z
  have l2 : acc.toList.length = l.length := by rw [Array.length_toList, ac.1, n, l1]
  obtain ⟨t1, t2⟩ := trl_of (H := H) (us := acc.toList) (l := l) l2 fun i u ei => by
    obtain ⟨li, rfl⟩ := ac.2 i u (by rw [← Array.getElem?_toList]; exact ei)
    have ip : i < ps.length := by omega
    obtain ⟨qa, k1, k2, _⟩ := all i ps[i].1 ps[i].2 li (List.getElem?_eq_getElem ip)
    have il : i < l.length := by omega
    have ekk : ps[i].1 = triK l[i] := by
      have z := congrArg (fun m => m[i]?) ek
      simp only [List.getElem?_map, List.getElem?_eq_getElem ip, List.getElem?_eq_getElem il, Option.map_some] at z
      exact Option.some.inj z
    rw [ekk] at k2
    exact ⟨l[i], qa, List.getElem?_eq_getElem il, k1, k2⟩
  exact q h' tk acc.toList (I.kept kk) kk t1 t2 l2
end
theorem TrL.perm {H : Hp} {xs ys : List V} (h : xs.Perm ys) : ∀ {ts : List Tri}, TrL H xs ts → ∃ qs : List Tri, qs.Perm ts ∧ TrL H ys qs := by
  induction h with
  | nil =>
    intro ts t
    cases t
    exact ⟨[], .nil, .nil⟩
  | cons x _ ih =>
    intro ts t
    cases t with
    | cons a t =>
      obtain ⟨qs, p, z⟩ := ih t
      exact ⟨_ :: qs, p.cons _, .cons a z⟩
  | swap x y l =>
    intro ts t
    cases t with
    | cons a t => cases t with
      | cons b t => exact ⟨_ :: _ :: _, .swap _ _ _, .cons b (.cons a t)⟩
  | trans _ _ ih1 ih2 =>
    intro ts t
    obtain ⟨qs, p, z⟩ := ih1 t
    obtain ⟨rs, p2, z2⟩ := ih2 z
    exact ⟨rs, p2.trans p, z2⟩
theorem TrL.pair {H : Hp} {K : PySem.W.Frag} {g : List Int → Int} : ∀ {ys : List V} {qs : List Tri}, TrL H ys qs → ys.Pairwise (fun x y => ∀ n m, TupI K H x n → TupI K H y m → g n ≤ g m) → qs.Pairwise fun p q => g (triI p) ≤ g (triI q)
  | _, _, .nil, _ => .nil
  | _, _, .cons (c := c) (t := t) e l, p => by
    rw [List.pairwise_cons] at p
    refine List.pairwise_cons.mpr ⟨fun r hr => ?_, l.pair p.2⟩
    obtain ⟨i, hi⟩ := List.getElem?_of_mem hr
    have li : i < _ := (List.getElem?_eq_some_iff.mp hi).1
    rw [← l.len] at li
    obtain ⟨t2, c2, e1, e2, e3⟩ := l.tri (List.getElem?_eq_getElem li)
    rw [hi] at e1
    obtain rfl := Option.some.inj e1
    exact p.1 _ (List.getElem_mem li) _ _ ⟨c, rfl, .inl (.inl e)⟩ (by rw [e2]; exact ⟨c2, rfl, .inl (.inl e3)⟩)
section
variable {X : Cx}
/-- list(d), the keys triples -/
theorem call_listT (calm : X.calm = true) : CallR X (.type "list") (fun vs H Q => ∃ (a : Addr) (ps : List (List L2.Key × V)) (l : List Tri), vs = [.ref a] ∧ H a = some (.dT ps) ∧ ps.map (·.1) = l.map triK ∧
    ∀ p ys, H p = none → TrL H ys l → Q (.ref p) (upd H p (.lst ys))) := by
  intro pins s σ H vs us Q I r h
  obtain ⟨a, ps, l, rfl, hd, ek, q⟩ := h
  obtain ⟨u, rfl, rx⟩ := vals1 r
  cases rx
  obtain ⟨sm, es, ep, raw, n, nz, all⟩ := dt_raw I hd
  refine PySem.W.kdl_call (K07W.keysSrc (ep := ep) sm) (I.ok.hd calm) raw nz fun h' tk acc c' kk hD ac => ?_
  have l1 : ps.length = l.length := by
    have z := congrArg List.length ek
    rwa [List.length_map, List.length_map] at z
  have l2 : acc.toList.length = l.length := by rw [Array.length_toList, ac.1, n, l1]
  obtain ⟨t1, t2⟩ := trl_of (H := H) (us := acc.toList) (l := l) l2 fun i u ei => by
    obtain ⟨li, rfl⟩ := ac.2 i u (by rw [← Array.getElem?_toList]; exact ei)
    have ip : i < ps.length := by omega
    obtain ⟨qa, k1, k2, _⟩ := all i ps[i].1 ps[i].2 li (List.getElem?_eq_getElem ip)
    have il : i < l.length := by omega
    have ekk : ps[i].1 = triK l[i] := by
      have z := congrArg (fun m => m[i]?) ek
      simp only [List.getElem?_map, List.getElem?_eq_getElem ip, List.getElem?_eq_getElem il, Option.map_some] at z
      exact Option.some.inj z
    rw [ekk] at k2
    exact ⟨l[i], qa, List.getElem?_eq_getElem il, k1, k2⟩
  exact ⟨.ref s.heap.objs.size, upd H s.heap.objs.size (.lst (acc.toList.map bkV)), I.laid (t' := tk) kk (Nat.le_refl _) ⟨by rw [List.length_map, l2, ← l1, ← n]; exact nz, acc.toList, c', bkV_vals t2, by rw [Array.toArray_toList]; exact hD⟩, rfl, q _ _ (I.hok.fresh (Nat.le_refl _)) t1⟩
/-- sorted(d), the keys triples -/
theorem cr_sortedT (calm : X.calm = true) : CallR X (.builtin "sorted") (fun vs H Q => ∃ (a : Addr) (ps : List (List L2.Key × V)) (l : List Tri), vs = [.ref a] ∧ H a = some (.dT ps) ∧ ps.map (·.1) = l.map triK ∧ l.length < 64 ∧ (∀ t ∈ l, TS.Bd 8 (triI t)) ∧
    ∀ p ys qs, H p = none → qs.Perm l → (qs.Pairwise fun t u => TS.code 8 (triI t) ≤ TS.code 8 (triI u)) → TrL H ys qs → Q (.ref p) (upd H p (.lst ys))) := by
  intro pins s σ H vs us Q I r h
  obtain ⟨a, ps, l, rfl, hd, ek, l64, bd, q⟩ := h
  obtain ⟨u, rfl, rx⟩ := vals1 r
  cases rx
  refine Calls.call_function_entry kind_sorted plain_sorted entry_sorted (args_sorted1 _) ?_
  unfold Builtin.«sorted»
  refine wpAny_bind (m := checkCount "sorted" 1 1 (_)) (wpAny_pure ?_)
  refine wpAny_bind (collect_keys (A := X.A.in1) I hd ek (I.ok.hd calm) fun h' tk us I1 kk tr rf lu => ?_)
  have l64' : us.length < 64 := by omega
  refine wpAny_bind (wpAny_newList ?_ (by rw [sizeLine_eq]; omega))
  have hoL : (h'.push (seqObj "list" us.toArray 0)).get? h'.objs.size = some (seqObj "list" us.toArray 0) := Heap.get?_push_size _ rfl
  have old : ∀ b o, h'.get? b = some o → o.cls = .type "tuple" → (h'.push (seqObj "list" us.toArray 0)).get? b = some o := fun b o e _ => Heap.get?_push_of_some _ e
  have ok : TS.TupsOk h' 3 8 us := fun v hv => by
    obtain ⟨c, rfl⟩ := rf v hv
    obtain ⟨i, hi⟩ := List.getElem?_of_mem hv
    obtain ⟨t, c2, e1, e2, e3⟩ := tr.tri (i := i) (x := V.ref c) (by rw [List.getElem?_map, hi]; rfl)
    obtain rfl := V.ref.inj e2
    have bt := bd t (List.mem_of_getElem? e1)
    exact ⟨triI t, tupI_raw (s := { s with heap := h', toks := tk }) I1 (.inl (.inl e3)), rfl, bt⟩
  show wpAny _ _ _ _ _ { s with heap := h'.push (seqObj "list" us.toArray 0), toks := tk }
  refine wpAny_bind (wpAny_holding (wpAny_call_entry slot_list_sort ⟨_, hoL, rfl⟩ entry_list_sort (TS.sort_tups (s := { s with heap := h'.push (seqObj "list" us.toArray 0), toks := tk }) hoL l64' (by decide) (ok.keeps old) (fun v => TS.code 8 (TS.intsOf h' v)) (fun v hv ns t => ?_) fun out a1 a2 => ⟨_, rfl, ?_⟩) (args_list_sort _)))
  · obtain ⟨ns0, t0, _⟩ := ok v hv
    have e : ns = ns0 := t.ints.symm.trans (t0.keeps old).ints
    show TS.code 8 (TS.intsOf h' v) = _
    rw [e, t0.ints]
  · obtain ⟨ep, he'⟩ := sortedHeap_at (vs := us) (out := out) hoL
    have h3 : ∀ u ∈ out.toList, ∃ a, u = Value.ref a := fun u hu => rf u (a1.mem_iff.mp hu)
    have hp : (us.map bkV).Perm (out.toList.map bkV) := (a1.map bkV).symm
    obtain ⟨qs, p1, t1⟩ := tr.perm hp
    have hlen : (out.toList.map bkV).length ≤ sizeLine := by
      rw [← hp.length_eq, List.length_map, sizeLine_eq]
      omega
    have free : H h'.objs.size = none := I1.hok.fresh (Nat.le_refl _)
    refine wpAny_pure ⟨_, rfl, .ref h'.objs.size, upd H h'.objs.size (.lst (out.toList.map bkV)), I1.laid (t' := tk) (fun b u e => ?_) (Nat.le_refl _) ⟨hlen, out.toList, ep, bkV_vals h3, by rw [Array.toArray_toList]; exact he'⟩, rfl, q _ _ qs free p1 (t1.pair (K := X.K) (g := TS.code 8) ?_) t1⟩
    · have hb : b < h'.objs.size := Heap.lt_size e
      rw [sortedHeap_old (Nat.ne_of_lt hb) (by rw [size_push']; exact Nat.lt_succ_of_lt hb)]
      exact Heap.get?_push_of_some _ e
    · rw [List.pairwise_map]
      refine List.Pairwise.imp (fun {u v} huv n m hn hm => ?_) a2
      obtain ⟨t, et, ht⟩ := hn
      obtain ⟨t', et', ht'⟩ := hm
      have i1 : TS.intsOf h' u = n := by
        rw [bkV_ref et]
        exact (tupI_raw I1 ht).ints
      have i2 : TS.intsOf h' v = m := by
        rw [bkV_ref et']
        exact (tupI_raw I1 ht').ints
      rw [← i1, ← i2]
      exact huv
end
end K07

/-! # the entries of a stair -/
namespace K07
open PySem PySem.Spec PyProof.Rows L2 TL NumText
/-- the truth of a value -/
def tTru (K : PySem.W.Frag) (ta : TE) : TT := fun σ H Q => ta σ H fun x H' => ∃ k, TruV K x H' k ∧ Q k H'
theorem pt_truthK {X : Cx} {K : PySem.W.Frag} {a : Expr} {ta : TE} (h : X.K = K) (ha : PE X a ta) (he : ∀ whole, isTrue a X.env whole = (do let v ← whole; standAt a.pos; holding [v] (truthy v))) :
    PT X a (tTru K ta) := by
  rw [← h]
  exact pt_truth ha he
/-- the places, block by block and row by row -/
def srtP (ns : List Int) : List Tri := ((List.range 3).flatMap fun (b : Nat) => (List.range 6).flatMap fun (i : Nat) => (List.range 6).map fun (j : Nat) => (((b : Nat) : Int), ((i : Nat) : Int), ((j : Nat) : Int))).filter fun t => decide (t ∈ pl ns)
theorem tables6 : ∀ ns ∈ shapesL, (srtP ns).Perm (pl ns) ∧ (srtP ns).Pairwise (fun p q => TS.code 8 (triI p) ≤ TS.code 8 (triI q)) ∧ (∀ p ∈ pl ns, ∀ q ∈ pl ns, TS.code 8 (triI p) = TS.code 8 (triI q) → p = q) ∧ (∀ p ∈ pl ns, ∀ m ∈ triI p, 0 ≤ m ∧ m < 8) := by decide +kernel
theorem srt_uniq {ns : List Int} (S : Shp ns) {l qs : List Tri} (hl : l.Perm (pl ns)) (p : qs.Perm l) (w : qs.Pairwise fun t u => TS.code 8 (triI t) ≤ TS.code 8 (triI u)) : qs = srtP ns := by
  obtain ⟨h1, h2, h3, _⟩ := tables6 ns (shp_mem S)
  have pq := p.trans hl
  exact uniq (fun t => TS.code 8 (triI t)) (pq.trans h1.symm) w h2 fun x hx y hy e => h3 x (pq.mem_iff.mp hx) y (pq.mem_iff.mp hy) e
theorem pl_bd {ns : List Int} (S : Shp ns) {t : Tri} (h : t ∈ pl ns) : TS.Bd 8 (triI t) := fun m hm => (tables6 ns (shp_mem S)).2.2.2 t h m hm
/-- those whose number is not 0 -/
def nz (num : Tri → Int) (l : List Tri) : List Tri := l.filter fun t => decide (num t ≠ 0)
theorem srt_nodup {ns : List Int} (S : Shp ns) : (srtP ns).Nodup := (tables6 ns (shp_mem S)).1.nodup_iff.mpr (tables3 ns (shp_mem S)).1
theorem srt_mem {ns : List Int} (S : Shp ns) {t : Tri} : t ∈ srtP ns ↔ t ∈ pl ns := (tables6 ns (shp_mem S)).1.mem_iff
theorem not_take {l : List Tri} (n : l.Nodup) {i : Nat} {t : Tri} (e : l[i]? = some t) : t ∉ l.take i := fun m => by
  obtain ⟨li, et⟩ := List.getElem?_eq_some_iff.mp e
  have z := List.take_append_drop i l
  rw [List.drop_eq_getElem_cons li, et] at z
  rw [← z, List.nodup_append] at n
  exact n.2.2 t m t (List.mem_cons_self ..) rfl
theorem nz_succ {num : Tri → Int} {l : List Tri} {i : Nat} {t : Tri} (e : l[i]? = some t) : nz num (l.take (i + 1)) = nz num (l.take i) ++ (if num t = 0 then [] else [t]) := by
  unfold nz
  rw [List.take_succ, e, List.filter_append]
  by_cases z : num t = 0
  · rw [if_pos z, show (some t).toList = [t] from rfl, List.filter_cons_of_neg (by simpa using z)]
    rfl
  · rw [if_neg z, show (some t).toList = [t] from rfl, List.filter_cons_of_pos (by simpa using z)]
    rfl
theorem dictO_snoc {l : List Tri} {num : Tri → Int} {t : Tri} (h : t ∉ l) : putK (dictO l num) (triK t) (.int (num t)) = dictO (l ++ [t]) num := by
  rw [putK_new _ (by rw [valV_dictO, if_neg h])]
  unfold dictO
  rw [List.map_append]
  rfl
section
variable {P : Program} {w : World} {K : PySem.W.Frag} {mg : Str → Option Value} {base : Heap} {C CS TL : Addr}
abbrev s_entr : Stmt := inClass (topS 32) 6
theorem sc_entr : FnScope ["self", "found", "place"] ["self"] (defScope s_entr) := ⟨rfl, rfl, rfl, by decide +kernel, rfl, by decide +kernel, by decide +kernel⟩
def spEntr (K : PySem.W.Frag) (C : Addr) : Sp := fun vs H Q _ => ∃ a ns num, vs = [.ref a] ∧ StairO K H a C ns (numsL num ns) ∧ Shp ns ∧ ∀ H' D, Same H H' → H D = none → H' D = some (.dT (dictO (nz num (srtP ns)) num)) → Q (.ref D) H'
theorem ok_entr {f f1 : Addr} {fd fd1 : FuncData} (T : Txt mg) (N : Nam mg) (nz' : mg "zip" = none) (R : SC K mg C) (d : M K "entries" "Stair.entries" s_entr ["self"] f fd)
    (d1 : D K mg "places" s_places ["shape"] f1 fd1) (G1 : FnOk P w K mg base (L2.CX P w) 5 f1 fd1 ["shape"] (spPlaces K CS)) :
    FnOk P w K mg base CX0 6 f fd ["self"] (spEntr K C) := by
  refine d.F.ok sc_entr (fun vs H Q E h => ?_) (fun cdv A outer s H vs Q E hr h => ?_)
  · obtain ⟨a, ns, num, rfl, _⟩ := h
    rfl
  · obtain ⟨a, ns, num, rfl, ⟨dx, sh, pln, nm, e1, e2, e3, e4⟩, S, q⟩ := h
    have un2 : (A.deeper (envOfC "Stair.entries" (defScope s_entr) s.heap.objs.size f cdv)).units + 2 < cLine := by have := hr.un; omega
    have un : (A.deeper (envOfC "Stair.entries" (defScope s_entr) s.heap.objs.size f cdv)).units + 1 < cLine := by have := hr.un; omega
    have nz := nz'
    refine ⟨_, (pss_cons (ps_set (i := 1) sc_entr.nd rfl (.inr rfl) (pe_dictZip rfl un2 (by rfl) N.n_dict (by rfl) nz (pa_cons (pe_call (E := fun _ _ _ => False) G1 (hr.mono (by decide)) (by rfl) d1.g d1.F.kp d1.b .nil passF (pa_cons (pe_fld (pv 0) rfl) pa_nil)) (pa_cons (pe_fld (pv 0) rfl) pa_nil))))
      (pss_one (ps_ret (pe_dcT (own := [("place", 2)]) (g := gName 2) rfl un sc_entr.nd (pi_list (pe_callB (cr_sortedT rfl) (by rfl) N.n_sorted (by decide +kernel) (pa_cons (pv 1) pa_nil))) (blkOk_by (own := [("place", 2)]) (N := ["self", "found", "place"]) (sc := defScope s_entr) (by decide +kernel))
            (fun _ _ _ _ _ => (pg_name (i := 2) sc_entr.nd rfl (Or.inl rfl))) (fun _ _ _ _ _ => (pts_one (pt_truthK (K := K) rfl (pe_dget un (pv 1) (pv 2) (fun _ _ => rfl)) (fun _ => rfl)))) (fun _ _ _ _ _ => (pv 2)) (fun _ _ _ _ _ => (pe_dget un (pv 1) (pv 2) (fun _ _ => rfl))))))), ?_⟩
    refine ⟨_, rfl, a, C, dx, _, _, rfl, e1, R.cl, R.nS, stF_shape _ _ _, _, .tuple (ns.map .int), rfl, .tv (.tup e2 (tvl_ints ns)), fun ns' en S' H1 y s1 ty => ?_, fun z => absurd (shp_is S) (by rw [z]; decide)⟩
    obtain rfl : ns' = ns := (ints_inj (PyData.tuple.inj en)).symm
    obtain ⟨o, xs, rfl, eo, tl⟩ := ty
    have M := tables3 ns' (shp_mem S)
    have lx : xs.length = (pl ns').length := tl.len
    refine ⟨_, rfl, a, C, dx, _, _, rfl, s1 _ _ e1, R.cl, R.nN, stF_numbers _ _ _, ?_⟩
    refine ⟨o, nm, _, xs, _, rfl, sqt_new eo, trl_keys tl, sqt_new (s1 _ _ e3), by rw [lx, List.length_map, List.length_map], fun D nD => ?_⟩
    rw [zip_dictO, put_dictO M.1]
    have s2 := s1.trans (sub_same (o := .dT (dictO (pl ns') num)) nD)
    have eD : upd H1 D (.dT (dictO (pl ns') num)) D = some (.dT (dictO (pl ns') num)) := upd_same
    revert s2 eD
    generalize upd H1 D (.dT (dictO (pl ns') num)) = H2
    intro s2 eD
    refine ⟨_, rfl, D, _, pl ns', rfl, eD, dictO_keys _ _, by omega, fun t m => pl_bd S' m, fun p ys qs np pm pw tr => ?_⟩
    obtain rfl := srt_uniq S' (List.Perm.refl _) pm pw
    have s3 := s2.trans (sub_same (o := .lst ys) np)
    have ep : upd H2 p (.lst ys) p = some (.lst ys) := upd_same
    have tr3 := tr.same (sub_same (o := .lst ys) np)
    have eD3 := sub_same (o := .lst ys) np _ _ eD
    revert s3 ep tr3 eD3
    generalize upd H2 p (.lst ys) = H3
    intro s3 ep tr3 eD3
    refine ⟨p, rfl, ⟨_, .inl (.inl ep)⟩, fun F nF => ?_⟩
    refine dcT_it (walk_list (K := K) (a := p) (xs := ys)) (fun i Z => Same H3 Z ∧ Z F = some (.dT (dictO (K07.nz num ((srtP ns').take i)) num))) ⟨sub_same nF, upd_same⟩ (fun i Z _ h => .inl (.inl (h.1 _ _ ep))) ?_ ?_
    · rintro i x Z Z' hi ⟨sm, hf⟩ ⟨rfl, ex⟩
      obtain ⟨t, c, et, rfl, ec⟩ := tr3.tri ex
      have mp : t ∈ pl ns' := (srt_mem S').mp (List.mem_of_getElem? et)
      have hv : valV (dictO (pl ns') num) (triK t) = some (.int (num t)) := hold_dictO num t mp
      have dg : ∀ {Y : Hp}, Same H3 Y → DGet Y D (.ref c) (some (.int (num t))) := fun {Y} sy => by
        rw [← hv]
        exact DGet.t (sy _ _ eD3) (sy _ _ ec)
      refine ⟨rfl, _, rfl, _, rfl, D, _, rfl, dg sm, _, rfl, ?_⟩
      rw [nz_succ et]
      by_cases n0 : num t = 0
      · rw [if_pos n0, List.append_nil]
        refine ite2 (fun z => absurd z (by rw [n0]; decide)) (fun _ => ⟨sm, hf⟩)
      · rw [if_neg n0]
        refine ite2 (fun _ => ?_) (fun z => absurd (by simpa using n0) z)
        have li : i < (srtP ns').length := (List.getElem?_eq_some_iff.mp et).1
        have ls : (srtP ns').length = (pl ns').length := (tables6 ns' (shp_mem S')).1.length_eq
        refine ⟨_, rfl, _, rfl, _, rfl, D, _, rfl, dg sm, _, triK t, c, rfl, sm _ _ ec, hf, ?_, fun b ob eb => ?_, ?_⟩
        · unfold dictO K07.nz
          rw [List.length_map, sizeLine_eq]
          have := List.length_filter_le (fun t => decide (num t ≠ 0)) ((srtP ns').take i)
          rw [List.length_take] at this
          omega
        · rw [upd_ne (fun z => by rw [z, nF] at eb; cases eb)]
          exact sm _ _ eb
        · rw [upd_same, dictO_snoc]
          exact fun m => not_take (srt_nodup S') et (List.mem_filter.mp m).1
    · rintro Z ⟨sm, hf⟩
      rw [tr3.len, List.take_length] at hf
      exact q Z F (s3.trans sm) (s3.free nF) hf
end
end K07

/-! # a block of a stair -/
namespace K07
open PySem PySem.Spec PyProof.Rows L2 TL NumText RZ
theorem tables7 : ∀ ns ∈ shapesL, ((List.range 3).all fun b => !decide (b < ns.length) || decide ((pl ns).filter (fun t => decide (t.1 = ((b : Nat) : Int))) = (pl [ns.getD b 0]).map fun t => (((b : Nat) : Int), t.2.1, t.2.2))) = true := by decide +kernel
theorem pl_block {ns : List Int} (S : Shp ns) {b : Nat} (hb : b < ns.length) : (pl ns).filter (fun t => decide (t.1 = ((b : Nat) : Int))) = (pl [ns.getD b 0]).map fun t => (((b : Nat) : Int), t.2.1, t.2.2) := by
  have y := List.all_eq_true.mp (tables7 ns (shp_mem S)) b (List.mem_range.mpr (by have := S.1.2; omega))
  rw [decide_eq_true hb, Bool.not_true, Bool.false_or] at y
  exact of_decide_eq_true y
theorem shp_one {ns : List Int} (S : Shp ns) {b : Nat} (hb : b < ns.length) : Shp [ns.getD b 0] := by
  have e : ns.getD b 0 = ns[b] := by rw [List.getD_eq_getElem?_getD, List.getElem?_eq_getElem hb]; rfl
  have z := S.2.1 _ (List.getElem_mem hb)
  rw [e]
  refine ⟨⟨Nat.le_refl 1, (by show 1 ≤ 3; decide)⟩, fun n m => by rw [List.mem_singleton.mp m]; exact z, ?_⟩
  rw [List.sum_cons, List.sum_nil]
  omega
section
variable {P : Program} {w : World} {K : PySem.W.Frag} {mg : Str → Option Value} {base : Heap} {C CS TL : Addr}
abbrev s_block : Stmt := inClass (topS 32) 15
theorem sc_block : FnScope ["self", "index", "numbers", "shape", "place", "number"] ["self", "index"] (defScope s_block) := ⟨rfl, rfl, rfl, by decide +kernel, rfl, by decide +kernel, by decide +kernel⟩
/-- the numbers of one block -/
def inB (num : Tri → Int) (b : Nat) : Tri → Int := fun t => num (((b : Nat) : Int), t.2.1, t.2.2)
def spBlock (K : PySem.W.Frag) (C : Addr) : Sp := fun vs H Q _ => ∃ a ns num b, vs = [.ref a, .int ((b : Nat) : Int)] ∧ StairO K H a C ns (numsL num ns) ∧ Shp ns ∧ b < ns.length ∧ ∀ H' c, Same H H' → StairO K H' c C [ns.getD b 0] (numsL (inB num b) [ns.getD b 0]) → Q (.ref c) H'
theorem ok_block {f f1 f2 f3 f4 : Addr} {fd fd1 fd2 fd3 fd4 : FuncData} (T : Txt mg) (N : Nam mg) (nz : mg "zip" = none) (R : SC K mg C) (d : M K "block" "Stair.block" s_block ["self", "index"] f fd)
    (d1 : D K mg "is_index" s_is_index ["value", "many"] f1 fd1) (G1 : FnOk P w K mg base CX0 3 f1 fd1 ["value", "many"] (spIdx K)) (d2 : D K mg "places" s_places ["shape"] f2 fd2) (G2 : FnOk P w K mg base (L2.CX P w) 5 f2 fd2 ["shape"] (spPlaces K CS))
    (d3 : D K mg "plan_of" s_plan ["shape"] f3 fd3) (G3 : FnOk P w K mg base (L2.CX P w) 6 f3 fd3 ["shape"] (spPlan K)) (d4 : D K mg "stair_with" s_with ["shape", "plan", "numbers"] f4 fd4) (G4 : FnOk P w K mg base CX0 9 f4 fd4 ["shape", "plan", "numbers"] (spWith K C)) :
    FnOk P w K mg base CX0 10 f fd ["self", "index"] (spBlock K C) := by
  refine d.F.ok sc_block (fun vs H Q E h => ?_) (fun cdv A outer s H vs Q E hr h => ?_)
  · obtain ⟨a, ns, num, b, rfl, _⟩ := h
    rfl
  · obtain ⟨a, ns, num, b, rfl, ⟨dx, sh, pln, nm, e1, e2, e3, e4⟩, S, hb, q⟩ := h
    refine ⟨_, (pss_cons (ps_if (pt_not (pt_val (pe_call G1 (hr.mono (by decide)) (by rfl) d1.g d1.F.kp d1.b .nil pass0 (pa_cons (pv 1) (pa_cons (pe_callB call_len_seq (by rfl) T.n_len PySem.boot_len (pa_cons (pe_fld (pv 0) rfl) pa_nil)) pa_nil))))) dead pss_nil)
      (pss_cons (ps_setLc (i := 2) (own := [("place", 4), ("number", 5)]) (g := gTup K 2 (gCons (gName 4) (gCons (gName 5) gNil))) rfl sc_block.nd rfl rfl rfl (pi_zipA (by rfl) nz (pa_cons (pe_call (E := fun _ _ _ => False) G2 (hr.mono (by decide)) (by rfl) d2.g d2.F.kp d2.b .nil passF (pa_cons (pe_fld (pv 0) rfl) pa_nil)) (pa_cons (pe_fld (pv 0) rfl) pa_nil))) (blkOk_by (own := [("place", 4), ("number", 5)]) (N := ["self", "index", "numbers", "shape", "place", "number"]) (sc := defScope s_block) (by decide +kernel))
            (fun _ _ _ _ _ => (pg_tup rfl (pgs_cons (pg_name (i := 4) sc_block.nd rfl (Or.inl rfl)) (pgs_cons (pg_name (i := 5) sc_block.nd rfl (Or.inl rfl)) pgs_nil)))) (fun _ _ _ _ _ => (pts_one (pt_cmpR op_eq (pe_ix (ix_tupK (K := K) rfl) (pv 4) pe_int (fun _ _ => rfl)) (pv 1) (nomark _)))) (fun _ _ _ _ _ => (pv 5)))
      (pss_cons (ps_set (i := 3) sc_block.nd rfl (.inl rfl) (pe_tup (pa_cons (pe_ix ix_tup (pe_fld (pv 0) rfl) (pv 1) (fun _ _ => rfl)) pa_nil)))
      (pss_one (ps_ret (pe_call G4 hr (by rfl) d4.g d4.F.kp d4.b .nil pass0 (pa_cons (pv 3) (pa_cons (pe_call (E := fun _ _ _ => False) G3 (hr.mono (by decide)) (by rfl) d3.g d3.F.kp d3.b .nil passF (pa_cons (pv 3) pa_nil)) (pa_cons (pe_tupleOf (by rfl) T.n_tuple (pv 2)) pa_nil))))))))), ?_⟩
    have gd : ns.getD b 0 = ns[b] := by rw [List.getD_eq_getElem?_getD, List.getElem?_eq_getElem hb]; rfl
    have idx : btw (.int ((b : Nat) : Int)) 0 (((ns.map V.int).length : Nat) - 1) = true := by
      show (decide (0 ≤ ((b : Nat) : Int)) && decide (((b : Nat) : Int) ≤ _)) = true
      rw [decide_eq_true (by omega), decide_eq_true (by rw [List.length_map]; omega)]
      rfl
    refine ⟨_, rfl, _, rfl, a, C, dx, _, _, rfl, e1, R.cl, R.nS, stF_shape _ _ _, sh, _, rfl, .inr e2, _, .int ((b : Nat) : Int), _, rfl, .tv (.int _), true, by rw [idx], ite2 (fun z => absurd z Bool.false_ne_true) (fun _ => ?_)⟩
    refine ⟨_, rfl, a, C, dx, _, _, rfl, e1, R.cl, R.nS, stF_shape _ _ _, _, .tuple (ns.map .int), rfl, .tv (.tup e2 (tvl_ints ns)), fun ns' en S' H1 y s1 ty => ?_, fun z => absurd (shp_is S) (by rw [z]; decide)⟩
    obtain rfl : ns' = ns := (ints_inj (PyData.tuple.inj en)).symm
    obtain ⟨o, xs, rfl, eo, tl⟩ := ty
    have M := tables3 ns' (shp_mem S)
    have lx : xs.length = (pl ns').length := tl.len
    have lxn : xs.length = ((numsL num ns').map V.int).length := by rw [lx, List.length_map, List.length_map]
    refine ⟨_, rfl, a, C, dx, _, _, rfl, s1 _ _ e1, R.cl, R.nN, stF_numbers _ _ _, o, nm, xs, _, rfl, .inr ⟨sqt_new eo, sqt_new (s1 _ _ e3), fun L nL => ?_⟩⟩
    refine lc_it (walk_zipT (K := K) (a := o) (b := nm) lxn) (fun i Z => Same H1 Z ∧ Z L = some (.lst (((((pl ns').take i).filter fun t => decide (t.1 = ((b : Nat) : Int))).map num).map V.int))) ⟨sub_same nL, upd_same⟩ (fun i Z _ h => ⟨sqt_same (sqt_new eo) h.1, sqt_same (sqt_new (s1 _ _ e3)) h.1⟩) ?_ ?_
    · rintro i v Z Z' hi ⟨sm, hl⟩ ⟨Tp, x0, y0, rfl, nT, rfl, ex, ey⟩
      obtain ⟨t, c, et, rfl, ec⟩ := tl.tri ex
      obtain ⟨m, em, rfl⟩ := int_at ey
      rw [List.getElem?_map, et] at em
      obtain rfl := Option.some.inj em
      have s2 := sub_same (o := .tup [V.ref c, V.int (num t)]) nT
      have hl2 := s2 _ _ hl
      have ec2 := s2 _ _ (sm _ _ ec)
      have sm2 := sm.trans s2
      have hT : upd Z Tp (.tup [V.ref c, V.int (num t)]) Tp = some (.tup [V.ref c, V.int (num t)]) := upd_same
      revert hl2 ec2 sm2 hT
      generalize upd Z Tp (.tup [V.ref c, V.int (num t)]) = Z2
      intro hl2 ec2 sm2 hT
      have fs : ((pl ns').take (i + 1)).filter (fun t => decide (t.1 = ((b : Nat) : Int))) = ((pl ns').take i).filter (fun t => decide (t.1 = ((b : Nat) : Int))) ++ (if t.1 = ((b : Nat) : Int) then [t] else []) := by
        rw [List.take_succ, et, List.filter_append]
        by_cases z : t.1 = ((b : Nat) : Int)
        · rw [if_pos z, show (some t).toList = [t] from rfl, List.filter_cons_of_pos (by simpa using z)]
          rfl
        · rw [if_neg z, show (some t).toList = [t] from rfl, List.filter_cons_of_neg (by simpa using z)]
          rfl
      refine ⟨Tp, _, rfl, .inl (.inl hT), rfl, _, _, rfl, _, _, rfl, rfl, rfl, ?_⟩
      refine ⟨_, rfl, c, _, 0, .int t.1, rfl, rfl, .inl (.inl ec2), atI_nat (j := 0) rfl, _, rfl, rfl, _, rfl, ?_⟩
      rw [fs]
      by_cases z : t.1 = ((b : Nat) : Int)
      · rw [if_pos z]
        refine ite2 (fun _ => ?_) (fun y => absurd (decide_eq_true (by rw [z])) y)
        refine ⟨_, rfl, _, hl2, ?_, fun k ob e => ?_, ?_⟩
        · rw [List.length_map, List.length_map, sizeLine_eq]
          have := List.length_filter_le (fun t : Tri => decide (t.1 = ((b : Nat) : Int))) ((pl ns').take i)
          rw [List.length_take] at this
          omega
        · rw [upd_ne (fun z => by rw [z, nL] at e; cases e)]
          exact sm2 _ _ e
        · rw [upd_same, List.map_append, List.map_append]
          rfl
      · rw [if_neg z, List.append_nil]
        exact ite2 (fun y => absurd (V.int.inj (of_decide_eq_true y)) z) (fun _ => ⟨sm2, hl2⟩)
    · rintro Z ⟨sm, hl⟩
      have e9 : ((pl [ns'.getD b 0]).map fun t => (((b : Nat) : Int), t.2.1, t.2.2)).map num = numsL (inB num b) [ns'.getD b 0] := by
        rw [List.map_map]
        rfl
      rw [lx, List.take_length, pl_block S hb, e9] at hl
      have sZ := s1.trans sm
      have aI : (ns'.map V.int)[b]? = some (V.int (ns'.getD b 0)) := by rw [List.getElem?_map, List.getElem?_eq_getElem hb, gd]; rfl
      refine ⟨_, rfl, a, C, dx, _, _, rfl, sZ _ _ e1, R.cl, R.nS, stF_shape _ _ _, _, rfl, sh, _, b, _, rfl, rfl, sqt_same e2 sZ, atI_nat aI, (by show 1 ≤ sizeLine; decide), fun p np => ?_⟩
      have s3 := sZ.trans (sub_same (o := .tup [V.int (ns'.getD b 0)]) np)
      have ep : upd Z p (.tup [V.int (ns'.getD b 0)]) p = some (.tup [V.int (ns'.getD b 0)]) := upd_same
      have hl3 := sub_same (o := .tup [V.int (ns'.getD b 0)]) np _ _ hl
      revert s3 ep hl3
      generalize upd Z p (.tup [V.int (ns'.getD b 0)]) = Z3
      intro s3 ep hl3
      have S1 := shp_one S hb
      refine ⟨_, rfl, _, rfl, p, [ns'.getD b 0], rfl, sqt_new ep, S1, fun H4 pn s4 tp4 => ?_⟩
      refine ⟨_, rfl, .inl ⟨L, _, rfl, .inl (.inl (s4 _ _ hl3)), fun r nr => ?_⟩⟩
      have s5 := sub_same (o := .tup ((numsL (inB num b) [ns'.getD b 0]).map V.int)) nr
      refine ⟨p, r, pn, [ns'.getD b 0], _, rfl, sqt_new (s5 _ _ (s4 _ _ ep)), tp4.same s5, upd_same, fun H6 c s6 _ st => ?_⟩
      exact q H6 c (((s3.trans s4).trans s5).trans s6) st
end
end K07

/-! # stairs of tables -/
namespace K07
open PySem PySem.Spec PyProof.Rows L2 TL NumText
/-! ### a def of one parameter and a row of further ones -/
theorem env0_laid {P : Program} {w : World} {K : PySem.W.Frag} {mg : Str → Option Value} {base : Heap} {A : Around} {outer : List Env} {s : Shared} {H : Hp} {o : HO} {ob : Obj} (e : Env0 P w K mg base A outer s H)
    (new : ObjOk P w (upd H s.heap.objs.size o) (s.heap.push ob) s.heap.objs.size o) : Env0 P w K mg base A outer { s with heap := s.heap.push ob } (upd H s.heap.objs.size o) := by
  have kk : ∀ b u, s.heap.get? b = some u → (s.heap.push ob).get? b = some u := fun b u q => Heap.get?_push_of_some _ q
  refine ⟨e.frames, e.mod, fun b u q => ?_, ?_, e.funs.of_keeps fun b u q _ => ⟨u, kk b u q, rfl⟩, fun b m => ?_, e.hok.laid kk (Nat.le_refl _) new, e.bare⟩
  · obtain ⟨h1, h2⟩ := e.bs b u q
    exact ⟨kk b u h1, (upd_ne (Nat.ne_of_lt (Heap.lt_size h1))).trans h2⟩
  · show base.objs.size ≤ (s.heap.push ob).objs.size
    rw [Heap.size_push]
    exact Nat.le_succ_of_le e.bsz
  · obtain ⟨_, u, h1, _⟩ := e.funs.mem m
    exact (upd_ne (Nat.ne_of_lt (Heap.lt_size h1))).trans (e.frf b m)
theorem fn_star {P : Program} {w : World} {K : PySem.W.Frag} {mg : Str → Option Value} {base : Heap} {k : Nat} {x qual a v : Str} {st : Stmt} {f : Addr} {fd : FuncData} {N : List Str} {sp : Sp} (F : Fun K x qual st f fd) (S : FnScope N [a, v] (defScope st))
    (hb : ∀ (u : Value) (us : List Value), us.length ≤ 3 → bindArgs fd ⟨u :: us, []⟩ = (newTuple us >>= fun t => pure [(a, u), (v, t)])) (len : ∀ vs H Q E, sp vs H Q E → vs.length = 2)
    (hbody : ∀ (cdv : Value) (A : Around) (outer : List Env) (s : Shared) (H : Hp) (vs : List V) (Q : VK) (E : XK), Room k (A.deeper (envOfC qual (defScope st) s.heap.objs.size f cdv)) → sp vs H Q E →
      ∃ t, PSs (cxOf CX0 P w K mg base N qual (defScope st) f cdv A outer s H E).nox (defBody st) t ∧ t { nx := fun _ H' => Q .non H', rt := Q } (L2.start N vs) H) :
    FnR P w K mg base CX0 (k + 1) f (fun vs H Q E => ∃ (y : V) (rest : List V), vs = y :: rest ∧ rest.length ≤ 3 ∧ ∀ T, H T = none → sp [y, .ref T] (upd H T (.tup rest)) Q E) := by
  obtain ⟨oc, od, kV, doc, pm, an, cdv, ct, osl, rfl, lk, hcd⟩ := F.ex
  rintro A outer s H us vs Q E hr e0 r ⟨y, rest, rfl, l3, hsp⟩
  cases r with
  | cons r1 rr =>
    rename_i u urest
    have KX : K.In s.heap := e0.mod.kin.keeps fun b o e => (e0.bs b o e).1
    have lr : urest.length ≤ 3 := by rw [← rr.length]; exact l3
    refine codeAny_call_function hr.depth (KX _ _ lk) rfl S.co S.gen rfl (PySem.W.codeRec_of KX hcd) ?_
    rw [hb u urest lr]
    refine wpAny_bind (wpAny_newTuple ?_ (Nat.le_trans lr (by decide)))
    refine wpAny_pure ?_
    have new : ObjOk P w (upd H s.heap.objs.size (.tup rest)) (s.heap.push { cls := .type "tuple", data := .seq urest.toArray }) s.heap.objs.size (.tup rest) := ⟨Nat.le_trans l3 (by decide), _, rr, IsTup.new _ _⟩
    have e1 := env0_laid e0 new
    have free : H s.heap.objs.size = none := e0.hok.fresh (Nat.le_refl _)
    have un0 : Un (frs outer) [] H (upd H s.heap.objs.size (.tup rest)) s.heap (s.heap.push { cls := .type "tuple", data := .seq urest.toArray }) := Un.laid (fun b u q => Heap.get?_push_of_some _ q) (Nat.le_refl _) free
    have sp1 := hsp _ free
    have os1 : s.os = ({ s with heap := s.heap.push { cls := .type "tuple", data := .seq urest.toArray } } : Shared).os := rfl
    have r2 : Vals [y, V.ref s.heap.objs.size] [u, Value.ref s.heap.objs.size] := .cons r1 (.cons rfl .nil)
    have hl := len _ _ _ _ sp1
    revert e1 un0 sp1
    have os1 : s.os = ({ s with heap := s.heap.push { cls := .type "tuple", data := .seq urest.toArray } } : Shared).os := rfl
    have hp1 : s.heap.push { cls := .type "tuple", data := .seq urest.toArray } = ({ s with heap := s.heap.push { cls := .type "tuple", data := .seq urest.toArray } } : Shared).heap := rfl
    rw [hp1]
    revert os1
    generalize ({ s with heap := s.heap.push { cls := .type "tuple", data := .seq urest.toArray } } : Shared) = s1
    intro os1 e1 un0 sp1
    revert e1 un0 sp1
    generalize upd H s.heap.objs.size (.tup rest) = H1
    intro e1 un0 sp1
    have lim : s1.heap.NoLimit := e1.mod.nolimit.keeps fun b o e => (e1.bs b o e).1
    have hz : [a, v].zip [u, Value.ref s.heap.objs.size] = [(a, u), (v, Value.ref s.heap.objs.size)] := rfl
    have hkind : ∀ z ∈ [(a, u), (v, Value.ref s.heap.objs.size)], (defScope st).names.lookup z.1 = some .local ∨ ((defScope st).names.lookup z.1 = some .cell ∧ ((cellsFrom (s1.heap.objs.size + 1) (defScope st).names []).lookup z.1).isSome = true) := fun ⟨n, z⟩ hz' => by
      rcases S.par n (List.of_mem_zip (hz ▸ hz')).1 with q | q
      · exact .inl q
      · exact .inr ⟨q, PySem.W.cellsFrom_some _ _ _ (.inl q)⟩
    refine wpAny_newFunctionEnv_cells S.kind hkind fun env he s2 x => ?_
    subst he
    refine ⟨lim.keeps x.toInCall.keep, codeAny_func ?_⟩
    obtain ⟨t, ht, hq⟩ := hbody cdv A outer s1 H1 [y, V.ref s.heap.objs.size] Q E (hr.deeper _) sp1
    have I := inv_start (CX := CX0) (qual := qual) (f := f) (cd := cdv) (E := E) S hr.hd e1 hl r2 x
    refine wpAny_mono (ht.nox.run [] s2 _ H1 _ I hq) (fun fl s' hs => ?_) fun e s' hs => hs
    have fin : ∀ {σ' : L2.St} {H' : Hp} {z : V} {b : Value}, Inv (cxOf CX0 P w K mg base N qual (defScope st) f cdv A outer s1 H1 E) [] σ' H' s' → RelV z b → Q z H' → CE outer P w H s Q b s' :=
      fun {σ' H' z b} J rv q => ⟨z, H', J.os.trans os1.symm, J.bare, un0.trans J.base, J.hok, rv, q⟩
    cases fl with
    | ret b =>
      obtain ⟨z, σ', H', J, rv, q⟩ := hs
      exact fin J rv q
    | next =>
      obtain ⟨σ', H', J, q⟩ := hs
      exact fin (z := V.non) (b := Value.none) J rfl q
    | brk =>
      obtain ⟨_, _, _, q⟩ := hs
      exact False.elim q
    | cont =>
      obtain ⟨_, _, _, q⟩ := hs
      exact False.elim q
/-! ### dicts that are entries -/
/-- numbers of sixty digits -/
def Sm (i : Int) : Prop := -(10 ^ 60) < i ∧ i < 10 ^ 60
def SmN (num : Tri → Int) (ns : List Int) : Prop := ∀ t ∈ pl ns, Sm (num t)
theorem ent_dictO {ns : List Int} (S : Shp ns) {l : List Tri} {num : Tri → Int} (hl : ∀ t ∈ l, t ∈ pl ns) (hn : l.length ≤ 100) (sm : SmN num ns) : Ent ns (dictO l num) := by
  refine ⟨by unfold dictO; rw [List.length_map]; exact hn, fun p hp => ?_⟩
  unfold dictO at hp
  obtain ⟨t, ht, rfl⟩ := List.mem_map.mp hp
  exact ⟨t, hl t ht, rfl, num t, rfl, sm t (hl t ht)⟩
theorem numAt_dictO {l : List Tri} {num : Tri → Int} {t : Tri} : numAt (dictO l num) t = if t ∈ l then num t else 0 := by
  unfold numAt
  rw [valV_dictO]
  by_cases m : t ∈ l
  · rw [if_pos m, if_pos m]
  · rw [if_neg m, if_neg m]
theorem nums_dictO {ns : List Int} {l : List Tri} {num : Tri → Int} (h : ∀ t ∈ pl ns, t ∉ l → num t = 0) : (pl ns).map (numAt (dictO l num)) = numsL num ns := by
  refine List.map_congr_left fun t m => ?_
  rw [numAt_dictO]
  by_cases z : t ∈ l
  · rw [if_pos z]
  · rw [if_neg z, h t m z]
/-- the rows of a table -/
def rowsT (num : Tri → Int) (b : Int) (s : Nat) : List (List Int) := (List.range s).map fun (i : Nat) => rowT num b (i : Int) s
theorem tabD_rows (num : Tri → Int) (b : Int) (s : Nat) : tabD num b s = rowsD (rowsT num b s) := by
  unfold tabD rowsD rowsT
  rw [List.map_map]
  rfl
theorem rows_ok {num : Tri → Int} {b : Int} {s : Nat} (h : ∀ i j : Nat, i < j → j < s → Sm (num (b, (i : Int), (j : Int)))) : SqOk (rowsT num b s) := by
  have ls : (rowsT num b s).length = s := by
    unfold rowsT
    rw [List.length_map, List.length_range]
  intro i r e
  have il : i < s := by
    rw [← ls]
    exact (List.getElem?_eq_some_iff.mp e).1
  unfold rowsT at e
  rw [List.getElem?_map, List.getElem?_range il] at e
  obtain rfl := Option.some.inj e
  rw [ls]
  have gt : ∀ j : Nat, j < s → (rowT num b (i : Int) s)[j]? = some (tabE num b i j) := fun j hj => by
    unfold rowT
    rw [List.getElem?_map, List.getElem?_range hj]
    rfl
  refine ⟨rowT_len .., il, fun x hx => ?_, ?_, fun x hx => ?_⟩
  · unfold rowT at hx
    obtain ⟨j, hj, rfl⟩ := List.mem_map.mp hx
    rw [List.mem_range] at hj
    unfold tabE
    by_cases lt : (i : Int) < (j : Int)
    · rw [if_pos lt]
      exact h i j (by omega) hj
    · rw [if_neg lt]
      split <;> exact ⟨by decide, by decide⟩
  · rw [gt i il]
    unfold tabE
    rw [if_neg (by omega), if_pos rfl]
  · obtain ⟨j, hj⟩ := List.getElem?_of_mem hx
    rw [List.getElem?_take] at hj
    by_cases ji : j < i
    · rw [if_pos ji, gt j (by omega)] at hj
      rw [← Option.some.inj hj]
      unfold tabE
      rw [if_neg (by omega), if_neg (by omega)]
    · rw [if_neg ji] at hj
      cases hj
section
variable {P : Program} {w : World} {K : PySem.W.Frag} {mg : Str → Option Value} {base : Heap} {C CS TL : Addr}
abbrev s_of : Stmt := inClass (topS 32) 3
theorem sc_of : FnScope ["cls", "tables", "shape", "table", "b", "i", "j"] ["cls", "tables"] (defScope s_of) := ⟨rfl, rfl, rfl, by decide +kernel, rfl, by decide +kernel, by decide +kernel⟩
/-- good tables, one for each block -/
def spOf (K : PySem.W.Frag) (C : Addr) : Sp := fun vs H Q _ => ∃ (T : Addr) (xs : List V) (ns : List Int) (num : Tri → Int), vs = [.ref C, .ref T] ∧ H T = some (.tup xs) ∧ TvL K H xs ((List.range ns.length).map fun (b : Nat) => tabD num (b : Int) (ns.getD b 0).toNat) ∧ Shp ns ∧ SmN num ns ∧
  ∀ H' c, Same H H' → StairO K H' c C ns (numsL num ns) → Q (.ref c) H'
theorem ok_of {f f1 f2 f3 fI : Addr} {fd fd1 fd2 fd3 fdI : FuncData} (T : Txt mg) (N : Nam mg) (F : Fun K "of" "Stair.of" s_of f fd) (hb : ∀ (u : Value) (us : List Value), us.length ≤ 3 → bindArgs fd ⟨u :: us, []⟩ = (newTuple us >>= fun t => pure [(("cls" : Str), u), (("tables" : Str), t)]))
    (d1 : D K mg "is_square" s_square ["value"] f1 fd1) (G1 : FnOk P w K mg base CX0 4 f1 fd1 ["value"] (spSquare K)) (d2 : D K mg "is_shape" s_is_shape ["value"] f2 fd2) (G2 : FnOk P w K mg base CX0 3 f2 fd2 ["value"] (spShape K))
    (d3 : D K mg "places" s_places ["shape"] f3 fd3) (G3 : FnOk P w K mg base (L2.CX P w) 5 f3 fd3 ["shape"] (spPlaces K CS)) (mk : Mk K C fI) (GI : FnOk P w K mg base CX0 7 fI fdI ["self", "shape", "entries"] (spInit K C)) (bI : Binds K fdI ["self", "shape", "entries"] []) :
    FnR P w K mg base CX0 9 f (fun vs H Q E => ∃ (y : V) (rest : List V), vs = y :: rest ∧ rest.length ≤ 3 ∧ ∀ T, H T = none → spOf K C [y, .ref T] (upd H T (.tup rest)) Q E) := by
  refine fn_star F sc_of hb (fun vs H Q E h => ?_) (fun cdv A outer s H vs Q E hr h => ?_)
  · obtain ⟨T, xs, ns, num, rfl, _⟩ := h
    rfl
  · obtain ⟨TT, xs, ns, num, rfl, eT, tl, S, sm, q⟩ := h
    have un : (A.deeper (envOfC "Stair.of" (defScope s_of) s.heap.objs.size f cdv)).units + 1 < cLine := by have := hr.un; omega
    refine ⟨_, (pss_cons (ps_if (pt_not (pt_val (pe_callB (cr_all rfl) (by rfl) N.n_all (by decide +kernel) (pa_cons (pe_lc (own := [("table", 3)]) (g := gName 3) (tt := tYes) rfl sc_of.nd (pi_tup (pv 1)) (blkOk_by (own := [("table", 3)]) (N := ["cls", "tables", "shape", "table", "b", "i", "j"]) (sc := defScope s_of) (by decide +kernel))
            (fun _ _ _ _ _ => (pg_name (i := 3) sc_of.nd rfl (Or.inl rfl))) (fun _ _ _ _ _ => pts_nil) (fun _ _ _ _ _ => (pe_call G1 (hr.mono (by decide)) (by rfl) d1.g d1.F.kp d1.b .nil pass0 (pa_cons (pv 3) pa_nil)))) pa_nil)))) dead pss_nil)
      (pss_cons (ps_set (i := 2) sc_of.nd rfl (.inl rfl) (pe_tupleOf (by rfl) T.n_tuple (pe_lc (own := [("table", 3)]) (g := gName 3) (tt := tYes) rfl sc_of.nd (pi_tup (pv 1)) (blkOk_by (own := [("table", 3)]) (N := ["cls", "tables", "shape", "table", "b", "i", "j"]) (sc := defScope s_of) (by decide +kernel))
            (fun _ _ _ _ _ => (pg_name (i := 3) sc_of.nd rfl (Or.inl rfl))) (fun _ _ _ _ _ => pts_nil) (fun _ _ _ _ _ => (pe_callB (call_len_seqK (K := K) rfl) (by rfl) T.n_len PySem.boot_len (pa_cons (pv 3) pa_nil))))))
      (pss_cons (ps_if (pt_not (pt_val (pe_call G2 (hr.mono (by decide)) (by rfl) d2.g d2.F.kp d2.b .nil pass0 (pa_cons (pv 2) pa_nil)))) dead pss_nil)
      (pss_one (ps_ret (pe_makeL mk GI hr bI .nil pass0 (pv 0) (pa_cons (pv 2) (pa_cons (pe_dcT (own := [("b", 4), ("i", 5), ("j", 6)]) (g := gTup K 3 (gCons (gName 4) (gCons (gName 5) (gCons (gName 6) gNil)))) (tt := tYes) rfl un sc_of.nd (pi_tup (pe_call (E := fun _ _ _ => False) G3 (hr.mono (by decide)) (by rfl) d3.g d3.F.kp d3.b .nil passF (pa_cons (pv 2) pa_nil))) (blkOk_by (own := [("b", 4), ("i", 5), ("j", 6)]) (N := ["cls", "tables", "shape", "table", "b", "i", "j"]) (sc := defScope s_of) (by decide +kernel))
            (fun _ _ _ _ _ => (pg_tup rfl (pgs_cons (pg_name (i := 4) sc_of.nd rfl (Or.inl rfl)) (pgs_cons (pg_name (i := 5) sc_of.nd rfl (Or.inl rfl)) (pgs_cons (pg_name (i := 6) sc_of.nd rfl (Or.inl rfl)) pgs_nil))))) (fun _ _ _ _ _ => pts_nil) (fun _ _ _ _ _ => (pe_tup (pa_cons (pv 4) (pa_cons (pv 5) (pa_cons (pv 6) pa_nil))))) (fun _ _ _ _ _ => (pe_ix (ix_tupK (K := K) rfl) (pe_ix (ix_tupK (K := K) rfl) (pe_ix (ix_tupK (K := K) rfl) (pv 1) (pv 4) (fun _ _ => rfl)) (pv 5) (fun _ _ => rfl)) (pv 6) (fun _ _ => rfl)))) pa_nil)))))))), ?_⟩
    have lx : xs.length = ns.length := by rw [tl.len, List.length_map, List.length_range]
    have b3 := S.1.2
    have ze : ∀ {b : Nat}, b < ns.length → ∃ z : Nat, ns.getD b 0 = (z : Int) ∧ ns[b]? = some (z : Int) ∧ 2 ≤ z ∧ z ≤ 6 := fun {b} hb => by
      have gd : ns.getD b 0 = ns[b] := by rw [List.getD_eq_getElem?_getD, List.getElem?_eq_getElem hb]; rfl
      have z6 := S.2.1 _ (List.getElem_mem hb)
      refine ⟨ns[b].toNat, by rw [gd]; omega, by rw [List.getElem?_eq_getElem hb]; congr 1; omega, by omega, by omega⟩
    refine ⟨_, rfl, TT, rfl, ⟨_, sqt_new eT⟩, fun L nL => ?_⟩
    refine lc_tup (K := K) (a := TT) (xs := xs) (fun i Z => Same H Z ∧ Z L = some (.lst ((List.replicate i true).map V.bl))) ⟨sub_same nL, upd_same⟩ (fun i Z _ h => sqt_same (sqt_new eT) h.1) ?_ ?_
    · rintro i x Z hx ⟨sz, hl⟩
      obtain ⟨d0, ed, td⟩ := tl.get hx
      have il := (List.getElem?_eq_some_iff.mp hx).1
      rw [lx] at il
      rw [List.getElem?_map, List.getElem?_range il] at ed
      obtain rfl := Option.some.inj ed
      obtain ⟨z, ez, ez2, z2, z6⟩ := ze il
      have td : Tv K H x (tabD num ((i : Nat) : Int) (ns.getD i 0).toNat) := td
      rw [tabD_rows] at td
      refine ⟨rfl, yesT ⟨_, rfl, x, _, rfl, td.same sz, rows_ok fun a b ab bz => sm _ (mem_pl S il ab (by omega)), ?_, fun Z2 s2 => ?_⟩⟩
      · unfold rowsT
        rw [List.length_map, List.length_range]
        omega
      · refine ⟨_, s2 _ _ hl, ?_, fun k ob e => ?_, ?_⟩
        · rw [List.length_map, List.length_replicate, sizeLine_eq]
          omega
        · rw [upd_ne (fun z => by rw [z, nL] at e; cases e)]
          exact s2 _ _ (sz _ _ e)
        · rw [upd_same, List.replicate_succ', List.map_append]
          rfl
    · rintro Z ⟨sz, hl⟩
      have z1 : (List.replicate xs.length true).all id = true := List.all_eq_true.mpr fun b m => (List.mem_replicate.mp m).2
      refine ⟨L, List.replicate xs.length true, rfl, .inl (.inl hl), _, rfl, ?_⟩
      rw [z1]
      refine ite2 (fun z => absurd z Bool.false_ne_true) (fun _ => ?_)
      refine ⟨_, rfl, TT, rfl, ⟨_, sqt_same (sqt_new eT) sz⟩, fun L2 nL2 => ?_⟩
      refine lc_tup (K := K) (a := TT) (xs := xs) (fun i Y => Same Z Y ∧ Y L2 = some (.lst ((ns.take i).map V.int))) ⟨sub_same nL2, upd_same⟩ (fun i Y _ h => sqt_same (sqt_new eT) (sz.trans h.1)) ?_ ?_
      · rintro i x Y hx ⟨sy, hl2⟩
        obtain ⟨d0, ed, td⟩ := tl.get hx
        have il := (List.getElem?_eq_some_iff.mp hx).1
        rw [lx] at il
        rw [List.getElem?_map, List.getElem?_range il] at ed
        obtain rfl := Option.some.inj ed
        obtain ⟨z, ez, ez2, z2, z6⟩ := ze il
        have td : Tv K H x (tabD num ((i : Nat) : Int) (ns.getD i 0).toNat) := td
        rw [ez, Int.toNat_natCast] at td
        obtain ⟨o, ys, rfl, eo, tl2⟩ : ∃ o ys, x = .ref o ∧ SqT K H o ys ∧ TvL K H ys ((List.range z).map (rowD num (i : Int) z)) := by
          cases td with
          | tup e l => exact ⟨_, _, rfl, e, l⟩
        have ly : ys.length = z := by rw [tl2.len, List.length_map, List.length_range]
        refine ⟨rfl, yesT ⟨_, rfl, o, ys, rfl, .inr (sqt_same eo (sz.trans sy)), ?_⟩⟩
        refine ⟨_, hl2, ?_, fun k ob e => ?_, ?_⟩
        · rw [List.length_map, List.length_take, sizeLine_eq]
          omega
        · rw [upd_ne (fun z => by rw [z, nL2] at e; cases e)]
          exact sy _ _ e
        · rw [upd_same, List.take_succ, ez2, List.map_append, ly]
          rfl
      · rintro Y ⟨sy, hl2⟩
        rw [lx, List.take_length] at hl2
        refine .inl ⟨L2, _, rfl, .inl (.inl hl2), fun p np => ?_⟩
        have s3 := (sz.trans sy).trans (sub_same (o := .tup (ns.map V.int)) np)
        have ep : upd Y p (.tup (ns.map V.int)) p = some (.tup (ns.map V.int)) := upd_same
        revert s3 ep
        generalize upd Y p (.tup (ns.map V.int)) = H3
        intro s3 ep
        refine ⟨_, rfl, _, .tuple (ns.map .int), rfl, .tv (.tup (sqt_new ep) (tvl_ints ns)), fun H4 s4 => ⟨_, rfl, ?_⟩⟩
        rw [shp_is S]
        refine ite2 (fun z => absurd z Bool.false_ne_true) (fun _ => ?_)
        refine ⟨_, rfl, rfl, _, rfl, _, rfl, _, .tuple (ns.map .int), rfl, .tv (.tup (sqt_same (sqt_new ep) s4) (tvl_ints ns)), fun ns' en S' H5 y s5 ty => ?_, fun z => absurd (shp_is S) (by rw [z]; decide)⟩
        obtain rfl : ns' = ns := (ints_inj (PyData.tuple.inj en)).symm
        obtain ⟨o, ys, rfl, eo, tl3⟩ := ty
        have ly : ys.length = (pl ns').length := tl3.len
        have M := tables3 ns' (shp_mem S)
        have sH := (s3.trans s4).trans s5
        refine ⟨o, rfl, ⟨ys, .inl (.inl eo)⟩, fun D nD => ?_⟩
        refine dcT_it (walk_tup (K := K) (a := o) (xs := ys)) (fun i Z => Same H5 Z ∧ Z D = some (.dT (dictO ((pl ns').take i) num))) ⟨sub_same nD, upd_same⟩ (fun i Z _ h => sqt_same (sqt_new eo) h.1) ?_ ?_
        · rintro i x Y Y' hi ⟨sy, hd⟩ ⟨rfl, ex⟩
          obtain ⟨t, c, et, rfl, ec⟩ := tl3.tri ex
          have mt : t ∈ pl ns' := List.mem_of_getElem? et
          obtain ⟨tb, ti, tj, et2, hb, hij, hj⟩ := pl_mem S mt
          have dsn := dictO_snoc (num := num) (not_take M.1 et)
          have tks : (pl ns').take (i + 1) = (pl ns').take i ++ [t] := by rw [List.take_succ, et]; rfl
          rw [tks]
          rw [et2] at dsn ec ⊢
          obtain ⟨z, ez, ez2, z2, z6⟩ := ze hb
          have hj' : tj < z := by omega
          have ebx : xs[tb]? = some xs[tb] := List.getElem?_eq_getElem (by omega)
          obtain ⟨d0, ed, td⟩ := tl.get ebx
          rw [List.getElem?_map, List.getElem?_range hb] at ed
          obtain rfl := Option.some.inj ed
          have td : Tv K H xs[tb] (tabD num ((tb : Nat) : Int) (ns'.getD tb 0).toNat) := td
          rw [ez, Int.toNat_natCast] at td
          obtain ⟨to, rs, ex1, eo1, tl2⟩ : ∃ to rs, xs[tb] = .ref to ∧ SqT K H to rs ∧ TvL K H rs ((List.range z).map (rowD num ((tb : Nat) : Int) z)) := by
            generalize xs[tb] = xb at td
            cases td with
            | tup e l => exact ⟨_, _, rfl, e, l⟩
          rw [ex1] at ebx
          have lr : rs.length = z := by rw [tl2.len, List.length_map, List.length_range]
          have eri : rs[ti]? = some rs[ti] := List.getElem?_eq_getElem (by omega)
          obtain ⟨d1, ed1, td1⟩ := tl2.get eri
          rw [List.getElem?_map, List.getElem?_range (by omega)] at ed1
          obtain rfl := Option.some.inj ed1
          obtain ⟨ro, ex2, eo2⟩ : ∃ ro, rs[ti] = .ref ro ∧ SqT K H ro ((rowT num ((tb : Nat) : Int) (ti : Int) z).map V.int) := by
            unfold rowD at td1
            generalize rs[ti] = ri at td1
            cases td1 with
            | tup e l => exact ⟨_, rfl, l.ints ▸ e⟩
          rw [ex2] at eri
          have enj : ((rowT num ((tb : Nat) : Int) (ti : Int) z).map V.int)[tj]? = some (V.int (num (((tb : Nat) : Int), ((ti : Nat) : Int), ((tj : Nat) : Int)))) := by
            unfold rowT
            rw [List.getElem?_map, List.getElem?_map, List.getElem?_range hj']
            show some (V.int (tabE num tb ti tj)) = _
            unfold tabE
            rw [if_pos (by omega)]
          refine ⟨c, _, rfl, .inl (.inl (sy _ _ ec)), rfl, _, _, rfl, _, _, rfl, _, _, rfl, rfl, rfl, yesT ?_⟩
          refine ⟨_, rfl, _, rfl, _, rfl, (by show 3 ≤ sizeLine; decide), fun p3 n3 => ?_⟩
          have s6 := sub_same (o := .tup [V.int ((tb : Nat) : Int), V.int ((ti : Nat) : Int), V.int ((tj : Nat) : Int)]) n3
          have sA := (sH.trans sy).trans s6
          have sq : ∀ {a : Addr} {zs : List V}, SqT K H a zs → SqT K (upd Y' p3 (.tup [V.int ((tb : Nat) : Int), V.int ((ti : Nat) : Int), V.int ((tj : Nat) : Int)])) a zs := fun h => sqt_same h sA
          refine ⟨_, rfl, _, rfl, TT, xs, tb, .ref to, rfl, rfl, sq (sqt_new eT), atI_nat ebx, _, rfl, to, rs, ti, .ref ro, rfl, rfl, sq eo1, atI_nat eri, _, rfl, ro, _, tj, _, rfl, rfl, sq eo2, atI_nat enj, ?_⟩
          refine ⟨_, triK (((tb : Nat) : Int), ((ti : Nat) : Int), ((tj : Nat) : Int)), p3, rfl, upd_same, s6 _ _ hd, ?_, fun b ob eb => ?_, ?_⟩
          · unfold dictO
            rw [List.length_map, List.length_take, sizeLine_eq]
            omega
          · rw [upd_ne (fun z => by rw [z, nD] at eb; cases eb)]
            exact s6 _ _ (sy _ _ eb)
          · rw [upd_same, dsn]
        · rintro Y ⟨sy, hd⟩
          rw [ly, List.take_length] at hd
          refine fun a dd na nd ne => ?_
          have sM : Same Y (upd (upd Y dd (.own a)) a (.ins C dd [])) := (sub_same nd).trans (sub_same (by rw [upd_ne (Ne.symm ne)]; exact na))
          have ent : Ent ns' (dictO (pl ns') num) := ent_dictO S (fun t m => m) (by omega) sm
          refine ⟨a, p, D, dd, ns', _, rfl, upd_same, sqt_same (sqt_new ep) (((s4.trans s5).trans sy).trans sM), S, sM _ _ hd, ent, fun H9 o9 st => ⟨rfl, ?_⟩⟩
          rw [nums_dictO (fun t m n => absurd m n)] at st
          refine q H9 a (fun b ob eb => ?_) st
          have e1 := sy _ _ (sH _ _ eb)
          exact o9 _ _ (fun z => by rw [z, na] at e1; cases e1) (sM _ _ e1)
end
end K07

/-! # rows of words -/
namespace K07
open PySem PySem.Spec PyProof.Rows L2 TL NumText
section
variable {X : Cx}
/-- i, i - 1, .. -/
def dnV (i j : Int) : List V := (List.range (i - j).toNat).map fun k => V.int (i + (k : Nat) * (-1))
def tDown (ta : TA) : TE := fun σ H Q => ta σ H fun vs H1 => ∃ i j : Int, vs = [.int i, .int j, .int (-1)] ∧ 0 ≤ i ∧ i ≤ 1000 ∧ 0 ≤ j ∧ j ≤ 1000 ∧ ∀ p, H1 p = none → Q (.ref p) (upd H1 p (.lst (dnV i j)))
theorem pe_listDown {a b c : Expr} {ta : TA} {p pos p2 pos2 : Pos} (calm : X.calm = true) (gl : Gl X "list") (ml : X.mg "list" = none) (gr : Gl X "range") (mr : X.mg "range" = none) (ha : PA X [a, b, c] ta)
    (hs : starEach [a, b, c] X.env = (false, eval a X.env) :: starEach [b, c] X.env := by rfl) (hpl : (backTo pos2 (starEach [b, c] X.env)).any (·.1) = false := by rfl)
    (hs2 : starEach [.Call (.Name "range" p2) [a, b, c] [] pos2] X.env = (false, eval (.Call (.Name "range" p2) [a, b, c] [] pos2) X.env) :: starEach [] X.env := by rfl) (hpl2 : (backTo pos (starEach [] X.env)).any (·.1) = false := by rfl) :
    PE X (.Call (.Name "list" p) [.Call (.Name "range" p2) [a, b, c] [] pos2] [] pos) (tDown ta) := by
  refine ⟨fun pins s σ H Q I h => ?_⟩
  refine wpAny_Call_Name_kw (ld_blt I gl ml (show bootBuiltins "list" = some (.type "list") by decide +kernel) ?_)
  refine PyProof.Rows.callWith_type1 ?_ hs2 hpl2
  rw [hs2]
  show wpAny _ _ (spliced ((false, eval (.Call (.Name "range" p2) [a, b, c] [] pos2) X.env) :: [])) _ _ s
  refine Calls.spliced_cons ?_
  refine wpAny_Call_Name_kw (ld_blt I gr mr boot_range ?_)
  refine PyProof.Rows.callWith_type1 (thn (ha.run pos2 pins s σ H _ I h) fun us s1 w1 => ?_) hs hpl
  obtain ⟨vs, H1, I1, r1, i, j, rfl, i0, i1, j0, j1, q⟩ := w1
  cases r1 with
  | cons r rr => cases rr with
    | cons r' rr => cases rr with
      | cons r'' rr =>
        cases rr
        obtain ⟨t, rfl⟩ := r
        obtain ⟨t', rfl⟩ := r'
        obtain ⟨t'', rfl⟩ := r''
        obtain ⟨c0, c1, c2, c3⟩ := RgC.neg (i := i) (j := j) (by omega) (by omega) (by omega) (by omega)
        refine call_range_3 c0 ?_ (.inl (PyProof.noPylong_small c1))
        refine Calls.spliced_nil ?_
        have I2 : Inv X pins σ H1 { s1 with heap := s1.heap.push { cls := .type "range", data := .fields #[.int i t, .int j t', .int (-1) t''] } } := I1.kept (t' := s1.toks) fun b o e => Heap.get?_push_of_some _ e
        refine call_list_range (n := (i - j).toNat) (I1.ok.hd calm) (IsRange.new ..) c2 c3 (by omega) fun h' tk acc c' kk hD hi => ?_
        have lv : acc.toList.length = (i - j).toNat := by rw [Array.length_toList]; exact hi.1
        have vv : Vals (dnV i j) acc.toList := by
          unfold dnV
          rw [← lv]
          refine vals_of_get acc.toList _ fun k u hk => ?_
          obtain ⟨t, rfl⟩ := hi.2 k u (by rw [← hk, Array.getElem?_toList])
          exact ⟨t, rfl⟩
        refine ⟨.ref _, upd H1 _ (.lst (dnV i j)), I2.laid (t' := tk) kk (Nat.le_refl _) ⟨?_, acc.toList, c', vv, by rw [Array.toArray_toList]; exact hD⟩, rfl, q _ (I2.hok.fresh (Nat.le_refl _))⟩
        unfold dnV
        rw [List.length_map, List.length_range, sizeLine_eq]
        omega
end
/-- the turns of a walk, whatever is done in each -/
theorem it_gen {J : It} {n : Nat} {G : Hp → Prop} {Y : Nat → Hp → V → Hp → Prop} (w : Walk J n G Y) {H0 : Hp} {stop : Hp → Prop} {step : V → Hp → (Hp → Prop) → Prop} (Pv : Nat → Hp → Prop) (h0 : Pv 0 H0) (hG : ∀ i Z, i ≤ n → Pv i Z → G Z)
    (hs : ∀ i x Z Z', i < n → Pv i Z → Y i Z x Z' → step x Z' (Pv (i + 1))) (hd : ∀ Z, Pv n Z → stop Z) :
    ∃ W : Nat → Nat → Hp → Prop, (∃ m, W 0 m H0) ∧ ∀ i m Z, W i m Z → (J.stop i Z ∧ stop Z) ∨ (J.go i Z ∧ ∃ Nx : Hp → Prop, (∀ Z', Nx Z' → ∃ m', m' < m ∧ W (i + 1) m' Z') ∧ ∀ x Z', J.yld i Z x Z' → step x Z' Nx) := by
  refine ⟨fun i m Z => m + i = n ∧ Pv i Z, ⟨n, rfl, h0⟩, ?_⟩
  intro i m Z ⟨e, p⟩
  have q := hG i Z (by omega) p
  by_cases l : i < n
  · exact .inr ⟨w.goes i Z l q, Pv (i + 1), fun Z' p' => ⟨m - 1, by omega, by omega, p'⟩, fun x Z' y => hs i x Z Z' l p (w.yields i Z x Z' l q y)⟩
  · obtain rfl : i = n := by omega
    exact .inl ⟨w.stops Z q, hd Z p⟩
theorem shaped_lints (ns : List Int) : SeqAt.shaped (.list (ns.map .int)) = true := by
  show (PyData.canLayAll0 (ns.map .int) && decide (PyData.depthAll (ns.map .int) + 1 ≤ 64)) = true
  rw [canLay_ints, dep_ints]
  rfl
theorem eqv_lists (ns ms : List Int) : PyData.eqv (.list (ns.map .int)) (.list (ms.map .int)) = decide (ns = ms) := by
  show PyData.eqvAll (ns.map .int) (ms.map .int) = _
  exact eqv_ints
theorem flat_ints : ∀ ns : List Int, (ns.map V.int).all flatV = true
  | [] => rfl
  | n :: r => by
    show (true && (r.map V.int).all flatV) = true
    rw [flat_ints r]
    rfl
theorem none_ints : ∀ ns : List Int, inV .non (ns.map V.int) = false
  | [] => rfl
  | n :: r => by
    have z := none_ints r
    unfold inV at z ⊢
    rw [List.map_cons, List.any_cons, z]
    rfl
theorem pmap {α β : Type} {F G : α → β → Prop} (h : ∀ x y, F x y → G x y) : ∀ {xs : List α} {ys : List β}, Paired F xs ys → Paired G xs ys
  | _, _, .nil => .nil
  | _, _, .cons a t => .cons (h _ _ a) (pmap h t)
/-- a list of texts -/
def WdsL (H : Hp) (x : V) (ws : List Str) : Prop := ∃ r, x = .ref r ∧ H r = some (.lst (ws.map V.str))
theorem WdsL.same {H H' : Hp} {x : V} {ws : List Str} (h : WdsL H x ws) (s : Same H H') : WdsL H' x ws := let ⟨r, e, z⟩ := h; ⟨r, e, s _ _ z⟩
/-- a list of such -/
def BlkL (H : Hp) (x : V) (wss : List (List Str)) : Prop := ∃ l xs, x = .ref l ∧ H l = some (.lst xs) ∧ Paired (WdsL H) xs wss
theorem BlkL.same {H H' : Hp} {x : V} {wss : List (List Str)} (h : BlkL H x wss) (s : Same H H') : BlkL H' x wss := let ⟨l, xs, e, z, p⟩ := h; ⟨l, xs, e, s _ _ z, pmap (fun _ _ w => w.same s) p⟩
def BlksL (H : Hp) (x : V) (bss : List (List (List Str))) : Prop := ∃ l xs, x = .ref l ∧ H l = some (.lst xs) ∧ Paired (BlkL H) xs bss
/-- the words of a block -/
def blkW (num : Tri → Int) (b : Int) (s : Nat) : List (List Str) := (List.range (s - 1)).map fun (i : Nat) => (rowNs num b (i : Int) (s - 1 - i)).map intS
theorem sm_abs {i : Int} (h : Sm i) : i.natAbs < 10 ^ 60 := by
  obtain ⟨a, b⟩ := h
  omega
theorem sm_lo {i : Int} (h : Sm i) : Lo i := Nat.lt_trans (sm_abs h) (by decide)
theorem rd_intS {i : Int} (h : Sm i) : rd (tl (intS i)) = some i := by
  rw [show tl (intS i) = intL i from tl_int i]
  exact int_rd (sm_abs h)
section
variable {P : Program} {w : World} {K : PySem.W.Frag} {mg : Str → Option Value} {base : Heap} {C CS TL : Addr}
abbrev s_rows : Stmt := topS 41
theorem sc_rows : FnScope ["rows", "words", "word"] ["rows"] (defScope s_rows) := ⟨rfl, rfl, rfl, by decide +kernel, rfl, by decide +kernel, by decide +kernel⟩
/-- the rows of a block -/
def spRows (K : PySem.W.Frag) : Sp := fun vs H Q _ => ∃ (v : V) (num : Tri → Int) (b : Int) (s : Nat), vs = [v] ∧ BlkL H v (blkW num b s) ∧ 2 ≤ s ∧ s ≤ 6 ∧ (∀ i j : Nat, i < j → j < s → Sm (num (b, (i : Int), (j : Int)))) ∧ ∀ H', Same H H' → Q (.bl true) H'
theorem ok_rows {f f1 : Addr} {fd fd1 : FuncData} {k : Nat} (T : Txt mg) (N : Nam mg) (d : D K mg "are_rows" s_rows ["rows"] f fd) (d1 : D K mg "read_integer" s_read_integer ["text"] f1 fd1) (G1 : FnOk P w K mg base CX0 1 f1 fd1 ["text"] spRead) :
    FnOk P w K mg base CX0 2 f fd ["rows"] (spRows K) := by
  refine d.F.ok sc_rows (fun vs H Q E h => ?_) (fun cdv A outer s H vs Q E hr h => ?_)
  · obtain ⟨v, num, b, z, rfl, _⟩ := h
    rfl
  · obtain ⟨v, num, b, z, rfl, ⟨l, xs, rfl, el, pr⟩, z2, z6, sm, q⟩ := h
    have un : (A.deeper (envOfC "are_rows" (defScope s_rows) s.heap.objs.size f cdv)).units + 64 < cLine := by have := hr.un; omega
    refine ⟨_, (pss_cons (ps_if (pt_cmpR (op_neD un) (pe_lc (own := [("words", 1)]) (g := gName 1) (tt := tYes) rfl sc_rows.nd (pi_list (pv 0)) (blkOk_by (own := [("words", 1)]) (N := ["rows", "words", "word"]) (sc := defScope s_rows) (by decide +kernel))
            (fun _ _ _ _ _ => (pg_name (i := 1) sc_rows.nd rfl (Or.inl rfl))) (fun _ _ _ _ _ => pts_nil) (fun _ _ _ _ _ => (pe_callB (call_len_seqK (K := K) rfl) (by rfl) T.n_len PySem.boot_len (pa_cons (pv 1) pa_nil)))) (pe_listDown rfl (by rfl) N.n_list (by rfl) T.n_range (pa_cons (pe_callB call_len_seq (by rfl) T.n_len PySem.boot_len (pa_cons (pv 0) pa_nil)) (pa_cons pe_int (pa_cons (pe_un un_neg pe_int) pa_nil)))) (nomark _)) (pss_one (ps_ret pe_bl)) pss_nil)
      (pss_one (ps_ret (pe_cmpR op_notIn_seq pe_non (pe_lc2 (own := [("words", 1), ("word", 2)]) (vs1 := [2]) (g := gName 1) (tt := tYes) (g1 := gName 2) (tt1 := tYes) rfl sc_rows.nd (pi_list (pv 0)) (blkOk_by (own := [("words", 1), ("word", 2)]) (N := ["rows", "words", "word"]) (sc := defScope s_rows) (by decide +kernel)) (by decide)
            (fun _ _ _ _ _ => pg_name (i := 1) sc_rows.nd rfl (Or.inl rfl)) (fun _ _ _ _ _ => pts_nil) (fun _ _ _ _ _ => pi_listK (K := K) rfl (pv 1)) (fun _ _ _ _ _ => pg_name (i := 2) sc_rows.nd rfl (Or.inl rfl)) (fun _ _ _ _ _ => pts_nil) (fun _ _ _ _ _ => pe_call G1 (hr.mono (by decide)) (by rfl) d1.g d1.F.kp d1.b .nil pass0 (pa_cons (pv 2) pa_nil))) (by rfl))))), ?_⟩
    have lb : (blkW num b z).length = z - 1 := by
      unfold blkW
      rw [List.length_map, List.length_range]
    have lx : xs.length = z - 1 := (Paired.length pr).trans lb
    have gb : ∀ {i : Nat}, i < z - 1 → (blkW num b z)[i]? = some ((rowNs num b (i : Int) (z - 1 - i)).map intS) := fun {i} hi => by
      unfold blkW
      rw [List.getElem?_map, List.getElem?_range hi]
      rfl
    refine ⟨_, rfl, l, rfl, ⟨_, .inl (.inl el)⟩, fun L nL => ?_⟩
    refine lc_list (K := K) (a := l) (xs := xs) (fun i Y => Same H Y ∧ Y L = some (.lst (((List.range i).map fun (i : Nat) => ((z - 1 - i : Nat) : Int)).map V.int))) ⟨sub_same nL, upd_same⟩ (fun i Y _ h => .inl (.inl (h.1 _ _ el))) ?_ ?_
    · rintro i x Y hx ⟨sy, hl⟩
      obtain ⟨ws, ew, r, rfl, er⟩ := paired_get pr hx
      have il := (List.getElem?_eq_some_iff.mp hx).1
      rw [lx] at il
      rw [gb il] at ew
      obtain rfl := Option.some.inj ew
      refine ⟨rfl, yesT ⟨_, rfl, r, _, rfl, .inl (.inl (.inl (sy _ _ er))), _, hl, ?_, fun k ob e => ?_, ?_⟩⟩
      · rw [List.length_map, List.length_map, List.length_range, sizeLine_eq]
        omega
      · rw [upd_ne (fun z => by rw [z, nL] at e; cases e)]
        exact sy _ _ e
      · rw [upd_same, List.range_succ, List.map_append, List.map_append, List.length_map, List.length_map, rowNs_len]
        rfl
    · rintro Y ⟨sy, hl⟩
      rw [lx] at hl
      have dn : dnV ((xs.length : Nat) : Int) 0 = ((List.range (z - 1)).map fun (i : Nat) => ((z - 1 - i : Nat) : Int)).map V.int := by
        unfold dnV
        rw [List.map_map, lx, show (((z - 1 : Nat) : Int) - 0).toNat = z - 1 by omega]
        refine List.map_congr_left fun k hk => ?_
        rw [List.mem_range] at hk
        show V.int _ = V.int ((z - 1 - k : Nat) : Int)
        congr 1
        omega
      refine ⟨_, rfl, l, _, rfl, .inl (.inl (.inl (sy _ _ el))), _, rfl, _, 0, rfl, by omega, by omega, by omega, by omega, fun p np => ?_⟩
      rw [dn]
      have hl2 := sub_same (o := .lst (((List.range (z - 1)).map fun (i : Nat) => ((z - 1 - i : Nat) : Int)).map V.int)) np _ _ hl
      have s2 := sy.trans (sub_same (o := .lst (((List.range (z - 1)).map fun (i : Nat) => ((z - 1 - i : Nat) : Int)).map V.int)) np)
      refine ⟨_, _, .lst (.inl (.inl hl2)) (dp_ints K _ _), .lst (.inl (.inl upd_same)) (dp_ints K _ _), shaped_lints _, shaped_lints _, ?_⟩
      rw [eqv_lists, decide_eq_true rfl]
      refine ⟨_, rfl, ite2 (fun z => absurd z Bool.false_ne_true) (fun _ => ?_)⟩
      revert s2
      generalize upd Y p (.lst (((List.range (z - 1)).map fun (i : Nat) => ((z - 1 - i : Nat) : Int)).map V.int)) = Y2
      intro s2
      have el2 := s2 _ _ el
      refine ⟨_, rfl, l, rfl, ⟨_, .inl (.inl el2)⟩, fun D nD => ?_⟩
      refine it_gen (walk_list (K := K) (a := l) (xs := xs)) (fun i Z => Same Y2 Z ∧ ∃ ns : List Int, Z D = some (.lst (ns.map V.int)) ∧ ns.length ≤ 6 * i) ⟨sub_same nD, [], upd_same, Nat.le_refl _⟩ (fun i Z _ h => .inl (.inl (h.1 _ _ el2))) ?_ ?_
      · rintro i x Z _ hi ⟨sz, ns, hd, ln⟩ ⟨rfl, ex⟩
        obtain ⟨ws, ew, r, rfl, er⟩ := paired_get pr ex
        rw [lx] at hi
        rw [gb hi] at ew
        obtain rfl := Option.some.inj ew
        refine ⟨rfl, yesT ?_⟩
        have er2 := sz _ _ (s2 _ _ er)
        refine ⟨_, rfl, r, rfl, ⟨_, .inl (.inl er2)⟩, ?_⟩
        refine it_gen (walk_list (K := K) (a := r) (xs := ((rowNs num b (i : Int) (z - 1 - i)).map intS).map V.str)) (fun j Z => Same Y2 Z ∧ ∃ ns : List Int, Z D = some (.lst (ns.map V.int)) ∧ ns.length ≤ 6 * i + j) ⟨sz, ns, hd, ln⟩ (fun j Z _ h => .inl (.inl (h.1 _ _ (s2 _ _ er)))) ?_ ?_
        · rintro j x U _ hj ⟨su, ns2, hd2, ln2⟩ ⟨rfl, ex2⟩
          rw [List.length_map, List.length_map, rowNs_len] at hj
          have en : (rowNs num b (i : Int) (z - 1 - i))[j]? = some (num (b, (i : Int), ((i + 1 + j : Nat) : Int))) := by
            unfold rowNs
            rw [List.getElem?_map, List.getElem?_range hj]
            show some _ = some _
            congr 3
          have ex2 : (((rowNs num b (i : Int) (z - 1 - i)).map intS).map V.str)[j]? = some x := ex2
          rw [List.getElem?_map, List.getElem?_map, en] at ex2
          obtain rfl := Option.some.inj ex2
          have smj := sm i (i + 1 + j) (by omega) (by omega)
          refine ⟨rfl, yesT ⟨_, rfl, _, rfl, ?_, fun U2 s4 => ?_⟩⟩
          · exact Nat.le_trans (intS_le (sm_lo smj)) (by decide)
          · rw [rd_intS smj]
            refine ⟨_, s4 _ _ hd2, ?_, fun k ob e => ?_, ns2 ++ [num (b, (i : Int), ((i + 1 + j : Nat) : Int))], ?_, ?_⟩
            · rw [List.length_map, sizeLine_eq]
              omega
            · rw [upd_ne (fun z => by rw [z, nD] at e; cases e)]
              exact s4 _ _ (su _ _ e)
            · rw [upd_same, List.map_append]
              rfl
            · rw [List.length_append, List.length_singleton]
              omega
        · rintro U ⟨su, ns2, hd2, ln2⟩
          rw [List.length_map, List.length_map, rowNs_len] at ln2
          exact ⟨su, ns2, hd2, by omega⟩
      · rintro Z ⟨sz, ns, hd, ln⟩
        refine ⟨D, _, rfl, .inl (.inl (.inl hd)), rfl, flat_ints ns, ?_⟩
        rw [none_ints]
        exact q Z (s2.trans sz)
end
end K07

/-! # a text taken apart -/
namespace K07
open PySem PySem.Spec PyProof.Rows L2 TL NumText
/-- what is free stays so back in time -/
def Sub (B Z : Hp) : Prop := ∀ b, Z b = none → B b = none
theorem Sub.refl (B : Hp) : Sub B B := fun _ h => h
theorem Sub.trans {A B C : Hp} (x : Sub A B) (y : Sub B C) : Sub A C := fun b h => x b (y b h)
theorem Sub.upd (B : Hp) (p : Addr) (o : HO) : Sub B (upd B p o) := fun b h => by
  by_cases z : b = p
  · rw [z, upd_same] at h
    cases h
  · rwa [upd_ne z] at h
theorem Sub.of {B Z : Hp} (s : Same B Z) : Sub B Z := fun b h => s.free h
/-- new since B -/
def WdsN (B H : Hp) (x : V) (ws : List Str) : Prop := ∃ r, x = .ref r ∧ B r = none ∧ H r = some (.lst (ws.map V.str))
def BlkN (B H : Hp) (x : V) (wss : List (List Str)) : Prop := ∃ l xs, x = .ref l ∧ B l = none ∧ H l = some (.lst xs) ∧ Paired (WdsN B H) xs wss
theorem WdsN.put {B H : Hp} {x : V} {ws : List Str} {D : Addr} {y : HO} (h : WdsN B H x ws) (hD : B D ≠ none) : WdsN B (upd H D y) x ws := let ⟨r, e, n, z⟩ := h; ⟨r, e, n, (upd_ne fun q => hD (by rw [← q]; exact n)).trans z⟩
theorem WdsN.same {B H H' : Hp} {x : V} {ws : List Str} (h : WdsN B H x ws) (s : Same H H') : WdsN B H' x ws := let ⟨r, e, n, z⟩ := h; ⟨r, e, n, s _ _ z⟩
theorem WdsN.since {A B H : Hp} {x : V} {ws : List Str} (h : WdsN B H x ws) (s : Sub A B) : WdsN A H x ws := let ⟨r, e, n, z⟩ := h; ⟨r, e, s _ n, z⟩
theorem BlkN.put {B H : Hp} {x : V} {wss : List (List Str)} {D : Addr} {y : HO} (h : BlkN B H x wss) (hD : B D ≠ none) : BlkN B (upd H D y) x wss := let ⟨l, xs, e, n, z, p⟩ := h; ⟨l, xs, e, n, (upd_ne fun q => hD (by rw [← q]; exact n)).trans z, pmap (fun _ _ w => w.put hD) p⟩
theorem BlkN.same {B H H' : Hp} {x : V} {wss : List (List Str)} (h : BlkN B H x wss) (s : Same H H') : BlkN B H' x wss := let ⟨l, xs, e, n, z, p⟩ := h; ⟨l, xs, e, n, s _ _ z, pmap (fun _ _ w => w.same s) p⟩
theorem BlkN.old {B H : Hp} {x : V} {wss : List (List Str)} (h : BlkN B H x wss) : BlkL H x wss := let ⟨l, xs, e, _, z, p⟩ := h; ⟨l, xs, e, z, pmap (fun _ _ ⟨r, e, _, z⟩ => ⟨r, e, z⟩) p⟩
theorem psnoc {α β : Type} {F : α → β → Prop} {x : α} {y : β} (h : F x y) : ∀ {xs : List α} {ys : List β}, Paired F xs ys → Paired F (xs ++ [x]) (ys ++ [y])
  | _, _, .nil => .cons h .nil
  | _, _, .cons a t => .cons a (psnoc h t)
/-! ### the texts, split -/
theorem row_split {num : Tri → Int} {b i : Int} {k : Nat} (hk : 1 ≤ k) : Txt.split (rowS num b i k) " " = (rowNs num b i k).map intS := by
  have ey : tl (" " : Str) = 32 :: [] := by decide +kernel
  refine split_join ey (by decide +kernel) (fun z => ?_) fun p hp => ?_
  · have l := congrArg List.length z
    rw [List.length_map, rowNs_len] at l
    rw [l] at hk
    exact absurd hk (by decide)
  · obtain ⟨x, _, rfl⟩ := List.mem_map.mp hp
    rw [show tl (intS x) = intL x from tl_int x]
    exact intL_free (by omega)
theorem free_join {c : Nat} {y : Str} {ps : List Str} (hy : c ∉ tl y) (h : ∀ p ∈ ps, c ∉ tl p) : c ∉ tl (Txt.join y ps) := by
  rw [join_eq, tl_join]
  have go : ∀ qs : List (List Nat), (∀ q ∈ qs, c ∉ q) → c ∉ joinL (tl y) qs := fun qs => by
    induction qs with
    | nil => exact fun _ m => by cases m
    | cons q r ih =>
      intro h m
      cases r with
      | nil => exact h q (List.mem_cons_self ..) m
      | cons a r =>
        have m : c ∈ q ++ (tl y ++ joinL (tl y) (a :: r)) := m
        rcases List.mem_append.mp m with m | m
        · exact h q (List.mem_cons_self ..) m
        · rcases List.mem_append.mp m with m | m
          · exact hy m
          · exact ih (fun p hp => h p (List.mem_cons_of_mem _ hp)) m
  refine go _ fun q hq => ?_
  obtain ⟨p, hp, rfl⟩ := List.mem_map.mp hq
  exact h p hp
theorem row_free {num : Tri → Int} {b i : Int} {k c : Nat} (hc : c = 47 ∨ c = 59) : c ∉ tl (rowS num b i k) := by
  refine free_join ?_ fun p hp => ?_
  · rw [show tl (" " : Str) = [32] by decide +kernel, List.mem_singleton]
    omega
  · obtain ⟨x, _, rfl⟩ := List.mem_map.mp hp
    rw [show tl (intS x) = intL x from tl_int x]
    exact intL_free (by omega)
theorem blk_split {num : Tri → Int} {b : Int} {s : Nat} (hs : 2 ≤ s) : Txt.split (blkS num b s) "/" = (List.range (s - 1)).map fun (i : Nat) => rowS num b (i : Int) (s - 1 - i) := by
  have ey : tl ("/" : Str) = 47 :: [] := by decide +kernel
  refine split_join ey (by decide +kernel) (fun z => ?_) fun p hp => ?_
  · have l := congrArg List.length z
    rw [List.length_map, List.length_range] at l
    have l : s - 1 = 0 := l
    omega
  · obtain ⟨x, _, rfl⟩ := List.mem_map.mp hp
    exact row_free (.inl rfl)
theorem blk_free {num : Tri → Int} {b : Int} {s : Nat} : 59 ∉ tl (blkS num b s) := by
  refine free_join ?_ fun p hp => ?_
  · rw [show tl ("/" : Str) = [47] by decide +kernel, List.mem_singleton]
    decide
  · obtain ⟨x, _, rfl⟩ := List.mem_map.mp hp
    exact row_free (.inr rfl)
theorem stair_split {num : Tri → Int} {ns : List Int} (h : 1 ≤ ns.length) : Txt.split (stairS num ns) "; " = (List.range ns.length).map fun (b : Nat) => blkS num (b : Int) (ns.getD b 0).toNat := by
  have ey : tl ("; " : Str) = 59 :: [32] := by decide +kernel
  refine split_join ey (by decide +kernel) (fun z => ?_) fun p hp => ?_
  · have l := congrArg List.length z
    rw [List.length_map, List.length_range] at l
    have l : ns.length = 0 := l
    omega
  · obtain ⟨x, _, rfl⟩ := List.mem_map.mp hp
    exact blk_free
/-- the words of all blocks -/
def stairW (num : Tri → Int) (ns : List Int) : List (List (List Str)) := (List.range ns.length).map fun (b : Nat) => blkW num (b : Int) (ns.getD b 0).toNat
theorem lo_rows {num : Tri → Int} {ns : List Int} (S : Shp ns) (lo : LoN num ns) {b : Nat} (hb : b < ns.length) {i : Nat} : ∀ x ∈ rowNs num (b : Int) (i : Int) ((ns.getD b 0).toNat - 1 - i), Lo x := fun x hx => by
  unfold rowNs at hx
  obtain ⟨c, hc, rfl⟩ := List.mem_map.mp hx
  rw [List.mem_range] at hc
  have z := lo _ (mem_pl S (b := b) (i := i) (j := i + 1 + c) hb (by omega) (by omega))
  have e : ((i + 1 + c : Nat) : Int) = (i : Int) + 1 + (c : Int) := by omega
  rw [e] at z
  exact z
theorem stairS_le {num : Tri → Int} {ns : List Int} (S : Shp ns) (lo : LoN num ns) : (stairS num ns).length ≤ 30000 := by
  have z := (join_le (y := "; ") (ps := (List.range ns.length).map fun (b : Nat) => blkS num (b : Int) (ns.getD b 0).toNat) (m := 8000) (n := 3) (d := 2) (fun p hp => by
    obtain ⟨b, hb, rfl⟩ := List.mem_map.mp hp
    rw [List.mem_range] at hb
    have gd : ns.getD b 0 = ns[b] := by rw [List.getD_eq_getElem?_getD, List.getElem?_eq_getElem hb]; rfl
    have z6 := S.2.1 _ (List.getElem_mem hb)
    exact blkS_le (fun i => lo_rows S lo hb) (by rw [gd]; omega)) (by rw [List.length_map, List.length_range]; exact S.1.2) (by decide +kernel)).1
  exact Nat.le_trans z (by decide)
section
variable {P : Program} {w : World} {K : PySem.W.Frag} {mg : Str → Option Value} {base : Heap} {C CS TL : Addr}
abbrev s_blks : Stmt := topS 39
theorem sc_blks : FnScope ["text", "block", "row"] ["text"] (defScope s_blks) := ⟨rfl, rfl, rfl, by decide +kernel, rfl, by decide +kernel, by decide +kernel⟩
def spBlks (K : PySem.W.Frag) : Sp := fun vs H Q _ => ∃ (num : Tri → Int) (ns : List Int), vs = [.str (stairS num ns)] ∧ Shp ns ∧ LoN num ns ∧ ∀ H' y, Same H H' → BlksL H' y (stairW num ns) → Q y H'
theorem ok_blks {f : Addr} {fd : FuncData} {k : Nat} (d : D K mg "blocks_of" s_blks ["text"] f fd) : FnOk P w K mg base CX0 (k + 1) f fd ["text"] (spBlks K) := by
  refine d.F.ok sc_blks (fun vs H Q E h => ?_) (fun cdv A outer s H vs Q E hr h => ?_)
  · obtain ⟨num, ns, rfl, _⟩ := h
    rfl
  · obtain ⟨num, ns, rfl, S, lo, q⟩ := h
    refine ⟨_, (pss_one (ps_ret (pe_lc (own := [("block", 1)]) (g := gName 1) (tt := tYes) rfl sc_blks.nd (pi_list (pe_split (pv 0) pe_str)) (blkOk_by (own := [("block", 1)]) (N := ["text", "block", "row"]) (sc := defScope s_blks) (by decide +kernel))
            (fun _ _ _ _ _ => (pg_name (i := 1) sc_blks.nd rfl (Or.inl rfl))) (fun _ _ _ _ _ => pts_nil) (fun _ _ _ _ _ => (pe_lc (own := [("row", 2)]) (g := gName 2) (tt := tYes) rfl sc_blks.nd (pi_listK (K := K) rfl (pe_split (pv 1) pe_str)) (blkOk_by (own := [("row", 2)]) (N := ["text", "block", "row"]) (sc := relS _ (defScope s_blks)) (by decide +kernel))
            (fun _ _ _ _ _ => (pg_name (i := 2) sc_blks.nd rfl (Or.inl rfl))) (fun _ _ _ _ _ => pts_nil) (fun _ _ _ _ _ => (pe_split (pv 2) pe_str))))))), ?_⟩
    have sl := stairS_le S lo
    have b3 := S.1.2
    refine ⟨_, rfl, ⟨_, rfl⟩, _, _, rfl, rfl, (by decide +kernel), by rw [sizeLine_eq]; omega, fun p np => ?_⟩
    rw [stair_split S.1.1]
    have s1 := sub_same (o := .lst (((List.range ns.length).map fun (b : Nat) => blkS num (b : Int) (ns.getD b 0).toNat).map V.str)) np
    have e1 : upd H p (.lst (((List.range ns.length).map fun (b : Nat) => blkS num (b : Int) (ns.getD b 0).toNat).map V.str)) p = some (.lst (((List.range ns.length).map fun (b : Nat) => blkS num (b : Int) (ns.getD b 0).toNat).map V.str)) := upd_same
    revert s1 e1
    generalize upd H p (.lst (((List.range ns.length).map fun (b : Nat) => blkS num (b : Int) (ns.getD b 0).toNat).map V.str)) = H1
    intro s1 e1
    have lw : (stairW num ns).length = ns.length := by
      unfold stairW
      rw [List.length_map, List.length_range]
    refine ⟨p, rfl, ⟨_, .inl (.inl e1)⟩, fun D nD => ?_⟩
    have bD : upd H1 D (.lst []) D ≠ none := by
      rw [upd_same]
      intro z
      cases z
    refine lc_list (K := K) (a := p) (xs := ((List.range ns.length).map fun (b : Nat) => blkS num (b : Int) (ns.getD b 0).toNat).map V.str) (fun i Y => Same H1 Y ∧ Sub (upd H1 D (.lst [])) Y ∧ ∃ acc, Y D = some (.lst acc) ∧ Paired (BlkN (upd H1 D (.lst [])) Y) acc ((stairW num ns).take i))
      ⟨sub_same nD, Sub.refl _, [], upd_same, .nil⟩ (fun i Y _ h => .inl (.inl (h.1 _ _ e1))) ?_ ?_
    · generalize hB : upd H1 D (.lst []) = B0 at bD
      rintro i x Y hx ⟨sy, sb, acc, hd, pr⟩
      have il := (List.getElem?_eq_some_iff.mp hx).1
      rw [List.length_map, List.length_map, List.length_range] at il
      rw [List.getElem?_map, List.getElem?_map, List.getElem?_range il] at hx
      have hx : some (V.str (blkS num ((i : Nat) : Int) (ns.getD i 0).toNat)) = some x := hx
      obtain rfl := Option.some.inj hx
      have gd : ns.getD i 0 = ns[i] := by rw [List.getD_eq_getElem?_getD, List.getElem?_eq_getElem il]; rfl
      have z6 := S.2.1 _ (List.getElem_mem il)
      rw [← gd] at z6
      have wi : (stairW num ns)[i]? = some (blkW num (i : Int) (ns.getD i 0).toNat) := by
        unfold stairW
        rw [List.getElem?_map, List.getElem?_range il]
        rfl
      have lor : ∀ {j : Nat}, ∀ x ∈ rowNs num (i : Int) (j : Int) ((ns.getD i 0).toNat - 1 - j), Lo x := lo_rows S lo il
      have two : 2 ≤ (ns.getD i 0).toNat := by omega
      have six : (ns.getD i 0).toNat ≤ 6 := by omega
      revert wi lor two six
      generalize (ns.getD i 0).toNat = z
      intro wi lor two six
      have lb : (blkW num (i : Int) z).length = z - 1 := by
        unfold blkW
        rw [List.length_map, List.length_range]
      refine ⟨rfl, yesT ?_⟩
      refine ⟨_, rfl, ⟨_, rfl⟩, _, _, rfl, rfl, (by decide +kernel), ?_, fun p2 np2 => ?_⟩
      · have := blkS_le (num := num) (b := (i : Int)) (s := z) (fun j => lor) six
        rw [sizeLine_eq]
        omega
      rw [blk_split two]
      have s2 := sub_same (o := .lst (((List.range (z - 1)).map fun (j : Nat) => rowS num (i : Int) (j : Int) (z - 1 - j)).map V.str)) np2
      have b2 := sb.trans (Sub.upd Y p2 (.lst (((List.range (z - 1)).map fun (j : Nat) => rowS num (i : Int) (j : Int) (z - 1 - j)).map V.str)))
      have e2 : upd Y p2 (.lst (((List.range (z - 1)).map fun (j : Nat) => rowS num (i : Int) (j : Int) (z - 1 - j)).map V.str)) p2 = some (.lst (((List.range (z - 1)).map fun (j : Nat) => rowS num (i : Int) (j : Int) (z - 1 - j)).map V.str)) := upd_same
      revert s2 b2 e2
      generalize upd Y p2 (.lst (((List.range (z - 1)).map fun (j : Nat) => rowS num (i : Int) (j : Int) (z - 1 - j)).map V.str)) = Y2
      intro s2 b2 e2
      refine ⟨p2, rfl, ⟨_, .inl (.inl e2)⟩, fun L nL => ?_⟩
      have bL : upd Y2 L (.lst []) L ≠ none := by
        rw [upd_same]
        intro z
        cases z
      have b3' := b2.trans (Sub.upd Y2 L (.lst []))
      have nBL : B0 L = none := b2 _ nL
      refine lc_list (K := K) (a := p2) (xs := ((List.range (z - 1)).map fun (j : Nat) => rowS num (i : Int) (j : Int) (z - 1 - j)).map V.str) (fun j U => Same Y2 U ∧ Sub (upd Y2 L (.lst [])) U ∧ ∃ acc2, U L = some (.lst acc2) ∧ Paired (WdsN (upd Y2 L (.lst [])) U) acc2 ((blkW num (i : Int) z).take j))
        ⟨sub_same nL, Sub.refl _, [], upd_same, .nil⟩ (fun j U _ h => .inl (.inl (h.1 _ _ e2))) ?_ ?_
      · generalize upd Y2 L (.lst []) = B2 at bL b3'
        rintro j x U hx ⟨su, sbu, acc2, hl, pr2⟩
        have jl := (List.getElem?_eq_some_iff.mp hx).1
        rw [List.length_map, List.length_map, List.length_range] at jl
        rw [List.getElem?_map, List.getElem?_map, List.getElem?_range jl] at hx
        have hx : some (V.str (rowS num ((i : Nat) : Int) ((j : Nat) : Int) (z - 1 - j))) = some x := hx
        obtain rfl := Option.some.inj hx
        have wj : (blkW num (i : Int) z)[j]? = some ((rowNs num (i : Int) (j : Int) (z - 1 - j)).map intS) := by
          unfold blkW
          rw [List.getElem?_map, List.getElem?_range jl]
          rfl
        refine ⟨rfl, yesT ?_⟩
        refine ⟨_, rfl, ⟨_, rfl⟩, _, _, rfl, rfl, (by decide +kernel), ?_, fun p3 np3 => ?_⟩
        · have := rowS_le (num := num) (b := (i : Int)) (i := (j : Int)) (k := z - 1 - j) lor (by omega)
          rw [sizeLine_eq]
          omega
        rw [row_split (by omega)]
        have s3 := sub_same (o := .lst (((rowNs num (i : Int) (j : Int) (z - 1 - j)).map intS).map V.str)) np3
        have new : WdsN B2 (upd U p3 (.lst (((rowNs num (i : Int) (j : Int) (z - 1 - j)).map intS).map V.str))) (.ref p3) ((rowNs num (i : Int) (j : Int) (z - 1 - j)).map intS) := ⟨p3, rfl, sbu _ np3, upd_same⟩
        have l2 := Paired.length pr2
        rw [List.length_take] at l2
        refine ⟨acc2, s3 _ _ hl, ?_, fun k ob e => ?_, (sbu.trans (Sub.upd U p3 _)).trans (Sub.upd _ L _), _, upd_same, ?_⟩
        · rw [sizeLine_eq]
          omega
        · rw [upd_ne (fun z => by rw [z, nL] at e; cases e)]
          exact s3 _ _ (su _ _ e)
        · rw [List.take_succ, wj]
          exact psnoc (new.put bL) (pmap (fun _ _ w => (w.same s3).put bL) pr2)
      · rintro U ⟨su, sbu, acc2, hl, pr2⟩
        rw [List.length_map, List.length_map, List.length_range, ← lb, List.take_length] at pr2
        have new : BlkN B0 U (.ref L) (blkW num (i : Int) z) := ⟨L, acc2, rfl, nBL, hl, pmap (fun _ _ w => w.since b3') pr2⟩
        have l2 := Paired.length pr
        rw [List.length_take] at l2
        refine ⟨acc, su _ _ (s2 _ _ hd), ?_, fun k ob e => ?_, ((b3'.trans sbu).trans (Sub.upd U D _)), _, upd_same, ?_⟩
        · rw [sizeLine_eq]
          omega
        · rw [upd_ne (fun z => by rw [z, nD] at e; cases e)]
          exact su _ _ (s2 _ _ (sy _ _ e))
        · rw [List.take_succ, wi]
          exact psnoc (new.put bD) (pmap (fun _ _ w => ((w.same s2).same su).put bD) pr)
    · rintro Y ⟨sy, sb, acc, hd, pr⟩
      rw [List.length_map, List.length_map, List.length_range, ← lw, List.take_length] at pr
      exact q Y _ (s1.trans sy) ⟨D, acc, rfl, hd, pmap (fun _ _ w => w.old) pr⟩
end
end K07

/-! # stairs read -/
namespace K07
open PySem PySem.Spec PyProof.Rows L2 TL NumText
theorem ix_listK {X : Cx} {K : PySem.W.Frag} (h : X.K = K) : IxR X (rIxL K) := by
  rw [← h]
  exact ix_list
section
variable {P : Program} {w : World} {K : PySem.W.Frag} {mg : Str → Option Value} {base : Heap} {C CS TL : Addr}
theorem BlksL.same {H H' : Hp} {x : V} {bss : List (List (List Str))} (h : BlksL H x bss) (s : Same H H') : BlksL H' x bss := let ⟨l, xs, e, z, p⟩ := h; ⟨l, xs, e, s _ _ z, pmap (fun _ _ w => w.same s) p⟩
theorem paired_get2 {α β : Type} {G : α → β → Prop} : ∀ {l₁ : List α} {l₂ : List β}, Paired G l₁ l₂ → ∀ {i : Nat} {b : β}, l₂[i]? = some b → ∃ a, l₁[i]? = some a ∧ G a b
  | _, _, .nil, i, b, h => by cases h
  | _, _, .cons r t, 0, b, h => by
    obtain rfl := Option.some.inj h
    exact ⟨_, rfl, r⟩
  | _, _, .cons r t, i + 1, b, h => paired_get2 t (i := i) h
abbrev s_eof : Stmt := topS 40
theorem sc_eof : FnScope ["shape", "blocks", "b", "i", "j"] ["shape", "blocks"] (defScope s_eof) := ⟨rfl, rfl, rfl, by decide +kernel, rfl, by decide +kernel, by decide +kernel⟩
def spEof (K : PySem.W.Frag) : Sp := fun vs H Q _ => ∃ (sh : Addr) (v : V) (num : Tri → Int) (ns : List Int), vs = [.ref sh, v] ∧ SqT K H sh (ns.map V.int) ∧ BlksL H v (stairW num ns) ∧ Shp ns ∧ SmN num ns ∧ ∀ H' D, Same H H' → H D = none → H' D = some (.dT (dictO (pl ns) num)) → Q (.ref D) H'
theorem ok_eof {f f1 f2 : Addr} {fd fd1 fd2 : FuncData} (d : D K mg "entries_of" s_eof ["shape", "blocks"] f fd) (d1 : D K mg "places" s_places ["shape"] f1 fd1) (G1 : FnOk P w K mg base (L2.CX P w) 5 f1 fd1 ["shape"] (spPlaces K CS))
    (d2 : D K mg "read_integer" s_read_integer ["text"] f2 fd2) (G2 : FnOk P w K mg base CX0 1 f2 fd2 ["text"] spRead) : FnOk P w K mg base CX0 6 f fd ["shape", "blocks"] (spEof K) := by
  refine d.F.ok sc_eof (fun vs H Q E h => ?_) (fun cdv A outer s H vs Q E hr h => ?_)
  · obtain ⟨sh, v, num, ns, rfl, _⟩ := h
    rfl
  · obtain ⟨sh, v, num, ns, rfl, es, bl, S, sm, q⟩ := h
    have un : (A.deeper (envOfC "entries_of" (defScope s_eof) s.heap.objs.size f cdv)).units + 1 < cLine := by have := hr.un; omega
    refine ⟨_, (pss_one (ps_ret (pe_dcT (own := [("b", 2), ("i", 3), ("j", 4)]) (g := gTup K 3 (gCons (gName 2) (gCons (gName 3) (gCons (gName 4) gNil)))) (tt := tYes) rfl un sc_eof.nd (pi_tup (pe_call (E := fun _ _ _ => False) G1 (hr.mono (by decide)) (by rfl) d1.g d1.F.kp d1.b .nil passF (pa_cons (pv 0) pa_nil))) (blkOk_by (own := [("b", 2), ("i", 3), ("j", 4)]) (N := ["shape", "blocks", "b", "i", "j"]) (sc := defScope s_eof) (by decide +kernel))
            (fun _ _ _ _ _ => (pg_tup rfl (pgs_cons (pg_name (i := 2) sc_eof.nd rfl (Or.inl rfl)) (pgs_cons (pg_name (i := 3) sc_eof.nd rfl (Or.inl rfl)) (pgs_cons (pg_name (i := 4) sc_eof.nd rfl (Or.inl rfl)) pgs_nil))))) (fun _ _ _ _ _ => pts_nil) (fun _ _ _ _ _ => (pe_tup (pa_cons (pv 2) (pa_cons (pv 3) (pa_cons (pv 4) pa_nil))))) (fun _ _ _ _ _ => (pe_call G2 (hr.mono (by decide)) (by rfl) d2.g d2.F.kp d2.b .nil pass0 (pa_cons (pe_ix (ix_listK (K := K) rfl) (pe_ix (ix_listK (K := K) rfl) (pe_ix (ix_listK (K := K) rfl) (pv 1) (pv 2) (fun _ _ => rfl)) (pv 3) (fun _ _ => rfl)) (pe_op op_sub (pe_op op_sub (pv 4) (pv 3)) pe_int) (fun _ _ => rfl)) pa_nil)))))), ?_⟩
    obtain ⟨l, bs, rfl, el, pb⟩ := id bl
    have b3 := S.1.2
    refine ⟨_, rfl, _, .tuple (ns.map .int), rfl, .tv (.tup es (tvl_ints ns)), fun ns' en S' H5 y s5 ty => ?_, fun z => absurd (shp_is S) (by rw [z]; decide)⟩
    obtain rfl : ns' = ns := (ints_inj (PyData.tuple.inj en)).symm
    obtain ⟨o, ys, rfl, eo, tl3⟩ := ty
    have ly : ys.length = (pl ns').length := tl3.len
    have M := tables3 ns' (shp_mem S)
    refine ⟨o, rfl, ⟨ys, .inl (.inl eo)⟩, fun D nD => ?_⟩
    refine dcT_it (walk_tup (K := K) (a := o) (xs := ys)) (fun i Z => Same H5 Z ∧ Z D = some (.dT (dictO ((pl ns').take i) num))) ⟨sub_same nD, upd_same⟩ (fun i Z _ h => sqt_same (sqt_new eo) h.1) ?_ ?_
    · rintro i x Y _ hi ⟨sy, hd⟩ ⟨rfl, ex⟩
      obtain ⟨t, c, et, rfl, ec⟩ := tl3.tri ex
      have mt : t ∈ pl ns' := List.mem_of_getElem? et
      obtain ⟨tb, ti, tj, et2, hb, hij, hj⟩ := pl_mem S mt
      have dsn := dictO_snoc (num := num) (not_take M.1 et)
      have tks : (pl ns').take (i + 1) = (pl ns').take i ++ [t] := by rw [List.take_succ, et]; rfl
      have smt := sm t mt
      rw [tks]
      rw [et2] at dsn ec smt ⊢
      have gd : ns'.getD tb 0 = ns'[tb] := by rw [List.getD_eq_getElem?_getD, List.getElem?_eq_getElem hb]; rfl
      have z6 := S.2.1 _ (List.getElem_mem hb)
      have wi : (stairW num ns')[tb]? = some (blkW num (tb : Int) (ns'.getD tb 0).toNat) := by
        unfold stairW
        rw [List.getElem?_map, List.getElem?_range hb]
        rfl
      obtain ⟨bv, ebv, bo, rs, rfl, ebo, pr⟩ := paired_get2 pb wi
      have hz : tj < (ns'.getD tb 0).toNat := by omega
      revert wi pr hz
      generalize (ns'.getD tb 0).toNat = z
      intro wi pr hz
      have wj : (blkW num (tb : Int) z)[ti]? = some ((rowNs num (tb : Int) (ti : Int) (z - 1 - ti)).map intS) := by
        unfold blkW
        rw [List.getElem?_map, List.getElem?_range (by omega)]
        rfl
      obtain ⟨rv, erv, ro, rfl, ero⟩ := paired_get2 pr wj
      have enk : (((rowNs num (tb : Int) (ti : Int) (z - 1 - ti)).map intS).map V.str)[tj - ti - 1]? = some (V.str (intS (num (((tb : Nat) : Int), ((ti : Nat) : Int), ((tj : Nat) : Int))))) := by
        unfold rowNs
        rw [List.getElem?_map, List.getElem?_map, List.getElem?_map, List.getElem?_range (by omega)]
        have e : (ti : Int) + 1 + ((tj - ti - 1 : Nat) : Int) = (tj : Int) := by omega
        show some (V.str (intS (num ((tb : Int), (ti : Int), (ti : Int) + 1 + ((tj - ti - 1 : Nat) : Int))))) = _
        rw [e]
      refine ⟨c, _, rfl, .inl (.inl (sy _ _ ec)), rfl, _, _, rfl, _, _, rfl, _, _, rfl, rfl, rfl, yesT ?_⟩
      refine ⟨_, rfl, _, rfl, _, rfl, (by show 3 ≤ sizeLine; decide), fun p3 n3 => ?_⟩
      have s6 := sub_same (o := .tup [V.int ((tb : Nat) : Int), V.int ((ti : Nat) : Int), V.int ((tj : Nat) : Int)]) n3
      have sA := (s5.trans sy).trans s6
      refine ⟨_, rfl, _, rfl, l, _, tb, _, rfl, rfl, .inl (.inl (sA _ _ el)), atI_nat ebv, _, rfl, bo, _, ti, _, rfl, rfl, .inl (.inl (sA _ _ ebo)), atI_nat erv, _, rfl, _, rfl, _, _, rfl, rfl, _, _, rfl, rfl, ?_⟩
      refine ⟨ro, _, ((tj - ti - 1 : Nat) : Int), _, rfl, ?_, .inl (.inl (sA _ _ ero)), atI_nat enk, ?_⟩
      · show V.int ((tj : Int) - (ti : Int) - 1) = _
        congr 1
        omega
      refine ⟨_, rfl, Nat.le_trans (intS_le (sm_lo smt)) (by decide), fun U sU => ?_⟩
      rw [rd_intS smt]
      refine ⟨_, triK (((tb : Nat) : Int), ((ti : Nat) : Int), ((tj : Nat) : Int)), p3, rfl, sU _ _ upd_same, sU _ _ (s6 _ _ hd), ?_, fun b ob eb => ?_, ?_⟩
      · unfold dictO
        rw [List.length_map, List.length_take, sizeLine_eq]
        omega
      · rw [upd_ne (fun z => by rw [z, nD] at eb; cases eb)]
        exact sU _ _ (s6 _ _ (sy _ _ eb))
      · rw [upd_same]
        exact congrArg (fun z => some (HO.dT z)) dsn
    · rintro Y ⟨sy, hd⟩
      rw [ly, List.take_length] at hd
      exact q Y D (s5.trans sy) (s5.free nD) hd
theorem smN_lo {num : Tri → Int} {ns : List Int} (h : SmN num ns) : LoN num ns := fun t m => sm_lo (h t m)
abbrev s_read : Stmt := inClass (topS 32) 4
theorem sc_read : FnScope ["cls", "text", "blocks", "shape", "rows"] ["cls", "text"] (defScope s_read) := ⟨rfl, rfl, rfl, by decide +kernel, rfl, by decide +kernel, by decide +kernel⟩
def spReadS (K : PySem.W.Frag) (C : Addr) : Sp := fun vs H Q _ => ∃ (num : Tri → Int) (ns : List Int), vs = [.ref C, .str (stairS num ns)] ∧ Shp ns ∧ SmN num ns ∧ ∀ H' c, Same H H' → StairO K H' c C ns (numsL num ns) → Q (.ref c) H'
theorem ok_readS {f f1 f2 f3 f4 fI : Addr} {fd fd1 fd2 fd3 fd4 fdI : FuncData} (T : Txt mg) (N : Nam mg) (d : M K "read" "Stair.read" s_read ["cls", "text"] f fd) (d1 : D K mg "blocks_of" s_blks ["text"] f1 fd1) (G1 : FnOk P w K mg base CX0 1 f1 fd1 ["text"] (spBlks K))
    (d2 : D K mg "is_shape" s_is_shape ["value"] f2 fd2) (G2 : FnOk P w K mg base CX0 3 f2 fd2 ["value"] (spShape K)) (d3 : D K mg "are_rows" s_rows ["rows"] f3 fd3) (G3 : FnOk P w K mg base CX0 2 f3 fd3 ["rows"] (spRows K))
    (d4 : D K mg "entries_of" s_eof ["shape", "blocks"] f4 fd4) (G4 : FnOk P w K mg base CX0 6 f4 fd4 ["shape", "blocks"] (spEof K)) (mk : Mk K C fI) (GI : FnOk P w K mg base CX0 7 fI fdI ["self", "shape", "entries"] (spInit K C)) (bI : Binds K fdI ["self", "shape", "entries"] []) :
    FnOk P w K mg base CX0 9 f fd ["cls", "text"] (spReadS K C) := by
  refine d.F.ok sc_read (fun vs H Q E h => ?_) (fun cdv A outer s H vs Q E hr h => ?_)
  · obtain ⟨num, ns, rfl, _⟩ := h
    rfl
  · obtain ⟨num, ns, rfl, S, sm, q⟩ := h
    refine ⟨_, (pss_cons (ps_set (i := 2) sc_read.nd rfl (.inl rfl) (pe_ifExp (pt_val (pe_callB call_isi (by rfl) T.n_isinstance (by decide +kernel) (pa_cons (pv 1) (pa_cons (pe_bltn (v := .ty "str") (by rfl) N.n_str (by decide +kernel) rfl) pa_nil)))) (pe_call G1 (hr.mono (by decide)) (by rfl) d1.g d1.F.kp d1.b .nil pass0 (pa_cons (pv 1) pa_nil)) (pe_lst pa_nil)))
      (pss_cons (ps_set (i := 3) sc_read.nd rfl (.inl rfl) (pe_tupleOf (by rfl) T.n_tuple (pe_lc (own := [("rows", 4)]) (g := gName 4) (tt := tYes) rfl sc_read.nd (pi_list (pv 2)) (blkOk_by (own := [("rows", 4)]) (N := ["cls", "text", "blocks", "shape", "rows"]) (sc := defScope s_read) (by decide +kernel))
            (fun _ _ _ _ _ => (pg_name (i := 4) sc_read.nd rfl (Or.inl rfl))) (fun _ _ _ _ _ => pts_nil) (fun _ _ _ _ _ => (pe_op op_add (pe_callB (call_len_seqK (K := K) rfl) (by rfl) T.n_len PySem.boot_len (pa_cons (pv 4) pa_nil)) pe_int)))))
      (pss_cons (ps_if (PW.pt (pw_or (pt_not (pt_val (pe_call G2 (hr.mono (by decide)) (by rfl) d2.g d2.F.kp d2.b .nil pass0 (pa_cons (pv 3) pa_nil)))) (pw_or1 (pt_not (pt_val (pe_callB (cr_all rfl) (by rfl) N.n_all (by decide +kernel) (pa_cons (pe_lc (own := [("rows", 4)]) (g := gName 4) (tt := tYes) rfl sc_read.nd (pi_list (pv 2)) (blkOk_by (own := [("rows", 4)]) (N := ["cls", "text", "blocks", "shape", "rows"]) (sc := defScope s_read) (by decide +kernel))
            (fun _ _ _ _ _ => (pg_name (i := 4) sc_read.nd rfl (Or.inl rfl))) (fun _ _ _ _ _ => pts_nil) (fun _ _ _ _ _ => (pe_call G3 (hr.mono (by decide)) (by rfl) d3.g d3.F.kp d3.b .nil pass0 (pa_cons (pv 4) pa_nil)))) pa_nil))))))) dead pss_nil)
      (pss_one (ps_ret (pe_makeL mk GI hr bI .nil pass0 (pv 0) (pa_cons (pv 3) (pa_cons (pe_call G4 (hr.mono (by decide)) (by rfl) d4.g d4.F.kp d4.b .nil pass0 (pa_cons (pv 3) (pa_cons (pv 2) pa_nil))) pa_nil)))))))), ?_⟩
    have b3 := S.1.2
    have lw : (stairW num ns).length = ns.length := by
      unfold stairW
      rw [List.length_map, List.length_range]
    refine ⟨_, rfl, _, _, _, _, _, rfl, .ty _, (Dw.tv (.str (stairS num ns)) : Dw K H _ _).ty, kit_ty (show kitB "str" "str" = some true by decide +kernel), _, rfl, iteT ?_⟩
    refine ⟨_, rfl, num, ns, rfl, S, smN_lo sm, fun H1 y s1 bl => ?_⟩
    obtain ⟨l, bs, rfl, el, pb⟩ := id bl
    have lx : bs.length = ns.length := (Paired.length pb).trans lw
    have zi : ∀ {i : Nat}, i < ns.length → ∃ z : Nat, ns[i]? = some (z : Int) ∧ (stairW num ns)[i]? = some (blkW num (i : Int) z) ∧ 2 ≤ z ∧ z ≤ 6 ∧ ns.getD i 0 = (z : Int) := fun {i} hi => by
      have gd : ns.getD i 0 = ns[i] := by rw [List.getD_eq_getElem?_getD, List.getElem?_eq_getElem hi]; rfl
      have z6 := S.2.1 _ (List.getElem_mem hi)
      refine ⟨ns[i].toNat, by rw [List.getElem?_eq_getElem hi]; congr 1; omega, ?_, by omega, by omega, by rw [gd]; omega⟩
      unfold stairW
      rw [List.getElem?_map, List.getElem?_range hi, ← gd]
      rfl
    refine ⟨_, rfl, l, rfl, ⟨_, .inl (.inl el)⟩, fun L nL => ?_⟩
    refine lc_list (K := K) (a := l) (xs := bs) (fun i Y => Same H1 Y ∧ Y L = some (.lst ((ns.take i).map V.int))) ⟨sub_same nL, upd_same⟩ (fun i Y _ h => .inl (.inl (h.1 _ _ el))) ?_ ?_
    · rintro i x Y hx ⟨sy, hl⟩
      have il := (List.getElem?_eq_some_iff.mp hx).1
      rw [lx] at il
      obtain ⟨z, ez, ew, z2, z6, _⟩ := zi il
      obtain ⟨wss, ew2, bo, rs, rfl, ebo, pr⟩ := paired_get pb hx
      rw [ew] at ew2
      obtain rfl := Option.some.inj ew2
      have lr : rs.length = z - 1 := by
        rw [Paired.length pr]
        unfold blkW
        rw [List.length_map, List.length_range]
      refine ⟨rfl, yesT ⟨_, rfl, bo, rs, rfl, .inl (.inl (.inl (sy _ _ ebo))), _, _, rfl, rfl, _, hl, ?_, fun k ob e => ?_, ?_⟩⟩
      · rw [List.length_map, List.length_take, sizeLine_eq]
        omega
      · rw [upd_ne (fun z => by rw [z, nL] at e; cases e)]
        exact sy _ _ e
      · rw [upd_same, List.take_succ, ez, List.map_append, lr]
        show some (HO.lst (_ ++ [V.int (((z - 1 : Nat) : Int) + 1)])) = _
        rw [show ((z - 1 : Nat) : Int) + 1 = (z : Int) by omega]
        rfl
    · rintro Y ⟨sy, hl⟩
      rw [lx, List.take_length] at hl
      refine .inl ⟨L, _, rfl, .inl (.inl hl), fun p np => ?_⟩
      have s2 := sy.trans (sub_same (o := .tup (ns.map V.int)) np)
      have ep : upd Y p (.tup (ns.map V.int)) p = some (.tup (ns.map V.int)) := upd_same
      revert s2 ep
      generalize upd Y p (.tup (ns.map V.int)) = H2
      intro s2 ep
      refine ⟨_, rfl, _, .tuple (ns.map .int), rfl, .tv (.tup (sqt_new ep) (tvl_ints ns)), fun H3 s3 => ⟨_, rfl, ?_⟩⟩
      rw [shp_is S]
      refine ite2 (fun z => absurd z Bool.false_ne_true) (fun _ => ?_)
      have el3 := s3 _ _ (s2 _ _ el)
      refine ⟨_, rfl, l, rfl, ⟨_, .inl (.inl el3)⟩, fun L2 nL2 => ?_⟩
      refine lc_list (K := K) (a := l) (xs := bs) (fun i Z => Same H3 Z ∧ Z L2 = some (.lst ((List.replicate i true).map V.bl))) ⟨sub_same nL2, upd_same⟩ (fun i Z _ h => .inl (.inl (h.1 _ _ el3))) ?_ ?_
      · rintro i x Z hx ⟨sz, hl2⟩
        have il := (List.getElem?_eq_some_iff.mp hx).1
        rw [lx] at il
        obtain ⟨z, ez, ew, z2, z6, gz⟩ := zi il
        obtain ⟨wss, ew2, bb⟩ := paired_get pb hx
        rw [ew] at ew2
        obtain rfl := Option.some.inj ew2
        refine ⟨rfl, yesT ⟨_, rfl, x, num, _, z, rfl, ((bb.same s2).same s3).same sz, z2, z6, fun a b ab bz => sm _ (mem_pl S il ab (by omega)), fun Z2 s4 => ?_⟩⟩
        refine ⟨_, s4 _ _ hl2, ?_, fun k ob e => ?_, ?_⟩
        · rw [List.length_map, List.length_replicate, sizeLine_eq]
          omega
        · rw [upd_ne (fun z => by rw [z, nL2] at e; cases e)]
          exact s4 _ _ (sz _ _ e)
        · rw [upd_same, List.replicate_succ', List.map_append]
          rfl
      · rintro Z ⟨sz, hl2⟩
        have z1 : (List.replicate bs.length true).all id = true := List.all_eq_true.mpr fun b m => (List.mem_replicate.mp m).2
        refine ⟨L2, List.replicate bs.length true, rfl, .inl (.inl hl2), _, rfl, ?_⟩
        rw [z1]
        refine ite2 (fun z => absurd z Bool.false_ne_true) (fun _ => ?_)
        have sZ := (s2.trans s3).trans sz
        refine ⟨_, rfl, rfl, _, rfl, _, rfl, _, rfl, p, _, num, ns, rfl, sqt_new (sz _ _ (s3 _ _ ep)), bl.same sZ, S, sm, fun H6 D s6 nD eD => ?_⟩
        refine fun a dd na nd ne => ?_
        have sM : Same H6 (upd (upd H6 dd (.own a)) a (.ins C dd [])) := (sub_same nd).trans (sub_same (by rw [upd_ne (Ne.symm ne)]; exact na))
        have M := tables3 ns (shp_mem S)
        have ent : Ent ns (dictO (pl ns) num) := ent_dictO S (fun t m => m) (by omega) sm
        have sA := (s1.trans sZ).trans s6
        refine ⟨a, p, D, dd, ns, _, rfl, upd_same, sqt_same (sqt_new (s6 _ _ (sz _ _ (s3 _ _ ep)))) sM, S, sM _ _ eD, ent, fun H9 o9 st => ⟨rfl, ?_⟩⟩
        rw [nums_dictO (fun t m n => absurd m n)] at st
        refine q H9 a (fun b ob eb => ?_) st
        have e1 := sA _ _ eb
        exact o9 _ _ (fun z => by rw [z, na] at e1; cases e1) (sM _ _ e1)
end
end K07

/-! # one, single -/
namespace K07
open PySem PySem.Spec PyProof.Rows L2 TL NumText
/-- {k: v}, k a tuple -/
def tDisp1 (tk tv : TE) : TE := fun σ H Q => ∀ p, H p = none → tk σ (upd H p (.dT [])) fun x H1 => tv σ H1 fun y H2 => H2 p = some (.dT []) ∧ ∃ b k, x = .ref b ∧ H2 b = some (.tup (k.map kV)) ∧ Q (.ref p) (upd H2 p (.dT [(k, y)]))
theorem pe_disp1 {X : Cx} {k v : Expr} {tk tv : TE} {pos : Pos} (un : X.A.units + 1 < cLine) (hk : PE X k tk) (hv : PE X v tv) : PE X (.Dict [some k] [v] pos) (tDisp1 tk tv) := by
  refine ⟨fun pins s σ H Q I q => ?_⟩
  have hn := I.hok.fresh (Nat.le_refl s.heap.objs.size)
  have I1 := I.laid (a := s.heap.objs.size) (o := .dT []) (h' := s.heap.push { cls := .type "dict", data := .dict #[] }) (t' := s.toks) (fun _ _ q => Heap.get?_push_of_some _ q) (Nat.le_refl _) (dt_empty s.heap I.big)
  refine wpAny_Dict_any rfl rfl (by simp) (by show 1 ≤ 15; decide) ?_
  refine pairTrees_cons_walk (thn (hk.run pins _ σ _ _ I1 (q _ hn)) fun u s1 ⟨x, H1, J1, rx, q1⟩ => thn (hv.run pins s1 σ H1 _ J1 q1) fun w2 s2 ⟨y, H2, J2, ry, e, b, kk, ex, eb, q2⟩ => pairTrees_nil_walk ?_)
  subst ex
  obtain rfl : u = Value.ref b := rx
  unfold storeAll
  rw [List.forIn_cons]
  refine wpAny_bind (wpAny_bind (dset_tup (X := X) un J2 e eb (Nat.zero_lt_of_lt (by decide : 0 < sizeLine)) ry fun s' J3 => wpAny_pure ?_))
  dsimp only
  rw [List.forIn_nil]
  exact wpAny_pure ⟨.ref _, _, J3, rfl, q2⟩
section
variable {P : Program} {w : World} {K : PySem.W.Frag} {mg : Str → Option Value} {base : Heap} {C CS TL : Addr}
def spOne (K : PySem.W.Frag) (C : Addr) : Sp := fun vs H Q _ => ∃ (sh : Addr) (ns : List Int), vs = [.ref C, .ref sh] ∧ SqT K H sh (ns.map V.int) ∧ Shp ns ∧ ∀ H' c, Same H H' → StairO K H' c C ns (numsL (fun _ => 0) ns) → Q (.ref c) H'
theorem ok_one {f fI : Addr} {fd fdI : FuncData} (d : M K "one" "Stair.one" s_one1 ["cls", "shape"] f fd) (mk : Mk K C fI) (GI : FnOk P w K mg base CX0 7 fI fdI ["self", "shape", "entries"] (spInit K C)) (bI : Binds K fdI ["self", "shape", "entries"] []) :
    FnOk P w K mg base CX0 9 f fd ["cls", "shape"] (spOne K C) := by
  refine d.F.ok sc_one1 (fun vs H Q E h => ?_) (fun cdv A outer s H vs Q E hr h => ?_)
  · obtain ⟨sh, ns, rfl, _⟩ := h
    rfl
  · obtain ⟨sh, ns, rfl, es, S, q⟩ := h
    refine ⟨_, (pss_one (ps_ret (pe_makeL mk GI hr bI .nil pass0 (pv 0) (pa_cons (pv 1) (pa_cons pe_dnewT pa_nil))))), ?_⟩
    refine ⟨_, rfl, rfl, _, rfl, fun D nD a dd na nd ne => ?_⟩
    have s1 := sub_same (o := .dT []) nD
    have eD : upd H D (.dT []) D = some (.dT []) := upd_same
    revert s1 eD na nd
    generalize upd H D (.dT []) = H1
    intro na nd s1 eD
    have sM : Same H1 (upd (upd H1 dd (.own a)) a (.ins C dd [])) := (sub_same nd).trans (sub_same (by rw [upd_ne (Ne.symm ne)]; exact na))
    refine ⟨a, sh, D, dd, ns, [], rfl, upd_same, sqt_same es (s1.trans sM), S, sM _ _ eD, ⟨Nat.zero_le _, fun p m => by cases m⟩, fun H9 o9 st => ⟨rfl, ?_⟩⟩
    have e0 : (pl ns).map (numAt []) = numsL (fun _ => 0) ns := nums_dictO (l := []) (num := fun _ => 0) fun _ _ _ => rfl
    rw [e0] at st
    refine q H9 a (fun b ob eb => ?_) st
    have e1 := s1 _ _ eb
    exact o9 _ _ (fun z => by rw [z, na] at e1; cases e1) (sM _ _ e1)
def lone (t : Tri) (n : Int) : Tri → Int := fun u => if u = t then n else 0
end
end K07

/-! # an error over OverflowError with an own __init__ -/
namespace PySem
namespace MostX
open PySem.W PySem.Calls PyProof.Rows PySem.HandSPX
abbrev tailOV : List Value := [.type "OverflowError", .type "ArithmeticError", .type "Exception", .type "BaseException", .type "object"]
/-! ### the text of __init__ -/
def iA (p1 p2 : Pos) : Arguments := { posonlyargs := [], args := [{ arg := "self", annotation := none, pos := p1 }, { arg := "most", annotation := none, pos := p2 }], vararg := none, kwonlyargs := [], kw_defaults := [], kwarg := none, defaults := [] }
def iB (q1 q2 q3 q4 : Pos) : List Stmt := [.Assign [.Attribute (.Name "self" q1) "most" q2] (.Name "most" q3) q4]
def iS : Scope := { kind := .function, names := [(PySem.Str.ofString "self", .local), (PySem.Str.ofString "most", .local)], isGenerator := false, isCoroutine := false, more := [] }
/-- what the written part says of Low, at C, and of its __init__, at fI -/
structure MostTxt (K : Frag) (mg : Str → Option Value) (C fI : Addr) : Prop where
  gC : mg "TooMany" = some (.ref C)
  cls : ∃ nm q N bs bm sn sub ab col dd k0 k1 k2 k3 k5, K.lookup C = some (excClassObj nm q C N bs bm true sn sub ab col dd k0 k1 k2 k3 k5 "OverflowError.__new__") ∧ PySem.W.excTail tailOV bm = true
  over : excOver K C tailOV = true
  tk : takerIn K C "most" = some none
  sa : findIn K (.ref C) "__setattr__" = some (some (.builtin "object.__setattr__"))
  ga : findIn K (.ref C) "__getattribute__" = some (some (.builtin "BaseException.__getattribute__"))
  gg : findIn K (.ref C) "__getattr__" = some none
  noN : findIn K (.ref C) "most" = some none
  iC : findIn K (.ref C) "__init__" = some (some (.ref fI))
  tC : typeIn K (.ref fI) = some (.type "function")
  kC : keepIn K (.ref C) = true
  exC : subIn K (.ref C) (.type "BaseException") = some true
  tyC : typeIn K (.ref C) = some (.type "type")
  hdC : hasDictIn K C = true
  te : exmOne K (.ref C) (.ref C) = some true
  fn : ∃ (oc : Value) (od : Option Addr) (doc pm : Value) (an : Option Addr) (cdv ct : Value) (osl : Array (Option Value)) (p1 p2 q1 q2 q3 q4 : Pos),
    K.lookup fI = some ⟨oc, od, .func (fnOf "__init__" "TooMany.__init__" (iA p1 p2) (iB q1 q2 q3 q4) iS .none .none doc pm an cdv ct), osl⟩ ∧ codeIn K cdv "TooMany.__init__" = true
section
open Builtin Builtin.ObjectAttr
variable {prog : Program} {w : World} {A : Around} {E : Value → Shared → Prop} {R : Result → Shared → Prop} {hp : Heap} {g : Array GenState} {d : Drawn} {t : Nat} {os : OsState}
/-- the first field of an exception over OverflowError is stored: its dict is made -/
theorem most_osa {K : Frag} {nam : Str} {tok : Tok} {u : Value} {ex C t0 : Addr} {cdt : ClassData} (X : K.In hp) (he : hp.get? ex = some (excO C t0)) (hcl : clsIn K C = some cdt) (hdi : cdt.hasDict = true) (hov : excOver K C tailOV = true) (htk : takerIn K C nam = some none)
    (go : ∀ h' tk' dx, (∀ b o, b ≠ ex → hp.get? b = some o → h'.get? b = some o) → hp.objs.size ≤ dx → dx ≠ ex → h'.get? ex = some { cls := .ref C, dict := some dx, data := .fields #[.ref t0, .none, .none, .none, .bool false, .none] } →
      h'.Ns1 dx (fun y => if y = nam then some u else none) → R (.ok (.ret .none)) ⟨h', g, d, tk', os⟩) :
    codeAny (model prog w) A (.call (.builtin "object.__setattr__") ⟨[.ref ex, .str nam tok, u], []⟩) R ⟨hp, g, d, t, os⟩ := by
  have J : InstAt hp ex (excO C t0) C none := ⟨he, rfl, rfl, trivial⟩
  have away : ex ≠ hp.objs.size := Nat.ne_of_lt (Heap.lt_size he)
  have look : Looks (model prog w) hp (classData C) cdt := looks_clsIn X hcl
  refine osa_openX F.store_OverflowError X J hov htk (fun b => ?_)
  show wpAny _ _ (storeInOwnDict (.ref ex) (.ref C) (.str nam tok) nam u b) _ _ _
  obtain ⟨c1, c2, c3, c4, c5, c6, c7, c8, c9, c10, c11⟩ := cdt
  dsimp only at hdi
  subst hdi
  unfold storeInOwnDict ownDictForStores
  repeat (first | with_reducible refine store_in_new ?_ ?_ | with_reducible refine wpAny_loadPart_at he ?_ | with_reducible refine look.at ?_ | wp_step)
  · exact ⟨_, #[], _, (Heap.get?_update_ne _ _ _ _ away.symm).trans (Heap.get?_push_at rfl rfl), rfl, fun z hz => absurd hz (by simp), fun _ => rfl⟩
  · intro h' tk' hn' same
    have he1 : (hp.push { cls := .type "dict", data := .dict #[] }).get? ex = some (excO C t0) := Heap.get?_push_of_some _ he
    refine go h' tk' hp.objs.size (fun b o hb ho => ?_) (Nat.le_refl _) away.symm ?_ hn'
    · have y := same.2 b (Nat.ne_of_lt (Heap.lt_size ho))
      exact y.trans ((Heap.get?_update_ne _ _ _ _ hb).trans (Heap.get?_push_of_some _ ho))
    · exact (same.2 ex away).trans (Heap.get?_update_self _ he1 rfl)
end
theorem one_size (v : Value) : [v].length ≤ sizeLine := by
  rw [sizeLine_eq]
  exact (by decide : 1 ≤ 16777216)
theorem kept_but {K : Frag} {h h' : Heap} {x : Addr} (X : K.In h) (hx : K.lookup x = none) (k : ∀ b o, b ≠ x → h.get? b = some o → h'.get? b = some o) : K.In h' := fun a o e =>
  k a o (fun z => by rw [z, hx] at e; cases e) (X a o e)
theorem ldC {M : Model} {s : Shared} {name : Str} {scope : Scope} {L a : Addr} {cd : Value} {m : Str → Option Value} {x : Str} {pos : Pos} {v : Value} {Q : Value → Shared → Prop} {A : Around} {E : Value → Shared → Prop} (hn : s.heap.Ns L m) (hv : m x = some v) (h : Q v s)
    (hk : scope.kind = .function := by rfl) (hl : (envOfC name scope L a cd).kindOf x = some .local := by rfl) (hd : (x == ("__debug__" : Str)) = false := by decide) :
    wpAny M A (eval (.Name x pos) (envOfC name scope L a cd)) Q E s := wpAny_Name (wpAny_loadName_local hk hl hn hv h) hd
/-- what __init__ leaves of a fresh exception at x -/
structure InitEnd (h h' : Heap) (x C dx t1 : Addr) (v : Value) : Prop where
  keep : ∀ b o, b ≠ x → h.get? b = some o → h'.get? b = some o
  obj : h'.get? x = some { cls := .ref C, dict := some dx, data := .fields #[.ref t1, .none, .none, .none, .bool false, .none] }
  dbig : h.objs.size ≤ dx
  dne : dx ≠ x
  ns : h'.Ns1 dx (fun y => if y = "most" then some v else none)
/-- a made Low -/
structure OwnMade (h h' : Heap) (e C d : Addr) (v : Value) : Prop where
  keep : ∀ b o, h.get? b = some o → h'.get? b = some o
  new : h.objs.size ≤ e
  obj : ∃ oe vs, h'.get? e = some oe ∧ oe.cls = .ref C ∧ oe.dict = some d ∧ oe.data = .fields vs ∧ vs[1]? = some .none
  dbig : h.objs.size ≤ d
  dne : d ≠ e
  ns : h'.Ns1 d (fun y => if y = "most" then some v else none)
section
variable {prog : Program} {w : World} {A : Around} {E : Value → Shared → Prop} {R : Result → Shared → Prop} {s : Shared} {K : Frag} {mg : Str → Option Value} {C fI : Addr}
theorem most_init (T : MostTxt K mg C fI) {x t0 : Addr} {v : Value} (X : K.In s.heap) (hlim : s.heap.NoLimit) (hx : s.heap.get? x = some (excO C t0)) (hnx : K.lookup x = none) (hroom : A.depth < recursionLimit)
    (hq : ∀ h' tk dx, InitEnd s.heap h' x C dx t0 v → R (.ok (.ret .none)) { s with heap := h', toks := tk }) :
    codeAny (model prog w) A (.call (.ref fI) ⟨[.ref x, v], []⟩) R s := by
  obtain ⟨oc, od, doc, pm, an, cdv, ct, osl, p1, p2, q1, q2, q3, q4, ho, hcd⟩ := T.fn
  obtain ⟨nm, q, N, bs, bm, sn, sub, ab, col, dd, k0, k1, k2, k3, k5, hC, hbm⟩ := T.cls
  have hcl : clsIn K C = some { name := nm, bases := bs, mro := .ref C :: bm, ns := N, qualname := q, hasDict := true, slotNames := sn, subclasses := sub, abstract := ab, collection := col, hasDel := false } := by unfold clsIn; rw [hC] <;> rfl
  refine Att.call_fn (binds := [("self", .ref x), ("most", v)]) X hlim ho hcd hroom (BindsTo.of_eq (by first | rfl | with_unfolding_all rfl)) (by first | rfl | decide | with_unfolding_all rfl) (fun s₁ IC => ?_) rfl rfl rfl
  obtain ⟨h₁, tk₁, rfl⟩ := IC.toInCall.same
  have k : ∀ b o, s.heap.get? b = some o → h₁.get? b = some o := IC.toInCall.keep
  have hn := IC.toInCall.ns
  have hxL : s.heap.objs.size ≠ x := Nat.ne_of_gt (Heap.lt_size hx)
  have X₁ : K.In h₁ := X.keeps k
  have hx₁ := k _ _ hx
  -- self.by = by
  show wpAny _ _ (execs _ _) _ _ _
  refine wpAny_execs_cons (plainObj_wpAny_Assign_Attribute ?_)
  refine ldC (v := v) hn (by first | rfl | with_unfolding_all rfl | kernel_rfl) (ldC (v := .ref x) hn (by first | rfl | with_unfolding_all rfl | kernel_rfl) ?_)
  refine set_plain X₁ (ox := excO C t0) (od := none) ⟨hx₁, rfl, rfl, trivial⟩ T.sa ?_
  refine most_osa X₁ hx₁ hcl rfl T.over T.tk (fun h₃ tk₃ dx k₃ dn dne hx₃ hn₃ => ?_)
  show wpAny _ _ (execs _ _) _ _ _
  have z : s.heap.objs.size < h₁.objs.size := hn.lt
  exact wpAny_execs_nil (hq h₃ tk₃ dx ⟨fun b o hb e => k₃ b o hb (k b o e), hx₃, Nat.le_of_lt (Nat.lt_of_lt_of_le z dn), dne, hn₃⟩)
theorem most_made (T : MostTxt K mg C fI) {v : Value} (X : K.In s.heap) (hlim : s.heap.NoLimit) (hroom : A.depth + 1 < recursionLimit)
    (hq : ∀ h' tk e d, OwnMade s.heap h' e C d v → R (.ok (.ret (.ref e))) { s with heap := h', toks := tk }) :
    codeAny (model prog w) A (.call (.ref C) ⟨[v], []⟩) R s := by
  obtain ⟨nm, q, N, bs, bm, sn, sub, ab, col, dd, k0, k1, k2, k3, k5, hC, hbm⟩ := T.cls
  obtain ⟨hp, g, dr, tk, os⟩ := s
  have k : ∀ b o, hp.get? b = some o → ((hp.push (kdv_tup [v])).push (excO C hp.objs.size)).get? b = some o := fun b o e => Heap.get?_push_of_some _ (Heap.get?_push_of_some _ e)
  have hget : ((hp.push (kdv_tup [v])).push (excO C hp.objs.size)).get? (hp.objs.size + 1) = some (excO C hp.objs.size) := by heap_get
  have hnx : K.lookup (hp.objs.size + 1) = none := by
    cases e : K.lookup (hp.objs.size + 1) with
    | none => rfl
    | some o =>
      have z : hp.get? (hp.objs.size + 1) = some o := X _ _ e
      exact absurd (Nat.lt_of_succ_lt (Heap.lt_size z)) (Nat.lt_irrefl _)
  refine call_own F.excBase_OverflowError (fun X => PySem.W.excTail_contains X bm hbm) (X _ _ hC) (looks_findIn X T.iC) (fun self => bind_fn X self T.tC) (one_size v) ?_
  refine most_init (s := ⟨(hp.push (kdv_tup [v])).push (excO C hp.objs.size), g, dr, tk, os⟩) T (X.keeps k) (hlim.keeps k) hget hnx ?_ fun h' tk' dx ⟨k', hx, dn, dne, hns⟩ => ?_
  · show A.depth + 1 < recursionLimit
    exact hroom
  · have old : ∀ b o, hp.get? b = some o → h'.get? b = some o := fun b o e => k' b o (Nat.ne_of_lt (Nat.lt_succ_of_lt (Heap.lt_size e))) (k b o e)
    have z : hp.objs.size + 1 + 1 ≤ dx := by
      first
        | (simpa only [Heap.size_push] using dn)
        | exact dn
        | (have q := dn; rw [Heap.size_push, Heap.size_push] at q; exact q)
    exact ⟨rfl, hq h' tk' (hp.objs.size + 1) dx ⟨old, Nat.le_succ _, ⟨_, _, hx, rfl, rfl, rfl, rfl⟩, Nat.le_trans (Nat.le_trans (Nat.le_succ _) (Nat.le_succ _)) z, dne, hns⟩⟩
end
end MostX
end PySem
namespace L2
open PySem PySem.Spec PyProof.Rows
theorem relO_most {v : V} {v' : Value} (r : RelV v v') (f : Str) : RelO (List.lookup f [(("most" : Str), v)]) (if f = "most" then some v' else none) := by
  by_cases hw : f = "most"
  · subst hw
    rw [if_pos rfl]
    have q : List.lookup ("most" : Str) [(("most" : Str), v)] = some v := by simp [List.lookup]
    rw [q]
    exact r
  · rw [if_neg hw]
    have qw : (f == ("most" : Str)) = false := by simpa using hw
    have q2 : List.lookup f [(("most" : Str), v)] = none := by simp [List.lookup, qw]
    rw [q2]
    trivial
section
variable {X : Cx} {C fI : Addr}
/-- Low(e) -/
def tMkMost (C : Addr) (ta : TA) : St → Hp → XK → Prop := fun σ H Q => ta σ H fun vs H1 => ∃ v, vs = [v] ∧ ∀ d, H1 d = none → Q (.ref C) (some d) (upd H1 d (.xd [(("most" : Str), v)]))
theorem pmk_most {a : Expr} {ta : TA} {p pos : Pos} {k : Nat} (T : PySem.MostX.MostTxt X.K X.mg C fI) (hr : Room k X.A) (ha : PA X [a] ta) (hg : Gl X "TooMany" := by rfl)
    (he : starEach (a :: []) X.env = (false, eval a X.env) :: starEach [] X.env := by rfl) (hpl : (backTo pos (starEach [] X.env)).any (·.1) = false := by rfl) :
    PMk X (.Call (.Name "TooMany" p) [a] [] pos) (tMkMost C ta) := by
  intro pins s σ H Q I h
  refine wpAny_Call_Name_kw (ld_glob I hg T.gC ?_)
  refine PySem.W.callWith_K (h₀ := X.base) I.ok.mod.kin T.kC (thn (ha.run pos pins s σ H _ I h) fun us s1 hh => ?_) he hpl
  obtain ⟨vs, H1, I1, r1, v, ev, q1⟩ := hh
  subst ev
  refine ⟨I1.kIn, ?_⟩
  cases r1 with
  | cons rv rn =>
    rename_i v' us'
    cases rn
    show wpAny _ _ (call (.ref C) [v']) _ _ _
    have hlim := I1.nolimit
    obtain ⟨hp, g, dr, tk, os⟩ := s1
    refine wpAny_call (PySem.MostX.most_made T I1.kIn hlim (by have := hr.dp; omega) fun h' tk' e d M => ?_)
    show MkP X pins σ Q (.ref e) ⟨h', g, dr, tk', os⟩
    obtain ⟨oe, fv, hoe, hc, hd, hdat, h1⟩ := M.obj
    have hns := M.ns
    obtain ⟨G', g1, g2⟩ := restrict h' fun b => decide (b ≠ e)
    have gk : ∀ b, b ≠ e → G'.get? b = h'.get? b := fun b hb => g1 b (decide_eq_true hb)
    have ge : G'.get? e = none := g2 e (by simp)
    have old : ∀ b o, hp.get? b = some o → G'.get? b = some o := fun b o q => (gk b (Nat.ne_of_lt (Nat.lt_of_lt_of_le (Heap.lt_size q) M.new))).trans (M.keep b o q)
    have ob : ObjOk X.prog X.w (upd H1 d (.xd [(("most" : Str), v)])) G' d (.xd [(("most" : Str), v)]) :=
      ⟨_, hns.at (fun o q => (gk d M.dne).trans q), fun f => relO_most rv f⟩
    have J : Inv X pins σ (upd H1 d (.xd [(("most" : Str), v)])) ⟨G', g, dr, tk', os⟩ := I1.laid (t' := tk') old M.dbig ob
    refine ⟨e, oe, fv, ⟨G', g, dr, tk', os⟩, _, .ref C, some d, rfl, J, fun b o q => ?_, ge, hoe, ⟨hc, hd⟩, hdat, h1, ?_, rfl, I1.bare, raises_own T.exC T.tyC, q1 d (I1.hok.fresh M.dbig)⟩
    · by_cases hb : b = e
      · have q' : G'.get? b = some o := q
        rw [hb, ge] at q'; cases q'
      · exact (gk b hb).symm.trans q
    · rw [upd_ne (Ne.symm M.dne)]
      exact I1.hok.fresh M.new
/-- raise Low(e) -/
def tRaiseMost (C : Addr) (W : WX) (ta : TA) : TS := fun _ σ H => tMkMost C ta σ H fun cls d H' => W cls d σ H'
theorem ps_raiseMost {a : Expr} {ta : TA} {W : WX} {p pos pos2 : Pos} {k : Nat} (hc : X.calm = true) (T : PySem.MostX.MostTxt X.K X.mg C fI) (hr : Room k X.A) (tk : Takes X W) (ha : PA X [a] ta) (hg : Gl X "TooMany" := by rfl)
    (he : starEach (a :: []) X.env = (false, eval a X.env) :: starEach [] X.env := by rfl) (hpl : (backTo pos (starEach [] X.env)).any (·.1) = false := by rfl) :
    PS X (.Raise (some (.Call (.Name "TooMany" p) [a] [] pos)) none pos2) (tRaiseMost C W ta) := ps_raise hc tk (pmk_most T hr ha hg he hpl)
/-- low.by, low the exception that the suite holds (at a; its class cls, its dict d) -/
def tMost (C : Addr) (a : Addr) (cls : Value) (d : Option Addr) (te : TE) : TE := fun σ H Q => te σ H fun x H1 => x = .ref a ∧ cls = .ref C ∧ ∃ (dd : Addr) (v : V), d = some dd ∧ H1 dd = some (.xd [(("most" : Str), v)]) ∧ Q v H1
theorem pe_most {a : Addr} {oe : Obj} {cls : Value} {d : Option Addr} {pn : List (Addr × Obj)} {e : Expr} {te : TE} {pos : Pos} (T : PySem.MostX.MostTxt X.K X.mg C fI) (hz : Zc cls d oe) (hf : ∃ vs, oe.data = .fields vs) (he : PE (X.suite a ((a, oe) :: pn)) e te)
    (hb : attributeBase e "most" X.env (eval e X.env) = eval e X.env := by rfl) :
    PE (X.suite a ((a, oe) :: pn)) (.Attribute e "most" pos) (tMost C a cls d te) := by
  refine ⟨fun pins s σ H Q I h => ?_⟩
  refine attr_of hb (thn (he.run pins s σ H _ I h) fun u s1 hh => ?_)
  obtain ⟨x, H1, I1, rx, ex, ec, dd, v, ed, ea, q⟩ := hh
  subst ex
  obtain rfl : u = Value.ref a := rx
  subst ec
  subst ed
  obtain ⟨ha, _⟩ := I1.pin (a, oe) (List.mem_append_left _ List.mem_cons_self)
  obtain ⟨vs, hd⟩ := hf
  have hx : ObjOk X.prog X.w H1 s1.heap dd (.xd [(("most" : Str), v)]) := I1.hok dd _ ea
  obtain ⟨mA, hns, hr⟩ := hx
  obtain ⟨od, ho, hl⟩ := lookIn_ns hns
  have l : List.lookup ("most" : Str) [(("most" : Str), v)] = some v := by simp [List.lookup]
  obtain ⟨u, hu, ru⟩ := RelO.some_of (v := v) (o := mA "most") (by rw [← l]; exact hr "most")
  have J : PySem.W.InstAt s1.heap a oe C (some od) := ⟨ha, hz.1, by unfold PySem.W.notCls; rw [hd] <;> rfl, by rw [hz.2]; exact ho⟩
  exact HandSPX.exc_get I1.kIn J T.ga T.gg T.exC (PySem.W.findObj_own T.hdC T.noN rfl (by rw [hl, hu])) (handed_of ru) ⟨v, H1, I1.tok _, ru, q⟩
end
end L2


/-! # stairs side by side -/
namespace K07
open PySem PySem.Spec PyProof.Rows L2 TL NumText RZ
/-- a place, its block that many further -/
def shf (k : Nat) (t : Tri) : Tri := ((k : Int) + t.1, t.2.1, t.2.2)
theorem shf_inj {k : Nat} {t u : Tri} (h : shf k t = shf k u) : t = u := by
  obtain ⟨a, b, c⟩ := t
  obtain ⟨d, e, f⟩ := u
  unfold shf at h
  injection h with h1 h2
  injection h2 with h2 h3
  have h1 : (k : Int) + a = (k : Int) + d := h1
  have h2 : b = e := h2
  have h3 : c = f := h3
  rw [show a = d by omega, h2, h3]
/-- the numbers of both -/
def both (k : Nat) (num num2 : Tri → Int) : Tri → Int := fun t => if t.1 < (k : Int) then num t else num2 (t.1 - (k : Int), t.2.1, t.2.2)
theorem both_l {ns : List Int} (S : Shp ns) {num num2 : Tri → Int} {t : Tri} (h : t ∈ pl ns) : both ns.length num num2 t = num t := by
  obtain ⟨b, i, j, rfl, hb, _, _⟩ := pl_mem S h
  unfold both
  rw [if_pos (by show (b : Int) < _; omega)]
theorem both_r {ks : List Int} (S : Shp ks) {k : Nat} {num num2 : Tri → Int} {t : Tri} (h : t ∈ pl ks) : both k num num2 (shf k t) = num2 t := by
  obtain ⟨b, i, j, rfl, hb, _, _⟩ := pl_mem S h
  unfold both shf
  rw [if_neg (by show ¬ ((k : Int) + (b : Int) < _); omega)]
  show num2 ((k : Int) + (b : Int) - (k : Int), (i : Int), (j : Int)) = _
  rw [show (k : Int) + (b : Int) - (k : Int) = (b : Int) by omega]
theorem getD_app (ns ks : List Int) (b : Nat) : (ns ++ ks).getD b 0 = if b < ns.length then ns.getD b 0 else ks.getD (b - ns.length) 0 := by
  rw [List.getD_eq_getElem?_getD, List.getD_eq_getElem?_getD, List.getD_eq_getElem?_getD]
  by_cases h : b < ns.length
  · rw [if_pos h, List.getElem?_append_left h]
  · rw [if_neg h, List.getElem?_append_right (by omega)]
theorem pl_app {ns ks : List Int} (S : Shp ns) (S2 : Shp ks) (SB : Shp (ns ++ ks)) {t : Tri} : t ∈ pl (ns ++ ks) ↔ t ∈ pl ns ++ (pl ks).map (shf ns.length) := by
  constructor
  · intro h
    obtain ⟨b, i, j, rfl, hb, ij, hj⟩ := pl_mem SB h
    rw [getD_app] at hj
    rw [List.length_append] at hb
    by_cases l : b < ns.length
    · rw [if_pos l] at hj
      exact List.mem_append_left _ (mem_pl S l ij hj)
    · rw [if_neg l] at hj
      refine List.mem_append_right _ (List.mem_map.mpr ⟨_, mem_pl S2 (b := b - ns.length) (by omega) ij hj, ?_⟩)
      unfold shf
      show ((ns.length : Int) + ((b - ns.length : Nat) : Int), (i : Int), (j : Int)) = _
      rw [show (ns.length : Int) + ((b - ns.length : Nat) : Int) = (b : Int) by omega]
  · intro h
    rcases List.mem_append.mp h with h | h
    · obtain ⟨b, i, j, rfl, hb, ij, hj⟩ := pl_mem S h
      exact mem_pl SB (by rw [List.length_append]; omega) ij (by rw [getD_app, if_pos hb]; exact hj)
    · obtain ⟨u, hu, rfl⟩ := List.mem_map.mp h
      obtain ⟨b, i, j, rfl, hb, ij, hj⟩ := pl_mem S2 hu
      have z := mem_pl SB (b := ns.length + b) (i := i) (j := j) (by rw [List.length_append]; omega) ij (by rw [getD_app, if_neg (by omega), show ns.length + b - ns.length = b by omega]; exact hj)
      unfold shf
      rw [show ((ns.length + b : Nat) : Int) = (ns.length : Int) + (b : Int) by omega] at z
      exact z
theorem shf_not {ns : List Int} (S : Shp ns) {ks : List Int} (S2 : Shp ks) {u : Tri} (h : u ∈ pl ks) : shf ns.length u ∉ pl ns := fun m => by
  obtain ⟨b, i, j, e, hb, _, _⟩ := pl_mem S m
  obtain ⟨c, i2, j2, rfl, _, _, _⟩ := pl_mem S2 h
  unfold shf at e
  injection e with e1 _
  have e1 : (ns.length : Int) + (c : Int) = (b : Int) := e1
  omega
theorem sqt_oldD {K : PySem.W.Frag} {H H' : Hp} {a D : Addr} {xs : List V} {ps : List (List L2.Key × V)} (h : SqT K H a xs) (e : H D = some (.dT ps)) (o : Old D H H') : SqT K H' a xs := sqt_ne h fun ob ea k => o a _ (fun z => by
  rw [z, e] at ea
  rcases k with k | ⟨_, k⟩ <;> rw [k] at ea <;> cases ea) ea
theorem old_ne {H H' : Hp} {b D : Addr} {ps : List (List L2.Key × V)} {o : HO} (e : H D = some (.dT ps)) (x : Old D H H') (h : H b = some o) (n : ∀ qs, o ≠ .dT qs) : H' b = some o := x b o (fun z => by
  rw [z, e] at h
  exact n _ (Option.some.inj h).symm) h
section
variable {P : Program} {w : World} {K : PySem.W.Frag} {mg : Str → Option Value} {base : Heap} {C CS CM fM TL : Addr}
end
end K07

/-! # the law: stairs side by side, or the number that the error keeps -/
namespace K07
open PySem PySem.Spec PyProof.Rows L2 TL NumText RZ
section
variable {X : Cx} {CX : CXT} {k : Nat} {f C : Addr} {fd : FuncData} {ps : List Str} {sp : Sp} {E : L2.St → XK} {m : Str} {pos apos : Pos} {e o : Expr} {es : List Expr} {ta : TE} {t : TA}
def tMethW (C : Addr) (m : Str) (sp : Sp) (E : L2.St → XK) (ta : TE) (t : TA) : TE := fun σ H Q => ta σ H fun x H1 => ∃ a dx fs, x = .ref a ∧ H1 a = some (.ins C dx fs) ∧ fs.lookup m = none ∧ t σ H1 fun vs H2 => sp (.ref a :: vs) H2 Q (E σ)
/-- o.m(e, ..) where an error may come -/
theorem pe_methW {pl : Sem Bool} (he : PE X o ta) (c : Cls X.K C) (hm : Meth X.K C m f) (F : FnOk X.prog X.w X.K X.mg X.base CX k f fd ps sp) (hr : Room k X.A) (hb : Binds X.K fd ps []) (hx : ∀ σ, PassesAt CX X σ (E σ)) (ha : PA X (e :: es) t)
    (hst : starEach (e :: es) X.env = (false, eval e X.env) :: starEach es X.env := by rfl) (hpl : (backTo pos (starEach es X.env)).any (·.1) = false := by rfl)
    (ht : eval (.Call (.Attribute o m apos) (e :: es) [] pos) X.env = (do
        let ov ← eval o X.env
        standAt apos.atName
        let (f, first) ← holding [ov] (getMethod ov m pl)
        callWith pos f first (backTo pos (starEach (e :: es) X.env)) (backToKw pos (keywordEach [] X.env))) := by rfl) :
    PE X (.Call (.Attribute o m apos) (e :: es) [] pos) (tMethW C m sp E ta t) := by
  refine ⟨fun pins s σ H Q I h => PySem.W.methodCall_KW (pl := pl) (thn (he.run pins s σ H _ I h) fun u s1 w1 => ?_) ht⟩
  obtain ⟨x, H1, I1, rx, a, dx, fs, rfl, ea, l, q⟩ := w1
  obtain rfl : u = Value.ref a := rx
  refine getmeth_ok I1 ea c hm l (PySem.W.callWith_K (first := [.ref a]) (h₀ := X.base) I.ok.mod.kin hm.kp (thn (ha.run pos pins s1 σ H1 _ I1 q) fun us s2 w2 => ?_) hst hpl)
  obtain ⟨vs, H2, I2, r, q2⟩ := w2
  exact ⟨I2.kIn, run_fnS (us := .ref a :: us) (vs := .ref a :: vs) F hr hb (hx σ) I2 (.cons rfl r) q2⟩
end
theorem stF_none {s p n : V} {m : Str} (h1 : m ≠ "_shape") (h2 : m ≠ "_plan") (h3 : m ≠ "_numbers") : (stF s p n).lookup m = none := by
  unfold stF
  rw [lookup_putF, if_neg h3, lookup_putF, if_neg h2, lookup_putF, if_neg h1]
  rfl
section
variable {P : Program} {w : World} {K : PySem.W.Frag} {mg : Str → Option Value} {base : Heap} {C CS CM fM TL : Addr}
def spLBeside (K : PySem.W.Frag) (C : Addr) : Sp := fun vs H Q _ => ∃ (a b : Addr) (ns ks : List Int) (num num2 : Tri → Int), vs = [.ref a, .ref b] ∧ StairO K H a C ns (numsL num ns) ∧ StairO K H b C ks (numsL num2 ks) ∧ Shp ns ∧ Shp ks ∧
  (Shp (ns ++ ks) → ∀ H' c, Same H H' → StairO K H' c C (ns ++ ks) (numsL (both ns.length num num2) (ns ++ ks)) → Q (.ref c) H') ∧ (¬ Shp (ns ++ ks) → ∀ H', Same H H' → Q (.int 8) H')
end
end K07

/-! # the law: shapes, numbers, shaken places -/
namespace K07
open PySem PySem.Spec PyProof.Rows L2 TL NumText RZ
theorem pe_bmK {X : Cx} {K : PySem.W.Frag} {T id : String} {name : Str} {o e : Expr} {es : List Expr} {to : TE} {t : TA} {apos cpos : Pos} {r : V → List V → Hp → VK → Prop} (h : X.K = K) (pa : PlainAttrs T) (slot : Slot T name id) (hty : typeOf (.builtin id) = pure (.type "method_descriptor")) (hm : MtR X id r) (ho : PE X o to) (ha : PA X (e :: es) t)
    (hbase : attributeBase o name X.env (eval o X.env) = eval o X.env := by rfl)
    (hfew : ((backTo cpos (starEach (e :: es) X.env)).all (fun x => !x.1) && (backToKw cpos (keywordEach [] X.env)).all (fun x => x.1.isSome)
        && decide ((e :: es).length + ([] : List Keyword).length + (if ([] : List Keyword).isEmpty then 0 else 1) < 30)) = true := by rfl)
    (hline : (apos.endLine == cpos.line) = true := by rfl) (hs : starEach (e :: es) X.env = (false, eval e X.env) :: starEach es X.env := by rfl) (hplain : (backTo cpos (starEach es X.env)).any (·.1) = false := by rfl) :
    PE X (.Call (.Attribute o name apos) (e :: es) [] cpos) (tBM K T r to t) := by
  rw [← h]
  exact pe_bm pa slot hty hm ho ha hbase hfew hline hs hplain
theorem urn_off {H : Hp} {u b : Addr} {o : HO} (hu : Urn H u) (e : H b = some o) (n : ∀ g m c : Int, o ≠ .lst [.int g, .int m, .int c]) : b ≠ u := fun z => by
  obtain ⟨g, m, c, eu⟩ := hu
  rw [z, eu] at e
  exact n g m c (Option.some.inj e).symm
theorem StairO.old {K : PySem.W.Frag} {H H' : Hp} {u a C : Addr} {ns ms : List Int} (hu : Urn H u) (o : Old u H H') (h : StairO K H a C ns ms) : StairO K H' a C ns ms := by
  obtain ⟨dx, sh, pln, nm, e1, e2, e3, e4⟩ := h
  exact ⟨dx, sh, pln, nm, o _ _ (urn_off hu e1 fun _ _ _ z => by cases z) e1, sqt_old hu o e2, o _ _ (urn_off hu e3 fun _ _ _ z => by cases z) e3, e4.old hu o⟩
/-- a dict of the numbers at the places -/
def XD (H : Hp) (D : Addr) (ns : List Int) (num : Tri → Int) : Prop := ∃ l : List Tri, l.Perm (pl ns) ∧ H D = some (.dT (dictO l num))
theorem XD.same {H H' : Hp} {D : Addr} {ns : List Int} {num : Tri → Int} (h : XD H D ns num) (s : Same H H') : XD H' D ns num := let ⟨l, p, e⟩ := h; ⟨l, p, s _ _ e⟩
theorem XD.old {H H' : Hp} {u D : Addr} {ns : List Int} {num : Tri → Int} (hu : Urn H u) (o : Old u H H') (h : XD H D ns num) : XD H' D ns num := let ⟨l, p, e⟩ := h; ⟨l, p, o _ _ (urn_off hu e fun _ _ _ z => by cases z) e⟩
theorem XD.hold {H : Hp} {D : Addr} {ns : List Int} {num : Tri → Int} (h : XD H D ns num) : ∃ ps, H D = some (.dT ps) ∧ ∀ t, valV ps (triK t) = if t ∈ pl ns then some (.int (num t)) else none := by
  obtain ⟨l, p, e⟩ := h
  refine ⟨_, e, fun t => ?_⟩
  rw [valV_dictO]
  by_cases m : t ∈ pl ns
  · rw [if_pos m, if_pos (p.mem_iff.mpr m)]
  · rw [if_neg m, if_neg (fun z => m (p.mem_iff.mp z))]
section
variable {P : Program} {w : World} {K : PySem.W.Frag} {mg : Str → Option Value} {base : Heap} {C CS TL : Addr}
abbrev s_lshape : Stmt := topS 50
theorem sc_lshape : FnScope ["_law_pot_here", "_law_some"] ["_law_pot_here"] (defScope s_lshape) := ⟨rfl, rfl, rfl, by decide +kernel, rfl, by decide +kernel, by decide +kernel⟩
def spLShape (K : PySem.W.Frag) : Sp := fun vs H Q _ => ∃ u, vs = [.ref u] ∧ Urn H u ∧ ∀ H' p ns, Old u H H' → Urn H' u → SqT K H' p (ns.map V.int) → Shp ns → Q (.ref p) H'
theorem ok_lshape {f fs : Addr} {fd fds : FuncData} (d : D K mg "_law_shape" s_lshape ["_law_pot_here"] f fd) (ds : D K mg "_law_pick" s_pick ["_law_pot_here", "_law_items"] fs fds) (Gs : FnOk P w K mg base CX0 2 fs fds ["_law_pot_here", "_law_items"] spSome) :
    FnOk P w K mg base CX0 3 f fd ["_law_pot_here"] (spLShape K) := by
  refine d.F.ok sc_lshape (fun vs H Q E h => ?_) (fun cdv A outer s H vs Q E hr h => ?_)
  · obtain ⟨u, rfl, _⟩ := h
    rfl
  · obtain ⟨u, rfl, hu, q⟩ := h
    refine ⟨_, (pss_cons (ps_set (i := 1) sc_lshape.nd rfl (.inl rfl) (pe_lst (pa_cons (pe_tup (pa_cons pe_int pa_nil)) (pa_cons (pe_tup (pa_cons pe_int pa_nil)) (pa_cons (pe_tup (pa_cons pe_int pa_nil)) (pa_cons (pe_tup (pa_cons pe_int pa_nil)) (pa_cons (pe_tup (pa_cons pe_int pa_nil)) (pa_cons (pe_tup (pa_cons pe_int pa_nil)) (pa_cons (pe_tup (pa_cons pe_int pa_nil)) (pa_cons (pe_tup (pa_cons pe_int (pa_cons pe_int pa_nil))) (pa_cons (pe_tup (pa_cons pe_int (pa_cons pe_int pa_nil))) (pa_cons (pe_tup (pa_cons pe_int (pa_cons pe_int pa_nil))) (pa_cons (pe_tup (pa_cons pe_int (pa_cons pe_int pa_nil))) (pa_cons (pe_tup (pa_cons pe_int (pa_cons pe_int pa_nil))) (pa_cons (pe_tup (pa_cons pe_int (pa_cons pe_int pa_nil))) (pa_cons (pe_tup (pa_cons pe_int (pa_cons pe_int (pa_cons pe_int pa_nil)))) (pa_cons (pe_tup (pa_cons pe_int (pa_cons pe_int (pa_cons pe_int pa_nil)))) (pa_cons (pe_tup (pa_cons pe_int (pa_cons pe_int (pa_cons pe_int pa_nil)))) pa_nil))))))))))))))))))
      (pss_one (ps_ret (pe_call Gs (hr.mono (by decide)) (by rfl) ds.g ds.F.kp ds.b .nil pass0 (pa_cons (pv 0) (pa_cons (pv 1) pa_nil)))))), ?_⟩
    have one : ∀ {σ : L2.St} (a : Int), LaysD K σ (tTup (tCons (tC (.int a)) tNil)) (.tuple [.int a]) := fun a => (Lays.tup (.cons (.int a) .nil) (by show 1 ≤ 100; decide)).d
    have two : ∀ {σ : L2.St} (a b : Int), LaysD K σ (tTup (tCons (tC (.int a)) (tCons (tC (.int b)) tNil))) (.tuple [.int a, .int b]) := fun a b => (Lays.tup (.cons (.int a) (.cons (.int b) .nil)) (by show 2 ≤ 100; decide)).d
    have three : ∀ {σ : L2.St} (a b c : Int), LaysD K σ (tTup (tCons (tC (.int a)) (tCons (tC (.int b)) (tCons (tC (.int c)) tNil)))) (.tuple [.int a, .int b, .int c]) := fun a b c => (Lays.tup (.cons (.int a) (.cons (.int b) (.cons (.int c) .nil))) (by show 3 ≤ 100; decide)).d
    unfold tSeq tAsg
    refine lay_lst (K := K) (ds := [.tuple [.int 4], .tuple [.int 4], .tuple [.int 4], .tuple [.int 5], .tuple [.int 6], .tuple [.int 3], .tuple [.int 2], .tuple [.int 2, .int 3], .tuple [.int 3, .int 2], .tuple [.int 3, .int 3], .tuple [.int 2, .int 4], .tuple [.int 4, .int 3], .tuple [.int 6, .int 2], .tuple [.int 2, .int 2, .int 2], .tuple [.int 3, .int 2, .int 3], .tuple [.int 2, .int 4, .int 2]]) ?_ (show 16 ≤ 100 by decide) fun xs H1 b s1 nb dl => ?_
    · exact .cons (one 4) (.cons (one 4) (.cons (one 4) (.cons (one 5) (.cons (one 6) (.cons (one 3) (.cons (one 2) (.cons (two 2 3) (.cons (two 3 2) (.cons (two 3 3) (.cons (two 2 4) (.cons (two 4 3) (.cons (two 6 2) (.cons (three 2 2 2) (.cons (three 3 2 3) (.cons (three 2 4 2) .nil)))))))))))))))
    have ln := dl.len
    have ln : xs.length = 16 := ln
    have hub := (hu.same s1).same (sub_same (o := .lst xs) nb)
    have nbu : b ≠ u := urn_ne (hu.same s1) nb
    refine ⟨_, rfl, _, rfl, u, b, xs, rfl, hub, upd_same, nbu, (fun z => by rw [z] at ln; cases ln), by omega, fun i x H' ex hu' bt => ?_⟩
    obtain ⟨d0, md, dw⟩ := (dl.same (sub_same (o := .lst xs) nb)).get ex
    have sh : isSh d0 = true := by
      have all : ∀ d ∈ ([.tuple [.int 4], .tuple [.int 4], .tuple [.int 4], .tuple [.int 5], .tuple [.int 6], .tuple [.int 3], .tuple [.int 2], .tuple [.int 2, .int 3], .tuple [.int 3, .int 2], .tuple [.int 3, .int 3], .tuple [.int 2, .int 4], .tuple [.int 4, .int 3], .tuple [.int 6, .int 2], .tuple [.int 2, .int 2, .int 2], .tuple [.int 3, .int 2, .int 3], .tuple [.int 2, .int 4, .int 2]] : List PyData), isSh d = true := by decide +kernel
      exact all d0 md
    obtain ⟨ns, rfl, S⟩ := shp_of sh
    obtain ⟨p, rfl, ep⟩ : ∃ p, x = .ref p ∧ SqT K (upd H1 b (.lst xs)) p (ns.map V.int) := by
      cases dw with
      | tv t => cases t with
        | tup e l => exact ⟨_, rfl, l.ints ▸ e⟩
    have oo : Old u H (upd H1 b (.lst xs)) := Old.of_same (s1.trans (sub_same nb))
    exact q H' p ns (oo.trans (Old.of_but bt)) hu' (sqt_old hub (Old.of_but bt) ep) S
abbrev s_lnum : Stmt := topS 52
theorem sc_lnum : FnScope ["_law_pot_here", "_law_way"] ["_law_pot_here"] (defScope s_lnum) := ⟨rfl, rfl, rfl, by decide +kernel, rfl, by decide +kernel, by decide +kernel⟩
def spLNum : Sp := fun vs H Q _ => ∃ u, vs = [.ref u] ∧ Urn H u ∧ ∀ H' n, Old u H H' → Urn H' u → Sm n → Q (.int n) H'
theorem ok_lnum {f ft fs : Addr} {fd fdt fds : FuncData} (d : D K mg "_law_number" s_lnum ["_law_pot_here"] f fd) (dt : D K mg "_law_dip" s_dip ["_law_pot_here", "_law_total"] ft fdt) (Gt : FnOk P w K mg base CX0 1 ft fdt ["_law_pot_here", "_law_total"] spTake)
    (ds : D K mg "_law_pick" s_pick ["_law_pot_here", "_law_items"] fs fds) (Gs : FnOk P w K mg base CX0 2 fs fds ["_law_pot_here", "_law_items"] spSome) : FnOk P w K mg base CX0 3 f fd ["_law_pot_here"] spLNum := by
  refine d.F.ok sc_lnum (fun vs H Q E h => ?_) (fun cdv A outer s H vs Q E hr h => ?_)
  · obtain ⟨u, rfl, _⟩ := h
    rfl
  · obtain ⟨u, rfl, hu, q⟩ := h
    refine ⟨_, (pss_cons (ps_set (i := 1) sc_lnum.nd rfl (.inl rfl) (pe_call Gt (hr.mono (by decide)) (by rfl) dt.g dt.F.kp dt.b .nil pass0 (pa_cons (pv 0) (pa_cons pe_int pa_nil))))
      (pss_cons (ps_if (pt_cmpR op_eq (pv 1) pe_int (nomark _)) (pss_one (ps_ret (pe_call Gs (hr.mono (by decide)) (by rfl) ds.g ds.F.kp ds.b .nil pass0 (pa_cons (pv 0) (pa_cons (pe_lst (pa_cons (pe_op op_sub (pe_op op_powW pe_int pe_int) pe_int) (pa_cons (pe_op op_sub pe_int (pe_op op_powW pe_int pe_int)) (pa_cons (pe_op op_add (pe_op op_powW pe_int pe_int) pe_int) (pa_cons (pe_un un_neg (pe_op op_powW pe_int pe_int)) (pa_cons (pe_op op_powW pe_int pe_int) pa_nil)))))) pa_nil))))) pss_nil)
      (pss_one (ps_ret (pe_ifExp (pt_cmpR op_gt (pv 1) pe_int (nomark _)) (pe_op op_sub (pe_call Gt (hr.mono (by decide)) (by rfl) dt.g dt.F.kp dt.b .nil pass0 (pa_cons (pv 0) (pa_cons pe_int pa_nil))) pe_int) pe_int))))), ?_⟩
    refine ⟨_, rfl, u, _, rfl, hu, by decide, by decide +kernel, fun v H1 v0 v1 hu1 bt1 => ?_⟩
    have o1 : Old u H H1 := Old.of_but bt1
    refine ⟨_, rfl, rfl, _, rfl, ite2 (fun _ => ?_) (fun _ => ?_)⟩
    · have pw : ∀ {a b : Int}, 0 ≤ b → b ≤ 100 → (Builtin.Int.intBits a : Int) ≤ 100 → CPowW a b := fun {a b} b0 b1 h => ⟨b0, Int.le_trans (Int.mul_le_mul h b1 b0 (by decide)) (by decide)⟩
      refine ⟨_, rfl, lay_lst (K := K) (ds := [.int (10 ^ 60 - 1), .int (1 - 10 ^ 60), .int (10 ^ 30 + 7), .int (-(2 ^ 64)), .int (10 ^ 9)]) ?_ (show 5 ≤ 100 by decide) fun xs H2 b s2 nb dl => ?_⟩
      · refine .cons (fun Z R k => ⟨_, _, rfl, rfl, pw (by decide) (by decide) (by decide +kernel), _, _, rfl, rfl, k _ _ (Same.refl Z) (.tv (.int _))⟩) ?_
        refine .cons (fun Z R k => ⟨_, _, rfl, rfl, pw (by decide) (by decide) (by decide +kernel), _, _, rfl, rfl, k _ _ (Same.refl Z) (.tv (.int _))⟩) ?_
        refine .cons (fun Z R k => ⟨_, _, rfl, rfl, pw (by decide) (by decide) (by decide +kernel), _, _, rfl, rfl, k _ _ (Same.refl Z) (.tv (.int _))⟩) ?_
        refine .cons (fun Z R k => ⟨_, _, rfl, rfl, pw (by decide) (by decide) (by decide +kernel), _, rfl, k _ _ (Same.refl Z) (.tv (.int _))⟩) ?_
        exact .cons (fun Z R k => ⟨_, _, rfl, rfl, pw (by decide) (by decide) (by decide +kernel), k _ _ (Same.refl Z) (.tv (.int _))⟩) .nil
      have ln : xs.length = 5 := dl.len
      have hu2 := hu1.same s2
      refine ⟨u, b, xs, rfl, hu2.same (sub_same nb), upd_same, urn_ne hu2 nb, (fun z => by rw [z] at ln; cases ln), by omega, fun i x H' ex hu' bt => ?_⟩
      obtain ⟨d0, md, dw⟩ := (dl.same (sub_same (o := .lst xs) nb)).get ex
      have all : ∀ d ∈ ([.int (10 ^ 60 - 1), .int (1 - 10 ^ 60), .int (10 ^ 30 + 7), .int (-(2 ^ 64)), .int (10 ^ 9)] : List PyData), ∃ n, d = .int n ∧ Sm n := fun d m => by
        simp only [List.mem_cons, List.not_mem_nil, or_false] at m
        rcases m with rfl | rfl | rfl | rfl | rfl
        all_goals exact ⟨_, rfl, by decide, by decide⟩
      obtain ⟨n, rfl, sm⟩ := all d0 md
      obtain rfl : x = .int n := by
        cases dw with
        | tv t => cases t; rfl
      exact q H' n ((o1.trans (Old.of_same (s2.trans (sub_same nb)))).trans (Old.of_but bt)) hu' sm
    · refine ⟨_, rfl, _, _, rfl, rfl, _, rfl, ite2 (fun _ => ?_) (fun _ => ?_)⟩
      · refine ⟨_, rfl, u, _, rfl, hu1, by decide, by decide +kernel, fun v2 H2 w0 w1 hu2 bt2 => ?_⟩
        exact ⟨_, _, rfl, rfl, q H2 _ (o1.trans (Old.of_but bt2)) hu2 ⟨by omega, by omega⟩⟩
      · exact q H1 0 o1 hu1 ⟨by decide, by decide⟩
abbrev s_shak : Stmt := topS 49
theorem sc_shak : FnScope ["_law_pot_here", "_law_items", "_law_left", "_law_turn"] ["_law_pot_here", "_law_items"] (defScope s_shak) := ⟨rfl, rfl, rfl, by decide +kernel, rfl, by decide +kernel, by decide +kernel⟩
def spShak (K : PySem.W.Frag) : Sp := fun vs H Q _ => ∃ (u a : Addr) (xs : List V), vs = [.ref u, .ref a] ∧ Urn H u ∧ H a = some (.lst xs) ∧ a ≠ u ∧ xs.length ≤ 6100 ∧ ∀ H' p ys, Old u H H' → Urn H' u → H p = none → H' p = some (.lst ys) → ys.Perm xs → Q (.ref p) H'
theorem ok_shak {f ft : Addr} {fd fdt : FuncData} (T : Txt mg) (N : Nam mg) (d : D K mg "_law_shaken" s_shak ["_law_pot_here", "_law_items"] f fd) (dt : D K mg "_law_dip" s_dip ["_law_pot_here", "_law_total"] ft fdt) (Gt : FnOk P w K mg base CX0 1 ft fdt ["_law_pot_here", "_law_total"] spTake) :
    FnOk P w K mg base CX0 3 f fd ["_law_pot_here", "_law_items"] (spShak K) := by
  refine d.F.ok sc_shak (fun vs H Q E h => ?_) (fun cdv A outer s H vs Q E hr h => ?_)
  · obtain ⟨u, a, xs, rfl, _⟩ := h
    rfl
  · obtain ⟨u, a, xs, rfl, hu, ha, au, l100, q⟩ := h
    refine ⟨_, (pss_cons (ps_set (i := 2) sc_shak.nd rfl (.inr rfl) (pe_callTy call_list_of (by rfl) N.n_list (by decide +kernel) (pa_cons (pv 1) pa_nil)))
      (pss_one (ps_ret (pe_lc (own := [("_law_turn", 3)]) (g := gName 3) (tt := tYes) rfl sc_shak.nd (pi_range1 (by rfl) T.n_range (pa_cons (pe_callB call_len_seq (by rfl) T.n_len PySem.boot_len (pa_cons (pv 1) pa_nil)) pa_nil)) (blkOk_by (own := [("_law_turn", 3)]) (N := ["_law_pot_here", "_law_items", "_law_left", "_law_turn"]) (sc := defScope s_shak) (by decide +kernel))
            (fun _ _ _ _ _ => (pg_name (i := 3) sc_shak.nd rfl (Or.inl rfl))) (fun _ _ _ _ _ => pts_nil) (fun _ _ _ _ _ => (pe_bmK (K := K) rfl PySem.F.plainAttrs_list PySem.F.slot_list_pop PySem.F.type_list_pop mt_popAt (pv 2) (pa_cons (pe_call Gt (hr.mono (by decide)) (by rfl) dt.g dt.F.kp dt.b .nil pass0 (pa_cons (pv 0) (pa_cons (pe_callB (call_len_seqK (K := K) rfl) (by rfl) T.n_len PySem.boot_len (pa_cons (pv 2) pa_nil)) pa_nil))) pa_nil))))))), ?_⟩
    refine ⟨_, rfl, a, xs, rfl, .inl (.inl (.inl ha)), fun D nD => ?_⟩
    have s1 := sub_same (o := .lst xs) nD
    have hu1 := hu.same s1
    have hD : upd H D (.lst xs) D = some (.lst xs) := upd_same
    have Du : D ≠ u := urn_ne hu nD
    revert s1 hu1 hD
    generalize upd H D (.lst xs) = H1
    intro s1 hu1 hD
    refine ⟨_, rfl, a, xs, rfl, .inl (.inl (.inl (s1 _ _ ha))), xs.length, rfl, by omega, by omega, fun L nL => ?_⟩
    have Lu : L ≠ u := urn_ne hu1 nL
    have LD : L ≠ D := fun z => by rw [z, hD] at nL; cases nL
    rw [Int.toNat_natCast]
    refine lc_range (lo := 0) (n := xs.length) (fun i Z => Old u H Z ∧ Urn Z u ∧ ∃ ls ys, Z D = some (.lst ls) ∧ Z L = some (.lst ys) ∧ (ys ++ ls).Perm xs ∧ ys.length = i)
      ⟨Old.of_same (s1.trans (sub_same nL)), hu1.same (sub_same nL), xs, [], sub_same nL _ _ hD, upd_same, List.Perm.refl _, rfl⟩ ?_ ?_
    · rintro i Z hi ⟨oz, uz, ls, ys, hd, hl, pm, ly⟩
      have lp := pm.length_eq
      rw [List.length_append] at lp
      refine ⟨rfl, yesT ?_⟩
      refine ⟨_, rfl, .inl ⟨rfl, _, .inl (.inl hd)⟩, _, rfl, _, rfl, D, ls, rfl, .inl (.inl (.inl hd)), u, _, rfl, uz, by omega, ?_, fun v Z2 v0 v1 uz2 bt => ?_⟩
      · have e : ((ls.length : Int)).natAbs = ls.length := Int.natAbs_natCast _
        rw [e]
        exact Nat.lt_of_le_of_lt (Nat.log2_le_self _) (by omega)
      obtain ⟨j, rfl⟩ : ∃ j : Nat, v = (j : Int) := ⟨v.toNat, by omega⟩
      have jl : j < ls.length := by omega
      have hd2 : Z2 D = some (.lst ls) := (bt D Du).trans hd
      have hl2 : Z2 L = some (.lst ys) := (bt L Lu).trans hl
      have sx : seqIndex? (j : Int) ls.length = some j := by
        have z := PySem.StrLaws.seqIndex_nonneg (i := (j : Int)) (n := ls.length) (by omega) (by omega)
        rw [Int.toNat_natCast] at z
        exact z
      refine ⟨D, ls, (j : Int), j, ls[j], rfl, rfl, hd2, by omega, by omega, sx, List.getElem?_eq_getElem jl, ?_⟩
      refine ⟨ys, (upd_ne LD).trans hl2, ?_, fun b o nb e => ?_, ?_, ls.eraseIdx j, ys ++ [ls[j]], ?_, upd_same, ?_, by rw [List.length_append, ly]; rfl⟩
      · rw [sizeLine_eq]
        omega
      · have bL : b ≠ L := fun z => by
          rw [z, s1.free nL] at e
          cases e
        have bD : b ≠ D := fun z => by
          rw [z, nD] at e
          cases e
        rw [upd_ne bL, upd_ne bD]
        exact (bt b nb).trans (oz b o nb e)
      · obtain ⟨g, m, c, eu⟩ := uz2
        exact ⟨g, m, c, (upd_ne (Ne.symm Lu)).trans ((upd_ne (Ne.symm Du)).trans eu)⟩
      · rw [upd_ne (Ne.symm LD)]
        exact upd_same
      · have e := erase_perm ls j ls[j] (List.getElem?_eq_getElem jl)
        have z : ((ys ++ [ls[j]]) ++ ls.eraseIdx j).Perm (ys ++ ls) := by
          rw [List.append_assoc]
          exact List.Perm.append_left _ e
        exact z.trans pm
    · rintro Z ⟨oz, uz, ls, ys, hd, hl, pm, ly⟩
      have lp := pm.length_eq
      rw [List.length_append] at lp
      have l0 : ls = [] := List.length_eq_zero_iff.mp (by omega)
      rw [l0, List.append_nil] at pm
      exact q Z L ys oz uz (s1.free nL) hl pm
end
end K07

/-! # the law: entries, texts -/
namespace K07
open PySem PySem.Spec PyProof.Rows L2 TL NumText RZ
/-- the numbers of a list, as a function -/
def asF (l : List Tri) (ms : List Int) : Tri → Int := fun t => ms.getD (l.idxOf t) 0
theorem asF_map {l : List Tri} (n : l.Nodup) {ms : List Int} (e : ms.length = l.length) : l.map (asF l ms) = ms := by
  refine List.ext_getElem (by rw [List.length_map, e]) fun i h1 h2 => ?_
  rw [List.getElem_map]
  unfold asF
  have il : i < l.length := by rw [← e]; exact h2
  rw [idx_of n (List.getElem?_eq_getElem il), List.getD_eq_getElem?_getD, List.getElem?_eq_getElem h2]
  rfl
theorem PrT.same {H H' : Hp} {t : Addr} {p : List L2.Key × V} (h : PrT H t p) (s : Same H H') : PrT H' t p := let ⟨q, a, b⟩ := h; ⟨q, s _ _ a, s _ _ b⟩
theorem PrT.old {H H' : Hp} {u t : Addr} {p : List L2.Key × V} (hu : Urn H u) (o : Old u H H') (h : PrT H t p) : PrT H' t p := let ⟨q, a, b⟩ := h; ⟨q, o _ _ (urn_off hu a fun _ _ _ z => by cases z) a, o _ _ (urn_off hu b fun _ _ _ z => by cases z) b⟩
theorem PrT.put {H : Hp} {t L : Addr} {p : List L2.Key × V} {xs ys : List V} (h : PrT H t p) (e : H L = some (.lst xs)) : PrT (upd H L (.lst ys)) t p := let ⟨q, a, b⟩ := h; ⟨q, (upd_ne fun z => by rw [z, e] at a; cases a).trans a, (upd_ne fun z => by rw [z, e] at b; cases b).trans b⟩
section
variable {P : Program} {w : World} {K : PySem.W.Frag} {mg : Str → Option Value} {base : Heap} {C CS TL : Addr}
abbrev s_lent : Stmt := topS 53
theorem sc_lent : FnScope ["_law_pot_here", "_law_shape_here", "_law_place"] ["_law_pot_here", "_law_shape_here"] (defScope s_lent) := ⟨rfl, rfl, rfl, by decide +kernel, rfl, by decide +kernel, by decide +kernel⟩
def spLEnt (K : PySem.W.Frag) : Sp := fun vs H Q _ => ∃ (u sh : Addr) (ns : List Int), vs = [.ref u, .ref sh] ∧ Urn H u ∧ SqT K H sh (ns.map V.int) ∧ Shp ns ∧ ∀ H' D num, Old u H H' → Urn H' u → H D = none → XD H' D ns num → SmN num ns → Q (.ref D) H'
theorem ok_lent {f f1 f2 : Addr} {fd fd1 fd2 : FuncData} (T : Txt mg) (N : Nam mg) (d : D K mg "_law_entries" s_lent ["_law_pot_here", "_law_shape_here"] f fd) (d1 : D K mg "_law_places" s_lplaces ["_law_shape_here"] f1 fd1) (G1 : FnOk P w K mg base CX0 1 f1 fd1 ["_law_shape_here"] (spLPlaces K))
    (d2 : D K mg "_law_number" s_lnum ["_law_pot_here"] f2 fd2) (G2 : FnOk P w K mg base CX0 3 f2 fd2 ["_law_pot_here"] spLNum) : FnOk P w K mg base CX0 4 f fd ["_law_pot_here", "_law_shape_here"] (spLEnt K) := by
  refine d.F.ok sc_lent (fun vs H Q E h => ?_) (fun cdv A outer s H vs Q E hr h => ?_)
  · obtain ⟨u, sh, ns, rfl, _⟩ := h
    rfl
  · obtain ⟨u, sh, ns, rfl, hu, es, S, q⟩ := h
    have un2 : (A.deeper (envOfC "_law_entries" (defScope s_lent) s.heap.objs.size f cdv)).units + 2 < cLine := by have := hr.un; omega
    refine ⟨_, (pss_one (ps_ret (pe_callTy (call_dictTup rfl un2) (by rfl) N.n_dict (by decide +kernel) (pa_cons (pe_lc (own := [("_law_place", 2)]) (g := gName 2) (tt := tYes) rfl sc_lent.nd (pi_list (pe_call G1 (hr.mono (by decide)) (by rfl) d1.g d1.F.kp d1.b .nil pass0 (pa_cons (pv 1) pa_nil))) (blkOk_by (own := [("_law_place", 2)]) (N := ["_law_pot_here", "_law_shape_here", "_law_place"]) (sc := defScope s_lent) (by decide +kernel))
            (fun _ _ _ _ _ => (pg_name (i := 2) sc_lent.nd rfl (Or.inl rfl))) (fun _ _ _ _ _ => pts_nil) (fun _ _ _ _ _ => (pe_tup (pa_cons (pv 2) (pa_cons (pe_call G2 (hr.mono (by decide)) (by rfl) d2.g d2.F.kp d2.b .nil pass0 (pa_cons (pv 0) pa_nil)) pa_nil))))) pa_nil)))), ?_⟩
    have M := tables3 ns (shp_mem S)
    refine ⟨_, rfl, sh, ns, rfl, es, S, fun H1 p xs s1 np ep tl => ?_⟩
    have hu1 := hu.same s1
    have lx : xs.length = (pl ns).length := tl.len
    refine ⟨p, rfl, ⟨_, .inl (.inl ep)⟩, fun L nL => ?_⟩
    have pu : p ≠ u := urn_ne hu np
    have Lu : L ≠ u := urn_ne hu1 nL
    refine lc_list (K := K) (a := p) (xs := xs) (fun i Z => Old u H1 Z ∧ Urn Z u ∧ ∃ (ts : List Addr) (ms : List Int), Z L = some (.lst (ts.map V.ref)) ∧ ms.length = i ∧ ts.length = i ∧ (∀ m ∈ ms, Sm m) ∧ Paired (PrT Z) ts ((((pl ns).take i).map triK).zip (ms.map V.int)))
      ⟨Old.of_same (sub_same nL), hu1.same (sub_same nL), [], [], upd_same, rfl, rfl, (fun m h => by cases h), .nil⟩ (fun i Z _ h => .inl (.inl (h.1 _ _ pu ep))) ?_ ?_
    · rintro i x Z hx ⟨oz, uz, ts, ms, hl, lm, lt, sm, pr⟩
      obtain ⟨t, c, et, rfl, ec⟩ := tl.tri hx
      have il := (List.getElem?_eq_some_iff.mp et).1
      refine ⟨rfl, yesT ?_⟩
      refine ⟨_, rfl, _, rfl, u, rfl, uz, fun Z2 n oz2 uz2 smn => ?_⟩
      have hl2 : Z2 L = some (.lst (ts.map V.ref)) := oz2 _ _ Lu hl
      have cu : c ≠ u := urn_off hu1 ec fun _ _ _ z => by cases z
      have ec2 : Z2 c = some (.tup (triV t)) := oz2 _ _ cu (oz _ _ cu ec)
      refine ⟨(by show 2 ≤ sizeLine; decide), fun r nr => ?_⟩
      have s3 := sub_same (o := .tup [V.ref c, V.int n]) nr
      have zip1 : (((pl ns).take (i + 1)).map triK).zip ((ms ++ [n]).map V.int) = (((pl ns).take i).map triK).zip (ms.map V.int) ++ [(triK t, V.int n)] := by
        rw [List.take_succ, et, List.map_append, List.map_append, List.zip_append (by rw [List.length_map, List.length_map, List.length_take, lm]; omega)]
        rfl
      refine ⟨ts.map V.ref, s3 _ _ hl2, ?_, fun b o nb e => ?_, ?_, ts ++ [r], ms ++ [n], ?_, by rw [List.length_append, lm]; rfl, by rw [List.length_append, lt]; rfl, fun m hm => ?_, ?_⟩
      · rw [List.length_map, sizeLine_eq]
        omega
      · rw [upd_ne (fun z => by rw [z, nL] at e; cases e)]
        exact s3 _ _ (oz2 _ _ nb (oz b o nb e))
      · have z := uz2.same s3
        obtain ⟨g, m, c', eu⟩ := z
        exact ⟨g, m, c', (upd_ne (Ne.symm Lu)).trans eu⟩
      · rw [upd_same, List.map_append]
        rfl
      · rcases List.mem_append.mp hm with hm | hm
        · exact sm m hm
        · rw [List.mem_singleton.mp hm]
          exact smn
      · rw [zip1]
        have new : PrT (upd Z2 r (.tup [V.ref c, V.int n])) r (triK t, V.int n) := ⟨c, upd_same, s3 _ _ ec2⟩
        exact psnoc (new.put (s3 _ _ hl2)) (pmap (fun _ _ h => ((h.old uz oz2).same s3).put (s3 _ _ hl2)) pr)
    · rintro Z ⟨oz, uz, ts, ms, hl, lm, lt, sm, pr⟩
      rw [lx, List.take_length] at pr
      have e := asF_map M.1 (lm.trans lx)
      have zd : ((pl ns).map triK).zip (ms.map V.int) = dictO (pl ns) (asF (pl ns) ms) := by
        rw [← zip_dictO, e]
      rw [zd] at pr
      refine ⟨L, ts, _, rfl, .inl (.inl hl), pr, fun D nD => ?_⟩
      rw [put_dictO M.1]
      have s4 := sub_same (o := .dT (dictO (pl ns) (asF (pl ns) ms))) nD
      have nDH : H D = none := by
        cases z : H D with
        | none => rfl
        | some o =>
          have Du : D ≠ u := urn_ne uz nD
          have y := oz _ _ Du (s1 _ _ z)
          rw [nD] at y
          cases y
      refine q _ D (asF (pl ns) ms) (((Old.of_same s1).trans oz).trans (Old.of_same s4)) (uz.same s4) nDH ⟨pl ns, List.Perm.refl _, upd_same⟩ fun t m => ?_
      have : asF (pl ns) ms t ∈ (pl ns).map (asF (pl ns) ms) := List.mem_map.mpr ⟨t, m, rfl⟩
      rw [e] at this
      exact sm _ this
abbrev s_ltext : Stmt := topS 54
theorem sc_ltext : FnScope ["_law_shape_here", "_law_x", "_law_found", "_law_block_here", "_law_size", "_law_rows", "_law_row", "_law_column"] ["_law_shape_here", "_law_x"] (defScope s_ltext) := ⟨rfl, rfl, rfl, by decide +kernel, rfl, by decide +kernel, by decide +kernel⟩
def spLText (K : PySem.W.Frag) : Sp := fun vs H Q _ => ∃ (sh D : Addr) (ns : List Int) (num : Tri → Int), vs = [.ref sh, .ref D] ∧ SqT K H sh (ns.map V.int) ∧ XD H D ns num ∧ Shp ns ∧ LoN num ns ∧ ∀ H', Same H H' → Q (.str (stairS num ns)) H'
theorem ok_ltext {f : Addr} {fd : FuncData} {k : Nat} (T : Txt mg) (N : Nam mg) (d : D K mg "_law_text" s_ltext ["_law_shape_here", "_law_x"] f fd) : FnOk P w K mg base CX0 (k + 1) f fd ["_law_shape_here", "_law_x"] (spLText K) := by
  refine d.F.ok sc_ltext (fun vs H Q E h => ?_) (fun cdv A outer s H vs Q E hr h => ?_)
  · obtain ⟨sh, D, ns, num, rfl, _⟩ := h
    rfl
  · obtain ⟨sh, Dx, ns, num, rfl, es, xd, S, lo, q⟩ := h
    have un : (A.deeper (envOfC "_law_text" (defScope s_ltext) s.heap.objs.size f cdv)).units + 1 < cLine := by have := hr.un; omega
    refine ⟨_, (pss_cons (ps_set (i := 2) sc_ltext.nd rfl (.inl rfl) (pe_lst pa_nil))
      (pss_cons (ps_for PassesOwn.never rfl (pi_enumT (by rfl) N.n_enumerate (pa_cons (pv 0) pa_nil)) (pg_tup rfl (pgs_cons (pg_name (i := 3) sc_ltext.nd rfl (.inr rfl)) (pgs_cons (pg_name (i := 4) sc_ltext.nd rfl (.inl rfl)) pgs_nil)))
        (pss_cons (ps_set (i := 5) sc_ltext.nd rfl (.inl rfl) (pe_lst pa_nil))
      (pss_cons (ps_for PassesOwn.never rfl (pi_range1 (by rfl) T.n_range (pa_cons (pe_op op_sub (pv 4) pe_int) pa_nil)) (pg_name (i := 6) sc_ltext.nd rfl (.inr rfl))
        (pss_one (ps_expr (pe_bm PySem.F.plainAttrs_list PySem.F.slot_list_append PySem.F.type_list_append mt_append (pv 5) (pa_cons (pe_join pe_str (pe_lc (own := [("_law_column", 7)]) (g := gName 7) (tt := tYes) rfl sc_ltext.nd (pi_range2 (by rfl) T.n_range (pa_cons (pe_op op_add (pv 6) pe_int) (pa_cons (pv 4) pa_nil))) (blkOk_by (own := [("_law_column", 7)]) (N := ["_law_shape_here", "_law_x", "_law_found", "_law_block_here", "_law_size", "_law_rows", "_law_row", "_law_column"]) (sc := defScope s_ltext) (by decide +kernel))
            (fun _ _ _ _ _ => (pg_name (i := 7) sc_ltext.nd rfl (Or.inl rfl))) (fun _ _ _ _ _ => pts_nil) (fun _ _ _ _ _ => (pe_callTy call_str_int (by rfl) N.n_str (by decide +kernel) (pa_cons (pe_dget un (pv 1) (pe_tup (pa_cons (pv 3) (pa_cons (pv 6) (pa_cons (pv 7) pa_nil)))) (fun _ _ => rfl)) pa_nil))))) pa_nil)))))
      (pss_one (ps_expr (pe_bm PySem.F.plainAttrs_list PySem.F.slot_list_append PySem.F.type_list_append mt_append (pv 2) (pa_cons (pe_join pe_str (pv 5)) pa_nil)))))))
      (pss_one (ps_ret (pe_join pe_str (pv 2)))))), ?_⟩
    obtain ⟨ps, ex, hold⟩ := xd.hold
    have b3 := S.1.2
    refine ⟨(by show 0 ≤ sizeLine; decide), fun D nD => ?_⟩
    refine ⟨_, rfl, sh, _, rfl, sqt_same es (sub_same nD), ?_⟩
    refine for_it (walk_enumT (K := K) (a := sh) (xs := ns.map V.int)) (fun i σ Y => (∃ y3 y4 y5 y6, σ = [some (.ref sh), some (.ref Dx), some (.ref D), y3, y4, y5, y6, none]) ∧ Same H Y ∧ Y D = some (.lst (((List.range i).map fun (b : Nat) => blkS num (b : Int) (ns.getD b 0).toNat).map V.str)))
      ⟨⟨_, _, _, _, rfl⟩, sub_same nD, upd_same⟩ (fun i σ Y _ h => sqt_same es h.2.1) ?_ ?_
    · rintro i v σ Y Y' hi ⟨⟨y3, y4, y5, y6, rfl⟩, sy, hd⟩ ⟨Tp, x0, y0, rfl, nT, rfl, ex0, ey⟩
      obtain rfl := Option.some.inj ex0
      obtain ⟨z, ez, rfl⟩ := int_at ey
      have z6 := S.2.1 z (List.mem_of_getElem? ez)
      obtain ⟨zn, rfl⟩ : ∃ k : Nat, z = (k : Int) := ⟨z.toNat, by omega⟩
      have il := (List.getElem?_eq_some_iff.mp ez).1
      have gd : ns.getD i 0 = (zn : Int) := by rw [List.getD_eq_getElem?_getD, ez]; rfl
      have s2 := sub_same (o := .tup [V.int (i : Nat), V.int (zn : Int)]) nT
      have hd2 := s2 _ _ hd
      have sy2 := sy.trans s2
      have hT : upd Y Tp (.tup [V.int (i : Nat), V.int (zn : Int)]) Tp = some (.tup [V.int (i : Nat), V.int (zn : Int)]) := upd_same
      revert hd2 sy2 hT
      generalize upd Y Tp (.tup [V.int (i : Nat), V.int (zn : Int)]) = Y2
      intro hd2 sy2 hT
      refine ⟨Tp, _, rfl, .inl (.inl hT), rfl, _, _, rfl, _, _, rfl, rfl, ?_⟩
      refine ⟨(by show 0 ≤ sizeLine; decide), fun R nR => ?_⟩
      have RD : R ≠ D := fun z => by rw [z, hd2] at nR; cases nR
      have nRH : H R = none := sy2.free nR
      refine ⟨_, rfl, _, _, rfl, rfl, _, rfl, by omega, by omega, ?_⟩
      have e1 : (((zn : Nat) : Int) - 1).toNat = zn - 1 := by omega
      rw [e1]
      refine for_range (lo := 0) (n := zn - 1) (fun r σ Z => (∃ y6, σ = [some (.ref sh), some (.ref Dx), some (.ref D), some (.int (i : Nat)), some (.int (zn : Int)), some (.ref R), y6, none]) ∧ Same H Z ∧ Z D = some (.lst (((List.range i).map fun (b : Nat) => blkS num (b : Int) (ns.getD b 0).toNat).map V.str)) ∧ Z R = some (.lst (((List.range r).map fun (r : Nat) => rowS num (i : Int) (r : Int) (zn - 1 - r)).map V.str)))
        ⟨⟨_, rfl⟩, sy2.trans (sub_same nR), sub_same nR _ _ hd2, upd_same⟩ ?_ ?_
      · rintro r σ Z hr2 ⟨⟨y6, rfl⟩, sz, hdz, hrz⟩
        have lor := lo_rows S lo il (i := r)
        rw [gd, Int.toNat_natCast] at lor
        refine ⟨_, rfl, .inl ⟨rfl, _, .inl (.inl hrz)⟩, ⟨_, rfl⟩, ?_⟩
        rw [Int.zero_add]
        refine ⟨_, rfl, _, _, rfl, rfl, _, rfl, (r : Int) + 1, (zn : Int), rfl, ⟨by omega, by omega, by omega, by omega⟩, fun L nL => ?_⟩
        have e2 : ((zn : Int) - ((r : Int) + 1)).toNat = zn - 1 - r := by omega
        rw [e2]
        refine lc_range (lo := (r : Int) + 1) (n := zn - 1 - r) (fun c U => Same Z U ∧ U L = some (.lst (((rowNs num (i : Int) (r : Int) (zn - 1 - r)).take c).map fun x => V.str (intS x)))) ⟨sub_same nL, upd_same⟩ ?_ ?_
        · rintro c U hc ⟨su, hl⟩
          have mt := mem_pl S (b := i) (i := r) (j := r + 1 + c) il (by omega) (by rw [gd]; omega)
          have en : (rowNs num (i : Int) (r : Int) (zn - 1 - r))[c]? = some (num ((i : Int), (r : Int), (r : Int) + 1 + (c : Int))) := by
            unfold rowNs
            rw [List.getElem?_map, List.getElem?_range hc]
            rfl
          have hv := hold (((i : Nat) : Int), ((r : Nat) : Int), ((r + 1 + c : Nat) : Int))
          rw [if_pos mt, show ((r + 1 + c : Nat) : Int) = (r : Int) + 1 + (c : Int) by omega] at hv
          refine ⟨rfl, yesT ⟨_, rfl, _, rfl, _, rfl, _, rfl, (by show 3 ≤ sizeLine; decide), fun p3 n3 => ⟨Dx, _, rfl, ?_, num ((i : Int), (r : Int), (r : Int) + 1 + (c : Int)), rfl, lo_log (lor _ (List.mem_of_getElem? en)), ?_⟩⟩⟩
          · rw [← hv]
            exact DGet.t (k := triK ((i : Int), (r : Int), (r : Int) + 1 + (c : Int))) (sub_same n3 _ _ (su _ _ (sz _ _ ex))) upd_same
          · have s3 := sub_same (o := .tup [V.int (i : Nat), V.int (r : Int), V.int ((r : Int) + 1 + (c : Int))]) n3
            refine ⟨_, s3 _ _ hl, ?_, fun b o e => ?_, ?_⟩
            · rw [List.length_map, List.length_take, rowNs_len, sizeLine_eq]
              omega
            · rw [upd_ne (fun z => by rw [z, nL] at e; cases e)]
              exact s3 _ _ (su _ _ e)
            · rw [upd_same, List.take_succ, en, List.map_append]
              rfl
        · rintro U ⟨su, hl⟩
          have full : (rowNs num (i : Int) (r : Int) (zn - 1 - r)).take (zn - 1 - r) = rowNs num (i : Int) (r : Int) (zn - 1 - r) := List.take_of_length_le (by rw [rowNs_len]; exact Nat.le_refl _)
          rw [full] at hl
          have hl2 : U L = some (.lst (((rowNs num (i : Int) (r : Int) (zn - 1 - r)).map intS).map V.str)) := by
            rw [hl, List.map_map]
            rfl
          refine ⟨_, L, _, rfl, rfl, .inl (.inl (.inl hl2)), ?_, ?_⟩
          · refine Nat.le_trans (join_le (m := 201) (n := 6) (d := 1) (fun p hp => ?_) ?_ (by decide +kernel)).2 (by decide)
            · obtain ⟨x, hx, rfl⟩ := List.mem_map.mp hp
              exact intS_le (lor x hx)
            · rw [List.length_map, rowNs_len]
              omega
          · refine ⟨R, _, _, rfl, rfl, su _ _ hrz, ?_, ⟨_, rfl⟩, fun b o e => ?_, ?_, ?_⟩
            · rw [List.length_map, List.length_map, List.length_range, sizeLine_eq]
              omega
            · rw [upd_ne (fun z => by rw [z, nRH] at e; cases e)]
              exact su _ _ (sz _ _ e)
            · rw [upd_ne (Ne.symm RD)]
              exact su _ _ hdz
            · rw [upd_same, List.range_succ, List.map_append, List.map_append]
              rfl
      · rintro σ Z ⟨⟨y6, rfl⟩, sz, hdz, hrz⟩
        have lob := fun {j : Nat} => lo_rows S lo il (i := j)
        rw [gd, Int.toNat_natCast] at lob
        refine ⟨_, rfl, .inl ⟨rfl, _, .inl (.inl hdz)⟩, ⟨_, rfl⟩, _, rfl, _, R, _, rfl, rfl, .inl (.inl (.inl hrz)), ?_, ?_⟩
        · refine Nat.le_trans (join_le (m := 1300) (n := 6) (d := 1) (fun p hp => ?_) ?_ (by decide +kernel)).2 (by decide)
          · obtain ⟨r, hr2, rfl⟩ := List.mem_map.mp hp
            exact rowS_le (lob (j := r)) (by omega)
          · rw [List.length_map, List.length_range]
            omega
        · refine ⟨D, _, _, rfl, rfl, hdz, ?_, ⟨_, _, _, _, rfl⟩, fun b o e => ?_, ?_⟩
          · rw [List.length_map, List.length_map, List.length_range, sizeLine_eq]
            omega
          · rw [upd_ne (fun z => by rw [z, nD] at e; cases e)]
            exact sz _ _ e
          · rw [upd_same, List.range_succ, List.map_append, List.map_append]
            show some (HO.lst (_ ++ [V.str (blkS num (i : Int) zn)])) = some (HO.lst (_ ++ [V.str (blkS num (i : Int) (ns.getD i 0).toNat)]))
            rw [gd, Int.toNat_natCast]
    · rintro σ Y ⟨⟨y3, y4, y5, y6, rfl⟩, sy, hd⟩
      rw [List.length_map] at hd
      refine ⟨⟨_, rfl⟩, _, rfl, _, D, _, rfl, rfl, .inl (.inl (.inl hd)), ?_, q Y sy⟩
      refine Nat.le_trans (join_le (m := 8000) (n := 3) (d := 2) (fun p hp => ?_) ?_ (by decide +kernel)).2 (by decide)
      · obtain ⟨b, hb, rfl⟩ := List.mem_map.mp hp
        rw [List.mem_range] at hb
        have z6 := S.2.1 _ (List.getElem_mem hb)
        have gd : ns.getD b 0 = ns[b] := by rw [List.getD_eq_getElem?_getD, List.getElem?_eq_getElem hb]; rfl
        exact blkS_le (fun i => lo_rows S lo hb) (by rw [gd]; omega)
      · rw [List.length_map, List.length_range]
        exact b3
end
end K07

/-! # the law: tables -/
namespace K07
open PySem PySem.Spec PyProof.Rows L2 TL NumText RZ
theorem rowD_snoc (num : Tri → Int) (b : Int) (s i : Nat) : (List.range (i + 1)).map (rowD num b s) = (List.range i).map (rowD num b s) ++ [rowD num b s i] := by
  rw [List.range_succ, List.map_append]
  rfl
section
variable {P : Program} {w : World} {K : PySem.W.Frag} {mg : Str → Option Value} {base : Heap} {C CS TL : Addr}
def spLTabs (K : PySem.W.Frag) : Sp := fun vs H Q _ => ∃ (sh D : Addr) (ns : List Int) (num : Tri → Int), vs = [.ref sh, .ref D] ∧ SqT K H sh (ns.map V.int) ∧ XD H D ns num ∧ Shp ns ∧ ∀ H' y, Same H H' → Tv K H' y (tabsD num ns) → Q y H'
end
end K07

/-! # the numbers of a product -/
namespace K07
open PySem PySem.Spec PyProof.Rows L2 TL NumText RZ
def midP (t : Tri) (d : Nat) : Tri × Tri := ((t.1, t.2.1, t.2.1 + 1 + (d : Int)), (t.1, t.2.1 + 1 + (d : Int), t.2.2))
/-- a product's number at a place -/
def mulN (num num2 : Tri → Int) (t : Tri) : Int := num t + num2 t + ((List.range (t.2.2 - t.2.1 - 1).toNat).map fun d => num (midP t d).1 * num2 (midP t d).2).sum
def useT (ns : List Int) (u : Tri) : List (Tri × Tri) := (List.range (useN ns u)).map fun (c : Nat) => ((u.1, u.2.1, u.2.2 + 1 + (c : Int)), (u.1, u.2.2, u.2.2 + 1 + (c : Int)))
theorem useP_T (ns : List Int) (u : Tri) : useP ns u (useN ns u) = (useT ns u).map fun p => (ix ns p.1, ix ns p.2) := by
  unfold useP useT
  rw [List.map_map]
  rfl
theorem tables8 : ∀ ns ∈ shapesL, ∀ t ∈ pl ns, ((pl ns).flatMap fun u => ((useT ns u).filter fun p => p.1 == t).map fun p => (u, p.2)) = (List.range (t.2.2 - t.2.1 - 1).toNat).map (midP t) := by decide +kernel
theorem useT_mem {ns : List Int} (S : Shp ns) {u : Tri} (hu : u ∈ pl ns) {p : Tri × Tri} (h : p ∈ useT ns u) : p.1 ∈ pl ns ∧ p.2 ∈ pl ns := by
  unfold useT at h
  obtain ⟨c, hc, rfl⟩ := List.mem_map.mp h
  rw [List.mem_range] at hc
  obtain ⟨_, _, h3⟩ := tables3 ns (shp_mem S)
  obtain ⟨_, ⟨a0, a1, a2⟩, h6, hall⟩ := h3 u hu
  unfold useN at hc
  have c6 : c < 6 := by omega
  have hx := List.all_eq_true.mp hall c (List.mem_range.mpr c6)
  have dc : decide ((c : Int) < ns.getD u.1.toNat 0 - (u.2.2 + 1)) = true := decide_eq_true (by omega)
  rw [dc, Bool.not_true, Bool.false_or, Bool.and_eq_true, decide_eq_true_eq, decide_eq_true_eq] at hx
  exact hx
theorem at_idx : ∀ {l : List Tri} {t : Tri}, t ∈ l → l[l.idxOf t]? = some t
  | a :: r, t, h => by
    rw [List.idxOf_cons]
    by_cases e : a = t
    · rw [e, beq_self_eq_true, cond_true]
      rfl
    · rw [beq_false_of_ne e, cond_false, List.getElem?_cons_succ]
      exact at_idx ((List.mem_cons.mp h).resolve_left fun z => e z.symm)
theorem set_same (f : List Int) (i : Nat) : f.set i (f.getD i 0) = f := by
  by_cases h : i < f.length
  · rw [List.getD_eq_getElem?_getD, List.getElem?_eq_getElem h]
    exact List.set_getElem_self h
  · exact List.set_eq_of_length_le (by omega)
theorem stepU_zero (ys : List Int) : ∀ (ps : List (Int × Int)) (f : List Int), ps.foldl (stepU ys 0) f = f
  | [], f => rfl
  | p :: r, f => by
    rw [List.foldl_cons, stepU_zero ys r]
    unfold stepU
    rw [Int.zero_mul, Int.add_zero, set_same]
theorem stepP_all (ys : List Int) (f : List Int) (q : Int × List (Int × Int)) : stepP ys f q = q.2.foldl (stepU ys q.1) f := by
  unfold stepP
  split
  next e => rw [e, stepU_zero]
  next => rfl
theorem getD_set (f : List Int) (i j : Nat) (v : Int) (h : j < f.length) : (f.set i v).getD j 0 = if i = j then v else f.getD j 0 := by
  rw [List.getD_eq_getElem?_getD, List.getElem?_set]
  by_cases e : i = j
  · rw [if_pos e, if_pos e, if_pos (by omega)]
    rfl
  · rw [if_neg e, if_neg e, List.getD_eq_getElem?_getD]
theorem stepU_at {ns : List Int} (ys : List Int) (m : Int) {t : Tri} (ht : t ∈ pl ns) : ∀ (ps : List (Tri × Tri)) (f : List Int), f.length = (pl ns).length → (∀ p ∈ ps, p.1 ∈ pl ns ∧ p.2 ∈ pl ns) →
    ((ps.map fun p => (ix ns p.1, ix ns p.2)).foldl (stepU ys m) f).getD ((pl ns).idxOf t) 0 = f.getD ((pl ns).idxOf t) 0 + ((ps.filter fun p => p.1 == t).map fun p => m * ys.getD ((pl ns).idxOf p.2) 0).sum
  | [], f, lf, h => by
    show f.getD _ 0 = f.getD _ 0 + 0
    omega
  | p :: r, f, lf, h => by
    have hp := h p (List.mem_cons_self ..)
    have tl := List.idxOf_lt_length_of_mem ht
    rw [List.map_cons, List.foldl_cons, stepU_at ys m ht r _ (by unfold stepU; rw [List.length_set, lf]) fun q hq => h q (List.mem_cons_of_mem _ hq)]
    unfold stepU ix
    dsimp only
    rw [Int.toNat_natCast, Int.toNat_natCast, getD_set _ _ _ _ (by omega)]
    by_cases e : p.1 = t
    · rw [List.filter_cons_of_pos (by rw [e]; exact beq_self_eq_true t), List.map_cons, List.sum_cons, e, if_pos rfl]
      omega
    · have ne : (pl ns).idxOf p.1 ≠ (pl ns).idxOf t := fun z => e (by
        have a1 : (pl ns)[(pl ns).idxOf p.1]? = some p.1 := at_idx hp.1
        have a2 : (pl ns)[(pl ns).idxOf t]? = some t := at_idx ht
        rw [z, a2] at a1
        exact (Option.some.inj a1).symm)
      rw [List.filter_cons_of_neg (by simpa using e), if_neg ne]
theorem fold_at {ns : List Int} (S : Shp ns) (num : Tri → Int) (ys : List Int) {t : Tri} (ht : t ∈ pl ns) : ∀ (l : List Tri) (f : List Int), f.length = (pl ns).length → (∀ u ∈ l, u ∈ pl ns) →
    (l.foldl (fun f u => (useP ns u (useN ns u)).foldl (stepU ys (num u)) f) f).getD ((pl ns).idxOf t) 0 = f.getD ((pl ns).idxOf t) 0 + ((l.flatMap fun u => ((useT ns u).filter fun p => p.1 == t).map fun p => (u, p.2)).map fun c => num c.1 * ys.getD ((pl ns).idxOf c.2) 0).sum
  | [], f, lf, h => by
    show f.getD _ 0 = f.getD _ 0 + 0
    omega
  | u :: r, f, lf, h => by
    have hu := h u (List.mem_cons_self ..)
    rw [List.foldl_cons, fold_at S num ys ht r _ (by rw [stepU_len, lf]) fun q hq => h q (List.mem_cons_of_mem _ hq), useP_T, stepU_at ys (num u) ht _ f lf (fun p hp => useT_mem S hu hp)]
    rw [List.flatMap_cons, List.map_append, List.sum_append, List.map_map]
    exact Int.add_assoc ..
theorem prod_mulN {ns : List Int} (S : Shp ns) (num num2 : Tri → Int) : prodL (numsL num ns) (numsL num2 ns) (usL ns) = numsL (mulN num num2) ns := by
  have M := tables3 ns (shp_mem S)
  unfold prodL usL numsL
  rw [List.zip_map', List.foldl_map]
  have e1 : (fun (f : List Int) (t : Tri) => stepP ((pl ns).map num2) f (num t, useP ns t (useN ns t))) = fun f u => (useP ns u (useN ns u)).foldl (stepU ((pl ns).map num2) (num u)) f := by
    funext f u
    exact stepP_all _ _ _
  rw [e1, List.zipWith_map_left, List.zipWith_map_right, List.zipWith_self]
  have lz : ((pl ns).map fun t => num t + num2 t).length = (pl ns).length := List.length_map _
  have lF : ∀ (l : List Tri) (f : List Int), (l.foldl (fun f u => (useP ns u (useN ns u)).foldl (stepU ((pl ns).map num2) (num u)) f) f).length = f.length := by
    intro l
    induction l with
    | nil => intro f; rfl
    | cons u r ih => intro f; rw [List.foldl_cons, ih, stepU_len]
  refine List.ext_getElem (by rw [lF, lz, List.length_map]) fun i h1 h2 => ?_
  have il : i < (pl ns).length := by rw [List.length_map] at h2; exact h2
  have ht : (pl ns)[i] ∈ pl ns := List.getElem_mem il
  have hi : (pl ns).idxOf (pl ns)[i] = i := idx_of M.1 (List.getElem?_eq_getElem il)
  have z := fold_at S num ((pl ns).map num2) ht (pl ns) _ lz (fun u h => h)
  rw [hi, tables8 ns (shp_mem S) _ ht, List.getD_eq_getElem?_getD, List.getElem?_eq_getElem h1, List.getD_eq_getElem?_getD, List.getElem?_map, List.getElem?_eq_getElem il, List.map_map] at z
  have z : _ = num (pl ns)[i] + num2 (pl ns)[i] + _ := z
  rw [List.getElem_map]
  refine Eq.trans z ?_
  unfold mulN
  congr 2
  refine List.map_congr_left fun d hd => ?_
  have m2 : (midP (pl ns)[i] d).2 ∈ pl ns := by
    have y : midP (pl ns)[i] d ∈ (List.range ((pl ns)[i].2.2 - (pl ns)[i].2.1 - 1).toNat).map (midP (pl ns)[i]) := List.mem_map.mpr ⟨d, hd, rfl⟩
    rw [← tables8 ns (shp_mem S) _ ht] at y
    obtain ⟨u, hu, y⟩ := List.mem_flatMap.mp y
    obtain ⟨p, hp, e⟩ := List.mem_map.mp y
    rw [← e]
    exact (useT_mem S hu (List.mem_filter.mp hp).1).2
  show num _ * ((pl ns).map num2).getD ((pl ns).idxOf (midP (pl ns)[i] d).2) 0 = _
  rw [List.getD_eq_getElem?_getD, List.getElem?_map, at_idx m2]
  rfl
end K07

/-! # rows by columns -/
namespace K07
open PySem PySem.Spec PyProof.Rows L2 TL NumText RZ
theorem sum_add (f : Nat → Int) (m n : Nat) : ((List.range (m + n)).map f).sum = ((List.range m).map f).sum + ((List.range n).map fun d => f (m + d)).sum := by
  rw [List.range_add, List.map_append, List.sum_append, List.map_map]
  rfl
theorem sum_zero (f : Nat → Int) (n : Nat) (h : ∀ d, d < n → f d = 0) : ((List.range n).map f).sum = 0 := by
  induction n with
  | zero => rfl
  | succ n ih =>
    rw [List.range_succ, List.map_append, List.sum_append, ih fun d hd => h d (by omega)]
    show (0 : Int) + (f n + 0) = 0
    rw [h n (by omega)]
    rfl
theorem tabE_lt {num : Tri → Int} {b i j : Int} (h : i < j) : tabE num b i j = num (b, i, j) := by unfold tabE; rw [if_pos h]
theorem tabE_eq {num : Tri → Int} {b i : Int} : tabE num b i i = 1 := by unfold tabE; rw [if_neg (by omega), if_pos rfl]
theorem tabE_gt {num : Tri → Int} {b i j : Int} (h : j < i) : tabE num b i j = 0 := by unfold tabE; rw [if_neg (by omega), if_neg (by omega)]
/-- a row by a column -/
def rowCol (num num2 : Tri → Int) (b : Int) (s i c : Nat) : Int := ((List.range s).map fun (a : Nat) => tabE num b (i : Int) (a : Int) * tabE num2 b (a : Int) (c : Int)).sum
theorem rowCol_eq (num num2 : Tri → Int) (b : Int) {s i c : Nat} (hi : i < s) (hc : c < s) : rowCol num num2 b s i c = tabE (mulN num num2) b (i : Int) (c : Int) := by
  unfold rowCol
  rcases Nat.lt_trichotomy i c with l | e | l
  · obtain ⟨m, rfl⟩ : ∃ m, c = i + (1 + m) := ⟨c - i - 1, by omega⟩
    obtain ⟨n, rfl⟩ : ∃ n, s = i + (1 + (m + (1 + n))) := ⟨s - i - m - 2, by omega⟩
    rw [sum_add, sum_add, sum_add, sum_add, sum_zero _ i fun d hd => ?_, sum_zero _ n fun d hd => ?_]
    · rw [tabE_lt (show (i : Int) < ((i + (1 + m) : Nat) : Int) by omega)]
      unfold mulN
      dsimp only [midP]
      rw [show (((i + (1 + m) : Nat) : Int) - (i : Int) - 1).toNat = m by omega]
      have e1 : ((List.range 1).map fun d => tabE num b (i : Int) ((i + d : Nat) : Int) * tabE num2 b ((i + d : Nat) : Int) ((i + (1 + m) : Nat) : Int)).sum = num2 (b, (i : Int), ((i + (1 + m) : Nat) : Int)) := by
        show tabE num b (i : Int) (i : Int) * tabE num2 b (i : Int) _ + 0 = _
        rw [tabE_eq, tabE_lt (by omega)]
        omega
      have e2 : ((List.range 1).map fun d => tabE num b (i : Int) ((i + (1 + (m + d)) : Nat) : Int) * tabE num2 b ((i + (1 + (m + d)) : Nat) : Int) ((i + (1 + m) : Nat) : Int)).sum = num (b, (i : Int), ((i + (1 + m) : Nat) : Int)) := by
        show tabE num b (i : Int) ((i + (1 + m) : Nat) : Int) * tabE num2 b ((i + (1 + m) : Nat) : Int) _ + 0 = _
        rw [tabE_eq, tabE_lt (by omega)]
        omega
      rw [e1, e2]
      have e3 : ((List.range m).map fun d => tabE num b (i : Int) ((i + (1 + d) : Nat) : Int) * tabE num2 b ((i + (1 + d) : Nat) : Int) ((i + (1 + m) : Nat) : Int)) = (List.range m).map fun (d : Nat) => num (b, (i : Int), (i : Int) + 1 + (d : Int)) * num2 (b, (i : Int) + 1 + (d : Int), ((i + (1 + m) : Nat) : Int)) := by
        refine List.map_congr_left fun d hd => ?_
        rw [List.mem_range] at hd
        rw [tabE_lt (by omega), tabE_lt (by omega), show ((i + (1 + d) : Nat) : Int) = (i : Int) + 1 + (d : Int) by omega]
      rw [e3]
      omega
    · rw [tabE_gt (i := ((i + (1 + (m + (1 + d))) : Nat) : Int)) (j := ((i + (1 + m) : Nat) : Int)) (by omega), Int.mul_zero]
    · rw [tabE_gt (i := (i : Int)) (j := (d : Int)) (by omega), Int.zero_mul]
  · subst e
    obtain ⟨n, rfl⟩ : ∃ n, s = i + (1 + n) := ⟨s - i - 1, by omega⟩
    rw [sum_add, sum_add, sum_zero _ i fun d hd => ?_, sum_zero _ n fun d hd => ?_]
    · rw [tabE_eq]
      show (0 : Int) + (tabE num b (i : Int) (i : Int) * tabE num2 b (i : Int) (i : Int) + 0 + 0) = 1
      rw [tabE_eq, tabE_eq]
      rfl
    · rw [tabE_gt (i := ((i + (1 + d) : Nat) : Int)) (by omega), Int.mul_zero]
    · rw [tabE_gt (i := (i : Int)) (j := (d : Int)) (by omega), Int.zero_mul]
  · rw [tabE_gt (num := mulN num num2) (by omega)]
    refine sum_zero _ s fun d hd => ?_
    by_cases h : d < i
    · rw [tabE_gt (i := (i : Int)) (j := (d : Int)) (by omega), Int.zero_mul]
    · rw [tabE_gt (i := (d : Int)) (j := (c : Int)) (by omega), Int.mul_zero]
theorem mid_mem {ns : List Int} (S : Shp ns) {t : Tri} (ht : t ∈ pl ns) {d : Nat} (hd : d < (t.2.2 - t.2.1 - 1).toNat) : (midP t d).1 ∈ pl ns ∧ (midP t d).2 ∈ pl ns := by
  have y : midP t d ∈ (List.range (t.2.2 - t.2.1 - 1).toNat).map (midP t) := List.mem_map.mpr ⟨d, List.mem_range.mpr hd, rfl⟩
  rw [← tables8 ns (shp_mem S) _ ht] at y
  obtain ⟨u, hu, y⟩ := List.mem_flatMap.mp y
  obtain ⟨p, hp, e⟩ := List.mem_map.mp y
  rw [← e]
  exact ⟨hu, (useT_mem S hu (List.mem_filter.mp hp).1).2⟩
theorem sum_abs (f : Nat → Int) (B n : Nat) (h : ∀ d, d < n → (f d).natAbs ≤ B) : ((List.range n).map f).sum.natAbs ≤ n * B := by
  induction n with
  | zero => exact Nat.zero_le _
  | succ n ih =>
    rw [List.range_succ, List.map_append, List.sum_append]
    have z := ih fun d hd => h d (by omega)
    have y := h n (by omega)
    have x : (((List.range n).map f).sum + (f n + 0)).natAbs ≤ n * B + B := by omega
    rw [Nat.succ_mul]
    exact x
theorem sm_mul {a b : Int} (h : Sm a) (k : Sm b) : (a * b).natAbs ≤ 10 ^ 120 := by
  rw [Int.natAbs_mul, show (10 : Nat) ^ 120 = 10 ^ 60 * 10 ^ 60 by decide +kernel]
  exact Nat.mul_le_mul (Nat.le_of_lt (sm_abs h)) (Nat.le_of_lt (sm_abs k))
theorem lo_mul {ns : List Int} (S : Shp ns) {num num2 : Tri → Int} (h : SmN num ns) (k : SmN num2 ns) : LoN (mulN num num2) ns := fun t ht => by
  have M := (tables3 ns (shp_mem S)).2.2 t ht
  have z := sum_abs (fun d => num (midP t d).1 * num2 (midP t d).2) (10 ^ 120) ((t.2.2 - t.2.1 - 1).toNat) fun d hd => sm_mul (h _ (mid_mem S ht hd).1) (k _ (mid_mem S ht hd).2)
  have a := sm_abs (h t ht)
  have b := sm_abs (k t ht)
  have l6 : (t.2.2 - t.2.1 - 1).toNat ≤ 6 := by omega
  have z2 := Nat.le_trans z (Nat.mul_le_mul_right (10 ^ 120) l6)
  unfold Lo mulN
  have c : (10 : Nat) ^ 60 + 10 ^ 60 + 6 * 10 ^ 120 < 10 ^ 200 := by decide +kernel
  revert a b c z2
  generalize (10 : Nat) ^ 60 = p
  generalize (10 : Nat) ^ 120 = q
  generalize (10 : Nat) ^ 200 = r
  intro z2 c a b
  omega
end K07

/-! # the law: tables multiplied -/
namespace K07
open PySem PySem.Spec PyProof.Rows L2 TL NumText RZ
theorem cr_sumK {X : Cx} {K : PySem.W.Frag} (h : X.K = K) (hc : X.calm = true) : CallR X (.builtin "sum") (rSum K) := by
  rw [← h]
  exact cr_sum hc
theorem tab_at {K : PySem.W.Frag} {H : Hp} {x : V} {num : Tri → Int} {b : Int} {s : Nat} (h : Tv K H x (tabD num b s)) :
    ∃ o ws, x = .ref o ∧ SqT K H o ws ∧ ws.length = s ∧ ∀ i < s, ∃ r, ws[i]? = some (.ref r) ∧ SqT K H r ((rowT num b (i : Int) s).map V.int) := by
  unfold tabD at h
  cases h with
  | tup e l =>
    have ll := l.len
    rw [List.length_map, List.length_range] at ll
    rename_i xs
    refine ⟨_, _, rfl, e, ll, fun i hi => ?_⟩
    have li : i < xs.length := by omega
    have ex : xs[i]? = some xs[i] := List.getElem?_eq_getElem li
    obtain ⟨d, ed, td⟩ := l.get ex
    rw [List.getElem?_map, List.getElem?_range hi] at ed
    obtain rfl := Option.some.inj ed
    revert td ex
    generalize xs[i] = v
    intro ex td
    unfold rowD at td
    cases td with
    | tup e2 l2 => exact ⟨_, ex, l2.ints ▸ e2⟩
theorem rowT_get {num : Tri → Int} {b i : Int} {s j : Nat} (h : j < s) : ((rowT num b i s).map V.int)[j]? = some (V.int (tabE num b i (j : Int))) := by
  unfold rowT
  rw [List.map_map, List.getElem?_map, List.getElem?_range h]
  rfl
theorem tabE_abs {num : Tri → Int} {b : Int} {s : Nat} (h : ∀ i j : Nat, i < j → j < s → Sm (num (b, (i : Int), (j : Int)))) {i j : Nat} (hj : j < s) : (tabE num b (i : Int) (j : Int)).natAbs < 2 ^ 400 := by
  rcases Nat.lt_trichotomy i j with l | e | l
  · rw [tabE_lt (by omega)]
    exact Nat.lt_trans (sm_abs (h i j l hj)) (by decide)
  · rw [e, tabE_eq]
    decide
  · rw [tabE_gt (by omega)]
    decide
section
variable {P : Program} {w : World} {K : PySem.W.Frag} {mg : Str → Option Value} {base : Heap} {C CS TL : Addr}
def spLMult (K : PySem.W.Frag) : Sp := fun vs H Q _ => ∃ (x y : V) (num num2 : Tri → Int) (b : Int) (s : Nat), vs = [x, y] ∧ Tv K H x (tabD num b s) ∧ Tv K H y (tabD num2 b s) ∧ s ≤ 6 ∧ (∀ i j : Nat, i < j → j < s → Sm (num (b, (i : Int), (j : Int)))) ∧ (∀ i j : Nat, i < j → j < s → Sm (num2 (b, (i : Int), (j : Int)))) ∧
  ∀ H' y, Same H H' → Tv K H' y (tabD (mulN num num2) b s) → Q y H'
end
end K07

/-! # the law: stairs of tables -/
namespace K07
open PySem PySem.Spec PyProof.Rows L2 TL NumText RZ
def spOfR (K : PySem.W.Frag) (C : Addr) : Sp := fun vs H Q E => ∃ (y : V) (rest : List V), vs = y :: rest ∧ rest.length ≤ 3 ∧ ∀ T, H T = none → spOf K C [y, .ref T] (upd H T (.tup rest)) Q E
section
variable {P : Program} {w : World} {K : PySem.W.Frag} {mg : Str → Option Value} {base : Heap} {C CS TL : Addr} {mc : Value}
def spLOfT (K : PySem.W.Frag) (C : Addr) : Sp := fun vs H Q _ => ∃ (x : V) (ns : List Int) (num : Tri → Int), vs = [x] ∧ Tv K H x (tabsD num ns) ∧ Shp ns ∧ SmN num ns ∧ ∀ H' c, Same H H' → StairO K H' c C ns (numsL num ns) → Q (.ref c) H'
end
end K07

/-! # d.update(e); the law: numbers from tables -/
namespace K07
open PySem PySem.Spec PyProof.Rows L2 TL NumText RZ
/-- d.update(e), the keys tuples -/
def rUpdT (P : Program) (w : World) : V → List V → Hp → VK → Prop := fun x xs H Q => ∃ (a b : Addr) (ps qs : List (List L2.Key × V)), x = .ref a ∧ xs = [.ref b] ∧ H a = some (.dT ps) ∧ H b = some (.dT qs) ∧ a ≠ b ∧ (ps ≠ [] ∨ (qs.map fun z => tupleKeyHash (mixKind P w) z.1).Nodup) ∧ ps.length + qs.length ≤ sizeLine ∧
  Q .non (upd H a (.dT (putAll ps qs)))
theorem kt_hash {P : Program} {w : World} {H : Hp} : ∀ {qs : List (List L2.Key × V)} {zs : List (List L2.Key × Addr × Value)}, KT H qs zs → (zs.map fun z => tupleKeyHash (mixKind P w) z.1) = qs.map fun z => tupleKeyHash (mixKind P w) z.1
  | _, _, .nil => rfl
  | _, _, .cons h t => by
    rw [List.map_cons, List.map_cons, kt_hash t, h.1]
theorem mt_updT {X : Cx} (hu : X.A.units + 1 < cLine) : MtR X "dict.update" (rUpdT X.prog X.w) := by
  intro pins s σ H x xs v us Q I rx rxs h
  obtain ⟨a, b, ps, qs, rfl, rfl, ha, hb, ab, hap, hsz, q⟩ := h
  cases rx
  obtain ⟨u1, rfl, r1⟩ := vals1 rxs
  cases r1
  obtain ⟨z, hd, xs', rel, dd⟩ := dt_of I.hok ha
  obtain ⟨z2, hd2, ys', rel2, dd2⟩ := dt_of I.hok hb
  have l1 : ps.length = xs'.length := Paired.length rel
  have l2 : qs.length = ys'.length := Paired.length rel2
  refine call_update_dictH (knd := tupleKind (mixKind X.prog X.w)) (tupleKind_room_in1 hu) ab hd2 dd dd2 ?_ (by omega) fun h' dd' _ hs => ?_
  · rcases hap with hap | hap
    · refine .inl fun e => hap ?_
      rw [e] at l1
      exact List.length_eq_zero_iff.mp l1
    · refine .inr ⟨fun y hy => ?_, ?_⟩
      · obtain ⟨j, e⟩ := List.mem_iff_getElem?.mp hy
        obtain ⟨p, _, p1, p2, _⟩ := L2.DX.pget rel2 e
        have ky := key_of I.hok p2
        rw [p1] at ky
        exact IsTupleKey.typeIs ky
      · rw [show (ys'.map fun y => (tupleKind (mixKind X.prog X.w)).hash y.1) = _ from kt_hash rel2]
        exact hap
  · obtain ⟨o, es, ep, hq, h2, h3, h4, _, h5⟩ := dd'
    have le := putAll_len qs ps
    have I2 : Inv X pins σ (upd H a (.dT (putAll ps qs))) { s with heap := h' } :=
      d_write (t' := s.toks) I (by rw [ha]; exact True.intro) hs ⟨o, hq⟩ ⟨by omega, hd, _, (kt_all rel2 rel).keeps (fun c ys ec => (by rw [upd_ne (ne_of ec ha (fun z => nomatch z))]; exact ec)), o, es, ep, hq, h2, h3, h4, h5⟩
    exact ⟨.non, _, I2, rfl, q⟩
/-! ### hashes of the first row's places -/
def hashT (t : Tri) : Int := reduceHash (Builtin.Tuple.tupleHashOf [hashInt t.1, hashInt t.2.1, hashInt t.2.2])
theorem hashT_eq (P : Program) (w : World) (t : Tri) : tupleKeyHash (mixKind P w) (triK t) = hashT t := rfl
theorem hash_row : ((List.range 5).map fun (j : Nat) => hashT (((0 : Nat) : Int), ((0 : Nat) : Int), ((0 : Nat) : Int) + 1 + (j : Int))).Nodup := by decide +kernel
/-! ### places by block and row -/
def rowP (b i z : Nat) : List Tri := (List.range (z - 1 - i)).map fun (c : Nat) => ((b : Int), (i : Int), (i : Int) + 1 + (c : Int))
def bloP (b z r : Nat) : List Tri := (List.range r).flatMap fun i => rowP b i z
def allP (ns : List Int) (k : Nat) : List Tri := (List.range k).flatMap fun b => bloP b (ns.getD b 0).toNat (ns.getD b 0).toNat
theorem bloP_add (b z r m : Nat) : bloP b z (r + m) = bloP b z r ++ (List.range m).flatMap fun i => rowP b (r + i) z := by
  unfold bloP
  rw [List.range_add, List.flatMap_append, List.flatMap_map]
theorem bloP_succ (b z r : Nat) : bloP b z (r + 1) = bloP b z r ++ rowP b r z := by
  rw [bloP_add]
  show _ ++ (rowP b r z ++ []) = _
  rw [List.append_nil]
theorem allP_add (ns : List Int) (k m : Nat) : allP ns (k + m) = allP ns k ++ (List.range m).flatMap fun b => bloP (k + b) (ns.getD (k + b) 0).toNat (ns.getD (k + b) 0).toNat := by
  unfold allP
  rw [List.range_add, List.flatMap_append, List.flatMap_map]
theorem allP_succ (ns : List Int) (k : Nat) : allP ns (k + 1) = allP ns k ++ bloP k (ns.getD k 0).toNat (ns.getD k 0).toNat := by
  rw [allP_add]
  show _ ++ (bloP k _ _ ++ []) = _
  rw [List.append_nil]
  rfl
theorem tables9 : ∀ ns ∈ shapesL, (allP ns ns.length).isPerm (pl ns) = true := by decide +kernel
theorem allP_perm {ns : List Int} (S : Shp ns) : (allP ns ns.length).Perm (pl ns) := List.isPerm_iff.mp (tables9 ns (shp_mem S))
theorem allP_nodup {ns : List Int} (S : Shp ns) {b r : Nat} (hb : b < ns.length) (hr : r < (ns.getD b 0).toNat) : ((allP ns b ++ bloP b (ns.getD b 0).toNat r) ++ rowP b r (ns.getD b 0).toNat).Nodup ∧ (allP ns b ++ bloP b (ns.getD b 0).toNat r ++ rowP b r (ns.getD b 0).toNat).length ≤ 30 := by
  have M := tables3 ns (shp_mem S)
  have n := (allP_perm S).nodup_iff.mpr M.1
  have le := (allP_perm S).length_eq
  obtain ⟨m, e⟩ : ∃ m, ns.length = b + 1 + m := ⟨ns.length - b - 1, by omega⟩
  obtain ⟨k, e2⟩ : ∃ k, (ns.getD b 0).toNat = r + 1 + k := ⟨(ns.getD b 0).toNat - r - 1, by omega⟩
  have sp : ∃ rest, allP ns ns.length = allP ns b ++ bloP b (ns.getD b 0).toNat r ++ rowP b r (ns.getD b 0).toNat ++ rest := by
    have h1 := allP_add ns (b + 1) m
    rw [← e, allP_succ] at h1
    have h2 : bloP b (ns.getD b 0).toNat (ns.getD b 0).toNat = bloP b (ns.getD b 0).toNat r ++ rowP b r (ns.getD b 0).toNat ++ (List.range k).flatMap fun i => rowP b (r + 1 + i) (ns.getD b 0).toNat := by
      conv => lhs; arg 3; rw [e2]
      rw [bloP_add, bloP_succ]
    rw [h1, h2]
    exact ⟨_, by simp only [List.append_assoc]; rfl⟩
  obtain ⟨rest, e3⟩ := sp
  rw [e3] at n le
  rw [List.length_append] at le
  exact ⟨(List.nodup_append.mp n).1, by omega⟩
theorem rowP_get {b i z c : Nat} (h : c < z - 1 - i) : (rowP b i z)[c]? = some ((b : Int), (i : Int), (i : Int) + 1 + (c : Int)) := by
  unfold rowP
  rw [List.getElem?_map, List.getElem?_range h]
  rfl
theorem rowP_len (b i z : Nat) : (rowP b i z).length = z - 1 - i := by
  unfold rowP
  rw [List.length_map, List.length_range]
theorem rowP_ne {b z r : Nat} (hr : 0 < r) (hz : 2 ≤ z) : ((b : Int), (0 : Int), (1 : Int)) ∈ bloP b z r := List.mem_flatMap.mpr ⟨0, List.mem_range.mpr hr, List.mem_map.mpr ⟨0, List.mem_range.mpr (by omega), rfl⟩⟩
theorem hash_first {z : Nat} (h : z ≤ 6) (num : Tri → Int) (P : Program) (w : World) : ((dictO (rowP 0 0 z) num).map fun y => tupleKeyHash (mixKind P w) y.1).Nodup := by
  have e1 : ∀ (f : List L2.Key → Int) (l : List Nat), (((l.map fun (c : Nat) => ((((0 : Nat) : Int), ((0 : Nat) : Int), ((0 : Nat) : Int) + 1 + (c : Int)) : Tri)).map fun t => (triK t, V.int (num t))).map fun y => f y.1) = l.map fun (j : Nat) => f (triK (((0 : Nat) : Int), ((0 : Nat) : Int), ((0 : Nat) : Int) + 1 + (j : Int))) := fun f l => by
    induction l with
    | nil => rfl
    | cons a r ih => rw [List.map_cons, List.map_cons, List.map_cons, ih, List.map_cons]
  unfold dictO rowP
  refine (e1 (tupleKeyHash (mixKind P w)) _).symm ▸ ?_
  have e2 : (fun (j : Nat) => tupleKeyHash (mixKind P w) (triK (((0 : Nat) : Int), ((0 : Nat) : Int), ((0 : Nat) : Int) + 1 + (j : Int)))) = fun (j : Nat) => hashT (((0 : Nat) : Int), ((0 : Nat) : Int), ((0 : Nat) : Int) + 1 + (j : Int)) := funext fun j => hashT_eq P w (((0 : Nat) : Int), ((0 : Nat) : Int), ((0 : Nat) : Int) + 1 + (j : Int))
  rw [e2]
  have y := hash_row
  revert y
  generalize (fun (j : Nat) => hashT (((0 : Nat) : Int), ((0 : Nat) : Int), ((0 : Nat) : Int) + 1 + (j : Int))) = g
  intro y
  obtain ⟨m, e⟩ : ∃ m, 5 = (z - 1 - 0) + m := ⟨5 - (z - 1), by omega⟩
  rw [e, List.range_add, List.map_append] at y
  exact (List.nodup_append.mp y).1
theorem upd_dictO {l r : List Tri} (h : (l ++ r).Nodup) (num : Tri → Int) : putAll (dictO l num) (dictO r num) = dictO (l ++ r) num := by
  have e : dictO (l ++ r) num = dictO l num ++ dictO r num := List.map_append
  rw [putAll_new _ _ (by rw [← e, dictO_keys]; exact keys_nodup h), e]
section
variable {P : Program} {w : World} {K : PySem.W.Frag} {mg : Str → Option Value} {base : Heap} {C CS TL : Addr}
def spLFrom (K : PySem.W.Frag) : Sp := fun vs H Q _ => ∃ (o : Addr) (xs : List V) (ns : List Int) (num : Tri → Int), vs = [.ref o] ∧ H o = some (.lst xs) ∧ TvL K H xs ((List.range ns.length).map fun (b : Nat) => tabD num (b : Int) (ns.getD b 0).toNat) ∧ Shp ns ∧ ∀ H' D, Same H H' → H D = none → XD H' D ns num → Q (.ref D) H'
end
end K07

/-! # the law: a stair made in a drawn way -/
namespace K07
open PySem PySem.Spec PyProof.Rows L2 TL NumText RZ
theorem Rd.frz {H : Hp} {a : Addr} {o : Obj} {u : HO} (h : H a = some (.frz o u)) : Rd H a u := .inr ⟨o, h⟩
section
variable {P : Program} {w : World} {K : PySem.W.Frag} {mg : Str → Option Value} {base : Heap} {C CS TL : Addr} {mc : Value}
def spLMade (K : PySem.W.Frag) (C : Addr) : Sp := fun vs H Q _ => ∃ (u sh D : Addr) (ns : List Int) (num : Tri → Int), vs = [.ref u, .ref sh, .ref D] ∧ Urn H u ∧ SqT K H sh (ns.map V.int) ∧ XD H D ns num ∧ Shp ns ∧ SmN num ns ∧ ∀ H' c, Old u H H' → Urn H' u → StairO K H' c C ns (numsL num ns) → Q (.ref c) H'
end
end K07

/-! # d == e, d != e: the keys tuples, the values integers -/
namespace K07
open PySem PySem.Spec PyProof.Rows L2 TL NumText RZ
def nI : Value → Int
  | .int i _ => i
  | _ => 0
section
variable {prog : Program} {w : World} {KT : Type} [DecidableEq KT] {knd : HeapKind prog w KT} {A : Around} {E : Value → Shared → Prop} {s : Shared}
/-- the other dict holds the same number there -/
def agree (ys : List (KT × Addr × Value)) (x : KT × Addr × Value) : Bool := match atKey ys x.1 with
  | some p => nI x.2.2 == nI p.2
  | none => false
def allInt (xs : List (KT × Addr × Value)) : Prop := ∀ x ∈ xs, ∃ i t, x.2.2 = Value.int i t
theorem sameH {nm : String} {a b : Addr} {xs ys : List (KT × Addr × Value)} {Q : Bool → Shared → Prop} (hu : knd.room A) (ha : (a == sysModules) = false) (hb : (b == sysModules) = false) (da : s.heap.DictOfH knd a xs) (db : s.heap.DictOfH knd b ys) (ix : allInt xs) (iy : allInt ys)
    (h : Q (xs.length == ys.length && xs.all (agree ys)) s) : wpAny (model prog w) A (Builtin.Dict.samePairs nm a b) Q E s := by
  obtain ⟨oa, es, ep, hoa, _, hda, hka, hpa, _⟩ := da
  obtain ⟨ob, fs, fp, hob, _, hdb, hkb, hpb, hnb⟩ := db
  have la : es.size = xs.length := size_of_entries hka
  have lb : fs.size = ys.length := size_of_entries hkb
  unfold Builtin.Dict.samePairs Builtin.Dict.showsAll
  rw [if_neg (by rw [ha]; exact Bool.false_ne_true), if_neg (by rw [hb]; exact Bool.false_ne_true)]
  refine wpAny_bind (wpAny_pure (wpAny_bind (wpAny_pure (wpAny_bind (wpAny_dictEntries hoa hda ?_)))))
  dsimp only
  refine wpAny_bind (wpAny_dictEntries hob hdb ?_)
  by_cases sz : xs.length = ys.length
  · have e0 : (es.size != fs.size) = false := by rw [la, lb, sz]; simp
    rw [e0, if_neg Bool.false_ne_true]
    rw [sz, beq_self_eq_true, Bool.true_and] at h
    refine wpAny_bind (wpAny_dictEpoch hoa hda (wpAny_bind ?_))
    rw [Std.Legacy.Range.forIn_eq_forIn_range']
    simp only [Std.Legacy.Range.size, Nat.sub_zero, Nat.add_sub_cancel, Nat.div_one]
    refine wpAny_forIn_list _ (fun rest q z => z = s ∧ q = (none, ()) ∧ ∃ i, rest = List.range' i (xs.length - i) ∧ i ≤ xs.length ∧ (xs.take i).all (agree ys) = true) _ ?_ ?_ _ _ ⟨rfl, rfl, 0, by simp [la], Nat.zero_le _, rfl⟩
    · rintro j rest q z ⟨rfl, rfl, i, hr, hi, pre⟩
      have li : i < xs.length := Decidable.byContradiction fun n => by
        rw [show xs.length - i = 0 by omega] at hr
        cases hr
      rw [show xs.length - i = (xs.length - (i + 1)) + 1 by omega, List.range'_succ] at hr
      injection hr with j1 r1
      subst j1 r1
      have ej : es[j]? = some (entryOfKey knd xs[j]) := by rw [entry_at hka, List.getElem?_eq_getElem li]; rfl
      refine wpAny_bind (wpAny_dictEntries hoa hda ?_)
      rw [ej]
      have mx : xs[j] ∈ xs := List.getElem_mem li
      have nx : (xs.take (j + 1)).all (agree ys) = agree ys xs[j] := by
        rw [List.take_succ, List.getElem?_eq_getElem li, List.all_append, pre]
        show (true && (agree ys xs[j] && true)) = _
        rw [Bool.true_and, Bool.and_true]
      have bad : agree ys xs[j] = false → xs.all (agree ys) = false := fun z => Bool.eq_false_iff.mpr fun y => by
        rw [List.all_eq_true.mp y _ mx] at z
        cases z
      obtain ⟨vi, ti, ev⟩ := ix _ mx
      have kx := hpa _ mx
      revert nx bad ev kx
      generalize xs[j] = x
      intro nx bad ev kx
      show wpAny _ _ (holding [Value.ref x.2.1, x.2.2] _ >>= _) _ _ _
      refine wpAny_bind (wpAny_holding (wpAny_bind (wpAny_dictFind_heap hu kx hob hdb hkb hpb hnb (fun none => ?_) fun m p em => ?_)))
      · have ag : agree ys x = false := by
          unfold agree
          rw [atKey_none_of_get none]
        rw [bad ag] at h
        refine wpAny_pure ?_
        show wpAny _ _ (if (!false) = true then _ else _) _ _ _
        rw [if_pos (by decide)]
        exact wpAny_pure (wpAny_pure h)
      · have my := List.mem_of_getElem? em
        obtain ⟨vj, tj, ev2⟩ := iy _ my
        have ev2 : p.2 = Value.int vj tj := ev2
        have ag : agree ys x = (vi == vj) := by
          unfold agree
          rw [atKey_of_get hnb em, ev]
          show (vi == nI p.2) = _
          rw [ev2]
          rfl
        refine wpAny_bind (wpAny_dictEntries hob hdb ?_)
        have ef : fs[m]? = some (entryOfKey knd (x.1, p)) := by rw [entry_at hkb, em]; rfl
        rw [ef]
        show wpAny _ _ (holding [p.2] (eqBool x.2.2 p.2)) _ _ _
        rw [ev, ev2]
        refine wpAny_holding (wpAny_eqBool_int ?_)
        rw [← ag]
        cases q : agree ys x with
        | false =>
          rw [bad q] at h
          show wpAny _ _ (if (!false) = true then _ else _) _ _ _
          rw [if_pos (by decide)]
          exact wpAny_pure (wpAny_pure h)
        | true =>
          show wpAny _ _ (if (!true) = true then _ else _) _ _ _
          rw [if_neg (by decide)]
          refine wpAny_bind (wpAny_dictEpoch hoa hda ?_)
          rw [if_neg (by simp)]
          exact wpAny_pure ⟨rfl, rfl, j + 1, rfl, li, nx.trans q⟩
    · rintro q z ⟨rfl, rfl, i, hr, hi, pre⟩
      have ei : i = xs.length := by
        rcases Nat.lt_or_ge i xs.length with l | l
        · rw [show xs.length - i = (xs.length - (i + 1)) + 1 by omega, List.range'_succ] at hr
          cases hr
        · omega
      rw [ei, List.take_length] at pre
      rw [pre] at h
      exact wpAny_pure h
  · have e0 : (es.size != fs.size) = true := by rw [la, lb]; simpa using sz
    rw [e0, if_pos rfl]
    rw [show (xs.length == ys.length) = false by simpa using sz, Bool.false_and] at h
    exact wpAny_bind (wpAny_rule (wpAny_pure h))
end
end K07

/-! # == and != of dicts of numbers at places -/
namespace K07
open PySem PySem.Spec PyProof.Rows L2 TL NumText RZ
section
variable {prog : Program} {w : World} {KT : Type} [DecidableEq KT] {knd : HeapKind prog w KT} {A : Around} {E : Value → Shared → Prop} {s : Shared}
theorem eqH {op : CmpOp} {a b : Addr} {xs ys : List (KT × Addr × Value)} {Q : Value → Shared → Prop} (hop : op = .Eq ∨ op = .NotEq) (hr : knd.room A.in1) (hu : A.units < cLine) (ha : (a == sysModules) = false) (hb : (b == sysModules) = false) (da : s.heap.DictOfH knd a xs) (db : s.heap.DictOfH knd b ys) (ix : allInt xs) (iy : allInt ys)
    (h : Q (.bool ((xs.length == ys.length && xs.all (agree ys)) == decide (op = .Eq))) s) : wpAny (model prog w) A (compareOp op (.ref a) (.ref b)) Q E s := by
  rcases hop with rfl | rfl
  · refine wpAny_richCompare_same_room (op := .Eq) da.typeIs db.typeIs PySem.F.slot_dict_eq (wpAny_call_entry PySem.F.slot_dict_eq da.typeIs PySem.F.entry_dict_eq ?_ (PySem.F.args_dict_eq_2 _ _)) hu
    show wpAny _ _ (Builtin.Dict.dictSlotArgs "__eq__" ⟨[.ref a, .ref b], []⟩ >>= _) _ _ s
    unfold Builtin.Dict.dictSlotArgs
    refine wpAny_bind (wpAny_bind (wpAny_notOrdered_dict da.typeIs (wpAny_pure (wpAny_bind (wpAny_isInstance (T := "dict") db.typeIs PySem.F.sub_dict_dict ?_)))))
    simp only [Bool.not_true, Bool.false_eq_true, if_false]
    exact wpAny_bind (wpAny_pure (wpAny_bind (wpAny_pure (wpAny_bind (sameH hr ha hb da db ix iy (wpAny_pure ⟨_, rfl, (fun x => nomatch x), h⟩))))))
  · refine wpAny_richCompare_same_room (op := .NotEq) da.typeIs db.typeIs PySem.F.slot_dict_ne (wpAny_call_entry PySem.F.slot_dict_ne da.typeIs PySem.F.entry_dict_ne ?_ (PySem.F.args_dict_ne_2 _ _)) hu
    show wpAny _ _ (Builtin.Dict.dictSlotArgs "__ne__" ⟨[.ref a, .ref b], []⟩ >>= _) _ _ s
    unfold Builtin.Dict.dictSlotArgs
    refine wpAny_bind (wpAny_bind (wpAny_notOrdered_dict da.typeIs (wpAny_pure (wpAny_bind (wpAny_isInstance (T := "dict") db.typeIs PySem.F.sub_dict_dict ?_)))))
    simp only [Bool.not_true, Bool.false_eq_true, if_false]
    exact wpAny_bind (wpAny_pure (wpAny_bind (wpAny_pure (wpAny_bind (sameH hr ha hb da db ix iy (wpAny_pure ⟨_, rfl, (fun x => nomatch x), h⟩))))))
end
/-- the same places, the same numbers -/
def sameD (l : List Tri) (num : Tri → Int) (l2 : List Tri) (num2 : Tri → Int) : Bool := l.length == l2.length && l.all fun t => decide (t ∈ l2) && num t == num2 t
theorem sameD_refl (l : List Tri) (num : Tri → Int) : sameD l num l num = true := by
  unfold sameD
  rw [beq_self_eq_true, Bool.true_and, List.all_eq_true]
  intro t m
  rw [decide_eq_true m, beq_self_eq_true]
  rfl
section
variable {X : Cx} {pins : List (Addr × Obj)} {σ : L2.St} {H : Hp} {s : Shared}
theorem kt_int : ∀ {l : List Tri} {num : Tri → Int} {xs : List (List L2.Key × Addr × Value)}, KT H (dictO l num) xs → allInt xs
  | [], _, _, .nil => fun x m => by cases m
  | t :: l, num, _, .cons (b := z) h r => fun x m => by
    rcases List.mem_cons.mp m with rfl | m
    · obtain ⟨_, _, h3⟩ := h
      obtain ⟨tk, e⟩ := (show ∃ tk, x.2.2 = Value.int (num t) tk from h3)
      exact ⟨_, tk, e⟩
    · exact kt_int (l := l) (num := num) r x m
theorem kt_all_agree {l2 : List Tri} {num2 : Tri → Int} {ys : List (List L2.Key × Addr × Value)} (r2 : KT H (dictO l2 num2) ys) : ∀ {l : List Tri} {num : Tri → Int} {xs : List (List L2.Key × Addr × Value)}, KT H (dictO l num) xs → xs.all (agree ys) = l.all fun t => decide (t ∈ l2) && num t == num2 t
  | [], _, _, .nil => rfl
  | t :: l, num, _, .cons (b := z) h r => by
    obtain ⟨h1, _, h3⟩ := h
    obtain ⟨tk, e⟩ := (show ∃ tk, z.2.2 = Value.int (num t) tk from h3)
    have h1 : triK t = z.1 := h1
    rw [List.all_cons, List.all_cons, kt_all_agree r2 (l := l) (num := num) r]
    congr 1
    have v := r2.val (triK t)
    rw [valV_dictO] at v
    unfold agree
    rw [← h1, e]
    by_cases m : t ∈ l2
    · rw [if_pos m] at v
      rw [decide_eq_true m, Bool.true_and]
      cases q : atKey ys (triK t) with
      | none =>
        rw [q] at v
        exact (show False from v).elim
      | some p =>
        rw [q] at v
        obtain ⟨tk2, e2⟩ := (show ∃ tk2, p.2 = Value.int (num2 t) tk2 from v)
        show (nI (Value.int (num t) tk) == nI p.2) = _
        rw [e2]
        rfl
    · rw [if_neg m] at v
      rw [decide_eq_false m, Bool.false_and]
      cases q : atKey ys (triK t) with
      | none => rfl
      | some p =>
        rw [q] at v
        exact (show False from v).elim
def rEqT (e : Bool) : R2 := fun x y H Q => ∃ (a b : Addr) (l l2 : List Tri) (num num2 : Tri → Int), x = .ref a ∧ y = .ref b ∧ H a = some (.dT (dictO l num)) ∧ H b = some (.dT (dictO l2 num2)) ∧ Q (.bl (sameD l num l2 num2 == e)) H
theorem op_cmpT {op : CmpOp} (hop : op = .Eq ∨ op = .NotEq) (hu : X.A.units + 1 < cLine) : OpR X (compareOp op) (rEqT (decide (op = .Eq))) := by
  intro pins s σ H x y v u Q I rx ry h
  obtain ⟨a, b, l, l2, num, num2, rfl, rfl, h1, h2, q⟩ := h
  cases rx
  cases ry
  obtain ⟨z, hd, xs, rel, dd⟩ := dt_of I.hok h1
  obtain ⟨z2, hd2, ys, rel2, dd2⟩ := dt_of I.hok h2
  have l1 : l.length = xs.length := (List.length_map _).symm.trans (Paired.length rel)
  have l2' : l2.length = ys.length := (List.length_map _).symm.trans (Paired.length rel2)
  refine eqH (knd := tupleKind (mixKind X.prog X.w)) hop (tupleKind_room_in1 hu) (by omega) hd hd2 dd dd2 (kt_int rel) (kt_int rel2) ?_
  rw [kt_all_agree rel2 rel, ← l1, ← l2']
  exact ⟨.bl _, H, I, rfl, q⟩
theorem op_eqT (hu : X.A.units + 1 < cLine) : OpR X (compareOp .Eq) (rEqT true) := op_cmpT (.inl rfl) hu
theorem op_neT (hu : X.A.units + 1 < cLine) : OpR X (compareOp .NotEq) (rEqT false) := op_cmpT (.inr rfl) hu
end
end K07

/-! # the law: whether a stair is seen right -/
namespace K07
open PySem PySem.Spec PyProof.Rows L2 TL NumText RZ
section
variable {X : Cx} {n : Nat} {C g : Addr} {fd : FuncData} {ps : List Str} {sp : Sp}
/-- str(x) -/
theorem call_strMine (hs : PySem.W.findIn X.K (.ref C) "__str__" = some (some (.ref g))) (hf : PySem.W.isFn X.K (.ref g) = true) (F : FnOk X.prog X.w X.K X.mg X.base CX0 n g fd ps sp) (hr : Room (n + 2) X.A) (hb : Binds X.K fd ps []) :
    CallR X (.type "str") (fun xs H Q => ∃ a, xs = [.ref a] ∧ Ins H a C ∧ sp xs H (fun v H' => ∃ t, v = .str t ∧ Q v H') E0) := by
  intro pins s σ H xs us Q I r h
  obtain ⟨a, rfl, ha, q⟩ := h
  obtain ⟨u, rfl, ru⟩ := r.one
  cases (show u = Value.ref a from ru)
  obtain ⟨ox, od, J⟩ := ins_look I ha
  have hr2 : Room n X.A.in1.in1 := (show Room (n + 1) X.A.in1 from Room.in1 hr).in1
  refine PySem.W.kso_call hr2.units0 I.kIn J hs hf (wpAny_mono (run_below (us := [.ref a]) (vs := [.ref a]) F hr2 I.env0.in1.in1 hb I (.cons rfl .nil) q) (fun w s' z => ?_) fun _ _ x => x)
  obtain ⟨z', H', I', rz, t, et, qz⟩ := z
  subst et
  obtain ⟨tk, e⟩ := (show ∃ tk, w = Value.str t tk from rz)
  cases e
  exact ⟨.str t, H', I', ⟨tk, rfl⟩, qz⟩
end
theorem trl_dp {K : PySem.W.Frag} {H : Hp} : ∀ {xs : List V} {ts : List Tri}, TrL H xs ts → DpAll K H xs (ts.map triD)
  | _, _, .nil => .nil
  | _, _, .cons (t := t) e l => .cons (.tup (.inl (.inl e)) (dp_ints K H (triI t))) (trl_dp l)
theorem trl_lay : ∀ l : List Tri, PyData.canLayAll0 (l.map triD) = true ∧ PyData.depthAll (l.map triD) ≤ 1
  | [] => ⟨rfl, Nat.zero_le _⟩
  | t :: l => by
    obtain ⟨h1, h2⟩ := trl_lay l
    refine ⟨?_, ?_⟩
    · show ((true && (true && (true && true))) && PyData.canLayAll0 (l.map triD)) = true
      rw [h1]
      rfl
    · show max (max 0 (max 0 (max 0 0)) + 1) (PyData.depthAll (l.map triD)) ≤ 1
      omega
theorem shaped_trl (l : List Tri) : SeqAt.shaped (.list (l.map triD)) = true := by
  show (PyData.canLayAll0 (l.map triD) && decide (PyData.depthAll (l.map triD) + 1 ≤ 64)) = true
  obtain ⟨h1, h2⟩ := trl_lay l
  rw [h1, decide_eq_true (by omega)]
  rfl
theorem eqv_own {d : PyData} (h : SeqAt.shaped d = true) : PyData.eqv d d = true := PySem.SeqAt.eqv_refl d (SeqAt.canLay_of_shaped h)
theorem rows_lay (f : Nat → List Int) : ∀ l : List Nat, PyData.canLayAll0 (l.map fun i => .tuple ((f i).map .int)) = true ∧ PyData.depthAll (l.map fun i => .tuple ((f i).map .int)) ≤ 1
  | [] => ⟨rfl, Nat.zero_le _⟩
  | i :: l => by
    obtain ⟨h1, h2⟩ := rows_lay f l
    refine ⟨?_, ?_⟩
    · show (PyData.canLayAll0 ((f i).map .int) && PyData.canLayAll0 _) = true
      rw [h1, canLay_ints]
      rfl
    · show max (PyData.depthAll ((f i).map .int) + 1) (PyData.depthAll _) ≤ 1
      rw [dep_ints]
      omega
theorem tabs_lay (num : Tri → Int) (ns : List Int) : ∀ l : List Nat, PyData.canLayAll0 (l.map fun (b : Nat) => tabD num (b : Int) (ns.getD b 0).toNat) = true ∧ PyData.depthAll (l.map fun (b : Nat) => tabD num (b : Int) (ns.getD b 0).toNat) ≤ 2
  | [] => ⟨rfl, Nat.zero_le _⟩
  | b :: l => by
    obtain ⟨h1, h2⟩ := tabs_lay num ns l
    obtain ⟨h3, h4⟩ := rows_lay (fun i => rowT num (b : Int) (i : Int) (ns.getD b 0).toNat) (List.range (ns.getD b 0).toNat)
    refine ⟨?_, ?_⟩
    · show (PyData.canLayAll0 ((List.range (ns.getD b 0).toNat).map fun (i : Nat) => .tuple ((rowT num (b : Int) (i : Int) (ns.getD b 0).toNat).map .int)) && PyData.canLayAll0 _) = true
      rw [h1, h3]
      rfl
    · show max (PyData.depthAll ((List.range (ns.getD b 0).toNat).map fun (i : Nat) => .tuple ((rowT num (b : Int) (i : Int) (ns.getD b 0).toNat).map .int)) + 1) (PyData.depthAll _) ≤ 2
      omega
theorem shaped_tabs (num : Tri → Int) (ns : List Int) : SeqAt.shaped (tabsD num ns) = true := by
  obtain ⟨h1, h2⟩ := tabs_lay num ns (List.range ns.length)
  show (PyData.canLayAll0 ((List.range ns.length).map fun (b : Nat) => tabD num (b : Int) (ns.getD b 0).toNat) && decide (PyData.depthAll ((List.range ns.length).map fun (b : Nat) => tabD num (b : Int) (ns.getD b 0).toNat) + 1 ≤ 64)) = true
  rw [h1, decide_eq_true (by omega)]
  rfl
theorem first_nz (num : Tri → Int) : ∀ (l : List Tri) (k : Nat), (firstNZ k (l.map num) = none → nz num l = []) ∧ ∀ i, firstNZ k (l.map num) = some i → ∃ t r, l[i - k]? = some t ∧ nz num l = t :: r ∧ k ≤ i
  | [], k => ⟨fun _ => rfl, fun i h => by cases h⟩
  | t :: l, k => by
    obtain ⟨h1, h2⟩ := first_nz num l (k + 1)
    show ((if num t = 0 then firstNZ (k + 1) (l.map num) else some k) = none → _) ∧ ∀ i, (if num t = 0 then firstNZ (k + 1) (l.map num) else some k) = some i → _
    unfold nz
    by_cases z : num t = 0
    · rw [if_pos z, List.filter_cons_of_neg (by simpa using z)]
      refine ⟨h1, fun i h => ?_⟩
      obtain ⟨u, r, a, b, c⟩ := h2 i h
      refine ⟨u, r, ?_, b, by omega⟩
      rw [show i - k = (i - (k + 1)) + 1 by omega, List.getElem?_cons_succ]
      exact a
    · rw [if_neg z, List.filter_cons_of_pos (by simpa using z)]
      refine ⟨(fun h => by cases h), fun i h => ?_⟩
      obtain rfl := Option.some.inj h
      exact ⟨t, _, by rw [Nat.sub_self]; rfl, rfl, Nat.le_refl _⟩
theorem any_nz (num : Tri → Int) : ∀ l : List Tri, ((l.map num).any fun n => n != 0) = !(nz num l).isEmpty
  | [] => rfl
  | t :: l => by
    rw [List.map_cons, List.any_cons, any_nz num l]
    unfold nz
    by_cases z : num t = 0
    · rw [List.filter_cons_of_neg (by simpa using z), z]
      rfl
    · rw [List.filter_cons_of_pos (by simpa using z), show (num t != 0) = true by simpa using z]
      rfl
theorem eqv_none_l (l : List Tri) : PyData.eqv (.list (l.map triD)) (.list []) = l.isEmpty := by
  cases l <;> rfl
end K07

/-! # the law: whether a stair is seen right, the def -/
namespace K07
open PySem PySem.Spec PyProof.Rows L2 TL NumText RZ
section
variable {P : Program} {w : World} {K : PySem.W.Frag} {mg : Str → Option Value} {base : Heap} {C CS TL : Addr}
def spSeen (K : PySem.W.Frag) (C : Addr) : Sp := fun vs H Q _ => ∃ (a sh D : Addr) (ns : List Int) (num : Tri → Int), vs = [.ref a, .ref sh, .ref D] ∧ StairO K H a C ns (numsL num ns) ∧ SqT K H sh (ns.map V.int) ∧ XD H D ns num ∧ Shp ns ∧ LoN num ns ∧ ∀ H', Same H H' → Q (.bl true) H'
end
end K07

/-! # list(d.items()), the keys tuples -/
namespace K07
open PySem PySem.Spec PyProof.Rows L2 TL NumText RZ
theorem paired_of {α β : Type} {R : α → β → Prop} : ∀ {xs : List α} {ys : List β}, xs.length = ys.length → (∀ (j : Nat) (x : α) (y : β), xs[j]? = some x → ys[j]? = some y → R x y) → Paired R xs ys
  | [], [], _, _ => .nil
  | x :: xs, y :: ys, e, h => .cons (h 0 x y rfl rfl) (paired_of (by simpa using e) fun j a b ea eb => h (j + 1) a b (by simpa using ea) (by simpa using eb))
  | [], _ :: _, e, _ => by simp at e
  | _ :: _, [], e, _ => by simp at e
section
variable {X : Cx}
theorem call_listItems (calm : X.calm = true) : CallR X (.type "list") (fun vs H Q => ∃ (p a : Addr) (ps : List (List L2.Key × V)), vs = [.ref p] ∧ H p = some (L2.DX.itemsO p a) ∧ H a = some (.dT ps) ∧
    ∀ H' q ts, Same H H' → H q = none → H' q = some (.lst (ts.map V.ref)) → Paired (PrT H') ts ps → Q (.ref q) H') := by
  intro pins s σ H vs us Q I r h
  obtain ⟨p, a, ps, rfl, hp, hd, q⟩ := h
  obtain ⟨u, rfl, rx⟩ := vals1 r
  cases rx
  have view : s.heap.IsItemsView p a := (show ObjOk X.prog X.w H s.heap p (L2.DX.itemsO p a) from I.hok p _ hp).1
  obtain ⟨sm, es, ep, raw, n, nz, all⟩ := dt_raw I hd
  refine PySem.W.dil_call (I.ok.hd calm) view raw nz fun h' tk acc c as hk hS hl hG hacc => ?_
  have nd : as.Nodup := List.Pairwise.imp (fun {a b} (h : a < b) => Nat.ne_of_lt h) hG.rise
  have newS : H s.heap.objs.size = none := I.hok.fresh (Nat.le_refl _)
  have I1 : Inv X pins σ (upd H s.heap.objs.size (.lst (as.map V.ref))) { s with heap := h', toks := tk } := I.laid (t' := tk) hk (Nat.le_refl _) ⟨by rw [List.length_map, hl]; exact nz, acc.toList, c, by rw [hacc]; exact LiI.vals_refs as, by rw [Array.toArray_toList]; exact hS⟩
  have up : Same H (upd H s.heap.objs.size (.lst (as.map V.ref))) := sub_same newS
  obtain ⟨H2, I2, k2, g2⟩ := L2.DX.takeT (P := fun t vs => ∀ j, as[j]? = some t → ∃ (k : List L2.Key) (v : V) (q : Addr), ps[j]? = some (k, v) ∧ vs = [.ref q, v] ∧ H q = some (.tup (k.map kV))) I as _ I1 nd fun t ht => by
    have lo := hG.above t ht
    have nt : H t = none := I.hok.fresh (Nat.le_of_lt lo)
    obtain ⟨j, ej⟩ := List.mem_iff_getElem?.mp ht
    obtain ⟨hj, f3⟩ := hG.pairs j t ej
    have lj : j < ps.length := by omega
    obtain ⟨qa, k1, k3, k4⟩ := all j ps[j].1 ps[j].2 hj (List.getElem?_eq_getElem lj)
    refine ⟨Nat.le_of_lt lo, by rw [upd_ne (Nat.ne_of_gt lo)]; exact nt, [.ref qa, ps[j].2], fun i ei => ?_, fun H2 => ⟨by show 2 ≤ sizeLine; decide, [es[j].key, es[j].val], .cons (by rw [k1]; rfl) (.cons k4 .nil), ⟨_, f3, rfl, _, rfl⟩⟩⟩
    obtain ⟨li, e1⟩ := List.getElem?_eq_some_iff.mp ei
    obtain ⟨lj2, e2⟩ := List.getElem?_eq_some_iff.mp ej
    have ij : i = j := (List.getElem_inj nd).mp (e1.trans e2.symm)
    subst ij
    exact ⟨ps[i].1, ps[i].2, qa, List.getElem?_eq_getElem lj, rfl, k3⟩
  refine ⟨.ref s.heap.objs.size, H2, I2, rfl, q H2 _ as (fun b o e => k2 _ _ (up _ _ e)) newS (k2 _ _ upd_same) ?_⟩
  refine paired_of (by omega) fun j t pr et ep => ?_
  obtain ⟨vs, h1, h2⟩ := g2 t (List.mem_of_getElem? et)
  obtain ⟨k, v, qa, e1, rfl, e3⟩ := h1 j et
  rw [ep] at e1
  obtain rfl := Option.some.inj e1
  exact ⟨qa, h2, k2 _ _ (up _ _ e3)⟩
end
end K07

/-! # the law: blocks -/
namespace K07
open PySem PySem.Spec PyProof.Rows L2 TL NumText RZ
def oneF (t : Tri) : Tri := (((0 : Nat) : Int), t.2.1, t.2.2)
def ofB (b : Nat) (l : List Tri) : List Tri := (l.filter fun t => t.1 == (b : Int)).map oneF
theorem tables10 : ∀ ns ∈ shapesL, ((List.range 3).all fun b => !decide (b < ns.length) || (ofB b (pl ns)).isPerm (pl [ns.getD b 0])) = true := by decide +kernel
theorem ofB_perm {ns : List Int} (S : Shp ns) {l : List Tri} (lp : l.Perm (pl ns)) {b : Nat} (hb : b < ns.length) : (ofB b l).Perm (pl [ns.getD b 0]) := by
  have b3 := S.1.2
  have y := List.all_eq_true.mp (tables10 ns (shp_mem S)) b (List.mem_range.mpr (by omega))
  rw [decide_eq_true hb, Bool.not_true, Bool.false_or] at y
  exact ((lp.filter _).map oneF).trans (List.isPerm_iff.mp y)
theorem shp_single {ns : List Int} (S : Shp ns) {b : Nat} (hb : b < ns.length) : Shp [ns.getD b 0] := by
  have gd : ns.getD b 0 = ns[b] := by rw [List.getD_eq_getElem?_getD, List.getElem?_eq_getElem hb]; rfl
  have z6 := S.2.1 _ (List.getElem_mem hb)
  rw [gd]
  refine ⟨⟨Nat.le_refl 1, by show 1 ≤ 3; decide⟩, fun n m => ?_, ?_⟩
  · rw [List.mem_singleton.mp m]
    exact z6
  · show ns[b] + 0 ≤ 8
    omega
theorem ofB_succ {b i : Nat} {l : List Tri} {t : Tri} (e : l[i]? = some t) : ofB b (l.take (i + 1)) = ofB b (l.take i) ++ (if t.1 = (b : Int) then [oneF t] else []) := by
  unfold ofB
  rw [List.take_succ, e, List.filter_append, List.map_append]
  by_cases z : t.1 = (b : Int)
  · rw [if_pos z, show (some t).toList = [t] from rfl, List.filter_cons_of_pos (by simpa using z)]
    rfl
  · rw [if_neg z, show (some t).toList = [t] from rfl, List.filter_cons_of_neg (by simpa using z)]
    rfl
theorem inB_one {num : Tri → Int} {b : Nat} {t : Tri} (h : t.1 = (b : Int)) : inB num b (oneF t) = num t := by
  unfold inB oneF
  rw [← h]
theorem inB_lo {ns : List Int} (S : Shp ns) {num : Tri → Int} (lo : LoN num ns) {b : Nat} (hb : b < ns.length) : LoN (inB num b) [ns.getD b 0] := fun t m => by
  have m2 := (ofB_perm S (List.Perm.refl _) hb).mem_iff.mpr m
  obtain ⟨u, hu, rfl⟩ := List.mem_map.mp m2
  obtain ⟨hu1, hu2⟩ := List.mem_filter.mp hu
  rw [inB_one (of_decide_eq_true (by simpa using hu2))]
  exact lo u hu1
theorem papp {α β : Type} {R : α → β → Prop} : ∀ {xs xs2 : List α} {ys ys2 : List β}, Paired R xs ys → Paired R xs2 ys2 → Paired R (xs ++ xs2) (ys ++ ys2)
  | _, _, _, _, .nil, h => h
  | _, _, _, _, .cons a t, h => .cons a (papp t h)
/-- the places of both, one list behind the other -/
theorem both_nodup {ns ms : List Int} (S : Shp ns) (S2 : Shp ms) {k k2 : List Tri} (h : k.Perm (pl ns)) (h2 : k2.Perm (pl ms)) : (k ++ k2.map (shf ns.length)).Nodup := by
  have n1 := h.nodup_iff.mpr (tables3 ns (shp_mem S)).1
  have n2 := h2.nodup_iff.mpr (tables3 ms (shp_mem S2)).1
  refine List.nodup_append.mpr ⟨n1, ?_, fun x hx y hy e => ?_⟩
  · rw [List.Nodup, List.pairwise_map]
    exact n2.imp fun ne z => ne (shf_inj z)
  · obtain ⟨u, hu, rfl⟩ := List.mem_map.mp hy
    exact shf_not S S2 (h2.mem_iff.mp hu) (h.mem_iff.mp (by rw [← e]; exact hx))
theorem both_perm {ns ms : List Int} (S : Shp ns) (S2 : Shp ms) (SB : Shp (ns ++ ms)) {k k2 : List Tri} (h : k.Perm (pl ns)) (h2 : k2.Perm (pl ms)) : (k ++ k2.map (shf ns.length)).Perm (pl (ns ++ ms)) := by
  refine (List.perm_ext_iff_of_nodup (both_nodup S S2 h h2) (tables3 _ (shp_mem SB)).1).mpr fun t => ?_
  rw [pl_app S S2 SB, List.mem_append, List.mem_append, h.mem_iff, List.mem_map, List.mem_map]
  exact ⟨fun z => z.imp id fun ⟨u, a, b⟩ => ⟨u, h2.mem_iff.mp a, b⟩, fun z => z.imp id fun ⟨u, a, b⟩ => ⟨u, h2.mem_iff.mpr a, b⟩⟩
theorem both_sm {ns ms : List Int} (S : Shp ns) (S2 : Shp ms) (SB : Shp (ns ++ ms)) {num num2 : Tri → Int} (h : SmN num ns) (h2 : SmN num2 ms) : SmN (both ns.length num num2) (ns ++ ms) := fun t m => by
  rcases List.mem_append.mp ((pl_app S S2 SB).mp m) with m | m
  · rw [both_l S m]
    exact h t m
  · obtain ⟨u, hu, rfl⟩ := List.mem_map.mp m
    rw [both_r S2 hu]
    exact h2 u hu
/-- not a shape: too long or too large -/
theorem shp_app {ns ms : List Int} (S : Shp ns) (S2 : Shp ms) : Shp (ns ++ ms) ↔ ¬ (3 < (ns.length : Int) + (ms.length : Int)) ∧ ¬ (8 < ns.sum + ms.sum) := by
  have s1 := S.1
  constructor
  · rintro ⟨⟨_, h2⟩, _, h4⟩
    rw [List.length_append] at h2
    rw [List.sum_append] at h4
    omega
  · rintro ⟨h1, h2⟩
    refine ⟨⟨by rw [List.length_append]; omega, by rw [List.length_append]; omega⟩, fun n m => ?_, by rw [List.sum_append]; omega⟩
    exact (List.mem_append.mp m).elim (S.2.1 n) (S2.2.1 n)
section
variable {P : Program} {w : World} {K : PySem.W.Frag} {mg : Str → Option Value} {base : Heap} {C CS TL : Addr}
def spLBlk (K : PySem.W.Frag) (C : Addr) : Sp := fun vs H Q _ => ∃ (u a sh D : Addr) (ns : List Int) (num : Tri → Int), vs = [.ref u, .ref a, .ref sh, .ref D] ∧ Urn H u ∧ StairO K H a C ns (numsL num ns) ∧ SqT K H sh (ns.map V.int) ∧ XD H D ns num ∧ Shp ns ∧ SmN num ns ∧ ∀ H', Old u H H' → Urn H' u → Q (.bl true) H'
end
end K07

/-! # operators of an own class's instances -/
namespace K07W
open PySem PySem.Spec PySem.Calls PyProof.Rows PySem.W Builtin
section
variable {prog : Program} {w : World} {A : Around} {E : PySem.Value → Shared → Prop} {s : Shared} {K : Frag} {x C f : Addr} {ox : Obj} {od : Option Obj} {b tb : PySem.Value}
/-- an own == that answers True or False, asked for != -/
def NotBack (Q : PySem.Value → Shared → Prop) (v : PySem.Value) (s' : Shared) : Prop := ∃ k, v = .bool k ∧ Q (.bool (!k)) s'
theorem boundSlot {M : Model} {id : String} {args : List PySem.Value} {name : Str} {Q : Option PySem.Value → Shared → Prop} (X : K.In s.heap) (I : InstAt s.heap x ox C od) (hs : findIn K (.ref C) name = some (some (.builtin id)))
    (hb : ∀ self, bindSpecial (.builtin id) self = pure (.builtin id, [self]))
    (h : wpAny M A (call (.builtin id) (.ref x :: args)) (fun v => Q (some v)) E s) : wpAny M A (callSpecialIfBound? (.ref x) name args) Q E s := by
  simp only [callSpecialIfBound?, bindSpecialIfBound?]
  refine wpAny_holding (wpAny_bind (wpAny_bind (wpAny_bind (I.type.here ((looks_findIn X hs).here (wpAny_bind (wpAny_askSetting (wpAny_ite ?_))))))))
  have fin : wpAny M A (call (.builtin id) ([PySem.Value.ref x] ++ args) >>= fun v => pure (some v)) Q E s := wpAny_bind (wpAny_mono h (fun _ _ z => wpAny_pure z) fun _ _ z => z)
  split
  · exact wpAny_bind ((Looks.of_pure (hb _)).here (wpAny_pure fin))
  · exact wpAny_tryCatch (wpAny_bind ((Looks.of_pure (hb _)).here (wpAny_pure fin)))
/-- what object's own != does with an own == -/
theorem objNe {Q : PySem.Value → Shared → Prop} (hu : A.in1.units < cLine) (X : K.In s.heap) (I : InstAt s.heap x ox C od) (hm : mroIn K C (.type "object") = some true) (hs : findIn K (.ref C) "__eq__" = some (some (.ref f))) (hf : isFn K (.ref f) = true)
    (h : wpAny (model prog w) A.in1 (call (.ref f) [.ref x, b]) (NotBack Q) E s) : wpAny (model prog w) A (call (.builtin "object.__ne__") [.ref x, b]) Q E s := by
  refine wpAny_call (codeAny_call_builtin PySem.F.slot_zip_ne.plain PySem.F.cmpEntry_ne (check_slot (i := "object.__ne__") (owner := "object") (n := "__ne__") (by decide +kernel) (by decide +kernel) (I.type.andThen (looks_mroIn X hm)) (PySem.F.cmpArgs_ne _ _) ?_))
  unfold Builtin.«object.__ne__»
  refine wpAny_bind (m := slotArgs "__ne__" 1 _) (wpAny_pure (wpAny_bind (m := cRoomFor _ _) (wpAny_cRoomFor hu ?_)))
  refine wpAny_bind (m := callSpecialIfBound? (.ref x) (Str.ofString "__eq__") _) (ifBound_K X I hs hf (wpAny_mono h (fun r s' hq => ?_) fun _ _ y => y))
  obtain ⟨k, rfl, q⟩ := hq
  repeat (first | exact q | exact wpAny_pure q | exact wpAny_truthy_bool q | (refine wpAny_bind (m := truthy (.bool _)) (wpAny_truthy_bool ?_)) | wp_step)
/-- x != b, x an instance of a class with an own == and no own != -/
theorem ne_own {Q : PySem.Value → Shared → Prop} (hu : A.in1.units < cLine) (hu0 : A.units < cLine) (X : K.In s.heap) (I : InstAt s.heap x ox C od) (hb : Looks (model prog w) s.heap (typeOf b) tb) (hn : notFirst K C tb = true)
    (hm : mroIn K C (.type "object") = some true) (hne : findIn K (.ref C) "__ne__" = some (some (.builtin "object.__ne__"))) (hs : findIn K (.ref C) "__eq__" = some (some (.ref f))) (hf : isFn K (.ref f) = true)
    (h : wpAny (model prog w) A.in1 (call (.ref f) [.ref x, b]) (NotBack Q) E s) : wpAny (model prog w) A (richCompare .NotEq (.ref x) b) Q E s := by
  have one : wpAny (model prog w) A (tryCompare (.ref x) "__ne__" b) (fun r s' => ∃ v, r = some v ∧ Q v s') E s := by
    unfold tryCompare
    refine wpAny_bind (boundSlot X I hne PySem.F.slot_zip_ne.bind (objNe hu X I hm hs hf (wpAny_mono h (fun v s' hv => ?_) fun _ _ e => e)))
    obtain ⟨k, rfl, q⟩ := hv
    exact ⟨k, rfl, wpAny_pure ⟨_, rfl, q⟩⟩
  unfold richCompare
  simp only [oneThing_ref, cmpInfo_NotEq]
  refine wpAny_holding (wpAny_bind (wpAny_cRoomFor hu0 (wpAny_bind (I.type.here (wpAny_bind (hb.here ?_))))))
  split
  · rename_i q
    have e : subIn K tb (.ref C) = some false := (Bool.or_eq_true_iff.mp hn).elim (fun z => by rw [beq_iff_eq.mp z] at q; simp at q) (fun z => beq_iff_eq.mp z)
    refine wpAny_bind ((looks_subIn X e).here ?_)
    simp only [Bool.false_eq_true, if_false]
    exact wpAny_bind (wpAny_mono one (fun r s' ⟨v, e1, z⟩ => by subst e1; exact wpAny_pure z) fun _ _ e => e)
  · refine wpAny_bind (wpAny_pure ?_)
    simp only [Bool.false_eq_true, if_false]
    exact wpAny_bind (wpAny_mono one (fun r s' ⟨v, e1, z⟩ => by subst e1; exact wpAny_pure z) fun _ _ e => e)
end
end K07W
namespace K07
open PySem PySem.Spec PyProof.Rows L2
section
variable {X : Cx} {C g : Addr} {n : Nat} {fd : FuncData} {ps : List Str} {sp : Sp} {pins : List (Addr × Obj)} {σ : L2.St} {H : Hp} {s : Shared} {a : Addr}
/-- x op y, both of the class -/
def rMine (C : Addr) (sp : Sp) : R2 := fun x y H Q => ∃ a b, x = .ref a ∧ y = .ref b ∧ Ins H a C ∧ Ins H b C ∧ sp [x, y] H Q E0
theorem op_mine {op : Operator} (hc : PySem.W.selfFirst X.K C = true) (hs : PySem.W.findIn X.K (.ref C) (PySem.dunder op.info.2) = some (some (.ref g))) (hf : PySem.W.isFn X.K (.ref g) = true) (F : FnOk X.prog X.w X.K X.mg X.base CX0 n g fd ps sp)
    (hr : Room n X.A) (hb : Binds X.K fd ps []) : OpR X (binaryOp op) (rMine C sp) := by
  intro pins s σ H x y v u Q I rx ry h
  obtain ⟨a, b, rfl, rfl, ha, hb', q⟩ := h
  cases (show v = Value.ref a from rx)
  cases (show u = Value.ref b from ry)
  obtain ⟨ox, od, J⟩ := ins_look I ha
  obtain ⟨oy, od', J'⟩ := ins_look I hb'
  obtain ⟨m, hF⟩ := I.fr
  refine PySem.W.binop_K hF I.ok.mod.kin J J'.type hc hs hf (wpAny_mono (run_below (us := [.ref a, .ref b]) (vs := [.ref a, .ref b]) F hr I.env0 hb I (.cons rfl (.cons rfl .nil)) q) (fun w s' z => ?_) fun _ _ x => x)
  obtain ⟨z', H', I', rz, qz⟩ := z
  exact SlX.cmpback rz ⟨z', H', I', rz, qz⟩
/-- x == y, x of the class -/
def rEqMine (K : PySem.W.Frag) (C : Addr) (sp : Sp) : R2 := fun x y H Q => ∃ a t, x = .ref a ∧ Ins H a C ∧ TyX K H y t ∧ PySem.W.notFirst K C t = true ∧ sp [x, y] H Q E0
theorem op_eqMine (hs : PySem.W.findIn X.K (.ref C) "__eq__" = some (some (.ref g))) (hf : PySem.W.isFn X.K (.ref g) = true) (F : FnOk X.prog X.w X.K X.mg X.base CX0 n g fd ps sp) (hr : Room n X.A) (hb : Binds X.K fd ps []) :
    OpR X (compareOp .Eq) (rEqMine X.K C sp) := by
  intro pins s σ H x y v u Q I rx ry h
  obtain ⟨a, t, rfl, ha, ty, hn, q⟩ := h
  cases (show v = Value.ref a from rx)
  obtain ⟨ox, od, J⟩ := ins_look I ha
  obtain ⟨P, Z, hP, _⟩ := kit_of I ry ty
  obtain ⟨m, hF⟩ := I.fr
  show wpAny _ _ (richCompare .Eq (.ref a) u) _ _ _
  refine PySem.W.cmp_K (op := .Eq) hr.units0 hF I.ok.mod.kin J (Z.ty _ _ I.kIn hP) hn hs hf (wpAny_mono (run_below (us := [.ref a, u]) (vs := [.ref a, y]) F hr I.env0 hb I (.cons rfl (.cons ry .nil)) q) (fun w s' z => ?_) fun _ _ x => x)
  obtain ⟨z', H', I', rz, qz⟩ := z
  exact SlX.cmpback rz ⟨z', H', I', rz, qz⟩
/-- x != y, x of the class -/
def rNeMine (K : PySem.W.Frag) (C : Addr) (sp : Sp) : R2 := fun x y H Q => ∃ a t, x = .ref a ∧ Ins H a C ∧ TyX K H y t ∧ PySem.W.notFirst K C t = true ∧ sp [x, y] H (fun v H' => ∃ k, v = .bl k ∧ Q (.bl (!k)) H') E0
theorem op_neMine (hm : PySem.W.mroIn X.K C (.type "object") = some true) (hne : PySem.W.findIn X.K (.ref C) "__ne__" = some (some (.builtin "object.__ne__"))) (hs : PySem.W.findIn X.K (.ref C) "__eq__" = some (some (.ref g)))
    (hf : PySem.W.isFn X.K (.ref g) = true) (F : FnOk X.prog X.w X.K X.mg X.base CX0 n g fd ps sp) (hr : Room (n + 1) X.A) (hb : Binds X.K fd ps []) : OpR X (compareOp .NotEq) (rNeMine X.K C sp) := by
  intro pins s σ H x y v u Q I rx ry h
  obtain ⟨a, t, rfl, ha, ty, hn, q⟩ := h
  cases (show v = Value.ref a from rx)
  obtain ⟨ox, od, J⟩ := ins_look I ha
  obtain ⟨P, Z, hP, _⟩ := kit_of I ry ty
  show wpAny _ _ (richCompare .NotEq (.ref a) u) _ _ _
  refine K07W.ne_own hr.in1.units0 hr.units0 I.kIn J (Z.ty _ _ I.kIn hP) hn hm hne hs hf (wpAny_mono (run_below (us := [.ref a, u]) (vs := [.ref a, y]) F hr.in1 I.env0.in1 hb I (.cons rfl (.cons ry .nil)) q) (fun w s' z => ?_) fun _ _ x => x)
  obtain ⟨z', H', I', rz, k, ek, qz⟩ := z
  subst ek
  cases (show w = Value.bool k from rz)
  exact ⟨k, rfl, .bl (!k), H', I', rfl, qz⟩
end
end K07

/-! # == within a comprehension; a key put again -/
namespace K07
open PySem PySem.Spec PyProof.Rows L2 TL NumText RZ
section
variable {X : Cx} {K : PySem.W.Frag} {C g : Addr} {n : Nat} {fd : FuncData} {ps : List Str} {sp : Sp}
theorem op_eqMineK (h : X.K = K) (hs : PySem.W.findIn K (.ref C) "__eq__" = some (some (.ref g))) (hf : PySem.W.isFn K (.ref g) = true) (F : FnOk X.prog X.w X.K X.mg X.base CX0 n g fd ps sp) (hr : Room n X.A) (hb : Binds K fd ps []) : OpR X (compareOp .Eq) (rEqMine K C sp) := by
  subst h
  exact op_eqMine hs hf F hr hb
end
/-- a number changed -/
def bentN (num : Tri → Int) (t : Tri) (v : Int) : Tri → Int := fun u => if u = t then v else num u
theorem put_bent {num : Tri → Int} {t : Tri} {v : Int} : ∀ {l : List Tri}, l.Nodup → t ∈ l → putK (dictO l num) (triK t) (.int v) = dictO l (bentN num t v) := fun {l} nd m => by
  have e : valV (dictO l num) (triK t) = some (.int (num t)) := by rw [valV_dictO, if_pos m]
  have y := valV_any (triK t) (dictO l num)
  rw [e] at y
  unfold putK
  rw [y]
  show (dictO l num).map _ = _
  unfold dictO
  rw [List.map_map]
  refine List.map_congr_left fun u hu => ?_
  unfold bentN
  by_cases z : u = t
  · subst z
    simp
  · have : triK u ≠ triK t := fun w => z (triK_inj w)
    simp [z, this]
theorem putAll_one {num : Tri → Int} {t : Tri} {v : Int} {l : List Tri} (nd : l.Nodup) (m : t ∈ l) : putAll [] (dictO l num ++ [(triK t, V.int v)]) = dictO l (bentN num t v) := by
  unfold putAll
  rw [List.foldl_append]
  show putK (putAll [] (dictO l num)) (triK t) (.int v) = _
  rw [put_dictO nd, put_bent nd m]
end K07

/-! # the law: the shapes drawn, without (5, 2) -/
namespace K07
open PySem PySem.Spec PyProof.Rows L2 TL NumText RZ
section
variable {P : Program} {w : World} {K : PySem.W.Frag} {mg : Str → Option Value} {base : Heap} {C CS TL : Addr}
def spLShapeN (K : PySem.W.Frag) : Sp := fun vs H Q _ => ∃ u, vs = [.ref u] ∧ Urn H u ∧ ∀ H' p ns, Old u H H' → Urn H' u → SqT K H' p (ns.map V.int) → Shp ns → ns ≠ [5, 2] → Q (.ref p) H'
theorem ok_lshapeN {f fs : Addr} {fd fds : FuncData} (d : D K mg "_law_shape" s_lshape ["_law_pot_here"] f fd) (ds : D K mg "_law_pick" s_pick ["_law_pot_here", "_law_items"] fs fds) (Gs : FnOk P w K mg base CX0 2 fs fds ["_law_pot_here", "_law_items"] spSome) :
    FnOk P w K mg base CX0 3 f fd ["_law_pot_here"] (spLShapeN K) := by
  refine d.F.ok sc_lshape (fun vs H Q E h => ?_) (fun cdv A outer s H vs Q E hr h => ?_)
  · obtain ⟨u, rfl, _⟩ := h
    rfl
  · obtain ⟨u, rfl, hu, q⟩ := h
    refine ⟨_, (pss_cons (ps_set (i := 1) sc_lshape.nd rfl (.inl rfl) (pe_lst (pa_cons (pe_tup (pa_cons pe_int pa_nil)) (pa_cons (pe_tup (pa_cons pe_int pa_nil)) (pa_cons (pe_tup (pa_cons pe_int pa_nil)) (pa_cons (pe_tup (pa_cons pe_int pa_nil)) (pa_cons (pe_tup (pa_cons pe_int pa_nil)) (pa_cons (pe_tup (pa_cons pe_int pa_nil)) (pa_cons (pe_tup (pa_cons pe_int pa_nil)) (pa_cons (pe_tup (pa_cons pe_int (pa_cons pe_int pa_nil))) (pa_cons (pe_tup (pa_cons pe_int (pa_cons pe_int pa_nil))) (pa_cons (pe_tup (pa_cons pe_int (pa_cons pe_int pa_nil))) (pa_cons (pe_tup (pa_cons pe_int (pa_cons pe_int pa_nil))) (pa_cons (pe_tup (pa_cons pe_int (pa_cons pe_int pa_nil))) (pa_cons (pe_tup (pa_cons pe_int (pa_cons pe_int pa_nil))) (pa_cons (pe_tup (pa_cons pe_int (pa_cons pe_int (pa_cons pe_int pa_nil)))) (pa_cons (pe_tup (pa_cons pe_int (pa_cons pe_int (pa_cons pe_int pa_nil)))) (pa_cons (pe_tup (pa_cons pe_int (pa_cons pe_int (pa_cons pe_int pa_nil)))) pa_nil))))))))))))))))))
      (pss_one (ps_ret (pe_call Gs (hr.mono (by decide)) (by rfl) ds.g ds.F.kp ds.b .nil pass0 (pa_cons (pv 0) (pa_cons (pv 1) pa_nil)))))), ?_⟩
    have one : ∀ {σ : L2.St} (a : Int), LaysD K σ (tTup (tCons (tC (.int a)) tNil)) (.tuple [.int a]) := fun a => (Lays.tup (.cons (.int a) .nil) (by show 1 ≤ 100; decide)).d
    have two : ∀ {σ : L2.St} (a b : Int), LaysD K σ (tTup (tCons (tC (.int a)) (tCons (tC (.int b)) tNil))) (.tuple [.int a, .int b]) := fun a b => (Lays.tup (.cons (.int a) (.cons (.int b) .nil)) (by show 2 ≤ 100; decide)).d
    have three : ∀ {σ : L2.St} (a b c : Int), LaysD K σ (tTup (tCons (tC (.int a)) (tCons (tC (.int b)) (tCons (tC (.int c)) tNil)))) (.tuple [.int a, .int b, .int c]) := fun a b c => (Lays.tup (.cons (.int a) (.cons (.int b) (.cons (.int c) .nil))) (by show 3 ≤ 100; decide)).d
    unfold tSeq tAsg
    refine lay_lst (K := K) (ds := [.tuple [.int 4], .tuple [.int 4], .tuple [.int 4], .tuple [.int 5], .tuple [.int 6], .tuple [.int 3], .tuple [.int 2], .tuple [.int 2, .int 3], .tuple [.int 3, .int 2], .tuple [.int 3, .int 3], .tuple [.int 2, .int 4], .tuple [.int 4, .int 3], .tuple [.int 6, .int 2], .tuple [.int 2, .int 2, .int 2], .tuple [.int 3, .int 2, .int 3], .tuple [.int 2, .int 4, .int 2]]) ?_ (show 16 ≤ 100 by decide) fun xs H1 b s1 nb dl => ?_
    · exact .cons (one 4) (.cons (one 4) (.cons (one 4) (.cons (one 5) (.cons (one 6) (.cons (one 3) (.cons (one 2) (.cons (two 2 3) (.cons (two 3 2) (.cons (two 3 3) (.cons (two 2 4) (.cons (two 4 3) (.cons (two 6 2) (.cons (three 2 2 2) (.cons (three 3 2 3) (.cons (three 2 4 2) .nil)))))))))))))))
    have ln := dl.len
    have ln : xs.length = 16 := ln
    have hub := (hu.same s1).same (sub_same (o := .lst xs) nb)
    have nbu : b ≠ u := urn_ne (hu.same s1) nb
    refine ⟨_, rfl, _, rfl, u, b, xs, rfl, hub, upd_same, nbu, (fun z => by rw [z] at ln; cases ln), by omega, fun i x H' ex hu' bt => ?_⟩
    obtain ⟨d0, md, dw⟩ := (dl.same (sub_same (o := .lst xs) nb)).get ex
    have sh : isSh d0 = true := by
      have all : ∀ d ∈ ([.tuple [.int 4], .tuple [.int 4], .tuple [.int 4], .tuple [.int 5], .tuple [.int 6], .tuple [.int 3], .tuple [.int 2], .tuple [.int 2, .int 3], .tuple [.int 3, .int 2], .tuple [.int 3, .int 3], .tuple [.int 2, .int 4], .tuple [.int 4, .int 3], .tuple [.int 6, .int 2], .tuple [.int 2, .int 2, .int 2], .tuple [.int 3, .int 2, .int 3], .tuple [.int 2, .int 4, .int 2]] : List PyData), isSh d = true := by decide +kernel
      exact all d0 md
    have ne : d0 ≠ .tuple ([5, 2].map .int) := by
      have all : ∀ d ∈ ([.tuple [.int 4], .tuple [.int 4], .tuple [.int 4], .tuple [.int 5], .tuple [.int 6], .tuple [.int 3], .tuple [.int 2], .tuple [.int 2, .int 3], .tuple [.int 3, .int 2], .tuple [.int 3, .int 3], .tuple [.int 2, .int 4], .tuple [.int 4, .int 3], .tuple [.int 6, .int 2], .tuple [.int 2, .int 2, .int 2], .tuple [.int 3, .int 2, .int 3], .tuple [.int 2, .int 4, .int 2]] : List PyData), PyData.eqv d (.tuple ([5, 2].map .int)) = false := by decide +kernel
      intro z
      have y := all d0 md
      rw [z] at y
      revert y
      decide +kernel
    obtain ⟨ns, rfl, S⟩ := shp_of sh
    have n52 : ns ≠ [5, 2] := fun z => ne (by rw [z])
    obtain ⟨p, rfl, ep⟩ : ∃ p, x = .ref p ∧ SqT K (upd H1 b (.lst xs)) p (ns.map V.int) := by
      cases dw with
      | tv t => cases t with
        | tup e l => exact ⟨_, rfl, l.ints ▸ e⟩
    have oo : Old u H (upd H1 b (.lst xs)) := Old.of_same (s1.trans (sub_same nb))
    exact q H' p ns (oo.trans (Old.of_but bt)) hu' (sqt_old hub (Old.of_but bt) ep) S n52
end
end K07

/-! # any text, taken apart -/
namespace K07
open PySem PySem.Spec PyProof.Rows L2 TL NumText RZ
/-! ### lists of signs -/
theorem pre_cut {S l : List Nat} (h : TL.pre S l = true) : l = S ++ l.drop S.length := by
  have z : l.take S.length = S := by
    unfold TL.pre at h
    exact beq_iff_eq.mp h
  calc l = l.take S.length ++ l.drop S.length := (List.take_append_drop _ _).symm
    _ = S ++ l.drop S.length := by rw [z]
theorem joinL_cons {S p : List Nat} {ps : List (List Nat)} (h : ps ≠ []) : joinL S (p :: ps) = p ++ (S ++ joinL S ps) := by
  cases ps with
  | nil => exact absurd rfl h
  | cons q r => rfl
theorem join_spl {S : List Nat} (hS : S ≠ []) : ∀ (n : Nat) (cs acc : List Nat), cs.length ≤ n → joinL S (spl S 0 acc cs) = acc ++ cs ∧ spl S 0 acc cs ≠ []
  | _, [], acc, _ => by
    rw [spl_nil]
    exact ⟨by rw [List.append_nil]; rfl, by simp⟩
  | n + 1, c :: r, acc, h => by
    have hl : r.length ≤ n := by
      rw [List.length_cons] at h
      omega
    have s1 : 1 ≤ S.length := by
      cases S with
      | nil => exact absurd rfl hS
      | cons a b => exact Nat.succ_le_succ (Nat.zero_le _)
    by_cases e : TL.pre S (c :: r) = true
    · have z := pre_cut e
      have dr : (c :: r).drop S.length = r.drop (S.length - 1) := by
        obtain ⟨m, hm⟩ : ∃ m, S.length = m + 1 := ⟨S.length - 1, by omega⟩
        rw [hm]
        rfl
      rw [spl_hit e, spl_pass]
      obtain ⟨i1, i2⟩ := join_spl hS n (r.drop (S.length - 1)) [] (by rw [List.length_drop]; omega)
      refine ⟨?_, by simp⟩
      rw [joinL_cons i2, i1, List.nil_append, ← dr, ← z]
    · rw [spl_miss (by simpa using e)]
      obtain ⟨i1, i2⟩ := join_spl hS n r (acc ++ [c]) hl
      exact ⟨by rw [i1, List.append_assoc]; rfl, i2⟩
theorem joinL_le {S : List Nat} (hS : S ≠ []) : ∀ ps : List (List Nat), ps.length ≤ (joinL S ps).length + 1 ∧ ∀ p ∈ ps, p.length ≤ (joinL S ps).length
  | [] => ⟨Nat.zero_le _, fun _ h => by cases h⟩
  | [p] => ⟨by show 1 ≤ p.length + 1; omega, fun q h => by rw [List.mem_singleton.mp h]; exact Nat.le_refl _⟩
  | p :: q :: r => by
    obtain ⟨a, b⟩ := joinL_le hS (q :: r)
    have s1 : 1 ≤ S.length := by
      cases S with
      | nil => exact absurd rfl hS
      | cons a b => exact Nat.succ_le_succ (Nat.zero_le _)
    have e : (joinL S (p :: q :: r)).length = p.length + (S.length + (joinL S (q :: r)).length) := by
      rw [joinL_cons (by simp), List.length_append, List.length_append]
    refine ⟨?_, fun x h => ?_⟩
    · rw [e, List.length_cons]
      omega
    · rcases List.mem_cons.mp h with rfl | h
      · rw [e]; omega
      · have := b x h
        rw [e]
        omega
/-! ### texts -/
/-- a separator: plain and not empty -/
structure Sep (y : Str) : Prop where
  k : y.cps.all (· < 256) = true
  n : tl y ≠ []
theorem sep_b : Sep " " := ⟨by decide +kernel, by decide +kernel⟩
theorem sep_s : Sep "/" := ⟨by decide +kernel, by decide +kernel⟩
theorem sep_c : Sep "; " := ⟨by decide +kernel, by decide +kernel⟩
theorem split_tl {y : Str} (S : Sep y) (x : Str) : (Txt.split x y).map tl = spl (tl y) 0 [] (tl x) := split_spl x y S.n (kind_ok S.k)
theorem join_split {y : Str} (S : Sep y) (x : Str) : Txt.join y (Txt.split x y) = x := by
  refine ext_tl ?_
  rw [join_eq, tl_join, split_tl S]
  exact (join_spl S.n _ _ _ (Nat.le_refl _)).1
theorem split_ne {y : Str} (S : Sep y) (x : Str) : Txt.split x y ≠ [] := fun e => by
  have z := (join_spl S.n _ (tl x) [] (Nat.le_refl _)).2
  rw [← split_tl S, e] at z
  exact z rfl
theorem split_le {y : Str} (S : Sep y) (x : Str) : (Txt.split x y).length ≤ x.length + 1 ∧ ∀ p ∈ Txt.split x y, p.length ≤ x.length := by
  obtain ⟨a, b⟩ := joinL_le S.n (spl (tl y) 0 [] (tl x))
  rw [(join_spl S.n _ _ _ (Nat.le_refl _)).1, ← split_tl S, List.nil_append, List.length_map] at a
  rw [(join_spl S.n _ _ _ (Nat.le_refl _)).1, ← split_tl S, List.nil_append] at b
  refine ⟨by rw [len_tl]; exact a, fun p h => ?_⟩
  rw [len_tl p, len_tl x]
  exact b _ (List.mem_map_of_mem h)
def W1 (t : Str) : List Str := Txt.split t " "
def W2 (t : Str) : List (List Str) := (Txt.split t "/").map W1
def W3 (t : Str) : List (List (List Str)) := (Txt.split t "; ").map W2
def J2 (rows : List (List Str)) : Str := Txt.join "/" (rows.map (Txt.join " "))
def J3 (W : List (List (List Str))) : Str := Txt.join "; " (W.map J2)
theorem J2_W2 (t : Str) : J2 (W2 t) = t := by
  unfold J2 W2
  rw [List.map_map]
  have e : (Txt.split t "/").map (Txt.join " " ∘ W1) = (Txt.split t "/").map id := List.map_congr_left fun r _ => join_split sep_b r
  rw [e, List.map_id, join_split sep_s]
theorem J3_W3 (t : Str) : J3 (W3 t) = t := by
  unfold J3 W3
  rw [List.map_map]
  have e : (Txt.split t "; ").map (J2 ∘ W2) = (Txt.split t "; ").map id := List.map_congr_left fun r _ => J2_W2 r
  rw [e, List.map_id, join_split sep_c]
theorem stair_J3 (num : Tri → Int) (ns : List Int) : stairS num ns = J3 (stairW num ns) := by
  unfold stairS J3 stairW
  rw [List.map_map]
  congr 1
  refine List.map_congr_left fun b _ => ?_
  unfold blkS
  show _ = J2 (blkW num (b : Int) (ns.getD b 0).toNat)
  unfold J2 blkW
  rw [List.map_map]
  congr 1
/-! ### what is read -/
def rdS (w : Str) : Option Int := rd (tl w)
/-- the rows of a block -/
def rowsG (rows : List (List Str)) : Bool := decide (rows.map List.length = (List.range rows.length).map fun i => rows.length - i) && rows.all fun r => r.all fun w => (rdS w).isSome
def shpW (W : List (List (List Str))) : List Int := W.map fun rows => (rows.length : Int) + 1
def goodW (W : List (List (List Str))) : Bool := isSh (.tuple ((shpW W).map .int)) && W.all rowsG
def numW (W : List (List (List Str))) : Tri → Int := fun t => (rdS (((W.getD t.1.toNat []).getD t.2.1.toNat []).getD (t.2.2 - t.2.1 - 1).toNat "")).getD 0
theorem shp_is2 {ns : List Int} (h : isSh (.tuple (ns.map .int)) = true) : Shp ns := by
  obtain ⟨ms, e, S⟩ := shp_of h
  have z : ns.map PyData.int = ms.map PyData.int := PyData.tuple.inj e
  have inj : ∀ {l m : List Int}, l.map PyData.int = m.map PyData.int → l = m := fun {l} => by
    induction l with
    | nil => intro m h; cases m with
      | nil => rfl
      | cons a b => simp at h
    | cons x l ih => intro m h; cases m with
      | nil => simp at h
      | cons a b =>
        rw [List.map_cons, List.map_cons] at h
        injection h with h1 h2
        rw [PyData.int.inj h1, ih h2]
  rw [inj z]
  exact S
theorem getD_of {α : Type} {l : List α} {i : Nat} {d : α} (h : i < l.length) : l.getD i d = l[i] := by rw [List.getD_eq_getElem?_getD, List.getElem?_eq_getElem h]; rfl
/-- a text of good rows is that of a stair -/
theorem good_text {W : List (List (List Str))} (h : goodW W = true) : Shp (shpW W) ∧ SmN (numW W) (shpW W) ∧ stairW (numW W) (shpW W) = W := by
  unfold goodW at h
  rw [Bool.and_eq_true] at h
  have S := shp_is2 h.1
  have rows : ∀ b (hb : b < W.length), W[b].map List.length = ((List.range W[b].length).map fun i => W[b].length - i) ∧ ∀ r ∈ W[b], ∀ w ∈ r, (rdS w).isSome = true := fun b hb => by
    have z := List.all_eq_true.mp h.2 _ (List.getElem_mem hb)
    unfold rowsG at z
    rw [Bool.and_eq_true] at z
    exact ⟨of_decide_eq_true z.1, fun r hr w hw => List.all_eq_true.mp (List.all_eq_true.mp z.2 r hr) w hw⟩
  have ls : (shpW W).length = W.length := by
    unfold shpW
    rw [List.length_map]
  have gs : ∀ b (hb : b < W.length), (shpW W).getD b 0 = (W[b].length : Int) + 1 := fun b hb => by
    rw [getD_of (by omega)]
    unfold shpW
    rw [List.getElem_map]
  have lr : ∀ b (hb : b < W.length) i (hi : i < W[b].length), W[b][i].length = W[b].length - i := fun b hb i hi => by
    have z := congrArg (fun l => l[i]?) (rows b hb).1
    rw [List.getElem?_map, List.getElem?_map, List.getElem?_eq_getElem hi, List.getElem?_range hi] at z
    exact Option.some.inj z
  have val : ∀ b (hb : b < W.length) i (hi : i < W[b].length) k (hk : k < W[b][i].length), rdS W[b][i][k] = some (numW W ((b : Int), (i : Int), (i : Int) + 1 + (k : Int))) := fun b hb i hi k hk => by
    have z := (rows b hb).2 _ (List.getElem_mem hi) _ (List.getElem_mem hk)
    obtain ⟨v, ev⟩ := Option.isSome_iff_exists.mp z
    unfold numW
    dsimp only
    rw [Int.toNat_natCast, Int.toNat_natCast, getD_of hb, getD_of hi, show ((i : Int) + 1 + (k : Int) - (i : Int) - 1).toNat = k by omega, getD_of hk, ev]
    rfl
  have sw : stairW (numW W) (shpW W) = W := by
    unfold stairW
    refine List.ext_getElem (by rw [List.length_map, List.length_range, ls]) fun b h1 hb => ?_
    rw [List.getElem_map, List.getElem_range, gs b hb]
    unfold blkW
    refine List.ext_getElem (by rw [List.length_map, List.length_range]; omega) fun i h2 hi => ?_
    rw [List.getElem_map, List.getElem_range]
    have l3 := lr b hb i hi
    refine List.ext_getElem (by rw [List.length_map, rowNs_len]; omega) fun k h3 hk => ?_
    rw [List.getElem_map]
    unfold rowNs
    rw [List.getElem_map, List.getElem_range]
    have v := val b hb i hi k hk
    obtain ⟨e, _⟩ := rd_int v
    exact ext_tl ((tl_int _).trans e.symm)
  refine ⟨S, fun t m => ?_, sw⟩
  obtain ⟨b, i, j, rfl, hb, ij, hj⟩ := pl_mem S m
  rw [ls] at hb
  rw [gs b hb] at hj
  have hi : i < W[b].length := by omega
  have l3 := lr b hb i hi
  have hk : j - i - 1 < W[b][i].length := by omega
  have v := val b hb i hi (j - i - 1) hk
  rw [show (i : Int) + 1 + ((j - i - 1 : Nat) : Int) = (j : Int) by omega] at v
  have z := (rd_int v).2
  unfold Sm
  omega
end K07

/-! # blocks_of any text -/
namespace K07
open PySem PySem.Spec PyProof.Rows L2 TL NumText
theorem strs_get {l : List Str} {i : Nat} {x : V} (h : (l.map V.str)[i]? = some x) : ∃ b, l[i]? = some b ∧ x = .str b := by
  rw [List.getElem?_map] at h
  cases e : l[i]? with
  | none => rw [e] at h; cases h
  | some b => rw [e] at h; exact ⟨b, rfl, (Option.some.inj h).symm⟩
section
variable {P : Program} {w : World} {K : PySem.W.Frag} {mg : Str → Option Value} {base : Heap} {C CS TL : Addr}
def spBlksA (K : PySem.W.Frag) : Sp := fun vs H Q _ => ∃ t : Str, vs = [.str t] ∧ t.length ≤ 100000 ∧ ∀ H' y, Same H H' → BlksL H' y (W3 t) → Q y H'
theorem ok_blksA {f : Addr} {fd : FuncData} {k : Nat} (d : D K mg "blocks_of" s_blks ["text"] f fd) : FnOk P w K mg base CX0 (k + 1) f fd ["text"] (spBlksA K) := by
  refine d.F.ok sc_blks (fun vs H Q E h => ?_) (fun cdv A outer s H vs Q E hr h => ?_)
  · obtain ⟨t, rfl, _⟩ := h
    rfl
  · obtain ⟨t, rfl, t9, q⟩ := h
    refine ⟨_, (pss_one (ps_ret (pe_lc (own := [("block", 1)]) (g := gName 1) (tt := tYes) rfl sc_blks.nd (pi_list (pe_split (pv 0) pe_str)) (blkOk_by (own := [("block", 1)]) (N := ["text", "block", "row"]) (sc := defScope s_blks) (by decide +kernel))
            (fun _ _ _ _ _ => (pg_name (i := 1) sc_blks.nd rfl (Or.inl rfl))) (fun _ _ _ _ _ => pts_nil) (fun _ _ _ _ _ => (pe_lc (own := [("row", 2)]) (g := gName 2) (tt := tYes) rfl sc_blks.nd (pi_listK (K := K) rfl (pe_split (pv 1) pe_str)) (blkOk_by (own := [("row", 2)]) (N := ["text", "block", "row"]) (sc := relS _ (defScope s_blks)) (by decide +kernel))
            (fun _ _ _ _ _ => (pg_name (i := 2) sc_blks.nd rfl (Or.inl rfl))) (fun _ _ _ _ _ => pts_nil) (fun _ _ _ _ _ => (pe_split (pv 2) pe_str))))))), ?_⟩
    refine ⟨_, rfl, ⟨_, rfl⟩, _, _, rfl, rfl, (by decide +kernel), by rw [sizeLine_eq]; omega, fun p np => ?_⟩
    obtain ⟨lb, mb⟩ := split_le sep_c t
    have q : ∀ H' y, Same H H' → BlksL H' y ((Txt.split t "; ").map W2) → Q y H' := q
    revert lb mb q
    generalize Txt.split t "; " = bs
    intro lb mb q
    have s1 := sub_same (o := .lst (bs.map V.str)) np
    have e1 : upd H p (.lst (bs.map V.str)) p = some (.lst (bs.map V.str)) := upd_same
    revert s1 e1
    generalize upd H p (.lst (bs.map V.str)) = H1
    intro s1 e1
    refine ⟨p, rfl, ⟨_, .inl (.inl e1)⟩, fun D nD => ?_⟩
    have bD : upd H1 D (.lst []) D ≠ none := by
      rw [upd_same]
      intro z
      cases z
    refine lc_list (K := K) (a := p) (xs := bs.map V.str) (fun i Y => Same H1 Y ∧ Sub (upd H1 D (.lst [])) Y ∧ ∃ acc, Y D = some (.lst acc) ∧ Paired (BlkN (upd H1 D (.lst [])) Y) acc ((bs.map W2).take i))
      ⟨sub_same nD, Sub.refl _, [], upd_same, .nil⟩ (fun i Y _ h => .inl (.inl (h.1 _ _ e1))) ?_ ?_
    · generalize hB : upd H1 D (.lst []) = B0 at bD
      rintro i x Y hx ⟨sy, sb, acc, hd, pr⟩
      obtain ⟨b, eb, rfl⟩ := strs_get hx
      have bl := mb b (List.mem_of_getElem? eb)
      have il := (List.getElem?_eq_some_iff.mp eb).1
      have wi : (bs.map W2)[i]? = some (W2 b) := by rw [List.getElem?_map, eb]; rfl
      refine ⟨rfl, yesT ?_⟩
      refine ⟨_, rfl, ⟨_, rfl⟩, _, _, rfl, rfl, (by decide +kernel), by rw [sizeLine_eq]; omega, fun p2 np2 => ?_⟩
      obtain ⟨lr, mr⟩ := split_le sep_s b
      have wi : (bs.map W2)[i]? = some ((Txt.split b "/").map W1) := wi
      revert lr mr wi
      generalize Txt.split b "/" = rs
      intro lr mr wi
      have s2 := sub_same (o := .lst (rs.map V.str)) np2
      have b2 := sb.trans (Sub.upd Y p2 (.lst (rs.map V.str)))
      have e2 : upd Y p2 (.lst (rs.map V.str)) p2 = some (.lst (rs.map V.str)) := upd_same
      revert s2 b2 e2
      generalize upd Y p2 (.lst (rs.map V.str)) = Y2
      intro s2 b2 e2
      refine ⟨p2, rfl, ⟨_, .inl (.inl e2)⟩, fun L nL => ?_⟩
      have bL : upd Y2 L (.lst []) L ≠ none := by
        rw [upd_same]
        intro z
        cases z
      have b3' := b2.trans (Sub.upd Y2 L (.lst []))
      have nBL : B0 L = none := b2 _ nL
      refine lc_list (K := K) (a := p2) (xs := rs.map V.str) (fun j U => Same Y2 U ∧ Sub (upd Y2 L (.lst [])) U ∧ ∃ acc2, U L = some (.lst acc2) ∧ Paired (WdsN (upd Y2 L (.lst [])) U) acc2 ((rs.map W1).take j))
        ⟨sub_same nL, Sub.refl _, [], upd_same, .nil⟩ (fun j U _ h => .inl (.inl (h.1 _ _ e2))) ?_ ?_
      · generalize upd Y2 L (.lst []) = B2 at bL b3'
        rintro j x U hx ⟨su, sbu, acc2, hl, pr2⟩
        obtain ⟨r, er, rfl⟩ := strs_get hx
        have rl := mr r (List.mem_of_getElem? er)
        have jl := (List.getElem?_eq_some_iff.mp er).1
        have wj : (rs.map W1)[j]? = some (W1 r) := by rw [List.getElem?_map, er]; rfl
        refine ⟨rfl, yesT ?_⟩
        refine ⟨_, rfl, ⟨_, rfl⟩, _, _, rfl, rfl, (by decide +kernel), by rw [sizeLine_eq]; omega, fun p3 np3 => ?_⟩
        have s3 := sub_same (o := .lst ((W1 r).map V.str)) np3
        have new : WdsN B2 (upd U p3 (.lst ((W1 r).map V.str))) (.ref p3) (W1 r) := ⟨p3, rfl, sbu _ np3, upd_same⟩
        have l2 := Paired.length pr2
        rw [List.length_take, List.length_map] at l2
        refine ⟨acc2, s3 _ _ hl, ?_, fun k ob e => ?_, (sbu.trans (Sub.upd U p3 _)).trans (Sub.upd _ L _), _, upd_same, ?_⟩
        · rw [sizeLine_eq]
          omega
        · rw [upd_ne (fun z => by rw [z, nL] at e; cases e)]
          exact s3 _ _ (su _ _ e)
        · rw [List.take_succ, wj]
          exact psnoc (new.put bL) (pmap (fun _ _ w => (w.same s3).put bL) pr2)
      · rintro U ⟨su, sbu, acc2, hl, pr2⟩
        rw [List.length_map, ← List.length_map (f := W1), List.take_length] at pr2
        have new : BlkN B0 U (.ref L) (rs.map W1) := ⟨L, acc2, rfl, nBL, hl, pmap (fun _ _ w => w.since b3') pr2⟩
        have l2 := Paired.length pr
        rw [List.length_take, List.length_map] at l2
        refine ⟨acc, su _ _ (s2 _ _ hd), ?_, fun k ob e => ?_, ((b3'.trans sbu).trans (Sub.upd U D _)), _, upd_same, ?_⟩
        · rw [sizeLine_eq]
          omega
        · rw [upd_ne (fun z => by rw [z, nD] at e; cases e)]
          exact su _ _ (s2 _ _ (sy _ _ e))
        · rw [List.take_succ, wi]
          exact psnoc (new.put bD) (pmap (fun _ _ w => ((w.same s2).same su).put bD) pr)
    · rintro Y ⟨sy, sb, acc, hd, pr⟩
      rw [List.length_map, ← List.length_map (f := W2), List.take_length] at pr
      exact q Y _ (s1.trans sy) ⟨D, acc, rfl, hd, pmap (fun _ _ w => w.old) pr⟩
end
end K07

/-! # read_integer of any text -/
namespace K07
open PySem PySem.Spec PyProof.Rows L2 TL NumText RZ
section
variable {P : Program} {w : World} {K : PySem.W.Frag} {mg : Str → Option Value} {base : Heap} {C CS TL : Addr}
def spReadA : Sp := fun vs H Q _ => ∃ z : Str, vs = [.str z] ∧ z.length ≤ 100000 ∧ ∀ H', Same H H' → Q (ov (rd (tl z))) H'
theorem ok_readA {f : Addr} {fd : FuncData} {k : Nat} (T : Txt mg) (N : Nam mg) (mM : ∃ t, mg "MAX_DIGITS" = some (.int 60 t)) (d : D K mg "read_integer" s_read_integer ["text"] f fd) : FnOk P w K mg base CX0 (k + 1) f fd ["text"] spReadA := by
  obtain ⟨tM, m_MAX⟩ := mM
  refine d.F.ok sc_read_integer (fun vs H Q E h => ?_) (fun cdv A outer s H vs Q E hr h => ?_)
  · obtain ⟨z, rfl, _⟩ := h
    rfl
  · obtain ⟨z, rfl, hz, q⟩ := h
    refine ⟨_, (pss_cons (ps_set (i := 1) sc_read_integer.nd rfl (.inl rfl) (pe_ifExp (pt_cmpR op_eq (pe_slice sl_str (pv 0) po_none (po_some pe_int)) pe_str (nomark _)) (pe_slice sl_str (pv 0) (po_some pe_int) po_none) (pv 0)))
      (pss_cons (ps_if (PW.pt (pw_or (pt_cmpR op_eq (pv 1) pe_str (nomark _)) (pw_or1 (pt_cmpR op_gt (pe_callB call_len_str (by rfl) T.n_len PySem.boot_len (pa_cons (pv 1) pa_nil)) (pe_glob (v := .int 60) rfl m_MAX ⟨_, rfl⟩) (nomark _))))) (pss_one (ps_ret pe_non)) pss_nil)
      (pss_cons (ps_if (pt_not (pt_val (pe_callB (cr_all rfl) (by rfl) N.n_all (by decide +kernel) (pa_cons (pe_lc (own := [("sign", 2)]) (g := gName 2) (tt := tYes) rfl sc_read_integer.nd (pi_str (pv 1)) (blkOk_by (own := [("sign", 2)]) (N := ["text", "digits", "sign"]) (sc := defScope s_read_integer) (by decide +kernel))
          (fun _ _ _ _ _ => pg_name (i := 2) sc_read_integer.nd rfl (Or.inl rfl)) (fun _ _ _ _ _ => pts_nil) (fun _ _ _ _ _ => pe_cmpR op_in_sign (pv 2) pe_str (by rfl))) pa_nil)))) (pss_one (ps_ret pe_non)) pss_nil)
      (pss_cons (ps_if (PW.pt (pw_and (pt_cmpR op_eq (pe_ix ix_str (pv 1) pe_int (fun _ _ => rfl)) pe_str (nomark _)) (pw_and1 (pt_cmpR op_ne (pv 0) pe_str (nomark _))))) (pss_one (ps_ret pe_non)) pss_nil)
      (pss_one (ps_ret (pe_callTy call_int_str (by rfl) T.n_int (by decide +kernel) (pa_cons (pv 0) pa_nil)))))))), ?_⟩
    have zl : (tl z).length ≤ 100000 := by rw [← len_tl z]; exact hz
    have sz : z.length ≤ sizeLine := by rw [sizeLine_eq]; omega
    have e45 : tl ("-" : Str) = [45] := by decide +kernel
    have e0 : tl ("" : Str) = [] := by decide +kernel
    have e48 : tl ("0" : Str) = [48] := by decide +kernel
    have no : rd (tl z) = none → ∀ H', Same H H' → Q .non H' := fun e H' hs => by
      have x := q H' hs
      rw [e] at x
      exact x
    have f0 : ∀ y : Str, decide (V.str y = V.str "") = decide (tl y = []) := fun y => decide_eq_decide.mpr (by rw [str_eq, e0])
    have f45 : decide (V.str (cutS z none (some 1)) = V.str "-") = decide ((tl z).head? = some 45) := decide_eq_decide.mpr (by rw [str_eq, e45, cut_one, take_one])
    refine ⟨.str z, rfl, 1, rfl, z, rfl, sz, rfl, _, rfl, ?_⟩
    show if decide (V.str (cutS z none (some 1)) = V.str "-") = true then _ else _
    rw [f45]
    refine ite2 (fun e => ?first) (fun e => ?second)
    case' first =>
      have c : (tl z).head? = some 45 := of_decide_eq_true e
      have hy : tl (cutS z (some 1) none) = dg (tl z) := by rw [cut_rest]; unfold dg; rw [if_pos c]
      refine ⟨.str z, rfl, 1, rfl, z, rfl, sz, ?_⟩
      revert hy
      generalize cutS z (some 1) none = y
      intro hy
    case' second =>
      have c : ¬ (tl z).head? = some 45 := fun q => e (decide_eq_true q)
      obtain ⟨y, ey⟩ : ∃ y, z = y := ⟨z, rfl⟩
      have hy : tl y = dg (tl z) := by unfold dg; rw [if_neg c, ey]
      refine ⟨_, rfl, ?_⟩
      refine Eq.mpr (congrArg (fun x => gName 1 x _ _ _) (congrArg V.str ey)) ?_
    all_goals
      refine ⟨_, rfl, rfl, _, rfl, ?_⟩
      show if decide (V.str y = V.str "") = true then _ else _
      rw [f0, hy]
      have yl : y.length = (dg (tl z)).length := by rw [len_tl y, hy]
      have ys : y.length ≤ sizeLine := by rw [sizeLine_eq]; have := dg_len (tl z); omega
      refine ite2 (fun e1 => ?_) (fun e1 => ?_)
      · exact no (rd_A (.inl (of_decide_eq_true e1))) H (Same.refl H)
      · have h1 : dg (tl z) ≠ [] := fun q => e1 (decide_eq_true q)
        refine ⟨_, rfl, _, rfl, ys, _, _, rfl, rfl, _, rfl, ?_⟩
        refine ite2 (fun e2 => ?_) (fun e2 => ?_)
        · have e2' := of_decide_eq_true e2
          exact no (rd_A (.inr (.inl (by omega)))) H (Same.refl H)
        · have l60 : (dg (tl z)).length ≤ 60 := by
            have e2' : ¬ (60 : Int) < (y.length : Int) := fun q => e2 (decide_eq_true q)
            omega
          refine ⟨_, rfl, y, rfl, fun L hL => ?_⟩
          refine lc_it walk_str (fun i H' => Same H H' ∧ H' L = some (.lst (((tl y).take i).map fun c => V.bl (decide (c ∈ tl ("0123456789" : Str)))))) ⟨sub_same hL, upd_same⟩ (fun _ _ _ _ => trivial) ?_ ?_
          · rintro i x H1 H2 hi ⟨s1, hD1⟩ ⟨rfl, c, hc, rfl⟩
            refine ⟨rfl, ?_⟩
            unfold tYes
            refine ite2 (fun _ => ?_) (fun q => absurd rfl q)
            refine ⟨_, rfl, c, _, rfl, rfl, _, hD1, ?_, ?_, ?_⟩
            · rw [List.length_map, List.length_take]
              rw [sizeLine_eq, hy]
              have := dg_len (tl z)
              omega
            · intro b o hb
              rw [upd_ne (ne_of_none hb hL)]
              exact s1 b o hb
            · rw [upd_same]
              have hc' : (tl y)[i]? = some c := by rw [← hc]; exact Array.getElem?_toList
              rw [List.take_succ, hc', List.map_append]
              rfl
          · rintro H1 ⟨s1, hD1⟩
            have full : (tl y).take y.cps.size = tl y := List.take_of_length_le (by rw [← len_tl y]; exact Nat.le_refl _)
            rw [full] at hD1
            refine ⟨L, _, rfl, .inl (.inl (by rw [hD1]; exact congrArg some (congrArg HO.lst (List.map_map ..).symm))), _, rfl, ?_⟩
            rw [all_num, hy]
            refine ite2 (fun e3 => ?_) (fun e3 => ?_)
            · exact no (rd_A (.inr (.inr (by simpa using e3)))) H1 s1
            · have h3 : (dg (tl z)).all (fun c => decide (48 ≤ c) && decide (c ≤ 57)) = true := by simpa using e3
              have fin : ((dg (tl z)).head? = some 48 → tl z = [48]) → ∃ i, PySem.intText? z = some i ∧ Q (.int i) H1 := fun h4 => by
                obtain ⟨i, r1, r2⟩ := rd_C (by have := dg_len1 (tl z); rw [len_tl z]; omega) h1 l60 h3 h4
                have x := q H1 s1
                rw [r1] at x
                exact ⟨i, r2, x⟩
              have l640 : z.length ≤ 640 := by
                have := dg_len1 (tl z)
                rw [len_tl z]
                omega
              cases hd : dg (tl z) with
              | nil => exact absurd hd h1
              | cons c0 r0 =>
                rw [hd] at fin
                refine ⟨_, rfl, y, 0, c0, rfl, rfl, ys, atI_nat (j := 0) (by show (tl y)[0]? = _; rw [hy, hd]; rfl), rfl, _, rfl, ?_⟩
                have f48 : decide (V.str ⟨#[c0]⟩ = V.str "0") = decide (c0 = 48) := decide_eq_decide.mpr (by
                  rw [str_eq, e48]
                  show [c0] = [48] ↔ _
                  simp)
                show if decide (V.str ⟨#[c0]⟩ = V.str "0") = true then _ else _
                rw [f48]
                have fz : decide (V.str z = V.str "0") = decide (tl z = [48]) := decide_eq_decide.mpr (by rw [str_eq, e48])
                refine ite2 (fun e4 => ?_) (fun e4 => ?_)
                · refine ⟨_, rfl, rfl, _, rfl, ?_⟩
                  show if (!decide (V.str z = V.str "0")) = true then _ else _
                  rw [fz]
                  refine ite2 (fun e5 => ?_) (fun e5 => ?_)
                  · exact no (rd_B (by rw [hd]; exact congrArg some (of_decide_eq_true e4)) (by simpa using e5)) H1 s1
                  · obtain ⟨i, r2, x⟩ := fin fun _ => by simpa using e5
                    exact ⟨_, rfl, z, i, rfl, r2, l640, x⟩
                · obtain ⟨i, r2, x⟩ := fin fun q => absurd (decide_eq_true (Option.some.inj q)) e4
                  exact ⟨_, rfl, z, i, rfl, r2, l640, x⟩
end
end K07

/-! # are_rows of any rows -/
namespace K07
open PySem PySem.Spec PyProof.Rows L2 TL NumText RZ
section
variable {X : Cx}
def tDownA (ta : TA) : TE := fun σ H Q => ta σ H fun vs H1 => ∃ i j : Int, vs = [.int i, .int j, .int (-1)] ∧ 0 ≤ i ∧ i ≤ 100001 ∧ 0 ≤ j ∧ j ≤ 100001 ∧ ∀ p, H1 p = none → Q (.ref p) (upd H1 p (.lst (dnV i j)))
theorem pe_listDownA {a b c : Expr} {ta : TA} {p pos p2 pos2 : Pos} (calm : X.calm = true) (gl : Gl X "list") (ml : X.mg "list" = none) (gr : Gl X "range") (mr : X.mg "range" = none) (ha : PA X [a, b, c] ta)
    (hs : starEach [a, b, c] X.env = (false, eval a X.env) :: starEach [b, c] X.env := by rfl) (hpl : (backTo pos2 (starEach [b, c] X.env)).any (·.1) = false := by rfl)
    (hs2 : starEach [.Call (.Name "range" p2) [a, b, c] [] pos2] X.env = (false, eval (.Call (.Name "range" p2) [a, b, c] [] pos2) X.env) :: starEach [] X.env := by rfl) (hpl2 : (backTo pos (starEach [] X.env)).any (·.1) = false := by rfl) :
    PE X (.Call (.Name "list" p) [.Call (.Name "range" p2) [a, b, c] [] pos2] [] pos) (tDownA ta) := by
  refine ⟨fun pins s σ H Q I h => ?_⟩
  refine wpAny_Call_Name_kw (ld_blt I gl ml (show bootBuiltins "list" = some (.type "list") by decide +kernel) ?_)
  refine PyProof.Rows.callWith_type1 ?_ hs2 hpl2
  rw [hs2]
  show wpAny _ _ (spliced ((false, eval (.Call (.Name "range" p2) [a, b, c] [] pos2) X.env) :: [])) _ _ s
  refine Calls.spliced_cons ?_
  refine wpAny_Call_Name_kw (ld_blt I gr mr boot_range ?_)
  refine PyProof.Rows.callWith_type1 (thn (ha.run pos2 pins s σ H _ I h) fun us s1 w1 => ?_) hs hpl
  obtain ⟨vs, H1, I1, r1, i, j, rfl, i0, i1, j0, j1, q⟩ := w1
  cases r1 with
  | cons r rr => cases rr with
    | cons r' rr => cases rr with
      | cons r'' rr =>
        cases rr
        obtain ⟨t, rfl⟩ := r
        obtain ⟨t', rfl⟩ := r'
        obtain ⟨t'', rfl⟩ := r''
        obtain ⟨c0, c1, c2, c3⟩ := RgC.neg (i := i) (j := j) (by omega) (by omega) (by omega) (by omega)
        refine call_range_3 c0 ?_ (.inl (PyProof.noPylong_small c1))
        refine Calls.spliced_nil ?_
        have I2 : Inv X pins σ H1 { s1 with heap := s1.heap.push { cls := .type "range", data := .fields #[.int i t, .int j t', .int (-1) t''] } } := I1.kept (t' := s1.toks) fun b o e => Heap.get?_push_of_some _ e
        refine call_list_range (n := (i - j).toNat) (I1.ok.hd calm) (IsRange.new ..) c2 c3 (by omega) fun h' tk acc c' kk hD hi => ?_
        have lv : acc.toList.length = (i - j).toNat := by rw [Array.length_toList]; exact hi.1
        have vv : Vals (dnV i j) acc.toList := by
          unfold dnV
          rw [← lv]
          refine vals_of_get acc.toList _ fun k u hk => ?_
          obtain ⟨t, rfl⟩ := hi.2 k u (by rw [← hk, Array.getElem?_toList])
          exact ⟨t, rfl⟩
        refine ⟨.ref _, upd H1 _ (.lst (dnV i j)), I2.laid (t' := tk) kk (Nat.le_refl _) ⟨?_, acc.toList, c', vv, by rw [Array.toArray_toList]; exact hD⟩, rfl, q _ (I2.hok.fresh (Nat.le_refl _))⟩
        unfold dnV
        rw [List.length_map, List.length_range, sizeLine_eq]
        omega
end
theorem map_cast_inj : ∀ {l m : List Nat}, l.map (fun (n : Nat) => (n : Int)) = m.map (fun (n : Nat) => (n : Int)) ↔ l = m
  | [], [] => by simp
  | [], _ :: _ => by simp
  | _ :: _, [] => by simp
  | x :: l, y :: m => by
    rw [List.map_cons, List.map_cons, List.cons.injEq, List.cons.injEq, map_cast_inj (l := l) (m := m)]
    constructor
    · rintro ⟨a, b⟩
      exact ⟨by omega, b⟩
    · rintro ⟨a, b⟩
      exact ⟨by omega, b⟩
def ovW (w : Str) : V := ov (rdS w)
theorem flat_ov (ws : List Str) : (ws.map ovW).all flatV = true := by
  rw [List.all_map]
  refine List.all_eq_true.mpr fun w _ => ?_
  show flatV (ov (rdS w)) = true
  cases rdS w <;> rfl
theorem none_ov (ws : List Str) : inV .non (ws.map ovW) = !ws.all fun w => (rdS w).isSome := by
  unfold inV
  rw [List.any_map]
  induction ws with
  | nil => rfl
  | cons w r ih =>
    rw [List.any_cons, List.all_cons, ih]
    have e : ((fun y => eqV y V.non) ∘ ovW) w = !(rdS w).isSome := by
      show eqV (ov (rdS w)) .non = _
      cases rdS w <;> rfl
    rw [e]
    cases (rdS w).isSome <;> rfl
theorem dn_map (n : Nat) : dnV ((n : Nat) : Int) 0 = (((List.range n).map fun i => n - i).map fun (k : Nat) => (k : Int)).map V.int := by
  unfold dnV
  rw [List.map_map, List.map_map, show ((n : Int) - 0).toNat = n by omega]
  refine List.map_congr_left fun k hk => ?_
  rw [List.mem_range] at hk
  show V.int _ = V.int ((n - k : Nat) : Int)
  congr 1
  omega
theorem take_flat {α : Type} {l : List (List α)} {i : Nat} {r : List α} (h : l[i]? = some r) : (l.take (i + 1)).flatten = (l.take i).flatten ++ r := by
  rw [List.take_succ, h, List.flatten_append]
  show _ ++ [r].flatten = _
  rw [List.flatten_singleton]
section
variable {P : Program} {w : World} {K : PySem.W.Frag} {mg : Str → Option Value} {base : Heap} {C CS TL : Addr}
/-- any rows, not too many -/
def Few (rows : List (List Str)) : Prop := rows.length ≤ 6001 ∧ (rows.flatten).length ≤ 2000000 ∧ ∀ r ∈ rows, ∀ w ∈ r, w.length ≤ 6000
def spRowsA (K : PySem.W.Frag) : Sp := fun vs H Q _ => ∃ (v : V) (rows : List (List Str)), vs = [v] ∧ BlkL H v rows ∧ Few rows ∧ ∀ H', Same H H' → Q (.bl (rowsG rows)) H'
theorem ok_rowsA {f f1 : Addr} {fd fd1 : FuncData} {k : Nat} (T : Txt mg) (N : Nam mg) (d : D K mg "are_rows" s_rows ["rows"] f fd) (d1 : D K mg "read_integer" s_read_integer ["text"] f1 fd1) (G1 : FnOk P w K mg base CX0 1 f1 fd1 ["text"] spReadA) :
    FnOk P w K mg base CX0 2 f fd ["rows"] (spRowsA K) := by
  refine d.F.ok sc_rows (fun vs H Q E h => ?_) (fun cdv A outer s H vs Q E hr h => ?_)
  · obtain ⟨v, rows, rfl, _⟩ := h
    rfl
  · obtain ⟨v, rows, rfl, ⟨l, xs, rfl, el, pr⟩, ⟨f1, f2, f3⟩, q⟩ := h
    have un : (A.deeper (envOfC "are_rows" (defScope s_rows) s.heap.objs.size f cdv)).units + 64 < cLine := by have := hr.un; omega
    refine ⟨_, (pss_cons (ps_if (pt_cmpR (op_neD un) (pe_lc (own := [("words", 1)]) (g := gName 1) (tt := tYes) rfl sc_rows.nd (pi_list (pv 0)) (blkOk_by (own := [("words", 1)]) (N := ["rows", "words", "word"]) (sc := defScope s_rows) (by decide +kernel))
            (fun _ _ _ _ _ => (pg_name (i := 1) sc_rows.nd rfl (Or.inl rfl))) (fun _ _ _ _ _ => pts_nil) (fun _ _ _ _ _ => (pe_callB (call_len_seqK (K := K) rfl) (by rfl) T.n_len PySem.boot_len (pa_cons (pv 1) pa_nil)))) (pe_listDownA rfl (by rfl) N.n_list (by rfl) T.n_range (pa_cons (pe_callB call_len_seq (by rfl) T.n_len PySem.boot_len (pa_cons (pv 0) pa_nil)) (pa_cons pe_int (pa_cons (pe_un un_neg pe_int) pa_nil)))) (nomark _)) (pss_one (ps_ret pe_bl)) pss_nil)
      (pss_one (ps_ret (pe_cmpR op_notIn_seq pe_non (pe_lc2 (own := [("words", 1), ("word", 2)]) (vs1 := [2]) (g := gName 1) (tt := tYes) (g1 := gName 2) (tt1 := tYes) rfl sc_rows.nd (pi_list (pv 0)) (blkOk_by (own := [("words", 1), ("word", 2)]) (N := ["rows", "words", "word"]) (sc := defScope s_rows) (by decide +kernel)) (by decide)
            (fun _ _ _ _ _ => pg_name (i := 1) sc_rows.nd rfl (Or.inl rfl)) (fun _ _ _ _ _ => pts_nil) (fun _ _ _ _ _ => pi_listK (K := K) rfl (pv 1)) (fun _ _ _ _ _ => pg_name (i := 2) sc_rows.nd rfl (Or.inl rfl)) (fun _ _ _ _ _ => pts_nil) (fun _ _ _ _ _ => pe_call G1 (hr.mono (by decide)) (by rfl) d1.g d1.F.kp d1.b .nil pass0 (pa_cons (pv 2) pa_nil))) (by rfl))))), ?_⟩
    have lx : xs.length = rows.length := Paired.length pr
    refine ⟨_, rfl, l, rfl, ⟨_, .inl (.inl el)⟩, fun L nL => ?_⟩
    refine lc_list (K := K) (a := l) (xs := xs) (fun i Y => Same H Y ∧ Y L = some (.lst ((((rows.take i).map List.length).map fun (k : Nat) => (k : Int)).map V.int))) ⟨sub_same nL, upd_same⟩ (fun i Y _ h => .inl (.inl (h.1 _ _ el))) ?_ ?_
    · rintro i x Y hx ⟨sy, hl⟩
      obtain ⟨ws, ew, r, rfl, er⟩ := paired_get pr hx
      have il := (List.getElem?_eq_some_iff.mp ew).1
      refine ⟨rfl, yesT ⟨_, rfl, r, _, rfl, .inl (.inl (.inl (sy _ _ er))), _, hl, ?_, fun k ob e => ?_, ?_⟩⟩
      · rw [List.length_map, List.length_map, List.length_map, List.length_take, sizeLine_eq]
        omega
      · rw [upd_ne (fun z => by rw [z, nL] at e; cases e)]
        exact sy _ _ e
      · rw [upd_same, List.take_succ, ew, List.map_append, List.map_append, List.map_append, List.length_map]
        rfl
    · rintro Y ⟨sy, hl⟩
      rw [lx, List.take_length] at hl
      refine ⟨_, rfl, l, _, rfl, .inl (.inl (.inl (sy _ _ el))), _, rfl, _, 0, rfl, by omega, by omega, by omega, by omega, fun p np => ?_⟩
      rw [lx, dn_map]
      have hl2 := sub_same (o := .lst ((((List.range rows.length).map fun i => rows.length - i).map fun (k : Nat) => (k : Int)).map V.int)) np _ _ hl
      have s2 := sy.trans (sub_same (o := .lst ((((List.range rows.length).map fun i => rows.length - i).map fun (k : Nat) => (k : Int)).map V.int)) np)
      refine ⟨_, _, .lst (.inl (.inl hl2)) (dp_ints K _ _), .lst (.inl (.inl upd_same)) (dp_ints K _ _), shaped_lints _, shaped_lints _, ?_⟩
      rw [eqv_lists, decide_eq_decide.mpr map_cast_inj]
      unfold rowsG at q
      refine ⟨!decide (rows.map List.length = (List.range rows.length).map fun i => rows.length - i), rfl, ?_⟩
      refine ite2 (fun z => ?_) (fun z => ?_)
      · have e : decide (rows.map List.length = (List.range rows.length).map fun i => rows.length - i) = false := by simpa using z
        rw [e] at q
        exact q _ s2
      have e : decide (rows.map List.length = (List.range rows.length).map fun i => rows.length - i) = true := by simpa using z
      rw [e, Bool.true_and] at q
      clear z
      revert s2
      generalize upd Y p (.lst ((((List.range rows.length).map fun i => rows.length - i).map fun (k : Nat) => (k : Int)).map V.int)) = Y2
      intro s2
      have el2 := s2 _ _ el
      refine ⟨_, rfl, l, rfl, ⟨_, .inl (.inl el2)⟩, fun D nD => ?_⟩
      refine it_gen (walk_list (K := K) (a := l) (xs := xs)) (fun i Z => Same Y2 Z ∧ Z D = some (.lst ((rows.take i).flatten.map ovW))) ⟨sub_same nD, upd_same⟩ (fun i Z _ h => .inl (.inl (h.1 _ _ el2))) ?_ ?_
      · rintro i x Z _ hi ⟨sz, hd⟩ ⟨rfl, ex⟩
        obtain ⟨ws, ew, r, rfl, er⟩ := paired_get pr ex
        refine ⟨rfl, yesT ?_⟩
        have er2 := sz _ _ (s2 _ _ er)
        have lf : (rows.take i).flatten.length + ws.length ≤ 2000000 := by
          have z := take_flat ew
          have z2 : (rows.take (i + 1)).flatten.length ≤ rows.flatten.length := by
            conv => rhs; rw [← List.take_append_drop (i + 1) rows]
            rw [List.flatten_append, List.length_append]
            omega
          rw [z, List.length_append] at z2
          omega
        refine ⟨_, rfl, r, rfl, ⟨_, .inl (.inl er2)⟩, ?_⟩
        refine it_gen (walk_list (K := K) (a := r) (xs := ws.map V.str)) (fun j Z => Same Y2 Z ∧ Z D = some (.lst (((rows.take i).flatten ++ ws.take j).map ovW))) ⟨sz, by rw [List.take_zero, List.append_nil]; exact hd⟩ (fun j Z _ h => .inl (.inl (h.1 _ _ (s2 _ _ er)))) ?_ ?_
        · rintro j x U _ hj ⟨su, hd2⟩ ⟨rfl, ex2⟩
          obtain ⟨wd, ewd, rfl⟩ := strs_get ex2
          have jl := (List.getElem?_eq_some_iff.mp ewd).1
          have wl := f3 _ (List.mem_of_getElem? ew) _ (List.mem_of_getElem? ewd)
          refine ⟨rfl, yesT ⟨_, rfl, _, rfl, by omega, fun U2 s4 => ?_⟩⟩
          refine ⟨_, s4 _ _ hd2, ?_, fun k ob e => ?_, ?_⟩
          · rw [List.length_map, List.length_append, List.length_take, sizeLine_eq]
            omega
          · rw [upd_ne (fun z => by rw [z, nD] at e; cases e)]
            exact s4 _ _ (su _ _ e)
          · rw [upd_same, List.take_succ, ewd]
            show some (HO.lst (((rows.take i).flatten ++ ws.take j).map ovW ++ [wd].map ovW)) = some (HO.lst (((rows.take i).flatten ++ (ws.take j ++ [wd])).map ovW))
            rw [← List.map_append, List.append_assoc]
        · rintro U ⟨su, hd2⟩
          rw [List.length_map, List.take_length, ← take_flat ew] at hd2
          exact ⟨su, hd2⟩
      · rintro Z ⟨sz, hd⟩
        rw [lx, List.take_length] at hd
        refine ⟨D, _, rfl, .inl (.inl (.inl hd)), rfl, flat_ov _, ?_⟩
        show Q (.bl (!(inV .non (rows.flatten.map ovW)))) Z
        rw [none_ov, List.all_flatten, Bool.not_not]
        exact q Z (s2.trans sz)
end
end K07

/-! # any text read -/
namespace K07
open PySem PySem.Spec PyProof.Rows L2 TL NumText RZ
abbrev s_pinit : Stmt := inClass (topS 5) 0
theorem sc_pinit : FnScope ["self", "spot"] ["self", "spot"] (defScope s_pinit) := ⟨rfl, rfl, rfl, by decide +kernel, rfl, by decide +kernel, by decide +kernel⟩
theorem joinL_sum (S : List Nat) : ∀ ps : List (List Nat), (ps.map List.length).sum ≤ (joinL S ps).length
  | [] => Nat.zero_le _
  | [p] => by show p.length + 0 ≤ p.length; omega
  | p :: q :: r => by
    have z := joinL_sum S (q :: r)
    rw [joinL_cons (by simp), List.length_append, List.length_append, List.map_cons, List.sum_cons]
    omega
theorem split_sum {y : Str} (S : Sep y) (x : Str) : ((Txt.split x y).map (·.length)).sum ≤ x.length := by
  have z := joinL_sum (tl y) (spl (tl y) 0 [] (tl x))
  rw [(join_spl S.n _ _ _ (Nat.le_refl _)).1, ← split_tl S, List.nil_append, List.map_map] at z
  rw [len_tl x]
  refine Nat.le_trans (Nat.le_of_eq ?_) z
  congr 1
theorem few_W3 {t : Str} (t2 : t.length ≤ 6000) : ∀ rows ∈ W3 t, Few rows := fun rows hr => by
  unfold W3 at hr
  obtain ⟨b, hb, rfl⟩ := List.mem_map.mp hr
  have bl := (split_le sep_c t).2 b hb
  obtain ⟨l1, m1⟩ := split_le sep_s b
  unfold W2
  refine ⟨by rw [List.length_map]; omega, ?_, fun r hr w hw => ?_⟩
  · -- at most one word more than signs, row by row
    have go : ∀ rs : List Str, ((rs.map W1).flatten).length ≤ (rs.map (·.length)).sum + rs.length := fun rs => by
      induction rs with
      | nil => exact Nat.le_refl _
      | cons x r ih =>
        rw [List.map_cons, List.flatten_cons, List.length_append, List.map_cons, List.sum_cons, List.length_cons]
        have := (split_le sep_b x).1
        unfold W1 at ih ⊢
        omega
    have z := go (Txt.split b "/")
    have y := split_sum sep_s b
    omega
  · obtain ⟨x, hx, rfl⟩ := List.mem_map.mp hr
    have := (split_le sep_b x).2 w hw
    have := m1 x hx
    omega
section
variable {P : Program} {w : World} {K : PySem.W.Frag} {mg : Str → Option Value} {base : Heap} {C CP CS : Addr}
def spPinit (CP : Addr) : Sp := fun vs H Q _ => ∃ (a : Addr) (v : V), vs = [.ref a, v] ∧ H a = some (exo a CP none) ∧ ∀ dx, H dx = none → dx ≠ a → Q .non (upd (upd H dx (exd dx [(("spot" : Str), v)])) a (exo a CP (some dx)))
theorem ok_pinit {f : Addr} {fd : FuncData} {k : Nat} (T : OexC K CP) (no : PySem.W.findIn K (.ref CP) "spot" = some none) (d : M K "__init__" "ParseError.__init__" s_pinit ["self", "spot"] f fd) : FnOk P w K mg base CX0 (k + 1) f fd ["self", "spot"] (spPinit CP) := by
  refine d.F.ok sc_pinit (fun vs H Q E h => ?_) (fun cdv A outer s H vs Q E hr h => ?_)
  · obtain ⟨a, v, rfl, _⟩ := h
    rfl
  · obtain ⟨a, v, rfl, ha, g⟩ := h
    refine ⟨_, pss_one (ps_ost (pv 0) (pv 1)), ?_⟩
    exact ⟨v, rfl, .ref a, rfl, a, CP, rfl, T, no, .inl ⟨ha, g⟩⟩
/-- an error that tells of the spot 0 -/
def Bad (CP : Addr) (H : Hp) (E : XK) : Prop := ∀ (d : Addr) (H' : Hp), Same H H' → H' d = some (.xd [(("spot" : Str), .int 0)]) → E (.ref CP) (some d) H'
theorem bad_raise {H0 H1 : Hp} {E : XK} {σ : L2.St} (b : Bad CP H0 E) (s : Same H0 H1) : tMkO CP (spPinit CP) [] (tCons (tC (.int 0)) tNil) σ H1 E := by
  refine ⟨by decide, fun a ha => ⟨a, .int 0, rfl, upd_same, fun dx hdx ne => ⟨rfl, dx, [(("spot" : Str), .int 0)], upd_same, (upd_ne ne).trans upd_same, ?_, b dx _ (fun c o h => ?_) upd_same⟩⟩⟩
  · rw [upd_ne ne] at hdx
    exact hdx
  · rw [upd_ne ne] at hdx
    have h1 := s c o h
    rw [upd_ne (ne_of_none h1 hdx), del_ne (ne_of_none h1 ha), upd_ne (ne_of_none h1 ha), upd_ne (ne_of_none h1 hdx), upd_ne (ne_of_none h1 ha)]
    exact h1
structure RD (K : PySem.W.Frag) (mg : Str → Option Value) (CP fP : Addr) (fdP : FuncData) : Prop where
  T : OexC K CP
  no : PySem.W.findIn K (.ref CP) "spot" = some none
  iC : PySem.W.findIn K (.ref CP) "__init__" = some (some (.ref fP))
  tI : PySem.W.typeIn K (.ref fP) = some (.type "function")
  g : mg "ParseError" = some (.ref CP)
  m : M K "__init__" "ParseError.__init__" s_pinit ["self", "spot"] fP fdP
/-- no text *-/
def NStr (K : PySem.W.Frag) (H : Hp) (x : V) : Prop := ∃ ty, TyX K H x ty ∧ kit K ty (.type "str") false
def spReadX (K : PySem.W.Frag) (C CP : Addr) : Sp := fun vs H Q E => ∃ x : V, vs = [.ref C, x] ∧
  ((∃ t : Str, x = .str t ∧ t.length ≤ 6000 ∧ (goodW (W3 t) = false → Bad CP H E) ∧ (goodW (W3 t) = true → ∀ H' c, Same H H' → StairO K H' c C (shpW (W3 t)) (numsL (numW (W3 t)) (shpW (W3 t))) → Q (.ref c) H')) ∨
   (NStr K H x ∧ Bad CP H E))
theorem ok_readX {f f1 f2 f3 f4 fI fP : Addr} {fd fd1 fd2 fd3 fd4 fdI fdP : FuncData} (T : Txt mg) (N : Nam mg) (d : M K "read" "Stair.read" s_read ["cls", "text"] f fd) (d1 : D K mg "blocks_of" s_blks ["text"] f1 fd1) (G1 : FnOk P w K mg base CX0 1 f1 fd1 ["text"] (spBlksA K))
    (d2 : D K mg "is_shape" s_is_shape ["value"] f2 fd2) (G2 : FnOk P w K mg base CX0 3 f2 fd2 ["value"] (spShape K)) (d3 : D K mg "are_rows" s_rows ["rows"] f3 fd3) (G3 : FnOk P w K mg base CX0 2 f3 fd3 ["rows"] (spRowsA K))
    (d4 : D K mg "entries_of" s_eof ["shape", "blocks"] f4 fd4) (G4 : FnOk P w K mg base CX0 6 f4 fd4 ["shape", "blocks"] (spEof K)) (mk : Mk K C fI) (GI : FnOk P w K mg base CX0 7 fI fdI ["self", "shape", "entries"] (spInit K C)) (bI : Binds K fdI ["self", "shape", "entries"] [])
    (dP : RD K mg CP fP fdP) (GP : FnOk P w K mg base CX0 1 fP fdP ["self", "spot"] (spPinit CP)) :
    FnOk P w K mg base (L2.CX P w) 9 f fd ["cls", "text"] (spReadX K C CP) := by
  refine d.F.okX sc_read (fun vs H Q E h => ?_) (fun cdv A outer s H vs Q E hr h => ?_)
  · obtain ⟨x, rfl, _⟩ := h
    rfl
  · obtain ⟨x, rfl, h⟩ := h
    refine ⟨_, (pss_cons (ps_set (i := 2) sc_read.nd rfl (.inl rfl) (pe_ifExp (pt_val (pe_callB call_isi (by rfl) T.n_isinstance (by decide +kernel) (pa_cons (pv 1) (pa_cons (pe_bltn (v := .ty "str") (by rfl) N.n_str (by decide +kernel) rfl) pa_nil)))) (pe_call G1 (hr.mono (by decide)) (by rfl) d1.g d1.F.kp d1.b .nil pass0 (pa_cons (pv 1) pa_nil)) (pe_lst pa_nil)))
      (pss_cons (ps_set (i := 3) sc_read.nd rfl (.inl rfl) (pe_tupleOf (by rfl) T.n_tuple (pe_lc (own := [("rows", 4)]) (g := gName 4) (tt := tYes) rfl sc_read.nd (pi_list (pv 2)) (blkOk_by (own := [("rows", 4)]) (N := ["cls", "text", "blocks", "shape", "rows"]) (sc := defScope s_read) (by decide +kernel))
            (fun _ _ _ _ _ => (pg_name (i := 4) sc_read.nd rfl (Or.inl rfl))) (fun _ _ _ _ _ => pts_nil) (fun _ _ _ _ _ => (pe_op op_add (pe_callB (call_len_seqK (K := K) rfl) (by rfl) T.n_len PySem.boot_len (pa_cons (pv 4) pa_nil)) pe_int)))))
      (pss_cons (ps_if (PW.pt (pw_or (pt_not (pt_val (pe_call G2 (hr.mono (by decide)) (by rfl) d2.g d2.F.kp d2.b .nil pass0 (pa_cons (pv 3) pa_nil)))) (pw_or1 (pt_not (pt_val (pe_callB (cr_all rfl) (by rfl) N.n_all (by decide +kernel) (pa_cons (pe_lc (own := [("rows", 4)]) (g := gName 4) (tt := tYes) rfl sc_read.nd (pi_list (pv 2)) (blkOk_by (own := [("rows", 4)]) (N := ["cls", "text", "blocks", "shape", "rows"]) (sc := defScope s_read) (by decide +kernel))
            (fun _ _ _ _ _ => (pg_name (i := 4) sc_read.nd rfl (Or.inl rfl))) (fun _ _ _ _ _ => pts_nil) (fun _ _ _ _ _ => (pe_call G3 (hr.mono (by decide)) (by rfl) d3.g d3.F.kp d3.b .nil pass0 (pa_cons (pv 4) pa_nil)))) pa_nil))))))) (pss_one (ps_raise rfl (takes_of rfl rfl rfl rfl) (pmk_oex dP.T dP.iC dP.tI GP (hr.mono (by decide)) dP.m.b .nil pass0 (by rfl) dP.g (pa_cons pe_int pa_nil)))) pss_nil)
      (pss_one (ps_ret (pe_makeL mk GI hr bI .nil pass0 (pv 0) (pa_cons (pv 3) (pa_cons (pe_call G4 (hr.mono (by decide)) (by rfl) d4.g d4.F.kp d4.b .nil pass0 (pa_cons (pv 3) (pa_cons (pv 2) pa_nil))) pa_nil)))))))), ?_⟩
    -- the blocks, of a text or none
    rcases h with ⟨t, rfl, t2, hbad, hgood⟩ | ⟨⟨t, ty, kb⟩, hbad⟩
    case' inl =>
      refine ⟨_, rfl, _, _, _, _, _, rfl, .ty _, (Dw.tv (.str t) : Dw K H _ _).ty, kit_ty (show kitB "str" "str" = some true by decide +kernel), _, rfl, iteT ?_⟩
      refine ⟨_, rfl, t, rfl, by omega, fun H1 y s1 bl => ?_⟩
      have few := few_W3 t2
      have wl : (W3 t).length ≤ 6001 := by
        have := (split_le sep_c t).1
        unfold W3
        rw [List.length_map]
        omega
      revert bl few wl hbad hgood
      generalize W3 t = W
      intro hbad hgood bl few wl
    case' inr =>
      refine ⟨_, rfl, _, _, t, _, false, rfl, .ty _, ty, kb, false, rfl, ?_⟩
      refine ⟨Nat.zero_le _, fun p np => ?_⟩
      have bl : BlksL (upd H p (.lst [])) (.ref p) [] := ⟨p, [], rfl, upd_same, .nil⟩
      have s1 := sub_same (o := .lst []) np
      revert bl s1
      generalize upd H p (.lst []) = H1
      intro bl s1
      obtain ⟨W, eW⟩ : ∃ W : List (List (List Str)), W = [] := ⟨[], rfl⟩
      rw [← eW] at bl
      revert bl
      dsimp only
      generalize V.ref p = y
      intro bl
      have few : ∀ rows ∈ W, Few rows := fun rows h => by rw [eW] at h; cases h
      have wl : W.length ≤ 6001 := by rw [eW]; decide
      have hbad : goodW W = false → Bad CP H E := fun _ => hbad
      have hgood : goodW W = true → ∀ H' c, Same H H' → StairO K H' c C (shpW W) (numsL (numW W) (shpW W)) → Q (.ref c) H' := fun h => by rw [eW] at h; cases h
    all_goals
      obtain ⟨l, bs, rfl, el, pb⟩ := id bl
      have lx : bs.length = W.length := Paired.length pb
      have gs : ∀ {i : Nat} {wss : List (List Str)}, W[i]? = some wss → (shpW W)[i]? = some ((wss.length : Int) + 1) := fun {i wss} h => by
        unfold shpW
        rw [List.getElem?_map, h]
        rfl
      have ls : (shpW W).length = W.length := by
        unfold shpW
        rw [List.length_map]
      refine ⟨_, rfl, l, rfl, ⟨_, .inl (.inl el)⟩, fun L nL => ?_⟩
      refine lc_list (K := K) (a := l) (xs := bs) (fun i Y => Same H1 Y ∧ Y L = some (.lst (((shpW W).take i).map V.int))) ⟨sub_same nL, upd_same⟩ (fun i Y _ h => .inl (.inl (h.1 _ _ el))) ?_ ?_
      · rintro i x Y hx ⟨sy, hl⟩
        obtain ⟨wss, ew2, bo, rs, rfl, ebo, pr⟩ := paired_get pb hx
        have lr : rs.length = wss.length := Paired.length pr
        refine ⟨rfl, yesT ⟨_, rfl, bo, rs, rfl, .inl (.inl (.inl (sy _ _ ebo))), _, _, rfl, rfl, _, hl, ?_, fun k ob e => ?_, ?_⟩⟩
        · rw [List.length_map, List.length_take, ls, sizeLine_eq]
          omega
        · rw [upd_ne (fun z => by rw [z, nL] at e; cases e)]
          exact sy _ _ e
        · rw [upd_same, List.take_succ, gs ew2, List.map_append, lr]
          rfl
      · rintro Y ⟨sy, hl⟩
        rw [lx, ← ls, List.take_length] at hl
        refine .inl ⟨L, _, rfl, .inl (.inl hl), fun p np => ?_⟩
        have s2 := sy.trans (sub_same (o := .tup ((shpW W).map V.int)) np)
        have ep : upd Y p (.tup ((shpW W).map V.int)) p = some (.tup ((shpW W).map V.int)) := upd_same
        revert s2 ep
        generalize upd Y p (.tup ((shpW W).map V.int)) = H2
        intro s2 ep
        refine ⟨_, rfl, _, .tuple ((shpW W).map .int), rfl, .tv (.tup (sqt_new ep) (tvl_ints _)), fun H3 s3 => ⟨_, rfl, ?_⟩⟩
        cases hS : isSh (.tuple ((shpW W).map .int)) with
        | false =>
          refine ite2 (fun _ => ?_) (fun z => absurd rfl z)
          exact bad_raise (hbad (by unfold goodW; rw [hS]; rfl)) ((s1.trans s2).trans s3)
        | true =>
          refine ite2 (fun z => absurd z Bool.false_ne_true) (fun _ => ?_)
          have el3 := s3 _ _ (s2 _ _ el)
          refine ⟨_, rfl, l, rfl, ⟨_, .inl (.inl el3)⟩, fun L2 nL2 => ?_⟩
          refine lc_list (K := K) (a := l) (xs := bs) (fun i Z => Same H3 Z ∧ Z L2 = some (.lst (((W.take i).map rowsG).map V.bl))) ⟨sub_same nL2, upd_same⟩ (fun i Z _ h => .inl (.inl (h.1 _ _ el3))) ?_ ?_
          · rintro i x Z hx ⟨sz, hl2⟩
            obtain ⟨wss, ew2, bb⟩ := paired_get pb hx
            refine ⟨rfl, yesT ⟨_, rfl, x, wss, rfl, ((bb.same s2).same s3).same sz, few _ (List.mem_of_getElem? ew2), fun Z2 s4 => ?_⟩⟩
            refine ⟨_, s4 _ _ hl2, ?_, fun k ob e => ?_, ?_⟩
            · rw [List.length_map, List.length_map, List.length_take, sizeLine_eq]
              omega
            · rw [upd_ne (fun z => by rw [z, nL2] at e; cases e)]
              exact s4 _ _ (sz _ _ e)
            · rw [upd_same, List.take_succ, ew2, List.map_append, List.map_append]
              rfl
          · rintro Z ⟨sz, hl2⟩
            rw [lx, List.take_length] at hl2
            refine ⟨L2, W.map rowsG, rfl, .inl (.inl hl2), _, rfl, ?_⟩
            rw [List.all_map]
            have sZ := (s2.trans s3).trans sz
            cases hR : W.all (id ∘ rowsG) with
            | false =>
              refine ite2 (fun _ => ?_) (fun z => absurd rfl z)
              exact bad_raise (hbad (by unfold goodW; rw [hS]; exact hR)) (s1.trans sZ)
            | true =>
              refine ite2 (fun z => absurd z Bool.false_ne_true) (fun _ => ?_)
              have good : goodW W = true := by unfold goodW; rw [hS]; exact hR
              obtain ⟨S, sm, ew⟩ := good_text good
              have q := hgood good
              rw [← ew] at bl
              generalize numW W = num at sm ew bl q
              have blZ := bl.same sZ
              refine ⟨_, rfl, rfl, _, rfl, _, rfl, _, rfl, p, _, num, shpW W, rfl, sqt_new (sz _ _ (s3 _ _ ep)), blZ, S, sm, fun H6 D s6 nD eD => ?_⟩
              refine fun a dd na nd ne => ?_
              have sM : Same H6 (upd (upd H6 dd (.own a)) a (.ins C dd [])) := (sub_same nd).trans (sub_same (by rw [upd_ne (Ne.symm ne)]; exact na))
              have M := tables3 (shpW W) (shp_mem S)
              have ent : Ent (shpW W) (dictO (pl (shpW W)) num) := ent_dictO S (fun t m => m) (by omega) sm
              have sA := (s1.trans sZ).trans s6
              refine ⟨a, p, D, dd, shpW W, _, rfl, upd_same, sqt_same (sqt_new (s6 _ _ (sz _ _ (s3 _ _ ep)))) sM, S, sM _ _ eD, ent, fun H9 o9 st => ⟨rfl, ?_⟩⟩
              rw [nums_dictO (fun t m n => absurd m n)] at st
              refine q H9 a (fun b ob eb => ?_) st
              have e1 := sA _ _ eb
              exact o9 _ _ (fun z => by rw [z, na] at e1; cases e1) (sM _ _ e1)
end
end K07

/-! # the law's integers -/
namespace K07
open PySem PySem.Spec PyProof.Rows L2 TL NumText RZ
/-- plain signs -/
def Asc (z : Str) : Prop := ∀ c ∈ tl z, c < 128
theorem dp_signs (K : PySem.W.Frag) (H : Hp) : ∀ cs : List Nat, DpAll K H (cs.map fun c => V.str ⟨#[c]⟩) (cs.map fun c => PyData.str ⟨#[c]⟩)
  | [] => .nil
  | c :: cs => .cons (.str _) (dp_signs K H cs)
theorem sh_signs : ∀ {cs : List Nat}, (∀ c ∈ cs, c < 128) → PyData.canLayAll0 (cs.map fun c => PyData.str ⟨#[c]⟩) = true ∧ PyData.depthAll (cs.map fun c => PyData.str ⟨#[c]⟩) = 0
  | [], _ => ⟨rfl, rfl⟩
  | c :: cs, h => by
    obtain ⟨a, b⟩ := sh_signs fun d hd => h d (List.mem_cons_of_mem _ hd)
    have hc := h c (List.mem_cons_self ..)
    constructor
    · show (PyData.strOk ⟨#[c]⟩ && PyData.canLayAll0 (cs.map fun c => PyData.str ⟨#[c]⟩)) = true
      rw [a, Bool.and_true]
      have q : ∀ d : Nat, d < 128 → PyData.strOk ⟨#[d]⟩ = true := by decide +kernel
      exact q c hc
    · show max 0 (PyData.depthAll (cs.map fun c => PyData.str ⟨#[c]⟩)) = 0
      rw [b]
      rfl
theorem shaped_signs {cs : List Nat} (h : ∀ c ∈ cs, c < 128) : SeqAt.shaped (.list (cs.map fun c => PyData.str ⟨#[c]⟩)) = true := by
  obtain ⟨a, b⟩ := sh_signs h
  show (PyData.canLayAll0 (cs.map fun c => PyData.str ⟨#[c]⟩) && decide (PyData.depthAll (cs.map fun c => PyData.str ⟨#[c]⟩) + 1 ≤ 64)) = true
  rw [a, b]
  rfl
theorem eqv_nilS (cs : List Nat) : PyData.eqv (.list (cs.map fun c => PyData.str ⟨#[c]⟩)) (.list []) = decide (cs = []) := by
  cases cs with
  | nil => rfl
  | cons a b => rfl
theorem mem_dg {cs : List Nat} {c : Nat} (m : c ∈ dg cs) : c ∈ cs := by
  unfold dg at m
  by_cases h : cs.head? = some 45
  · rw [if_pos h] at m
    exact List.mem_of_mem_drop (i := 1) (by rw [List.drop_one]; exact m)
  · rw [if_neg h] at m
    exact m
/-- the signs that are no digits -/
def oddS (cs : List Nat) : List Nat := cs.filter fun c => !decide (c ∈ tl ("0123456789" : Str))
theorem odd_nil (cs : List Nat) : oddS cs = [] ↔ cs.all (fun c => decide (48 ≤ c) && decide (c ≤ 57)) = true := by
  rw [← all_num, List.all_map]
  unfold oddS
  rw [List.filter_eq_nil_iff, List.all_eq_true]
  refine forall_congr' fun c => forall_congr' fun _ => ?_
  show ¬(!decide (c ∈ tl ("0123456789" : Str))) = true ↔ decide (c ∈ tl ("0123456789" : Str)) = true
  cases decide (c ∈ tl ("0123456789" : Str)) <;> simp
section
variable {P : Program} {w : World} {K : PySem.W.Frag} {mg : Str → Option Value} {base : Heap} {C CS TL : Addr}
abbrev s_lint : Stmt := topS 55
theorem sc_lint : FnScope ["_law_text_here", "_law_digits", "_law_sign"] ["_law_text_here"] (defScope s_lint) := ⟨rfl, rfl, rfl, by decide +kernel, rfl, by decide +kernel, by decide +kernel⟩
def spLInt : Sp := fun vs H Q _ => ∃ z : Str, vs = [.str z] ∧ z.length ≤ 100000 ∧ Asc z ∧ ∀ H', Same H H' → Q (ov (rd (tl z))) H'
theorem ok_lint {f : Addr} {fd : FuncData} {k : Nat} (T : Txt mg) (N : Nam mg) (d : D K mg "_law_integer" s_lint ["_law_text_here"] f fd) : FnOk P w K mg base CX0 (k + 1) f fd ["_law_text_here"] spLInt := by
  refine d.F.ok sc_lint (fun vs H Q E h => ?_) (fun cdv A outer s H vs Q E hr h => ?_)
  · obtain ⟨z, rfl, _⟩ := h
    rfl
  · obtain ⟨z, rfl, hz, az, q⟩ := h
    have u64 : (A.deeper (envOfC "_law_integer" (defScope s_lint) s.heap.objs.size f cdv)).units + 64 < cLine := by have := hr.un; omega
    refine ⟨_, (pss_cons (ps_set (i := 1) sc_lint.nd rfl (.inl rfl) (pe_ifExp (pt_cmpR op_eq (pe_slice sl_str (pv 0) po_none (po_some pe_int)) pe_str (nomark _)) (pe_slice sl_str (pv 0) (po_some pe_int) po_none) (pv 0)))
      (pss_cons (ps_if (PW.pt (pw_or (pt_cmpR op_eq (pv 1) pe_str (nomark _)) (pw_or (pt_cmpR op_gt (pe_callB call_len_str (by rfl) T.n_len PySem.boot_len (pa_cons (pv 1) pa_nil)) pe_int (nomark _)) (pw_or1 (pt_cmpR (op_neD u64) (pe_lc (own := [("_law_sign", 2)]) (g := gName 2) rfl sc_lint.nd (pi_str (pv 1)) (blkOk_by (own := [("_law_sign", 2)]) (N := ["_law_text_here", "_law_digits", "_law_sign"]) (sc := defScope s_lint) (by decide +kernel))
            (fun _ _ _ _ _ => (pg_name (i := 2) sc_lint.nd rfl (Or.inl rfl))) (fun _ _ _ _ _ => (pts_one (pt_cmpR op_notIn_sign (pv 2) pe_str (by rfl)))) (fun _ _ _ _ _ => (pv 2))) (pe_lst pa_nil) (nomark _)))))) (pss_one (ps_ret pe_non)) pss_nil)
      (pss_cons (ps_if (PW.pt (pw_and (pt_cmpR op_eq (pe_ix ix_str (pv 1) pe_int (fun _ _ => rfl)) pe_str (nomark _)) (pw_and1 (PW.pt (pw_or (pt_cmpR op_ne (pv 1) pe_str (nomark _)) (pw_or1 (pt_cmpR op_ne (pv 0) pe_str (nomark _)))))))) (pss_one (ps_ret pe_non)) pss_nil)
      (pss_one (ps_ret (pe_callTy call_int_str (by rfl) T.n_int (by decide +kernel) (pa_cons (pv 0) pa_nil))))))), ?_⟩
    have zl : (tl z).length ≤ 100000 := by rw [← len_tl z]; exact hz
    have sz : z.length ≤ sizeLine := by rw [sizeLine_eq]; omega
    have e45 : tl ("-" : Str) = [45] := by decide +kernel
    have e0 : tl ("" : Str) = [] := by decide +kernel
    have e48 : tl ("0" : Str) = [48] := by decide +kernel
    have no : rd (tl z) = none → ∀ H', Same H H' → Q .non H' := fun e H' hs => by
      have x := q H' hs
      rw [e] at x
      exact x
    have f0 : ∀ y : Str, decide (V.str y = V.str "") = decide (tl y = []) := fun y => decide_eq_decide.mpr (by rw [str_eq, e0])
    have f45 : decide (V.str (cutS z none (some 1)) = V.str "-") = decide ((tl z).head? = some 45) := decide_eq_decide.mpr (by rw [str_eq, e45, cut_one, take_one])
    refine ⟨.str z, rfl, 1, rfl, z, rfl, sz, rfl, _, rfl, ?_⟩
    show if decide (V.str (cutS z none (some 1)) = V.str "-") = true then _ else _
    rw [f45]
    refine ite2 (fun e => ?first) (fun e => ?second)
    case' first =>
      have c : (tl z).head? = some 45 := of_decide_eq_true e
      have hy : tl (cutS z (some 1) none) = dg (tl z) := by rw [cut_rest]; unfold dg; rw [if_pos c]
      refine ⟨.str z, rfl, 1, rfl, z, rfl, sz, ?_⟩
      revert hy
      generalize cutS z (some 1) none = y
      intro hy
    case' second =>
      have c : ¬ (tl z).head? = some 45 := fun q => e (decide_eq_true q)
      obtain ⟨y, ey⟩ : ∃ y, z = y := ⟨z, rfl⟩
      have hy : tl y = dg (tl z) := by unfold dg; rw [if_neg c, ey]
      refine ⟨_, rfl, ?_⟩
      refine Eq.mpr (congrArg (fun x => gName 1 x _ _ _) (congrArg V.str ey)) ?_
    all_goals
      refine ⟨_, rfl, rfl, _, rfl, ?_⟩
      show if decide (V.str y = V.str "") = true then _ else _
      rw [f0, hy]
      have yl : y.length = (dg (tl z)).length := by rw [len_tl y, hy]
      have ys : y.length ≤ sizeLine := by rw [sizeLine_eq]; have := dg_len (tl z); omega
      refine ite2 (fun e1 => ?_) (fun e1 => ?_)
      · exact no (rd_A (.inl (of_decide_eq_true e1))) H (Same.refl H)
      · have h1 : dg (tl z) ≠ [] := fun q => e1 (decide_eq_true q)
        refine ⟨_, rfl, _, rfl, ys, _, _, rfl, rfl, _, rfl, ?_⟩
        refine ite2 (fun e2 => ?_) (fun e2 => ?_)
        · have e2' := of_decide_eq_true e2
          exact no (rd_A (.inr (.inl (by omega)))) H (Same.refl H)
        · have l60 : (dg (tl z)).length ≤ 60 := by
            have e2' : ¬ (60 : Int) < (y.length : Int) := fun q => e2 (decide_eq_true q)
            omega
          refine ⟨_, rfl, y, rfl, fun L hL => ?_⟩
          refine lc_it walk_str (fun i H' => Same H H' ∧ H' L = some (.lst ((oddS ((tl y).take i)).map fun c => V.str ⟨#[c]⟩))) ⟨sub_same hL, upd_same⟩ (fun _ _ _ _ => trivial) ?_ ?_
          · rintro i x H1 H2 hi ⟨s1, hD1⟩ ⟨rfl, c, hc, rfl⟩
            have hc' : (tl y)[i]? = some c := by rw [← hc]; exact Array.getElem?_toList
            refine ⟨rfl, _, rfl, c, _, rfl, rfl, _, rfl, ?_⟩
            have tk : oddS ((tl y).take (i + 1)) = oddS ((tl y).take i) ++ if decide (c ∈ tl ("0123456789" : Str)) = true then [] else [c] := by
              unfold oddS
              rw [List.take_succ, hc', List.filter_append]
              cases e : decide (c ∈ tl ("0123456789" : Str)) with
              | true => rw [if_pos rfl, show (some c).toList = [c] from rfl, List.filter_cons_of_neg (by rw [e]; decide)]; rfl
              | false => rw [if_neg Bool.false_ne_true, show (some c).toList = [c] from rfl, List.filter_cons_of_pos (by rw [e]; rfl)]; rfl
            have l60 : (oddS ((tl y).take i)).length ≤ 60 := by
              have := List.length_filter_le (fun c => !decide (c ∈ tl ("0123456789" : Str))) ((tl y).take i)
              rw [List.length_take, hy] at this
              unfold oddS
              rw [hy]
              omega
            rw [tk]
            refine ite2 (fun e => ?_) (fun e => ?_)
            · have e1 : decide (c ∈ tl ("0123456789" : Str)) = false := by simpa using e
              rw [e1, if_neg Bool.false_ne_true]
              refine ⟨_, rfl, _, hD1, ?_, fun b o hb => ?_, ?_⟩
              · rw [List.length_map, sizeLine_eq]
                omega
              · rw [upd_ne (ne_of_none hb hL)]
                exact s1 b o hb
              · rw [upd_same, List.map_append]
                rfl
            · have e1 : decide (c ∈ tl ("0123456789" : Str)) = true := by simpa using e
              rw [e1, if_pos rfl, List.append_nil]
              exact ⟨s1, hD1⟩
          · rintro H1 ⟨s1, hD1⟩
            have full : (tl y).take y.cps.size = tl y := List.take_of_length_le (by rw [← len_tl y]; exact Nat.le_refl _)
            rw [full, hy] at hD1
            have ao : ∀ c ∈ oddS (dg (tl z)), c < 128 := fun c hc => az c (mem_dg (List.mem_filter.mp hc).1)
            refine ⟨(by show 0 ≤ sizeLine; decide), fun L0 nL0 => ?_⟩
            have s0 := sub_same (o := .lst []) nL0
            refine ⟨_, _, .lst (.inl (.inl (s0 _ _ hD1))) (dp_signs K _ _), .lst (.inl (.inl upd_same)) .nil, shaped_signs ao, rfl, _, rfl, ?_⟩
            rw [eqv_nilS]
            have sB := s1.trans s0
            refine ite2 (fun e3 => ?_) (fun e3 => ?_)
            · refine no (rd_A (.inr (.inr ?_))) _ sB
              have n : oddS (dg (tl z)) ≠ [] := by simpa using e3
              exact Bool.eq_false_iff.mpr fun y => n ((odd_nil _).mpr y)
            · have h3 : (dg (tl z)).all (fun c => decide (48 ≤ c) && decide (c ≤ 57)) = true := (odd_nil _).mp (by simpa using e3)
              revert sB
              generalize upd H1 L0 (.lst []) = H2
              intro sB
              have fin : ((dg (tl z)).head? = some 48 → tl z = [48]) → ∃ i, PySem.intText? z = some i ∧ Q (.int i) H2 := fun h4 => by
                obtain ⟨i, r1, r2⟩ := rd_C (by have := dg_len1 (tl z); rw [len_tl z]; omega) h1 l60 h3 h4
                have x := q H2 sB
                rw [r1] at x
                exact ⟨i, r2, x⟩
              have l640 : z.length ≤ 640 := by
                have := dg_len1 (tl z)
                rw [len_tl z]
                omega
              cases hd : dg (tl z) with
              | nil => exact absurd hd h1
              | cons c0 r0 =>
                rw [hd] at fin
                refine ⟨_, rfl, y, 0, c0, rfl, rfl, ys, atI_nat (j := 0) (by show (tl y)[0]? = _; rw [hy, hd]; rfl), rfl, _, rfl, ?_⟩
                have f48 : decide (V.str ⟨#[c0]⟩ = V.str "0") = decide (c0 = 48) := decide_eq_decide.mpr (by
                  rw [str_eq, e48]
                  show [c0] = [48] ↔ _
                  simp)
                show if decide (V.str ⟨#[c0]⟩ = V.str "0") = true then _ else _
                rw [f48]
                have fz : decide (V.str z = V.str "0") = decide (tl z = [48]) := decide_eq_decide.mpr (by rw [str_eq, e48])
                have fy : decide (V.str y = V.str "0") = decide (dg (tl z) = [48]) := decide_eq_decide.mpr (by rw [str_eq, e48, hy])
                have bad : c0 = 48 → tl z ≠ [48] → Q .non H2 := fun e4 e5 => no (rd_B (by rw [hd]; exact congrArg some e4) e5) H2 sB
                refine ite2 (fun e4 => ?_) (fun e4 => ?_)
                · have e4 : c0 = 48 := of_decide_eq_true e4
                  refine ⟨_, rfl, rfl, _, rfl, ?_⟩
                  show if (!decide (V.str y = V.str "0")) = true then _ else _
                  rw [fy]
                  refine ite2 (fun e5 => ?_) (fun e5 => ?_)
                  · refine bad e4 fun y2 => ?_
                    rw [y2] at e5
                    exact absurd e5 (by decide)
                  · refine ⟨_, rfl, rfl, _, rfl, ?_⟩
                    show if (!decide (V.str z = V.str "0")) = true then _ else _
                    rw [fz]
                    refine ite2 (fun e6 => ?_) (fun e6 => ?_)
                    · exact bad e4 (by simpa using e6)
                    · obtain ⟨i, r2, x⟩ := fin fun _ => by simpa using e6
                      exact ⟨_, rfl, z, i, rfl, r2, l640, x⟩
                · obtain ⟨i, r2, x⟩ := fin fun q => absurd (decide_eq_true (Option.some.inj q)) e4
                  exact ⟨_, rfl, z, i, rfl, r2, l640, x⟩
end
end K07

/-! # the law's blocks -/
namespace K07
open PySem PySem.Spec PyProof.Rows L2 TL NumText RZ
theorem op_in_seqK {X : Cx} {K : PySem.W.Frag} (h : X.K = K) : OpR X (compareOp .In) (rIn K false) := by
  rw [← h]
  exact op_in_seq
theorem asc_split {y : Str} (S : Sep y) {x : Str} (h : Asc x) : ∀ p ∈ Txt.split x y, Asc p := fun p hp c hc => h c (by
  have z := (join_spl S.n _ (tl x) [] (Nat.le_refl _)).1
  rw [List.nil_append, ← split_tl S] at z
  have go : ∀ ps : List (List Nat), ∀ q ∈ ps, ∀ c ∈ q, c ∈ joinL (tl y) ps := fun ps => by
    induction ps with
    | nil => exact fun q h => by cases h
    | cons a r ih =>
      intro q hq c hc
      cases r with
      | nil =>
        rw [List.mem_singleton.mp hq] at hc
        exact hc
      | cons b r =>
        rw [joinL_cons (by simp)]
        rcases List.mem_cons.mp hq with rfl | hq
        · exact List.mem_append_left _ hc
        · exact List.mem_append_right _ (List.mem_append_right _ (ih q hq c hc))
  rw [← z]
  exact go _ _ (List.mem_map_of_mem hp) c hc)
/-! ### rows of what is read -/
def RowV (H : Hp) (x : V) (ws : List Str) : Prop := ∃ r, x = .ref r ∧ H r = some (.lst (ws.map ovW))
def BlkV (H : Hp) (x : V) (rows : List (List Str)) : Prop := ∃ l xs, x = .ref l ∧ H l = some (.lst xs) ∧ Paired (RowV H) xs rows
def RowN (B H : Hp) (x : V) (ws : List Str) : Prop := ∃ r, x = .ref r ∧ B r = none ∧ H r = some (.lst (ws.map ovW))
def BlkVN (B H : Hp) (x : V) (rows : List (List Str)) : Prop := ∃ l xs, x = .ref l ∧ B l = none ∧ H l = some (.lst xs) ∧ Paired (RowN B H) xs rows
theorem RowN.put {B H : Hp} {x : V} {ws : List Str} {D : Addr} {y : HO} (h : RowN B H x ws) (hD : B D ≠ none) : RowN B (upd H D y) x ws := let ⟨r, e, n, z⟩ := h; ⟨r, e, n, (upd_ne fun q => hD (by rw [← q]; exact n)).trans z⟩
theorem RowN.same {B H H' : Hp} {x : V} {ws : List Str} (h : RowN B H x ws) (s : Same H H') : RowN B H' x ws := let ⟨r, e, n, z⟩ := h; ⟨r, e, n, s _ _ z⟩
theorem RowN.since {A B H : Hp} {x : V} {ws : List Str} (h : RowN B H x ws) (s : Sub A B) : RowN A H x ws := let ⟨r, e, n, z⟩ := h; ⟨r, e, s _ n, z⟩
theorem BlkVN.put {B H : Hp} {x : V} {rows : List (List Str)} {D : Addr} {y : HO} (h : BlkVN B H x rows) (hD : B D ≠ none) : BlkVN B (upd H D y) x rows := let ⟨l, xs, e, n, z, p⟩ := h; ⟨l, xs, e, n, (upd_ne fun q => hD (by rw [← q]; exact n)).trans z, pmap (fun _ _ w => w.put hD) p⟩
theorem BlkVN.same {B H H' : Hp} {x : V} {rows : List (List Str)} (h : BlkVN B H x rows) (s : Same H H') : BlkVN B H' x rows := let ⟨l, xs, e, n, z, p⟩ := h; ⟨l, xs, e, n, s _ _ z, pmap (fun _ _ w => w.same s) p⟩
theorem BlkVN.since {A B H : Hp} {x : V} {rows : List (List Str)} (h : BlkVN B H x rows) (s : Sub A B) : BlkVN A H x rows := let ⟨l, xs, e, n, z, p⟩ := h; ⟨l, xs, e, s _ n, z, pmap (fun _ _ w => w.since s) p⟩
theorem BlkVN.old {B H : Hp} {x : V} {rows : List (List Str)} (h : BlkVN B H x rows) : BlkV H x rows := let ⟨l, xs, e, _, z, p⟩ := h; ⟨l, xs, e, z, pmap (fun _ _ ⟨r, e, _, z⟩ => ⟨r, e, z⟩) p⟩
/-- what is told of a word -/
def ovD (w : Str) : PyData := match rdS w with
  | some i => .int i
  | none => .none
theorem dp_ov (K : PySem.W.Frag) (H : Hp) : ∀ ws : List Str, DpAll K H (ws.map ovW) (ws.map ovD)
  | [] => .nil
  | w :: ws => by
    refine .cons ?_ (dp_ov K H ws)
    show Dp K H (ov (rdS w)) (match rdS w with | some i => .int i | none => .none)
    cases rdS w with
    | none => exact .non
    | some i => exact .int i
theorem lay_ov : ∀ ws : List Str, PyData.canLayAll0 (ws.map ovD) = true ∧ PyData.depthAll (ws.map ovD) = 0
  | [] => ⟨rfl, rfl⟩
  | w :: ws => by
    obtain ⟨a, b⟩ := lay_ov ws
    have h : PyData.canLay0 (ovD w) = true ∧ PyData.depth (ovD w) = 0 := by
      unfold ovD
      cases rdS w <;> exact ⟨rfl, rfl⟩
    refine ⟨?_, ?_⟩
    · show (PyData.canLay0 (ovD w) && PyData.canLayAll0 (ws.map ovD)) = true
      rw [h.1, a]
      rfl
    · show max (PyData.depth (ovD w)) (PyData.depthAll (ws.map ovD)) = 0
      rw [h.2, b]
      rfl
def rowD2 (ws : List Str) : PyData := .list (ws.map ovD)
theorem lay_rows : ∀ rows : List (List Str), PyData.canLayAll0 (rows.map rowD2) = true ∧ PyData.depthAll (rows.map rowD2) ≤ 1
  | [] => ⟨rfl, Nat.zero_le _⟩
  | r :: rows => by
    obtain ⟨a, b⟩ := lay_rows rows
    obtain ⟨c, d⟩ := lay_ov r
    refine ⟨?_, ?_⟩
    · show (PyData.canLayAll0 (r.map ovD) && PyData.canLayAll0 (rows.map rowD2)) = true
      rw [a, c]
      rfl
    · show max (PyData.depthAll (r.map ovD) + 1) (PyData.depthAll (rows.map rowD2)) ≤ 1
      rw [d]
      omega
theorem shaped_rows (rows : List (List Str)) : SeqAt.shaped (.list (rows.map rowD2)) = true := by
  obtain ⟨a, b⟩ := lay_rows rows
  show (PyData.canLayAll0 (rows.map rowD2) && decide (PyData.depthAll (rows.map rowD2) + 1 ≤ 64)) = true
  rw [a, decide_eq_true (by omega)]
  rfl
theorem dp_rows {K : PySem.W.Frag} {H : Hp} : ∀ {xs : List V} {rows : List (List Str)}, Paired (RowV H) xs rows → DpAll K H xs (rows.map rowD2)
  | _, _, .nil => .nil
  | _, _, .cons ⟨r, e, z⟩ t => by
    subst e
    exact .cons (.lst (.inl (.inl z)) (dp_ov K H _)) (dp_rows t)
theorem eqv_rows (rows : List (List Str)) : PyData.eqv (.list (rows.map rowD2)) (.list []) = decide (rows = []) := by
  cases rows with
  | nil => rfl
  | cons a b => rfl
/-- rows with what is no integer -/
def holes (rows : List (List Str)) : List (List Str) := rows.filter fun r => !r.all fun w => (rdS w).isSome
theorem holes_nil (rows : List (List Str)) : holes rows = [] ↔ (rows.all fun r => r.all fun w => (rdS w).isSome) = true := by
  unfold holes
  rw [List.filter_eq_nil_iff, List.all_eq_true]
  refine forall_congr' fun r => forall_congr' fun _ => ?_
  cases r.all fun w => (rdS w).isSome <;> simp
def blkOk (rows : List (List Str)) : Bool := decide (rows.length ≤ 5) && rowsG rows
section
variable {P : Program} {w : World} {K : PySem.W.Frag} {mg : Str → Option Value} {base : Heap} {C CS TL : Addr}
abbrev s_lbk : Stmt := topS 56
theorem sc_lbk : FnScope ["_law_text_here", "_law_rows", "_law_row", "_law_word"] ["_law_text_here"] (defScope s_lbk) := ⟨rfl, rfl, rfl, by decide +kernel, rfl, by decide +kernel, by decide +kernel⟩
def spLBk : Sp := fun vs H Q _ => ∃ t : Str, vs = [.str t] ∧ t.length ≤ 6000 ∧ Asc t ∧ (blkOk (W2 t) = false → ∀ H', Same H H' → Q .non H') ∧ (blkOk (W2 t) = true → ∀ H' x, Same H H' → Sub H H' → BlkVN H H' x (W2 t) → Q x H')
theorem ok_lbk {f f1 : Addr} {fd fd1 : FuncData} (T : Txt mg) (N : Nam mg) (d : D K mg "_law_block" s_lbk ["_law_text_here"] f fd) (d1 : D K mg "_law_integer" s_lint ["_law_text_here"] f1 fd1) (G1 : FnOk P w K mg base CX0 1 f1 fd1 ["_law_text_here"] spLInt) : FnOk P w K mg base CX0 2 f fd ["_law_text_here"] spLBk := by
  refine d.F.ok sc_lbk (fun vs H Q E h => ?_) (fun cdv A outer s H vs Q E hr h => ?_)
  · obtain ⟨t, rfl, _⟩ := h
    rfl
  · obtain ⟨t, rfl, t6, at_, qn, qy⟩ := h
    have u64 : (A.deeper (envOfC "_law_block" (defScope s_lbk) s.heap.objs.size f cdv)).units + 64 < cLine := by have := hr.un; omega
    refine ⟨_, (pss_cons (ps_setLc (i := 1) (own := [("_law_row", 2)]) (g := gName 2) (tt := tYes) rfl sc_lbk.nd rfl rfl rfl (pi_list (pe_split (pv 0) pe_str)) (blkOk_by (own := [("_law_row", 2)]) (N := ["_law_text_here", "_law_rows", "_law_row", "_law_word"]) (sc := defScope s_lbk) (by decide +kernel))
            (fun _ _ _ _ _ => (pg_name (i := 2) sc_lbk.nd rfl (Or.inl rfl))) (fun _ _ _ _ _ => pts_nil) (fun _ _ _ _ _ => (pe_lc (own := [("_law_word", 3)]) (g := gName 3) (tt := tYes) rfl sc_lbk.nd (pi_listK (K := K) rfl (pe_split (pv 2) pe_str)) (blkOk_by (own := [("_law_word", 3)]) (N := ["_law_text_here", "_law_rows", "_law_row", "_law_word"]) (sc := relS _ (defScope s_lbk)) (by decide +kernel))
            (fun _ _ _ _ _ => (pg_name (i := 3) sc_lbk.nd rfl (Or.inl rfl))) (fun _ _ _ _ _ => pts_nil) (fun _ _ _ _ _ => (pe_call G1 (hr.mono (by decide)) (by rfl) d1.g d1.F.kp d1.b .nil pass0 (pa_cons (pv 3) pa_nil))))))
      (pss_cons (ps_if (PW.pt (pw_or (pt_not (pt_chain op_le op_le pe_int (pe_callB call_len_seq (by rfl) T.n_len PySem.boot_len (pa_cons (pv 1) pa_nil)) pe_int)) (pw_or1 (pt_cmpR (op_neD u64) (pe_lc (own := [("_law_row", 2)]) (g := gName 2) rfl sc_lbk.nd (pi_list (pv 1)) (blkOk_by (own := [("_law_row", 2)]) (N := ["_law_text_here", "_law_rows", "_law_row", "_law_word"]) (sc := defScope s_lbk) (by decide +kernel))
            (fun _ _ _ _ _ => (pg_name (i := 2) sc_lbk.nd rfl (Or.inl rfl))) (fun _ _ _ _ _ => (pts_one (pt_cmpR (op_in_seqK (K := K) rfl) pe_non (pv 2) (by rfl)))) (fun _ _ _ _ _ => (pv 2))) (pe_lst pa_nil) (nomark _))))) (pss_one (ps_ret pe_non)) pss_nil)
      (pss_one (ps_ret (pe_ifExp (pt_cmpR (op_eqD u64) (pe_lc (own := [("_law_row", 2)]) (g := gName 2) (tt := tYes) rfl sc_lbk.nd (pi_list (pv 1)) (blkOk_by (own := [("_law_row", 2)]) (N := ["_law_text_here", "_law_rows", "_law_row", "_law_word"]) (sc := defScope s_lbk) (by decide +kernel))
            (fun _ _ _ _ _ => (pg_name (i := 2) sc_lbk.nd rfl (Or.inl rfl))) (fun _ _ _ _ _ => pts_nil) (fun _ _ _ _ _ => (pe_callB (call_len_seqK (K := K) rfl) (by rfl) T.n_len PySem.boot_len (pa_cons (pv 2) pa_nil)))) (pe_listDownA rfl (by rfl) N.n_list (by rfl) T.n_range (pa_cons (pe_callB call_len_seq (by rfl) T.n_len PySem.boot_len (pa_cons (pv 1) pa_nil)) (pa_cons pe_int (pa_cons (pe_un un_neg pe_int) pa_nil)))) (nomark _)) (pv 1) pe_non))))), ?_⟩
    refine ⟨_, rfl, ⟨_, rfl⟩, _, _, rfl, rfl, (by decide +kernel), by rw [sizeLine_eq]; omega, fun p np => ?_⟩
    obtain ⟨lr, mr⟩ := split_le sep_s t
    have ar := asc_split sep_s at_
    have few : (W2 t).length ≤ 6001 := by
      unfold W2
      rw [List.length_map]
      omega
    have qn : blkOk ((Txt.split t "/").map W1) = false → ∀ H', Same H H' → Q .non H' := qn
    have qy : blkOk ((Txt.split t "/").map W1) = true → ∀ H' x, Same H H' → Sub H H' → BlkVN H H' x ((Txt.split t "/").map W1) → Q x H' := qy
    revert lr mr ar qn qy
    have ne := split_ne sep_s t
    revert ne
    generalize Txt.split t "/" = rs
    intro ne lr mr ar qn qy
    have s1 := sub_same (o := .lst (rs.map V.str)) np
    have b1 := Sub.upd H p (.lst (rs.map V.str))
    have e1 : upd H p (.lst (rs.map V.str)) p = some (.lst (rs.map V.str)) := upd_same
    revert s1 b1 e1
    generalize upd H p (.lst (rs.map V.str)) = H1
    intro s1 b1 e1
    refine ⟨p, rfl, ⟨_, .inl (.inl e1)⟩, fun D nD => ?_⟩
    have bD : upd H1 D (.lst []) D ≠ none := by
      rw [upd_same]
      intro z
      cases z
    have bHD : H D = none := b1 _ nD
    have b1D := b1.trans (Sub.upd H1 D (.lst []))
    refine lc_list (K := K) (a := p) (xs := rs.map V.str) (fun i Y => Same H1 Y ∧ Sub (upd H1 D (.lst [])) Y ∧ ∃ acc, Y D = some (.lst acc) ∧ Paired (RowN (upd H1 D (.lst [])) Y) acc ((rs.map W1).take i))
      ⟨sub_same nD, Sub.refl _, [], upd_same, .nil⟩ (fun i Y _ h => .inl (.inl (h.1 _ _ e1))) ?_ ?_
    · generalize hB : upd H1 D (.lst []) = B0 at bD
      rintro i x Y hx ⟨sy, sb, acc, hd, pr⟩
      obtain ⟨r, er, rfl⟩ := strs_get hx
      have rl := mr r (List.mem_of_getElem? er)
      have ra := ar r (List.mem_of_getElem? er)
      have il := (List.getElem?_eq_some_iff.mp er).1
      have wi : (rs.map W1)[i]? = some (Txt.split r " ") := by rw [List.getElem?_map, er]; rfl
      refine ⟨rfl, yesT ?_⟩
      refine ⟨_, rfl, ⟨_, rfl⟩, _, _, rfl, rfl, (by decide +kernel), by rw [sizeLine_eq]; omega, fun p2 np2 => ?_⟩
      obtain ⟨lw, mw⟩ := split_le sep_b r
      have aw := asc_split sep_b ra
      revert lw mw aw wi
      generalize Txt.split r " " = ws
      intro wi lw mw aw
      have s2 := sub_same (o := .lst (ws.map V.str)) np2
      have b2 := sb.trans (Sub.upd Y p2 (.lst (ws.map V.str)))
      have e2 : upd Y p2 (.lst (ws.map V.str)) p2 = some (.lst (ws.map V.str)) := upd_same
      revert s2 b2 e2
      generalize upd Y p2 (.lst (ws.map V.str)) = Y2
      intro s2 b2 e2
      refine ⟨p2, rfl, ⟨_, .inl (.inl e2)⟩, fun L nL => ?_⟩
      have bL : upd Y2 L (.lst []) L ≠ none := by
        rw [upd_same]
        intro z
        cases z
      have b3' := b2.trans (Sub.upd Y2 L (.lst []))
      have nBL : B0 L = none := b2 _ nL
      refine lc_list (K := K) (a := p2) (xs := ws.map V.str) (fun j U => Same Y2 U ∧ Sub Y2 U ∧ U L = some (.lst ((ws.take j).map ovW)))
        ⟨sub_same nL, Sub.upd _ _ _, upd_same⟩ (fun j U _ h => .inl (.inl (h.1 _ _ e2))) ?_ ?_
      · rintro j x U hx ⟨su, sbu, hl⟩
        obtain ⟨wd, ewd, rfl⟩ := strs_get hx
        have jl := (List.getElem?_eq_some_iff.mp ewd).1
        have wl := mw _ (List.mem_of_getElem? ewd)
        refine ⟨rfl, yesT ⟨_, rfl, wd, rfl, by omega, aw _ (List.mem_of_getElem? ewd), fun U2 s4 => ?_⟩⟩
        refine ⟨_, s4 _ _ hl, ?_, fun k ob e => ?_, ?_, ?_⟩
        · rw [List.length_map, List.length_take, sizeLine_eq]
          omega
        · rw [upd_ne (fun z => by rw [z, nL] at e; cases e)]
          exact s4 _ _ (su _ _ e)
        · exact (sbu.trans (Sub.of s4)).trans (Sub.upd _ _ _)
        · rw [upd_same, List.take_succ, ewd, List.map_append]
          rfl
      · rintro U ⟨su, sbu, hl⟩
        rw [List.length_map, List.take_length] at hl
        have new : RowN B0 U (.ref L) ws := ⟨L, rfl, nBL, hl⟩
        have l2 := Paired.length pr
        rw [List.length_take, List.length_map] at l2
        refine ⟨acc, su _ _ (s2 _ _ hd), ?_, fun k ob e => ?_, (b2.trans sbu).trans (Sub.upd U D _), _, upd_same, ?_⟩
        · rw [sizeLine_eq]
          omega
        · rw [upd_ne (fun z => by rw [z, nD] at e; cases e)]
          exact su _ _ (s2 _ _ (sy _ _ e))
        · rw [List.take_succ, wi]
          exact psnoc (new.put bD) (pmap (fun _ _ w => ((w.same s2).same su).put bD) pr)
    · rintro Y ⟨sy, sb, acc, hd, pr⟩
      rw [List.length_map, ← List.length_map (f := W1), List.take_length] at pr
      have bl : BlkVN H Y (.ref D) (rs.map W1) := ⟨D, acc, rfl, bHD, hd, pmap (fun _ _ w => w.since b1D) pr⟩
      have la := Paired.length pr
      have sA := s1.trans sy
      have bA := b1D.trans sb
      have l1 : 1 ≤ (rs.map W1).length := by
        cases rs with
        | nil => exact absurd rfl ne
        | cons a b => rw [List.length_map, List.length_cons]; omega
      have few : (rs.map W1).length ≤ 6001 := by rw [List.length_map]; omega
      clear pr
      revert bl la l1 few qn qy
      generalize rs.map W1 = rows
      intro qn qy bl la l1 few
      obtain ⟨l, xs, e0, n0, el, pr⟩ := id bl
      cases e0
      rw [hd] at el
      obtain rfl := HO.lst.inj (Option.some.inj el)
      have no5 : 5 < rows.length → blkOk rows = false := fun h => by
        unfold blkOk
        rw [decide_eq_false (by omega)]
        rfl
      refine ⟨_, rfl, D, acc, rfl, .inl (.inl (.inl hd)), _, _, rfl, rfl, _, rfl, ?_⟩
      refine iteP (show 1 ≤ (acc.length : Int) by omega) ⟨_, _, rfl, rfl, _, rfl, ?_⟩
      by_cases c5 : (acc.length : Int) ≤ 5
      · rw [decide_eq_true c5]
        refine ite2 (fun z => absurd z Bool.false_ne_true) (fun _ => ?_)
        refine ⟨_, rfl, D, rfl, ⟨_, .inl (.inl hd)⟩, fun L nL => ?_⟩
        refine lc_list (K := K) (a := D) (xs := acc) (fun i Z => Same Y Z ∧ Sub Y Z ∧ ∃ ys, Z L = some (.lst ys) ∧ ys.length ≤ i ∧ Paired (RowV Y) ys (holes (rows.take i))) ⟨sub_same nL, Sub.upd _ _ _, [], upd_same, Nat.le_refl _, .nil⟩ (fun i Z _ h => .inl (.inl (h.1 _ _ hd))) ?_ ?_
        · rintro i x Z hx ⟨sz, sbz, ys, hl, ly, py⟩
          obtain ⟨ws, ew, r, rfl, nr, er⟩ := paired_get pr hx
          have il := (List.getElem?_eq_some_iff.mp hx).1
          have tk : holes (rows.take (i + 1)) = holes (rows.take i) ++ if (ws.all fun w => (rdS w).isSome) = true then [] else [ws] := by
            unfold holes
            rw [List.take_succ, ew, List.filter_append]
            cases e : ws.all fun w => (rdS w).isSome with
            | true => rw [if_pos rfl, show (some ws).toList = [ws] from rfl, List.filter_cons_of_neg (by rw [e]; decide)]; rfl
            | false => rw [if_neg Bool.false_ne_true, show (some ws).toList = [ws] from rfl, List.filter_cons_of_pos (by rw [e]; rfl)]; rfl
          rw [tk]
          refine ⟨rfl, _, rfl, r, _, rfl, .inl (.inl (.inl (sz _ _ er))), rfl, flat_ov ws, ?_⟩
          refine ⟨inV .non (ws.map ovW), rfl, ?_⟩
          rw [none_ov]
          cases e : ws.all fun w => (rdS w).isSome with
          | true =>
            refine ite2 (fun z => absurd z Bool.false_ne_true) (fun _ => ?_)
            rw [if_pos rfl, List.append_nil]
            exact ⟨sz, sbz, ys, hl, by omega, py⟩
          | false =>
            refine ite2 (fun _ => ?_) (fun z => absurd rfl z)
            rw [if_neg Bool.false_ne_true]
            refine ⟨_, rfl, ys, hl, by rw [sizeLine_eq]; omega, fun b ob e => ?_, sbz.trans (Sub.upd _ _ _), _, upd_same, by rw [List.length_append, List.length_singleton]; omega, psnoc ⟨r, rfl, er⟩ py⟩
            rw [upd_ne (fun z => by rw [z, nL] at e; cases e)]
            exact sz _ _ e
        · rintro Z ⟨sz, sbz, ys, hl, ly, py⟩
          rw [la, List.take_length] at py
          refine ⟨(by show 0 ≤ sizeLine; decide), fun L0 nL0 => ?_⟩
          have s0 := sub_same (o := .lst []) nL0
          have sZ := sz.trans s0
          have bZ := sbz.trans (Sub.upd Z L0 (.lst []))
          refine ⟨_, _, .lst (.inl (.inl (s0 _ _ hl))) (dp_rows (pmap (fun _ _ ⟨r, e, z⟩ => ⟨r, e, sZ _ _ z⟩) py)), .lst (.inl (.inl upd_same)) .nil, shaped_rows _, rfl, !decide (holes rows = []), by rw [eqv_rows], ?_⟩
          revert sZ bZ
          generalize upd Z L0 (.lst []) = Z2
          intro sZ bZ
          refine ite2 (fun e3 => ?_) (fun e3 => ?_)
          · refine qn ?_ _ (sA.trans sZ)
            have n : holes rows ≠ [] := by simpa using e3
            have n2 : (rows.all fun r => r.all fun w => (rdS w).isSome) = false := Bool.eq_false_iff.mpr fun y => n ((holes_nil _).mpr y)
            unfold blkOk rowsG
            rw [n2, Bool.and_false, Bool.and_false]
          · have n2 := (holes_nil rows).mp (by simpa using e3)
            clear e3 py
            have hd2 := sZ _ _ hd
            refine ⟨_, rfl, D, rfl, ⟨_, .inl (.inl hd2)⟩, fun L2 nL2 => ?_⟩
            refine lc_list (K := K) (a := D) (xs := acc) (fun i U => Same Z2 U ∧ Sub Z2 U ∧ U L2 = some (.lst ((((rows.take i).map List.length).map fun (k : Nat) => (k : Int)).map V.int))) ⟨sub_same nL2, Sub.upd _ _ _, upd_same⟩ (fun i U _ h => .inl (.inl (h.1 _ _ hd2))) ?_ ?_
            · rintro i x U hx ⟨su, sbu, hl2⟩
              obtain ⟨ws, ew, r, rfl, nr, er⟩ := paired_get pr hx
              have il := (List.getElem?_eq_some_iff.mp ew).1
              refine ⟨rfl, yesT ⟨_, rfl, r, _, rfl, .inl (.inl (.inl (su _ _ (sZ _ _ er)))), _, hl2, ?_, fun k ob e => ?_, sbu.trans (Sub.upd _ _ _), ?_⟩⟩
              · rw [List.length_map, List.length_map, List.length_map, List.length_take, sizeLine_eq]
                omega
              · rw [upd_ne (fun z => by rw [z, nL2] at e; cases e)]
                exact su _ _ e
              · rw [upd_same, List.take_succ, ew, List.map_append, List.map_append, List.map_append, List.length_map]
                rfl
            · rintro U ⟨su, sbu, hl2⟩
              rw [la, List.take_length] at hl2
              have l5 : acc.length ≤ 5 := by omega
              refine ⟨_, rfl, D, _, rfl, .inl (.inl (.inl (su _ _ hd2))), _, rfl, _, 0, rfl, by omega, by omega, by omega, by omega, fun p np => ?_⟩
              rw [la, dn_map]
              have s5 := sub_same (o := .lst ((((List.range rows.length).map fun i => rows.length - i).map fun (k : Nat) => (k : Int)).map V.int)) np
              have hl3 := s5 _ _ hl2
              have sU := (sZ.trans su).trans s5
              have bU := (bZ.trans sbu).trans (Sub.upd U p (.lst ((((List.range rows.length).map fun i => rows.length - i).map fun (k : Nat) => (k : Int)).map V.int)))
              refine ⟨_, _, .lst (.inl (.inl hl3)) (dp_ints K _ _), .lst (.inl (.inl upd_same)) (dp_ints K _ _), shaped_lints _, shaped_lints _, decide (rows.map List.length = (List.range rows.length).map fun i => rows.length - i), by rw [eqv_lists, decide_eq_decide.mpr map_cast_inj], ?_⟩
              refine ite2 (fun e => ?_) (fun e => ?_)
              · refine ⟨_, rfl, qy ?_ _ _ (sA.trans sU) (bA.trans bU) (bl.same sU)⟩
                unfold blkOk rowsG
                rw [n2, e, decide_eq_true (by omega)]
                rfl
              · refine qn ?_ _ (sA.trans sU)
                unfold blkOk rowsG
                rw [Bool.eq_false_iff.mpr e, Bool.false_and, Bool.and_false]
      · rw [decide_eq_false c5]
        refine ite2 (fun _ => ?_) (fun z => absurd rfl z)
        exact qn (no5 (by omega)) _ sA
end
end K07

/-! # what a text means to the law -/
namespace K07
open PySem PySem.Spec PyProof.Rows L2 TL NumText RZ
def VB (B H : Hp) (x : V) (rows : List (List Str)) : Prop := (blkOk rows = false ∧ x = .non) ∨ (blkOk rows = true ∧ BlkVN B H x rows)
theorem VB.put {B H : Hp} {x : V} {rows : List (List Str)} {D : Addr} {y : HO} (h : VB B H x rows) (hD : B D ≠ none) : VB B (upd H D y) x rows := h.imp id fun z => ⟨z.1, z.2.put hD⟩
theorem VB.same {B H H' : Hp} {x : V} {rows : List (List Str)} (h : VB B H x rows) (s : Same H H') : VB B H' x rows := h.imp id fun z => ⟨z.1, z.2.same s⟩
def blkD (rows : List (List Str)) : PyData := if blkOk rows = true then .list (rows.map rowD2) else .none
theorem VB.dp {K : PySem.W.Frag} {B H : Hp} {x : V} {rows : List (List Str)} (h : VB B H x rows) : Dp K H x (blkD rows) := by
  unfold blkD
  rcases h with ⟨e, rfl⟩ | ⟨e, b⟩
  · rw [e, if_neg Bool.false_ne_true]
    exact .non
  · obtain ⟨l, xs, rfl, el, pr⟩ := b.old
    rw [if_pos e]
    exact .lst (.inl (.inl el)) (dp_rows pr)
theorem dp_blks {K : PySem.W.Frag} {B H : Hp} : ∀ {xs : List V} {W : List (List (List Str))}, Paired (VB B H) xs W → DpAll K H xs (W.map blkD)
  | _, _, .nil => .nil
  | _, _, .cons h t => .cons h.dp (dp_blks t)
theorem lay_blks : ∀ W : List (List (List Str)), PyData.canLayAll0 (W.map blkD) = true ∧ PyData.depthAll (W.map blkD) ≤ 2
  | [] => ⟨rfl, Nat.zero_le _⟩
  | r :: W => by
    obtain ⟨a, b⟩ := lay_blks W
    obtain ⟨c, d⟩ := lay_rows r
    have h : PyData.canLay0 (blkD r) = true ∧ PyData.depth (blkD r) ≤ 2 := by
      unfold blkD
      split
      · refine ⟨c, ?_⟩
        show PyData.depthAll (r.map rowD2) + 1 ≤ 2
        omega
      · exact ⟨rfl, Nat.zero_le _⟩
    refine ⟨?_, ?_⟩
    · show (PyData.canLay0 (blkD r) && PyData.canLayAll0 (W.map blkD)) = true
      rw [h.1, a]
      rfl
    · show max (PyData.depth (blkD r)) (PyData.depthAll (W.map blkD)) ≤ 2
      omega
theorem shaped_blks (W : List (List (List Str))) : SeqAt.shaped (.list (W.map blkD)) = true := by
  obtain ⟨a, b⟩ := lay_blks W
  show (PyData.canLayAll0 (W.map blkD) && decide (PyData.depthAll (W.map blkD) + 1 ≤ 64)) = true
  rw [a, decide_eq_true (by omega)]
  rfl
theorem none_blks (W : List (List (List Str))) : ((W.map blkD).any fun z => PyData.eqv z .none) = !W.all blkOk := by
  rw [List.any_map]
  induction W with
  | nil => rfl
  | cons r W ih =>
    rw [List.any_cons, List.all_cons, ih]
    have e : ((fun z => PyData.eqv z .none) ∘ blkD) r = !blkOk r := by
      show PyData.eqv (blkD r) .none = _
      unfold blkD
      cases blkOk r <;> rfl
    rw [e]
    cases blkOk r <;> rfl
theorem W2_ne (t : Str) : 1 ≤ (W2 t).length := by
  unfold W2
  rw [List.length_map]
  exact List.length_pos_iff.mpr (split_ne sep_s t)
/-- what the law asks is what the program asks -/
theorem good_iff {W : List (List (List Str))} (h : 1 ≤ W.length) (hr : ∀ rows ∈ W, 1 ≤ rows.length) : goodW W = (W.all blkOk && (decide (W.length ≤ 3) && decide ((shpW W).sum ≤ 8))) := by
  have ls : (shpW W).length = W.length := by
    unfold shpW
    rw [List.length_map]
  rw [Bool.eq_iff_iff]
  unfold goodW
  simp only [Bool.and_eq_true, decide_eq_true_eq, List.all_eq_true]
  constructor
  · rintro ⟨a, b⟩
    obtain ⟨⟨s1, s2⟩, s3, s4⟩ := shp_is2 a
    refine ⟨fun rows m => ?_, by omega, s4⟩
    have z := (s3 ((rows.length : Int) + 1) (List.mem_map.mpr ⟨rows, m, rfl⟩)).2
    unfold blkOk
    rw [b rows m, decide_eq_true (by omega)]
    rfl
  · rintro ⟨a, b, c⟩
    refine ⟨shp_is ⟨⟨by omega, by omega⟩, fun n m => ?_, c⟩, fun rows m => ?_⟩
    · obtain ⟨rows, m2, rfl⟩ := List.mem_map.mp m
      have z := a rows m2
      unfold blkOk at z
      rw [Bool.and_eq_true, decide_eq_true_eq] at z
      have := hr rows m2
      omega
    · have z := a rows m
      unfold blkOk at z
      rw [Bool.and_eq_true] at z
      exact z.2
theorem sum_take {l : List Int} {i : Nat} {x : Int} (h : l[i]? = some x) : (l.take (i + 1)).sum = (l.take i).sum + x := by
  rw [List.take_succ, h, List.sum_append]
  show _ + (x + 0) = _
  omega
section
variable {P : Program} {w : World} {K : PySem.W.Frag} {mg : Str → Option Value} {base : Heap} {C CS TL : Addr}
abbrev s_lmea : Stmt := topS 57
theorem sc_lmea : FnScope ["_law_text_here", "_law_blocks", "_law_found", "_law_block_here", "_law_rows", "_law_row", "_law_numbers", "_law_at", "_law_number_here", "_law_part"] ["_law_text_here"] (defScope s_lmea) := ⟨rfl, rfl, rfl, by decide +kernel, rfl, by decide +kernel, by decide +kernel⟩
def spLMea (K : PySem.W.Frag) : Sp := fun vs H Q _ => ∃ x : V, vs = [x] ∧
  ((∃ t : Str, x = .str t ∧ t.length ≤ 6000 ∧ Asc t ∧ (goodW (W3 t) = false → ∀ H', Same H H' → Q .non H') ∧ (goodW (W3 t) = true → ∀ H' tp sh D, Same H H' → H' tp = some (.tup [.ref sh, .ref D]) → SqT K H' sh ((shpW (W3 t)).map V.int) → XD H' D (shpW (W3 t)) (numW (W3 t)) → Q (.ref tp) H')) ∨
   (NStr K H x ∧ ∀ H', Same H H' → Q .non H'))
theorem ok_lmea {f f1 : Addr} {fd fd1 : FuncData} (T : Txt mg) (N : Nam mg) (d : D K mg "_law_meant" s_lmea ["_law_text_here"] f fd) (d1 : D K mg "_law_block" s_lbk ["_law_text_here"] f1 fd1) (G1 : FnOk P w K mg base CX0 2 f1 fd1 ["_law_text_here"] spLBk) : FnOk P w K mg base CX0 3 f fd ["_law_text_here"] (spLMea K) := by
  refine d.F.ok sc_lmea (fun vs H Q E h => ?_) (fun cdv A outer s H vs Q E hr h => ?_)
  · obtain ⟨x, rfl, _⟩ := h
    rfl
  · obtain ⟨x, rfl, h⟩ := h
    have u65 : (A.deeper (envOfC "_law_meant" (defScope s_lmea) s.heap.objs.size f cdv)).units + 65 < cLine := by have := hr.un; omega
    have un : (A.deeper (envOfC "_law_meant" (defScope s_lmea) s.heap.objs.size f cdv)).units + 1 < cLine := by omega
    refine ⟨_, (pss_cons (ps_if (pt_not (pt_val (pe_callB call_isi (by rfl) T.n_isinstance (by decide +kernel) (pa_cons (pv 0) (pa_cons (pe_bltn (v := .ty "str") (by rfl) N.n_str (by decide +kernel) rfl) pa_nil))))) (pss_one (ps_ret pe_non)) pss_nil)
      (pss_cons (ps_setLc (i := 1) (own := [("_law_part", 9)]) (g := gName 9) (tt := tYes) rfl sc_lmea.nd rfl rfl rfl (pi_list (pe_split (pv 0) pe_str)) (blkOk_by (own := [("_law_part", 9)]) (N := ["_law_text_here", "_law_blocks", "_law_found", "_law_block_here", "_law_rows", "_law_row", "_law_numbers", "_law_at", "_law_number_here", "_law_part"]) (sc := defScope s_lmea) (by decide +kernel))
            (fun _ _ _ _ _ => (pg_name (i := 9) sc_lmea.nd rfl (Or.inl rfl))) (fun _ _ _ _ _ => pts_nil) (fun _ _ _ _ _ => (pe_call G1 (hr.mono (by decide)) (by rfl) d1.g d1.F.kp d1.b .nil pass0 (pa_cons (pv 9) pa_nil))))
      (pss_cons (ps_if (PW.pt (pw_or (pt_cmpR (op_inD u65) pe_non (pv 1) (by rfl)) (pw_or (pt_cmpR op_gt (pe_callB call_len_seq (by rfl) T.n_len PySem.boot_len (pa_cons (pv 1) pa_nil)) pe_int (nomark _)) (pw_or1 (pt_cmpR op_gt (pe_callB (cr_sum rfl) (by rfl) T.n_sum (by decide +kernel) (pa_cons (pe_lc (own := [("_law_rows", 4)]) (g := gName 4) (tt := tYes) rfl sc_lmea.nd (pi_list (pv 1)) (blkOk_by (own := [("_law_rows", 4)]) (N := ["_law_text_here", "_law_blocks", "_law_found", "_law_block_here", "_law_rows", "_law_row", "_law_numbers", "_law_at", "_law_number_here", "_law_part"]) (sc := defScope s_lmea) (by decide +kernel))
            (fun _ _ _ _ _ => (pg_name (i := 4) sc_lmea.nd rfl (Or.inl rfl))) (fun _ _ _ _ _ => pts_nil) (fun _ _ _ _ _ => (pe_op op_add (pe_callB (call_len_seqK (K := K) rfl) (by rfl) T.n_len PySem.boot_len (pa_cons (pv 4) pa_nil)) pe_int))) pa_nil)) pe_int (nomark _)))))) (pss_one (ps_ret pe_non)) pss_nil)
      (pss_cons (ps_set (i := 2) sc_lmea.nd rfl (.inl rfl) pe_dnewT)
      (pss_cons (ps_for PassesOwn.never rfl (pi_enum (by rfl) N.n_enumerate (pa_cons (pv 1) pa_nil)) (pg_tup rfl (pgs_cons (pg_name (i := 3) sc_lmea.nd rfl (.inl rfl)) (pgs_cons (pg_name (i := 4) sc_lmea.nd rfl (.inl rfl)) pgs_nil)))
        (pss_one (ps_for PassesOwn.never rfl (pi_enum (by rfl) N.n_enumerate (pa_cons (pv 4) pa_nil)) (pg_tup rfl (pgs_cons (pg_name (i := 5) sc_lmea.nd rfl (.inl rfl)) (pgs_cons (pg_name (i := 6) sc_lmea.nd rfl (.inl rfl)) pgs_nil)))
        (pss_one (ps_for PassesOwn.never rfl (pi_enum (by rfl) N.n_enumerate (pa_cons (pv 6) pa_nil)) (pg_tup rfl (pgs_cons (pg_name (i := 7) sc_lmea.nd rfl (.inl rfl)) (pgs_cons (pg_name (i := 8) sc_lmea.nd rfl (.inl rfl)) pgs_nil)))
        (pss_one (ps_asg (pv 8) (pg_sub (pv 2) (pe_tup (pa_cons (pv 3) (pa_cons (pv 5) (pa_cons (pe_op op_add (pe_op op_add (pv 5) pe_int) (pv 7)) pa_nil)))) (set_dict un)))))))))
      (pss_one (ps_ret (pe_tup (pa_cons (pe_tupleOf (by rfl) T.n_tuple (pe_lc (own := [("_law_rows", 4)]) (g := gName 4) (tt := tYes) rfl sc_lmea.nd (pi_list (pv 1)) (blkOk_by (own := [("_law_rows", 4)]) (N := ["_law_text_here", "_law_blocks", "_law_found", "_law_block_here", "_law_rows", "_law_row", "_law_numbers", "_law_at", "_law_number_here", "_law_part"]) (sc := defScope s_lmea) (by decide +kernel))
            (fun _ _ _ _ _ => (pg_name (i := 4) sc_lmea.nd rfl (Or.inl rfl))) (fun _ _ _ _ _ => pts_nil) (fun _ _ _ _ _ => (pe_op op_add (pe_callB (call_len_seqK (K := K) rfl) (by rfl) T.n_len PySem.boot_len (pa_cons (pv 4) pa_nil)) pe_int)))) (pa_cons (pv 2) pa_nil)))))))))), ?_⟩
    rcases h with ⟨t, rfl, t6, at_, qn, qy⟩ | ⟨⟨t, ty, kb⟩, q⟩
    case inr =>
      refine ⟨_, rfl, _, _, t, _, false, rfl, .ty _, ty, kb, false, rfl, ?_⟩
      exact q H (fun _ _ h => h)
    refine ⟨_, rfl, _, _, _, _, _, rfl, .ty _, (Dw.tv (.str t) : Dw K H _ _).ty, kit_ty (show kitB "str" "str" = some true by decide +kernel), _, rfl, ?_⟩
    refine ite2 (fun z => absurd z Bool.false_ne_true) (fun _ => ?_)
    refine ⟨_, rfl, ⟨_, rfl⟩, _, _, rfl, rfl, (by decide +kernel), by rw [sizeLine_eq]; omega, fun p np => ?_⟩
    obtain ⟨lb, mb⟩ := split_le sep_c t
    have ab := asc_split sep_c at_
    have ne := split_ne sep_c t
    have qn : goodW ((Txt.split t "; ").map W2) = false → ∀ H', Same H H' → Q .non H' := qn
    have qy : goodW ((Txt.split t "; ").map W2) = true → ∀ H' tp sh D, Same H H' → H' tp = some (.tup [.ref sh, .ref D]) → SqT K H' sh ((shpW ((Txt.split t "; ").map W2)).map V.int) → XD H' D (shpW ((Txt.split t "; ").map W2)) (numW ((Txt.split t "; ").map W2)) → Q (.ref tp) H' := qy
    revert lb mb ab ne qn qy
    generalize Txt.split t "; " = bs
    intro lb mb ab ne qn qy
    have s1 := sub_same (o := .lst (bs.map V.str)) np
    have e1 : upd H p (.lst (bs.map V.str)) p = some (.lst (bs.map V.str)) := upd_same
    revert s1 e1
    generalize upd H p (.lst (bs.map V.str)) = H1
    intro s1 e1
    refine ⟨p, rfl, ⟨_, .inl (.inl e1)⟩, fun D nD => ?_⟩
    have bD : upd H1 D (.lst []) D ≠ none := by
      rw [upd_same]
      intro z
      cases z
    refine lc_list (K := K) (a := p) (xs := bs.map V.str) (fun i Y => Same H1 Y ∧ Sub (upd H1 D (.lst [])) Y ∧ ∃ acc, Y D = some (.lst acc) ∧ Paired (VB (upd H1 D (.lst [])) Y) acc ((bs.map W2).take i))
      ⟨sub_same nD, Sub.refl _, [], upd_same, .nil⟩ (fun i Y _ h => .inl (.inl (h.1 _ _ e1))) ?_ ?_
    · generalize hB : upd H1 D (.lst []) = B0 at bD
      rintro i x Y hx ⟨sy, sb, acc, hd, pr⟩
      obtain ⟨b, eb, rfl⟩ := strs_get hx
      have bl := mb b (List.mem_of_getElem? eb)
      have ba := ab b (List.mem_of_getElem? eb)
      have il := (List.getElem?_eq_some_iff.mp eb).1
      have wi : (bs.map W2)[i]? = some (W2 b) := by rw [List.getElem?_map, eb]; rfl
      have l2 := Paired.length pr
      rw [List.length_take, List.length_map] at l2
      have fin : ∀ (Z : Hp) (x : V), Same Y Z → Sub Y Z → VB Y Z x (W2 b) → Z D = some (.lst acc) ∧ acc.length < sizeLine ∧ (Same H1 (upd Z D (.lst (acc ++ [x]))) ∧ Sub B0 (upd Z D (.lst (acc ++ [x]))) ∧ ∃ acc2, upd Z D (.lst (acc ++ [x])) D = some (.lst acc2) ∧ Paired (VB B0 (upd Z D (.lst (acc ++ [x])))) acc2 ((bs.map W2).take (i + 1))) := fun Z x sz bz v => by
        refine ⟨sz _ _ hd, by rw [sizeLine_eq]; omega, fun k ob e => ?_, (sb.trans bz).trans (Sub.upd _ _ _), _, upd_same, ?_⟩
        · rw [upd_ne (fun z => by rw [z, nD] at e; cases e)]
          exact sz _ _ (sy _ _ e)
        · rw [List.take_succ, wi]
          have v2 : VB B0 Z x (W2 b) := v.imp id fun z => ⟨z.1, z.2.since sb⟩
          exact psnoc (v2.put bD) (pmap (fun _ _ w => (w.same sz).put bD) pr)
      refine ⟨rfl, yesT ⟨_, rfl, b, rfl, by omega, ba, fun h0 Z sz => ?_, fun h1 Z x sz bz v => ?_⟩⟩
      · obtain ⟨f1, f2, f3⟩ := fin Z .non sz (Sub.of sz) (.inl ⟨h0, rfl⟩)
        exact ⟨_, f1, f2, f3.1, f3.2⟩
      · obtain ⟨f1, f2, f3⟩ := fin Z x sz bz (.inr ⟨h1, v⟩)
        exact ⟨_, f1, f2, f3.1, f3.2⟩
    · rintro Y ⟨sy, sb, acc, hd, pr⟩
      rw [List.length_map, ← List.length_map (f := W2), List.take_length] at pr
      have sA := s1.trans sy
      have l1 : 1 ≤ (bs.map W2).length := by
        rw [List.length_map]
        exact List.length_pos_iff.mpr ne
      have l9 : (bs.map W2).length ≤ 6001 := by
        rw [List.length_map]
        omega
      have lw : ∀ rows ∈ bs.map W2, 1 ≤ rows.length := fun rows m => by
        obtain ⟨b, _, rfl⟩ := List.mem_map.mp m
        exact W2_ne b
      have gi := good_iff l1 lw
      revert pr l1 l9 lw gi qn qy
      generalize bs.map W2 = W
      intro qn qy pr l1 l9 lw gi
      have la := Paired.length pr
      refine ⟨_, rfl, .none, W.map blkD, .non, .lst (.inl (.inl hd)) (dp_blks pr), rfl, shaped_blks _, (W.map blkD).any fun z => PyData.eqv z .none, rfl, ?_⟩
      rw [none_blks]
      cases eA : W.all blkOk with
      | false =>
        refine ite2 (fun _ => ?_) (fun z => absurd rfl z)
        exact qn (by rw [gi, eA]; rfl) _ sA
      | true =>
        refine ite2 (fun z => absurd z Bool.false_ne_true) (fun _ => ?_)
        have ok : ∀ {i : Nat} {x : V}, acc[i]? = some x → ∃ rows, W[i]? = some rows ∧ BlkVN (upd H1 D (.lst [])) Y x rows := fun {i x} hx => by
          obtain ⟨rows, er, v⟩ := paired_get pr hx
          refine ⟨rows, er, ?_⟩
          rcases v with ⟨e, _⟩ | ⟨_, b⟩
          · rw [List.all_eq_true.mp eA rows (List.mem_of_getElem? er)] at e
            cases e
          · exact b
        refine ⟨_, rfl, D, acc, rfl, .inl (.inl (.inl hd)), _, _, rfl, rfl, decide ((acc.length : Int) > 3), rfl, ?_⟩
        refine ite2 (fun z => ?_) (fun z => ?_)
        · have z := of_decide_eq_true z
          refine qn ?_ _ sA
          rw [gi, eA, decide_eq_false (by omega)]
          rfl
        have l3 : acc.length ≤ 3 := by
          have : ¬ ((acc.length : Int) > 3) := fun y => z (decide_eq_true y)
          omega
        clear z
        have ls : (shpW W).length = W.length := by
          unfold shpW
          rw [List.length_map]
        have gs : ∀ {i : Nat} {wss : List (List Str)}, W[i]? = some wss → (shpW W)[i]? = some ((wss.length : Int) + 1) := fun {i wss} h => by
          unfold shpW
          rw [List.getElem?_map, h]
          rfl
        -- the sizes, as a list
        have sizes : ∀ (Y2 : Hp), Same Y Y2 → ∀ (i : Nat) (x : V) (Z : Hp) (L : Addr), acc[i]? = some x → Same Y2 Z → Y2 L = none → Z L = some (.lst (((shpW W).take i).map V.int)) →
            ∃ bo rs, x = .ref bo ∧ SqL K Z bo rs ∧ (((shpW W).take i).map V.int).length < sizeLine ∧ Same Y2 (upd Z L (.lst (((shpW W).take i).map V.int ++ [V.int ((rs.length : Int) + 1)]))) ∧ upd Z L (.lst (((shpW W).take i).map V.int ++ [V.int ((rs.length : Int) + 1)])) L = some (.lst (((shpW W).take (i + 1)).map V.int)) := fun Y2 sY2 i x Z L hx sz nL hl => by
          obtain ⟨rows, er, bo, rs, rfl, _, ebo, prr⟩ := ok hx
          have lr : rs.length = rows.length := Paired.length prr
          refine ⟨bo, rs, rfl, .inl (.inl (sz _ _ (sY2 _ _ ebo))), ?_, fun k ob e => ?_, ?_⟩
          · rw [List.length_map, List.length_take, ls, sizeLine_eq]
            omega
          · rw [upd_ne (fun z => by rw [z, nL] at e; cases e)]
            exact sz _ _ e
          · rw [upd_same, List.take_succ, gs er, List.map_append, lr]
            rfl
        refine ⟨_, rfl, D, rfl, ⟨_, .inl (.inl hd)⟩, fun L nL => ?_⟩
        refine lc_list (K := K) (a := D) (xs := acc) (fun i Z => Same Y Z ∧ Z L = some (.lst (((shpW W).take i).map V.int))) ⟨sub_same nL, upd_same⟩ (fun i Z _ h => .inl (.inl (h.1 _ _ hd))) ?_ ?_
        · rintro i x Z hx ⟨sz, hl⟩
          obtain ⟨bo, rs, rfl, sq, h1, h2, h3⟩ := sizes Y (fun _ _ h => h) i x Z L hx sz nL hl
          exact ⟨rfl, yesT ⟨_, rfl, bo, rs, rfl, .inl sq, _, _, rfl, rfl, _, hl, h1, h2, h3⟩⟩
        · rintro Z ⟨sz, hl⟩
          rw [la, ← ls, List.take_length] at hl
          refine ⟨L, shpW W, rfl, .inl (.inl hl), _, _, rfl, rfl, decide ((shpW W).sum > 8), rfl, ?_⟩
          refine ite2 (fun z => ?_) (fun z => ?_)
          · have z := of_decide_eq_true z
            refine qn ?_ _ (sA.trans sz)
            rw [gi, eA, decide_eq_false (show ¬ (shpW W).sum ≤ 8 by omega), Bool.and_false, Bool.and_false]
          have l8 : (shpW W).sum ≤ 8 := by
            have : ¬ ((shpW W).sum > 8) := fun y => z (decide_eq_true y)
            omega
          clear z
          have good : goodW W = true := by
            rw [gi, eA, decide_eq_true l8, decide_eq_true (by omega)]
            rfl
          obtain ⟨S, sm, ew⟩ := good_text good
          have qy := qy good
          obtain ⟨num, en⟩ : ∃ n, n = numW W := ⟨_, rfl⟩
          obtain ⟨ns, e2⟩ : ∃ n, n = shpW W := ⟨_, rfl⟩
          rw [← en, ← e2] at qy ew
          rw [← en, ← e2] at sm
          rw [← e2] at S ls sizes
          have hd2 := sz _ _ hd
          refine fun F nF => ?_
          have sF := sz.trans (sub_same (o := .dT []) nF)
          have eF : upd Z F (.dT []) F = some (.dT []) := upd_same
          have offF : ∀ b o, Y b = some o → b ≠ F := fun b o e z => by rw [z] at e; rw [sz _ _ e] at nF; cases nF
          revert sF eF
          generalize upd Z F (.dT []) = Z1
          intro sF eF
          have hd3 := sF _ _ hd
          -- where a block's numbers are
          have at3 : ∀ {i : Nat} {x : V}, acc[i]? = some x → i < ns.length ∧ 2 ≤ (ns.getD i 0).toNat ∧ (ns.getD i 0).toNat ≤ 6 ∧ ∃ bo rs, x = .ref bo ∧ Y bo = some (.lst rs) ∧ rs.length = (ns.getD i 0).toNat - 1 ∧ ∀ {r : Nat} {y : V}, rs[r]? = some y → ∃ ro, y = .ref ro ∧ Y ro = some (.lst ((rowNs num (i : Int) (r : Int) ((ns.getD i 0).toNat - 1 - r)).map V.int)) := fun {i x} hx => by
            obtain ⟨rows, er, bo, rs, rfl, _, ebo, prr⟩ := ok hx
            have il : i < ns.length := by
              have := (List.getElem?_eq_some_iff.mp er).1
              omega
            have gd : ns.getD i 0 = ns[i] := by rw [List.getD_eq_getElem?_getD, List.getElem?_eq_getElem il]; rfl
            have z6 := S.2.1 _ (List.getElem_mem il)
            rw [← gd] at z6
            have lor : ∀ {r k : Nat}, r < k → k < (ns.getD i 0).toNat → Sm (num ((i : Int), (r : Int), (k : Int))) := fun {r k} h1 h2 => sm _ (mem_pl S il h1 (by omega))
            rw [← ew] at er
            have wi : (stairW num ns)[i]? = some (blkW num (i : Int) (ns.getD i 0).toNat) := by
              unfold stairW
              rw [List.getElem?_map, List.getElem?_range il]
              rfl
            rw [wi] at er
            obtain rfl := Option.some.inj er
            have lb : (blkW num (i : Int) (ns.getD i 0).toNat).length = (ns.getD i 0).toNat - 1 := by
              unfold blkW
              rw [List.length_map, List.length_range]
            refine ⟨il, by omega, by omega, bo, rs, rfl, ebo, (Paired.length prr).trans lb, fun {r y} hy => ?_⟩
            obtain ⟨ws, ewr, ro, rfl, _, ero⟩ := paired_get prr hy
            have rl := (List.getElem?_eq_some_iff.mp ewr).1
            rw [lb] at rl
            have wr : (blkW num (i : Int) (ns.getD i 0).toNat)[r]? = some ((rowNs num (i : Int) (r : Int) ((ns.getD i 0).toNat - 1 - r)).map intS) := by
              unfold blkW
              rw [List.getElem?_map, List.getElem?_range rl]
              rfl
            rw [wr] at ewr
            obtain rfl := Option.some.inj ewr
            refine ⟨ro, rfl, ero.trans ?_⟩
            rw [List.map_map]
            congr 2
            refine List.map_congr_left fun n hn => ?_
            unfold rowNs at hn
            obtain ⟨c, hc, rfl⟩ := List.mem_map.mp hn
            rw [List.mem_range] at hc
            have q := lor (r := r) (k := r + 1 + c) (by omega) (by omega)
            rw [show ((r + 1 + c : Nat) : Int) = (r : Int) + 1 + (c : Int) by omega] at q
            show ov (rdS (intS _)) = V.int _
            unfold rdS
            rw [rd_intS q]
            rfl
          refine ⟨_, rfl, D, _, rfl, .inl (.inl hd3), ?_⟩
          refine for_it (walk_enum (K := K) (a := D) (xs := acc)) (fun i σ U => (∃ y3 y4 y5 y6 y7 y8, σ = [some (.str t), some (.ref D), some (.ref F), y3, y4, y5, y6, y7, y8, none]) ∧ (∀ b o, b ≠ F → Z1 b = some o → U b = some o) ∧ U F = some (.dT (dictO (allP ns i) num))) ⟨⟨_, _, _, _, _, _, rfl⟩, fun _ _ _ h => h, eF⟩ (fun i σ U _ h => .inl (.inl (h.2.1 _ _ (offF _ _ hd) hd3))) ?_ ?_
          · rintro i v σ U U2 hi ⟨⟨y3, y4, y5, y6, y7, y8, rfl⟩, ou, hf⟩ ⟨Tp, x0, y0, rfl, nT, rfl, ex0, ey⟩
            obtain rfl := Option.some.inj ex0
            obtain ⟨il, z2, z6, bo, rs, rfl, ebo, lrs, rowAt⟩ := at3 ey
            have np := fun r hr => allP_nodup S (b := i) (r := r) il hr
            have nx := allP_succ ns i
            revert z2 z6 lrs rowAt np nx
            generalize (ns.getD i 0).toNat = z
            intro z2 z6 lrs rowAt np nx
            have s2 := sub_same (o := .tup [V.int (i : Nat), V.ref bo]) nT
            have hT : upd U Tp (.tup [V.int (i : Nat), V.ref bo]) Tp = some (.tup [V.int (i : Nat), V.ref bo]) := upd_same
            have ou2 : ∀ b o, b ≠ F → Z1 b = some o → upd U Tp (.tup [V.int (i : Nat), V.ref bo]) b = some o := fun b o n e => s2 _ _ (ou b o n e)
            have hf2 := s2 _ _ hf
            revert hT ou2 hf2
            generalize upd U Tp (.tup [V.int (i : Nat), V.ref bo]) = U3
            intro hT ou2 hf2
            refine ⟨Tp, _, rfl, .inl (.inl hT), rfl, _, _, rfl, _, _, rfl, rfl, ?_⟩
            refine ⟨_, rfl, bo, _, rfl, .inl (.inl (ou2 _ _ (offF _ _ ebo) (sF _ _ ebo))), ?_⟩
            refine for_it (walk_enum (K := K) (a := bo) (xs := rs)) (fun r σ U => (∃ y5 y6 y7 y8, σ = [some (.str t), some (.ref D), some (.ref F), some (.int (i : Nat)), some (.ref bo), y5, y6, y7, y8, none]) ∧ (∀ b o, b ≠ F → Z1 b = some o → U b = some o) ∧ U F = some (.dT (dictO (allP ns i ++ bloP i z r) num))) ⟨⟨_, _, _, _, rfl⟩, ou2, by show _ = some (HO.dT (dictO (allP ns i ++ []) num)); rw [List.append_nil]; exact hf2⟩ (fun r σ U _ h => .inl (.inl (h.2.1 _ _ (offF _ _ ebo) (sF _ _ ebo)))) ?_ ?_
            · rintro r v σ U U2 hr2 ⟨⟨y5, y6, y7, y8, rfl⟩, ou, hf⟩ ⟨Tq, x0, y0, rfl, nT2, rfl, ex0, ey⟩
              obtain rfl := Option.some.inj ex0
              obtain ⟨ro, rfl, ero⟩ := rowAt ey
              obtain ⟨nod, l30⟩ := np r (by omega)
              have s3 := sub_same (o := .tup [V.int (r : Nat), V.ref ro]) nT2
              have hT2 : upd U Tq (.tup [V.int (r : Nat), V.ref ro]) Tq = some (.tup [V.int (r : Nat), V.ref ro]) := upd_same
              have ou3 : ∀ b o, b ≠ F → Z1 b = some o → upd U Tq (.tup [V.int (r : Nat), V.ref ro]) b = some o := fun b o n e => s3 _ _ (ou b o n e)
              have hf3 := s3 _ _ hf
              revert hT2 ou3 hf3
              generalize upd U Tq (.tup [V.int (r : Nat), V.ref ro]) = U4
              intro hT2 ou3 hf3
              refine ⟨Tq, _, rfl, .inl (.inl hT2), rfl, _, _, rfl, _, _, rfl, rfl, ?_⟩
              have ero2 := sF _ _ ero
              refine ⟨_, rfl, ro, _, rfl, .inl (.inl (ou3 _ _ (offF _ _ ero) ero2)), ?_⟩
              have lrow : ((rowNs num (i : Int) (r : Int) (z - 1 - r)).map V.int).length = z - 1 - r := by rw [List.length_map, rowNs_len]
              refine for_it (walk_enum (K := K) (a := ro) (xs := (rowNs num (i : Int) (r : Int) (z - 1 - r)).map V.int)) (fun c σ U => (∃ y7 y8, σ = [some (.str t), some (.ref D), some (.ref F), some (.int (i : Nat)), some (.ref bo), some (.int (r : Nat)), some (.ref ro), y7, y8, none]) ∧ (∀ b o, b ≠ F → Z1 b = some o → U b = some o) ∧ U F = some (.dT (dictO (allP ns i ++ bloP i z r ++ (rowP i r z).take c) num))) ⟨⟨_, _, rfl⟩, ou3, by rw [List.take_zero, List.append_nil]; exact hf3⟩ (fun c σ U _ h => .inl (.inl (h.2.1 _ _ (offF _ _ ero) ero2))) ?_ ?_
              · rintro c v σ U U2 hc ⟨⟨y7, y8, rfl⟩, ou, hf⟩ ⟨Tr, x0, y0, rfl, nT3, rfl, ex0, ey2⟩
                obtain rfl := Option.some.inj ex0
                rw [lrow] at hc
                have ev : y0 = .int (num ((i : Int), (r : Int), (r : Int) + 1 + (c : Int))) := by
                  have ey2 : ((rowNs num (i : Int) (r : Int) (z - 1 - r)).map V.int)[c]? = some y0 := ey2
                  unfold rowNs at ey2
                  rw [List.getElem?_map, List.getElem?_map, List.getElem?_range hc] at ey2
                  exact (Option.some.inj ey2).symm
                subst ev
                have s4 := sub_same (o := .tup [V.int (c : Nat), V.int (num ((i : Int), (r : Int), (r : Int) + 1 + (c : Int)))]) nT3
                have hT3 : upd U Tr (.tup [V.int (c : Nat), V.int (num ((i : Int), (r : Int), (r : Int) + 1 + (c : Int)))]) Tr = some (.tup [V.int (c : Nat), V.int (num ((i : Int), (r : Int), (r : Int) + 1 + (c : Int)))]) := upd_same
                have ou4 : ∀ b o, b ≠ F → Z1 b = some o → upd U Tr (.tup [V.int (c : Nat), V.int (num ((i : Int), (r : Int), (r : Int) + 1 + (c : Int)))]) b = some o := fun b o n e => s4 _ _ (ou b o n e)
                have hf4 := s4 _ _ hf
                revert hT3 ou4 hf4
                generalize upd U Tr (.tup [V.int (c : Nat), V.int (num ((i : Int), (r : Int), (r : Int) + 1 + (c : Int)))]) = U5
                intro hT3 ou4 hf4
                refine ⟨Tr, _, rfl, .inl (.inl hT3), rfl, _, _, rfl, _, _, rfl, rfl, ?_⟩
                refine ⟨_, rfl, _, rfl, _, rfl, _, rfl, _, rfl, _, _, rfl, rfl, _, rfl, _, _, rfl, rfl, (by show 3 ≤ sizeLine; decide), fun p3 n3 => ?_⟩
                have s5 := sub_same (o := .tup [V.int (i : Nat), V.int (r : Nat), V.int ((r : Int) + 1 + (c : Nat))]) n3
                have e3 : upd U5 p3 (.tup [V.int (i : Nat), V.int (r : Nat), V.int ((r : Int) + 1 + (c : Nat))]) p3 = some (.tup (triV ((i : Int), (r : Int), (r : Int) + 1 + (c : Int)))) := upd_same
                have hf5 := s5 _ _ hf4
                have ou5 : ∀ b o, b ≠ F → Z1 b = some o → upd U5 p3 (.tup [V.int (i : Nat), V.int (r : Nat), V.int ((r : Int) + 1 + (c : Nat))]) b = some o := fun b o n e => s5 _ _ (ou4 b o n e)
                revert e3 hf5 ou5
                generalize upd U5 p3 (.tup [V.int (i : Nat), V.int (r : Nat), V.int ((r : Int) + 1 + (c : Nat))]) = U6
                intro e3 hf5 ou5
                have gr := rowP_get (b := i) (i := r) (z := z) hc
                have fresh : ((i : Int), (r : Int), (r : Int) + 1 + (c : Int)) ∉ allP ns i ++ bloP i z r ++ (rowP i r z).take c := fun m => by
                  rcases List.mem_append.mp m with m | m
                  · exact (List.nodup_append.mp nod).2.2 _ m _ (List.mem_of_getElem? gr) rfl
                  · exact not_take (List.nodup_append.mp nod).2.1 gr m
                have tk : (rowP i r z).take (c + 1) = (rowP i r z).take c ++ [((i : Int), (r : Int), (r : Int) + 1 + (c : Int))] := by rw [List.take_succ, gr]; rfl
                have lall : (dictO (allP ns i ++ bloP i z r ++ (rowP i r z).take c) num).length < sizeLine := by
                  have z1 : ((rowP i r z).take c).length ≤ (rowP i r z).length := by rw [List.length_take]; exact Nat.min_le_right _ _
                  unfold dictO
                  rw [List.length_map, List.length_append, sizeLine_eq]
                  rw [List.length_append] at l30
                  omega
                refine ⟨F, _, rfl, DPut.t (k := triK ((i : Int), (r : Int), (r : Int) + 1 + (c : Int))) hf5 e3 lall, ⟨_, _, rfl⟩, fun b o nb e => ?_, ?_⟩
                · rw [upd_ne nb]
                  exact ou5 b o nb e
                · rw [upd_same, dictO_snoc fresh, tk, List.append_assoc]
              · rintro σ U ⟨⟨y7, y8, rfl⟩, ou, hf⟩
                rw [lrow, List.take_of_length_le (by rw [rowP_len]; exact Nat.le_refl _)] at hf
                refine ⟨⟨_, _, _, _, rfl⟩, ou, ?_⟩
                rw [bloP_succ, ← List.append_assoc]
                exact hf
            · rintro σ U ⟨⟨y5, y6, y7, y8, rfl⟩, ou, hf⟩
              refine ⟨⟨_, _, _, _, _, _, rfl⟩, ou, ?_⟩
              have last : bloP i z z = bloP i z (z - 1) := by
                obtain ⟨m, rfl⟩ : ∃ m, z = m + 1 := ⟨z - 1, by omega⟩
                rw [bloP_succ]
                have e0 : rowP i m (m + 1) = [] := by
                  unfold rowP
                  rw [show m + 1 - 1 - m = 0 by omega]
                  rfl
                rw [e0, List.append_nil]
                rfl
              rw [nx, last, ← lrs]
              exact hf
          · rintro σ U ⟨⟨y3, y4, y5, y6, y7, y8, rfl⟩, ou, hf⟩
            have lan : acc.length = ns.length := by omega
            rw [lan] at hf
            have xdF : XD U F ns num := ⟨_, allP_perm S, hf⟩
            have sYU : Same Y U := fun b o e => ou b o (offF b o e) (sF b o e)
            have hd4 := sYU _ _ hd
            refine ⟨_, rfl, D, rfl, ⟨_, .inl (.inl hd4)⟩, fun L nL => ?_⟩
            refine lc_list (K := K) (a := D) (xs := acc) (fun i Z => Same U Z ∧ Z L = some (.lst ((ns.take i).map V.int))) ⟨sub_same nL, upd_same⟩ (fun i Z _ h => .inl (.inl (h.1 _ _ hd4))) ?_ ?_
            · rintro i x Z hx ⟨sz, hl⟩
              obtain ⟨bo, rs, rfl, sq, h1, h2, h3⟩ := sizes U sYU i x Z L hx sz nL hl
              exact ⟨rfl, yesT ⟨_, rfl, bo, rs, rfl, .inl sq, _, _, rfl, rfl, _, hl, h1, h2, h3⟩⟩
            · rintro Z ⟨sz, hl⟩
              rw [lan, List.take_length] at hl
              refine .inl ⟨L, _, rfl, .inl (.inl hl), fun sh np => ?_⟩
              have s7 := sub_same (o := .tup (ns.map V.int)) np
              have es : upd Z sh (.tup (ns.map V.int)) sh = some (.tup (ns.map V.int)) := upd_same
              have sU := (sA.trans sYU).trans (sz.trans s7)
              have xd7 := (xdF.same sz).same s7
              revert es sU xd7
              generalize upd Z sh (.tup (ns.map V.int)) = Z7
              intro es sU xd7
              refine ⟨_, rfl, (by show 2 ≤ sizeLine; decide), fun tp ntp => ?_⟩
              have s8 := sub_same (o := .tup [V.ref sh, V.ref F]) ntp
              exact qy _ tp sh F (sU.trans s8) upd_same (sqt_new (s8 _ _ es)) (xd7.same s8)
end
end K07

/-! # what is read of a value -/
namespace K07
open PySem PySem.Spec PyProof.Rows L2 TL NumText RZ
section
variable {X : Cx} {CX : CXT} {k : Nat} {C p g : Addr} {fd : FuncData} {ps : List Str} {mc : Value} {sp : Sp} {E : L2.St → XK} {o e : Expr} {es : List Expr} {m : Str} {pos apos : Pos} {ta : TE} {t : TA} {pl : Sem Bool}
theorem pe_cmethS (he : PE X o ta) (r : ClX.CRead X.K C mc) (c : ClX.CMet X.K C mc m p g) (F : FnOk X.prog X.w X.K X.mg X.base CX k g fd ps sp) (hr : Room k X.A) (hb : Binds X.K fd ps []) (hx : ∀ σ, PassesAt CX X σ (E σ)) (ha : PA X (e :: es) t)
    (hst : starEach (e :: es) X.env = (false, eval e X.env) :: starEach es X.env := by rfl) (hpl : (backTo pos (starEach es X.env)).any (·.1) = false := by rfl)
    (ht : eval (.Call (.Attribute o m apos) (e :: es) [] pos) X.env = (do
      let ov ← eval o X.env
      standAt apos.atName
      let (f, first) ← holding [ov] (getMethod ov m pl)
      callWith pos f first (backTo pos (starEach (e :: es) X.env)) (backToKw pos (keywordEach [] X.env))) := by rfl) :
    PE X (.Call (.Attribute o m apos) (e :: es) [] pos) (fun σ H Q => ta σ H fun x H1 => x = .ref C ∧ t σ H1 fun vs H2 => sp (.ref C :: vs) H2 Q (E σ)) := by
  refine ⟨fun pins s σ H Q I h => PySem.W.methodCall_KW (pl := pl) (thn (he.run pins s σ H _ I h) fun u s1 ⟨x, H1, I1, rx, ex, q⟩ => ?_) ht⟩
  subst ex
  obtain rfl : u = Value.ref C := rx
  refine ClX.getmethcm_ok I1 r c fun s2 I2 => ClX.callwith_cm I2 (ClX.base_none I1 (Nat.le_refl _)) c.fi (thn (ha.run pos _ s2 σ H1 _ I2 q) fun us s3 ⟨vs, H2, I3, rv, q2⟩ => ⟨⟨ClX.pin_at I3, I3.kIn⟩, ?_⟩) hst hpl
  have r2 : Vals (.ref C :: vs) (Value.ref C :: us) := .cons rfl rv
  have hl : ((Value.ref C :: us) ++ []).length = ps.length := by
    rw [List.append_nil, ← r2.length]
    exact F.len _ _ _ _ q2
  have b := hb s3 (.ref C :: us) I3.kIn hl
  rw [List.append_nil] at b
  have cd : codeAny (model X.prog X.w) X.A (.call (.ref g) ⟨.ref C :: us, []⟩) (fun r s' => match r with | .ok (.ret v) => EP X ((s1.heap.objs.size, PySem.W.methodObj (.ref g) (.ref C)) :: pins) σ Q v s' | .ok _ => False | .error e => X.xe e s') s3 := by
    refine codeAny_mono (F.run X.A X.stack s3 H2 ⟨.ref C :: us, []⟩ (.ref C :: us) (.ref C :: vs) Q (E σ) hr I3.env0 b r2 q2) fun res s' hq => ?_
    cases res with
    | error er => exact hx σ _ H2 s3 er s' I3 hq
    | ok fl =>
      cases fl with
      | ret u => exact I3.after hq
      | next => exact False.elim hq
      | brk => exact False.elim hq
      | cont => exact False.elim hq
  exact thn (wpAny_call (PySem.W.method_call (ClX.pin_at I3) cd)) fun _ _ y => ClX.unpinE y
end
theorem ins_of {K : PySem.W.Frag} {Y : Hp} {c C : Addr} {ks ms : List Int} (h : StairO K Y c C ks ms) : Ins Y c C := let ⟨dx, _, _, _, e, _⟩ := h; ⟨dx, _, e⟩
theorem good_str {t : Str} (h : goodW (W3 t) = true) : stairS (numW (W3 t)) (shpW (W3 t)) = t := by
  rw [stair_J3, (good_text h).2.2, J3_W3]
section
variable {P : Program} {w : World} {K : PySem.W.Frag} {mg : Str → Option Value} {base : Heap} {C CP CS : Addr} {mc : Value}
abbrev s_lrd : Stmt := topS 59
theorem sc_lrd : FnScope ["_law_text_here", "_law_found", "error"] ["_law_text_here"] (defScope s_lrd) := ⟨rfl, rfl, rfl, by decide +kernel, rfl, by decide +kernel, by decide +kernel⟩
def refT : List V := [.str "refused", .int 0]
def spLRd (K : PySem.W.Frag) : Sp := fun vs H Q _ => ∃ x : V, vs = [x] ∧
  ((∃ t : Str, x = .str t ∧ t.length ≤ 6000 ∧ (goodW (W3 t) = false → ∀ H' a, Same H H' → H' a = some (.tup refT) → Q (.ref a) H') ∧
    (goodW (W3 t) = true → ∀ H' a sh nm, Same H H' → H' a = some (.tup [.ref sh, .ref nm, .str t]) → SqT K H' sh ((shpW (W3 t)).map V.int) → H' nm = some (.tup ((numsL (numW (W3 t)) (shpW (W3 t))).map V.int)) → Q (.ref a) H')) ∨
   (NStr K H x ∧ ∀ H' a, Same H H' → H' a = some (.tup refT) → Q (.ref a) H'))
theorem ok_lrd {f fP pD gD qS gS qN gN gR : Addr} {fd fdP fdD fdS fdN fdR : FuncData} (T : Txt mg) (N : Nam mg) (R : SC K mg C) (dP : RD K mg CP fP fdP) (xf : XfC K CP) (te : PySem.W.exmOne K (.ref CP) (.ref CP) = some true)
    (rd : ClX.CRead K C mc) (cmD : ClX.CMet K C mc "read" pD gD) (GD : FnOk P w K mg base (L2.CX P w) 9 gD fdD ["cls", "text"] (spReadX K C CP)) (bD : Binds K fdD ["cls", "text"] [])
    (pS : PropOf K C "shape" qS gS) (GS : FnOk P w K mg base CX0 1 gS fdS ["self"] (spShp K C)) (bS : Binds K fdS ["self"] []) (pN : PropOf K C "numbers" qN gN) (GN : FnOk P w K mg base CX0 1 gN fdN ["self"] (spNums K C)) (bN : Binds K fdN ["self"] [])
    (hsR : PySem.W.findIn K (.ref C) "__str__" = some (some (.ref gR))) (hfR : PySem.W.isFn K (.ref gR) = true) (GR : FnOk P w K mg base CX0 8 gR fdR ["self"] (spStr K C)) (bR : Binds K fdR ["self"] []) (d : D K mg "_law_read" s_lrd ["_law_text_here"] f fd) :
    FnOk P w K mg base CX0 11 f fd ["_law_text_here"] (spLRd K) := by
  refine d.F.ok sc_lrd (fun vs H Q E h => ?_) (fun cdv A outer s H vs Q E hr h => ?_)
  · obtain ⟨x, rfl, _⟩ := h
    rfl
  · obtain ⟨x, rfl, h⟩ := h
    refine ⟨_, (pss_cons (ps_try_as (i := 2) (Wout := fun _ _ _ _ => False) rfl rfl sc_lrd.nd rfl rfl ⟨rfl, by decide, Or.inl dP.g⟩ takes0
        (fun W pn xe tk _ => pss_one (ps_set (i := 1) sc_lrd.nd rfl (.inl rfl) (by exact (pe_cmethS (E := WE W) (pe_glob (v := .ref C) rfl R.mC rfl) rd cmD GD (hr.mono (by decide)) bD (fun σ => passAt tk σ) (pa_cons (pv 0) pa_nil)))))
        (fun a oe cls d pn hz hf => pss_one (ps_ret (pe_tup (pa_cons pe_str (pa_cons (pe_xf (C := CP) xf dP.no hz hf (pv 2)) pa_nil))))))
      (pss_one (ps_ret (pe_tup (pa_cons (pe_prop (pv 1) R.cl pS GS (hr.mono (by decide)) bS .nil pass0 (by rfl)) (pa_cons (pe_prop (pv 1) R.cl pN GN (hr.mono (by decide)) bN .nil pass0 (by rfl)) (pa_cons (pe_callTy (call_strMine hsR hfR GR (hr.mono (by decide)) bR) (by rfl) N.n_str (by decide +kernel) (pa_cons (pv 1) pa_nil)) pa_nil))))))), ?_⟩
    have lk : List.lookup ("spot" : Str) [(("spot" : Str), V.int 0)] = some (.int 0) := by simp [List.lookup]
    refine ⟨rfl, x, rfl, x, rfl, ?_⟩
    rcases h with ⟨t, rfl, t6, qn, qy⟩ | ⟨⟨t, ty, kb⟩, q⟩
    · refine .inl ⟨t, rfl, t6, fun ln => ?_, fun ly => ?_⟩
      · intro dd H' s1 hd
        exact ⟨true, te, fun _ a0 _ => ⟨_, rfl, rfl, rfl, dd, _, .int 0, rfl, hd, lk, by decide, fun q' nq => qn ln _ q' (s1.trans (sub_same nq)) upd_same⟩, fun q => Bool.noConfusion q⟩
      · intro H' c s1 st
        obtain ⟨S, sm, _⟩ := good_text ly
        have qy := qy ly
        have ez := good_str ly
        obtain ⟨dx, sh0, pln, nm, e1, e2, e3, e4⟩ := id st
        refine ⟨_, rfl, c, dx, _, rfl, e1, c, _, _, rfl, st, fun sh es => ?_⟩
        refine ⟨_, rfl, c, dx, _, rfl, e1, c, _, _, rfl, st, fun ln eln => ?_⟩
        refine ⟨_, rfl, c, rfl, ins_of st, c, _, _, rfl, st, S, smN_lo sm, fun H2 s2 => ⟨_, rfl, ?_⟩⟩
        refine ⟨(by show 3 ≤ sizeLine; decide), fun a na => ?_⟩
        have s3 := sub_same (o := .tup [V.ref sh, V.ref ln, V.str (stairS (numW (W3 t)) (shpW (W3 t)))]) na
        exact qy _ a sh ln (s1.trans (s2.trans s3)) (by rw [upd_same, ez]) (sqt_same es (s2.trans s3)) (s3 _ _ (s2 _ _ eln))
    · refine .inr ⟨⟨t, ty, kb⟩, ?_⟩
      intro dd H' s1 hd
      exact ⟨true, te, fun _ a0 _ => ⟨_, rfl, rfl, rfl, dd, _, .int 0, rfl, hd, lk, by decide, fun q' nq => q _ q' (s1.trans (sub_same nq)) upd_same⟩, fun q => Bool.noConfusion q⟩
end
end K07

/-! # where no repr is under way -/
namespace K07
open PySem PySem.Spec PyProof.Rows L2 TL NumText
/-- a def's promise, kept where no repr is under way -/
structure FnG (P : Program) (w : World) (K : PySem.W.Frag) (mg : Str → Option Value) (base : Heap) (CX : CXT) (k : Nat) (f : Addr) (fd : FuncData) (ps : List Str) (sp : Sp) : Prop where
  size : ∀ vs H Q E, sp vs H Q E → vs.length = ps.length
  runs : ∀ (A : Around) (out : List Env) (s : Shared) (H : Hp) (ar : Args) (us : List Value) (vs : List V) (Q : VK) (E : XK), A.guards = some [] → Room k A → Env0 P w K mg base A out s H → BindsTo s fd ar (ps.zip us) → Vals vs us → sp vs H Q E →
    codeAny (model P w) A (.call (.ref f) ar) (CR CX out P w H s Q E) s
theorem deep_guards {A : Around} {env : Env} (h : A.guards = some []) : (A.deeper env).guards = some [] := by
  first | exact h | (simp [Around.deeper, h])
theorem FnG.of {P : Program} {w : World} {K : PySem.W.Frag} {mg : Str → Option Value} {base : Heap} {k : Nat} {x qual : Str} {st : Stmt} {f : Addr} {fd : FuncData} {N ps : List Str} {sp : Sp} (F : Fun K x qual st f fd) (S : FnScope N ps (defScope st))
    (size : ∀ vs H Q E, sp vs H Q E → vs.length = ps.length)
    (body : ∀ (cdv : Value) (A : Around) (out : List Env) (s : Shared) (H : Hp) (vs : List V) (Q : VK) (E : XK), (A.deeper (envOfC qual (defScope st) s.heap.objs.size f cdv)).guards = some [] → Room k (A.deeper (envOfC qual (defScope st) s.heap.objs.size f cdv)) → sp vs H Q E →
      ∃ t, PSs (cxOf CX0 P w K mg base N qual (defScope st) f cdv A out s H E).nox (defBody st) t ∧ t { nx := fun _ H' => Q .non H', rt := Q } (start N vs) H) :
    FnG P w K mg base CX0 (k + 1) f fd ps sp := by
  obtain ⟨oc, od, kV, doc, pm, an, cdv, ct, osl, rfl, lk, hcd⟩ := F.ex
  refine ⟨size, fun A out s H ar us vs Q E hg hr e0 hb r hs => ?_⟩
  have many := size _ _ _ _ hs
  have low : ∀ b o, base.get? b = some o → s.heap.get? b = some o := fun b o e => (e0.bs b o e).1
  refine Att.call_fn (e0.mod.kin.keeps low) (e0.mod.nolimit.keeps low) lk hcd hr.depth hb ?_ (fun s1 x => ?_) S.co S.gen S.kind
  · rw [List.all_eq_true]
    rintro ⟨n, v⟩ hy
    have z := S.par n (List.of_mem_zip hy).1
    rcases z with z | z <;> simp [z]
  · obtain ⟨t, ht, hq⟩ := body cdv A out s H vs Q E (deep_guards hg) (hr.deeper _) hs
    have I : Inv (cxOf CX0 P w K mg base N qual (defScope st) f cdv A out s H E) [] (start N vs) H s1 := inv_start S hr.hd e0 many r x
    refine wpAny_mono (ht.nox.run [] s1 (start N vs) H _ I hq) (fun fl s' ends => ?_) fun e s' z => z
    have fin : ∀ {σ : L2.St} {H' : Hp} {v : V} {u : Value}, Inv (cxOf CX0 P w K mg base N qual (defScope st) f cdv A out s H E) [] σ H' s' → RelV v u → Q v H' → CE out P w H s Q u s' := fun {_ H' v _} J rv q =>
      ⟨v, H', J.os, J.bare, J.base, J.hok, rv, q⟩
    cases fl with
    | ret u =>
      obtain ⟨v, σ, H', J, rv, q⟩ := ends
      exact fin J rv q
    | next =>
      obtain ⟨σ, H', J, q⟩ := ends
      exact fin (v := V.non) (u := Value.none) J rfl q
    | brk =>
      obtain ⟨_, _, _, no⟩ := ends
      exact False.elim no
    | cont =>
      obtain ⟨_, _, _, no⟩ := ends
      exact False.elim no
section
variable {X : Cx} {k : Nat} {f : Addr} {fd : FuncData} {ps : List Str} {sp : Sp} {x : Str} {p pos : Pos} {e : Expr} {es : List Expr} {t : TA}
/-- f(e, ..) where no repr is under way -/
theorem pe_callG (G : FnG X.prog X.w X.K X.mg X.base CX0 k f fd ps sp) (no : X.A.guards = some []) (hr : Room k X.A) (hg : Gl X x) (hm : X.mg x = some (.ref f)) (hk : PySem.W.keepIn X.K (.ref f) = true) (hb : Binds X.K fd ps [])
    (ha : PA X (e :: es) t) (hdb : (x == ("__debug__" : Str)) = false := by decide) (he : starEach (e :: es) X.env = (false, eval e X.env) :: starEach es X.env := by rfl) (hpl : (backTo pos (starEach es X.env)).any (·.1) = false := by rfl) :
    PE X (.Call (.Name x p) (e :: es) [] pos) (tCall sp [] E0 t) := by
  refine ⟨fun pins s σ H Q I h => wpAny_Call_Name_kw (ld_glob I hg hm ?_ hdb)⟩
  refine PySem.W.callWith_K (h₀ := X.base) I.ok.mod.kin hk (thn (ha.run pos pins s σ H _ I h) fun us s1 ⟨vs, H1, I1, r, q⟩ => ⟨I1.kIn, ?_⟩) he hpl
  have q1 : sp vs H1 Q E0 := by
    have q2 : sp (vs ++ []) H1 Q E0 := q
    rwa [List.append_nil] at q2
  have many : (us ++ []).length = ps.length := by
    rw [List.append_nil, ← r.length]
    exact G.size _ _ _ _ q1
  have bnd := hb s1 us I1.kIn many
  rw [List.append_nil] at bnd
  refine wpAny_call (codeAny_mono (G.runs X.A X.stack s1 H1 ⟨us, []⟩ us vs Q E0 no hr I1.env0 bnd r q1) fun res s' z => ?_)
  cases res with
  | error e => exact False.elim z
  | ok fl =>
    cases fl with
    | ret u => exact I1.after z
    | next => exact False.elim z
    | brk => exact False.elim z
    | cont => exact False.elim z
/-- repr of a list or tuple of data, where no repr is under way -/
theorem call_repr_D (no : X.A.guards = some []) (hu : X.A.units + 100 < cLine) : CallR X (.builtin "repr") (fun xs H Q => ∃ (a : Addr) (d : PyData), xs = [.ref a] ∧ (∀ (pins : List (Addr × Obj)) (σ : L2.St) (s : Shared), Inv X pins σ H s → ∃ as, Reads s.heap (.ref a) d as ∧ (d.hasDict = true → sysModules ∉ as)) ∧
    d.showable = true ∧ d.depth ≤ 90 ∧ d.shown.length ≤ sizeLine ∧ Q (.str d.shown) H) := by
  intro pins s σ H vs us Q I r h
  obtain ⟨a, d, rfl, rd, sh, dp, sz, q⟩ := h
  obtain ⟨as, hr, hs⟩ := rd pins σ s I
  cases r with
  | cons r1 r2 =>
    cases r2
    obtain rfl := (show _ = Value.ref a from r1)
    refine repr_of_reads' hr sh hs no (by omega) (fun b o e => e) (fun h' u tk k => ?_) sz
    exact ⟨.str d.shown, H, I.kept (h' := h') (t' := tk) k, ⟨_, rfl⟩, q⟩
end
/-! ### the root -/
/-- nothing is tracked, but the script where the module does not hold it -/
def onlyS (K : PySem.W.Frag) (a : Addr) (u : HO) : Hp := fun b => if b = a ∧ K.lookup a = none then some u else none
theorem onlyS_at {K : PySem.W.Frag} {a b : Addr} {u v : HO} (h : onlyS K a u b = some v) : b = a ∧ K.lookup a = none ∧ v = u := by
  unfold onlyS at h
  by_cases c : b = a ∧ K.lookup a = none
  · rw [if_pos c] at h
    exact ⟨c.1, c.2, (Option.some.inj h).symm⟩
  · rw [if_neg c] at h
    cases h
theorem onlyS_off {K : PySem.W.Frag} {a b : Addr} {u : HO} (h : b ≠ a) : onlyS K a u b = none := if_neg fun c => h c.1
theorem onlyS_none {K : PySem.W.Frag} {a b : Addr} {u : HO} {o : Obj} (h : K.lookup b = some o) : onlyS K a u b = none := if_neg fun c => by
  obtain ⟨rfl, c2⟩ := c
  rw [h] at c2
  cases c2
theorem root_of {P : Program} {w : World} {K : PySem.W.Frag} {mg mb : Str → Option Value} {k : Nat} {fa a : Addr} {fd : FuncData} {x : Str} {sp : Sp} {s1 : Shared} {us : List Value} {ns : List Int}
    (KX : K.In s1.heap) (main : s1.heap.Ns mainGlobals mg) (blt : s1.heap.Ns builtinsNs mb) (boot : ∀ y : Str, y ≠ "__name__" → mb y = bootBuiltins y) (lim : s1.heap.NoLimit) (gens : s1.gens = #[])
    (ha : s1.heap.get? a = some { cls := .type "list", data := .seq us.toArray }) (hi : IntsAre us ns) (hl : ns.length ≤ sizeLine) (hr : Room k callerA)
    (G : ∀ base : Heap, K.In base → base.Ns mainGlobals mg → FnG P w K mg base CX0 k fa fd [x] sp) (bnd : ∀ (s : Shared) (u : Value), BindsTo s fd ⟨[u], []⟩ [(x, u)])
    (hsp : ∀ H : Hp, SqL K H a (ns.map V.int) → sp [.ref a] H (fun v _ => v = .bl true) E0) :
    codeAny (model P w) callerA (.call (.ref fa) ⟨[.ref a], []⟩) (fun r s' => r = .ok (.ret (.bool true)) ∧ OldK s1.heap s'.heap ∧ s'.os = s1.os ∧ AllBare s'.gens) s1 := by
  have rv := vals_ints hi
  have sized : (ns.map V.int).length ≤ sizeLine := by rwa [List.length_map]
  generalize hu : HO.frz { cls := .type "list", data := .seq us.toArray } (.lst (ns.map V.int)) = u
  have far : ∀ {b : Addr} {o : Obj} {es : Array DictEntry} {ep : Nat}, s1.heap.get? b = some o → o.data = .dict es ep → b ≠ a := fun {b o es ep} e d z => by
    subst z
    rw [ha] at e
    cases e
    cases d
  have space : ∀ {b : Addr} {m : Str → Option Value}, s1.heap.Ns b m → (hidT s1.heap (onlyS K a u)).Ns b m := fun {b m} ⟨o, es, ep, e, d, r⟩ => ⟨o, es, ep, hidT_get e (onlyS_off (far e d)), d, r⟩
  have KB : K.In (hidT s1.heap (onlyS K a u)) := fun b o e => hidT_get (KX b o e) (onlyS_none e)
  have M : Mod K mg (hidT s1.heap (onlyS K a u)) := ⟨KB, space main, ⟨mb, space blt, boot⟩, let ⟨mc, h1, h2⟩ := lim; ⟨mc, space h1, h2⟩⟩
  have ok : HOk P w (onlyS K a u) s1.heap := fun b v e => by
    obtain ⟨rfl, _, rfl⟩ := onlyS_at e
    subst hu
    exact ⟨ha, sized, us, _, rv, ha⟩
  have list : SqL K (onlyS K a u) a (ns.map V.int) := by
    cases hk : K.lookup a with
    | none =>
      refine .inl (.inr ⟨{ cls := .type "list", data := .seq us.toArray }, ?_⟩)
      rw [hu]
      exact if_pos ⟨rfl, hk⟩
    | some o =>
      have e := KX a o hk
      rw [ha] at e
      cases e
      exact .inr ⟨_, us.toArray, _, hk, rfl, rfl, rfl, by rw [List.size_toArray, hi.length]; exact hl, by simpa using rv⟩
  have e0 : Env0 P w K mg (hidT s1.heap (onlyS K a u)) callerA [] s1 (onlyS K a u) :=
    ⟨rfl, M, fun b o e => of_hidT e, Nat.le_of_eq (hidT_size _ _), trivial, fun b hb => absurd (show b ∈ ([] : List Addr) from hb) (by simp), ok, .of_eq gens⟩
  refine codeAny_mono ((G _ KB (space main)).runs callerA [] s1 _ ⟨[.ref a], []⟩ [.ref a] [.ref a] _ _ rfl hr e0 (bnd s1 (.ref a)) (.cons rfl .nil) (hsp _ list)) fun r s' z => ?_
  cases r with
  | error e => exact False.elim z
  | ok fl =>
    cases fl with
    | next => exact False.elim z
    | brk => exact False.elim z
    | cont => exact False.elim z
    | ret out =>
      obtain ⟨v, H', os, bare, un, ok', r', q⟩ := z
      obtain rfl : v = .bl true := q
      obtain rfl : out = Value.bool true := r'
      refine ⟨rfl, OldK.of_keep fun b o e => ?_, os, bare⟩
      cases q : onlyS K a u b with
      | none => exact un.keep b o e q (fun y => absurd (show b ∈ ([] : List Addr) from y) (by simp)) (by simp)
      | some v =>
        obtain ⟨rfl, _, rfl⟩ := onlyS_at q
        subst hu
        rw [ha] at e
        cases e
        exact (ok' _ _ (un.frzs _ _ _ q)).1
theorem walk_ofG {l : PySem.W.OpenLaw} {n k : Nat} {q : Program} {loose : List Str} {XP : (Str → Option Value) → Heap → Prop} {YP : World → Heap → Prop} {d : DefRec} {K : Params → PySem.W.Frag} {sp : PySem.W.Frag → Sp} {x : Str}
    (most : l.most = some n) (fits : n ≤ sizeLine) (plain : d.params.defaults = []) (hr : Room k callerA) (hY : ∀ (w : World) (h : Heap), YP w h → (K w.params).In h)
    (F : ∀ (w : World) (mg : Str → Option Value) (fa : Addr) (h : Heap), (K w.params).In h → h.Ns mainGlobals mg → mg d.name = some (.ref fa) →
      ∃ fd : FuncData, (∀ (s : Shared) (u : Value), BindsTo s fd ⟨[u], []⟩ [(x, u)]) ∧ ∀ base : Heap, (K w.params).In base → base.Ns mainGlobals mg → FnG l.prog w (K w.params) mg base CX0 k fa fd [x] (sp (K w.params)))
    (hsp : ∀ (K : PySem.W.Frag) (H : Hp) (a : Addr) (ns : List Int), ns.length ≤ n → SqL K H a (ns.map V.int) → sp K [.ref a] H (fun v _ => v = .bl true) E0) :
    PySem.W.WalkO q loose XP YP l.row.toRowW d [] (fun f vs => PySem.call f vs) := by
  refine Att.attach_call most plain fun w s0 s1 mg mb fa o pm cd doc a vs ns G Y ho hd hcd hmg hobj hints hlen hg => ?_
  have KX := hY w _ Y
  obtain ⟨fd, hb, hF⟩ := F w mg fa _ KX G.T.g hmg
  exact root_of KX G.T.g G.T.b G.T.builtins G.T.nolimit hg hobj hints (Nat.le_trans hlen fits) hr hF hb fun H hS => hsp _ H a ns hlen hS

end K07

/-! # read, or refused, as it is due -/
namespace K07
open PySem PySem.Spec PyProof.Rows L2 TL NumText RZ
theorem nums_len (F : Tri → Int) (ns : List Int) : (numsL F ns).length = (pl ns).length := List.length_map _
theorem nums_get {F : Tri → Int} {ns : List Int} {i : Nat} {t : Tri} (e : (pl ns)[i]? = some t) : (numsL F ns)[i]? = some (F t) := by
  unfold numsL
  rw [List.getElem?_map, e]
  rfl
def refD : PyData := .tuple [.str "refused", .int 0]
theorem refD_ok : refD.showable = true ∧ refD.depth ≤ 90 ∧ refD.shown.length ≤ sizeLine ∧ refD.hasDict = false := by decide +kernel
theorem ref_dp {K : PySem.W.Frag} {H : Hp} {a : Addr} (h : H a = some (.tup refT)) : Dp K H (.ref a) refD := .tup (sqt_new h) (.cons (.str _) (.cons (.int _) .nil))
theorem ref_reads {X : Cx} {H : Hp} {a : Addr} (h : H a = some (.tup refT)) : ∀ (pins : List (Addr × Obj)) (σ : L2.St) (s : Shared), Inv X pins σ H s → ∃ as, Reads s.heap (.ref a) refD as ∧ (refD.hasDict = true → sysModules ∉ as) := fun pins σ s I => by
  obtain ⟨as, r⟩ := Dp.reads I refD (.ref a) (.ref a) (ref_dp (K := X.K) h) rfl
  exact ⟨as, r, fun z => by rw [refD_ok.2.2.2] at z; cases z⟩
def seenD (ns ms : List Int) (t : Str) : PyData := .tuple [.tuple (ns.map .int), .tuple (ms.map .int), .str t]
theorem asc_ok {t : Str} (h : Asc t) : PyData.strOk t = true := by
  unfold PyData.strOk
  rw [← Array.all_toList]
  exact List.all_eq_true.mpr fun c hc => decide_eq_true (Nat.lt_trans (h c hc) (by decide))
theorem seen_ok {t : Str} (h : Asc t) (ns ms : List Int) : SeqAt.shaped (seenD ns ms t) = true ∧ PyData.eqv (seenD ns ms t) (seenD ns ms t) = true := by
  have a : SeqAt.shaped (seenD ns ms t) = true := by
    show ((PyData.canLayAll0 (ns.map .int) && (PyData.canLayAll0 (ms.map .int) && (PyData.strOk t && true))) && decide (max (PyData.depthAll (ns.map .int) + 1) (max (PyData.depthAll (ms.map .int) + 1) (max 0 0)) + 1 ≤ 64)) = true
    rw [canLay_ints, canLay_ints, dep_ints, dep_ints, asc_ok h]
    rfl
  exact ⟨a, PySem.SeqAt.eqv_refl _ (SeqAt.canLay_of_shaped a)⟩
section
variable {P : Program} {w : World} {K : PySem.W.Frag} {mg : Str → Option Value} {base : Heap} {C CP CS : Addr} {mc : Value}
abbrev s_lir : Stmt := topS 60
theorem sc_lir : FnScope ["_law_text_here", "_law_due", "_law_place"] ["_law_text_here"] (defScope s_lir) := ⟨rfl, rfl, rfl, by decide +kernel, rfl, by decide +kernel, by decide +kernel⟩
def spLIr (K : PySem.W.Frag) : Sp := fun vs H Q _ => ∃ x : V, vs = [x] ∧ ((∃ t : Str, x = .str t ∧ t.length ≤ 6000 ∧ Asc t) ∨ ∀ H', Same H H' → NStr K H' x) ∧ ∀ H', Same H H' → Q (.bl true) H'
theorem ok_lir {f f1 f2 f3 : Addr} {fd fd1 fd2 fd3 : FuncData} (T : Txt mg) (d : D K mg "_law_is_read" s_lir ["_law_text_here"] f fd) (d1 : D K mg "_law_meant" s_lmea ["_law_text_here"] f1 fd1) (G1 : FnOk P w K mg base CX0 3 f1 fd1 ["_law_text_here"] (spLMea K))
    (d2 : D K mg "_law_read" s_lrd ["_law_text_here"] f2 fd2) (G2 : FnOk P w K mg base CX0 11 f2 fd2 ["_law_text_here"] (spLRd K)) (d3 : D K mg "_law_places" s_lplaces ["_law_shape_here"] f3 fd3) (G3 : FnOk P w K mg base CX0 1 f3 fd3 ["_law_shape_here"] (spLPlaces K)) :
    FnG P w K mg base CX0 12 f fd ["_law_text_here"] (spLIr K) := by
  refine FnG.of d.F sc_lir (fun vs H Q E h => ?_) (fun cdv A outer s H vs Q E hn hr h => ?_)
  · obtain ⟨x, rfl, _⟩ := h
    rfl
  · obtain ⟨x, rfl, h, q⟩ := h
    have un9 : (A.deeper (envOfC "_law_is_read" (defScope s_lir) s.heap.objs.size f cdv)).units + 100 < cLine := by have := hr.un; omega
    have u64 : (A.deeper (envOfC "_law_is_read" (defScope s_lir) s.heap.objs.size f cdv)).units + 64 < cLine := by omega
    have un : (A.deeper (envOfC "_law_is_read" (defScope s_lir) s.heap.objs.size f cdv)).units + 1 < cLine := by omega
    refine ⟨_, (pss_cons (ps_set (i := 1) sc_lir.nd rfl (.inr rfl) (pe_call G1 (hr.mono (by decide)) (by rfl) d1.g d1.F.kp d1.b .nil pass0 (pa_cons (pv 0) pa_nil)))
      (pss_cons (ps_if (pt_cmpR op_isN (pv 1) pe_non (nomark _)) (pss_one (ps_ret (pe_cmpR op_eq (pe_callB (call_repr_D hn un9) (by rfl) T.n_repr (by decide +kernel) (pa_cons (pe_call G2 (hr.mono (by decide)) (by rfl) d2.g d2.F.kp d2.b .nil pass0 (pa_cons (pv 0) pa_nil)) pa_nil)) (pe_callB (call_repr_D hn un9) (by rfl) T.n_repr (by decide +kernel) (pa_cons (pe_tup (pa_cons pe_str (pa_cons pe_int pa_nil))) pa_nil)) (nomark _)))) pss_nil)
      (pss_one (ps_ret (pe_cmpR (op_eqD u64) (pe_call G2 (hr.mono (by decide)) (by rfl) d2.g d2.F.kp d2.b .nil pass0 (pa_cons (pv 0) pa_nil)) (pe_tup (pa_cons (pe_ix ix_tup (pv 1) pe_int (fun _ _ => rfl)) (pa_cons (pe_tupleOf (by rfl) T.n_tuple (pe_lc (own := [("_law_place", 2)]) (g := gName 2) (tt := tYes) rfl sc_lir.nd (pi_list (pe_call G3 (hr.mono (by decide)) (by rfl) d3.g d3.F.kp d3.b .nil pass0 (pa_cons (pe_ix ix_tup (pv 1) pe_int (fun _ _ => rfl)) pa_nil))) (blkOk_by (own := [("_law_place", 2)]) (N := ["_law_text_here", "_law_due", "_law_place"]) (sc := defScope s_lir) (by decide +kernel))
            (fun _ _ _ _ _ => (pg_name (i := 2) sc_lir.nd rfl (Or.inl rfl))) (fun _ _ _ _ _ => pts_nil) (fun _ _ _ _ _ => (pe_dget un (pe_ix (ix_tupK (K := K) rfl) (pv 1) pe_int (fun _ _ => rfl)) (pv 2) (fun _ _ => rfl))))) (pa_cons (pv 0) pa_nil)))) (nomark _)))))), ?_⟩
    obtain ⟨r1, r2, r3, r4⟩ := refD_ok
    -- a value that is refused
    rcases h with ⟨t, rfl, t6, at_⟩ | ns
    · refine ⟨_, rfl, .str t, rfl, .inl ⟨t, rfl, t6, at_, fun h0 H1 s1 => ?_, fun h1 H1 tp sh D s1 etp es xd => ?_⟩⟩
      · refine ⟨_, rfl, rfl, decide (V.non = V.non), rfl, ?_⟩
        rw [decide_eq_true rfl]
        refine ite2 (fun _ => ?_) (fun z => absurd rfl z)
        refine ⟨_, rfl, .str t, rfl, .inl ⟨t, rfl, t6, fun _ H2 a s2 ea => ?_, fun z => by rw [h0] at z; cases z⟩⟩
        refine ⟨a, refD, rfl, ref_reads ea, r1, r2, r3, ?_⟩
        refine ⟨(by show 2 ≤ sizeLine; decide), fun b nb => ?_⟩
        refine ⟨b, refD, rfl, ref_reads upd_same, r1, r2, r3, rfl, ?_⟩
        rw [decide_eq_true rfl]
        exact q _ ((s1.trans s2).trans (sub_same nb))
      · obtain ⟨S, sm, _⟩ := good_text h1
        refine ⟨_, rfl, rfl, decide (V.ref tp = V.non), rfl, ?_⟩
        refine ite2 (fun z => absurd (of_decide_eq_true z) (fun e => by cases e)) (fun _ => ?_)
        refine ⟨_, rfl, .str t, rfl, .inl ⟨t, rfl, t6, (fun z => by rw [h1] at z; cases z), fun _ H2 a sh2 nm s2 ea es2 enm => ?_⟩⟩
        clear ‹goodW (W3 t) = true›
        generalize shpW (W3 t) = ns at S sm es xd es2 enm
        generalize numW (W3 t) = num at sm xd enm
        have M := tables3 ns (shp_mem S)
        have l30 := M.2.1
        have etp2 := s2 _ _ etp
        have es3 := sqt_same es s2
        have xd3 := xd.same s2
        refine ⟨_, rfl, tp, _, 0, _, rfl, rfl, .inl (.inl etp2), atI_nat (j := 0) rfl, ?_⟩
        refine ⟨_, rfl, tp, _, 0, _, rfl, rfl, .inl (.inl etp2), atI_nat (j := 0) rfl, sh, ns, rfl, es3, S, fun H3 p xs s3 np ep tr => ⟨p, rfl, ⟨_, .inl (.inl ep)⟩, fun L nL => ?_⟩⟩
        have lx : xs.length = (pl ns).length := tr.len
        obtain ⟨px, ex, hx⟩ := (xd3.same s3).hold
        have etp3 := s3 _ _ etp2
        refine lc_list (K := K) (a := p) (xs := xs) (fun i Z => Same H3 Z ∧ Z L = some (.lst (((numsL num ns).take i).map V.int))) ⟨sub_same nL, upd_same⟩ (fun i Z _ h => .inl (.inl (h.1 _ _ ep))) ?_ ?_
        · rintro i x Z hi ⟨sz, hl⟩
          obtain ⟨u, ct, et, rfl, ec⟩ := tr.tri hi
          have mt := List.mem_of_getElem? et
          have il := (List.getElem?_eq_some_iff.mp et).1
          have v1 := hx u
          rw [if_pos mt] at v1
          have z3 := nums_get (F := num) et
          refine ⟨rfl, yesT ⟨_, rfl, tp, _, 1, _, rfl, rfl, .inl (.inl (sz _ _ etp3)), atI_nat (j := 1) rfl, _, rfl, D, .int (num u), rfl, ?_, _, hl, ?_, fun k ob e => ?_, ?_⟩⟩
          · rw [← v1]
            exact DGet.t (k := triK u) (sz _ _ ex) (sz _ _ ec)
          · rw [List.length_map, List.length_take, nums_len, sizeLine_eq]
            omega
          · rw [upd_ne (fun z => by rw [z, nL] at e; cases e)]
            exact sz _ _ e
          · rw [upd_same, List.take_succ, z3, List.map_append]
            rfl
        · rintro Z ⟨sz, hl⟩
          rw [lx, ← nums_len num ns, List.take_length] at hl
          refine .inl ⟨L, _, rfl, .inl (.inl hl), fun r nr => ?_⟩
          have s5 := sub_same (o := .tup ((numsL num ns).map V.int)) nr
          have er : upd Z r (.tup ((numsL num ns).map V.int)) r = some (.tup ((numsL num ns).map V.int)) := upd_same
          have sA := (s3.trans sz).trans s5
          revert er sA
          generalize upd Z r (.tup ((numsL num ns).map V.int)) = Z5
          intro er sA
          refine ⟨_, rfl, (by show 3 ≤ sizeLine; decide), fun b nb => ?_⟩
          have s6 := sub_same (o := .tup [V.ref sh, V.ref r, V.str t]) nb
          have sB := sA.trans s6
          obtain ⟨k1, k2⟩ := seen_ok at_ ns (numsL num ns)
          have dA : ∀ {Y : Hp} {a sh nm : Addr}, Y a = some (.tup [.ref sh, .ref nm, .str t]) → SqT K Y sh (ns.map V.int) → Y nm = some (.tup ((numsL num ns).map V.int)) → Dp K Y (.ref a) (seenD ns (numsL num ns) t) := fun {Y a sh nm} e1 e2 e3 =>
            .tup (sqt_new e1) (.cons (.tup e2 (dp_ints K Y ns)) (.cons (.tup (sqt_new e3) (dp_ints K Y (numsL num ns))) (.cons (.str _) .nil)))
          refine ⟨_, _, dA (sB _ _ ea) (sqt_same es2 sB) (sB _ _ enm), dA upd_same (sqt_same es3 sB) (s6 _ _ er), k1, k1, ?_⟩
          rw [k2]
          exact q _ ((s1.trans s2).trans sB)
    · refine ⟨_, rfl, x, rfl, .inr ⟨ns H (fun _ _ h => h), fun H1 s1 => ?_⟩⟩
      refine ⟨_, rfl, rfl, decide (V.non = V.non), rfl, ?_⟩
      rw [decide_eq_true rfl]
      refine ite2 (fun _ => ?_) (fun z => absurd rfl z)
      refine ⟨_, rfl, x, rfl, .inr ⟨ns H1 s1, fun H2 a s2 ea => ?_⟩⟩
      refine ⟨a, refD, rfl, ref_reads ea, r1, r2, r3, ?_⟩
      refine ⟨(by show 2 ≤ sizeLine; decide), fun b nb => ?_⟩
      refine ⟨b, refD, rfl, ref_reads upd_same, r1, r2, r3, rfl, ?_⟩
      rw [decide_eq_true rfl]
      exact q _ ((s1.trans s2).trans (sub_same nb))
end
end K07

/-! # replace, once -/
namespace K07
section
open PySem PySem.Builtin PySem.Builtin.Str PySem.StrLaws
theorem gives_replace1 (x y z : Str) (t u v tc : Tok)
    (hf : ((occurrences x y 0 x.length 1).isEmpty || (y.length == 0 && z.length == 0)) = false →
      (u == 0 || v == 0) = false ∧ (u == v) = false ∧ (y == z) = false ∧ tooLong (x.length + (occurrences x y 0 x.length 1).length * z.length) = false) :
    Gives («str.replace» ⟨[.str x t, .str y u, .str z v, .int 1 tc], []⟩) (if ((occurrences x y 0 x.length 1).isEmpty || (y.length == 0 && z.length == 0)) = true then .val (.str x t) else .str (glued z (partsBetween x (occurrences x y 0 x.length 1) y.length))) := by
  show Gives (if ((occurrences x y 0 x.length 1).isEmpty || (y.length == 0 && z.length == 0)) = true then (do rule "str.replace.nothing"; ret (.str x t)) else
          (do let same ← isSame (.str y u) (.str z v)
              if same = true then (do rule "str.replace.old-is-new"; ret (.str x t)) else
              if tooLong (x.length + (occurrences x y 0 x.length 1).length * z.length) = true then unsupported "str.replace:memory" else
              retStr (glued z (partsBetween x (occurrences x y 0 x.length 1) y.length)))) _
  cases hc : ((occurrences x y 0 x.length 1).isEmpty || (y.length == 0 && z.length == 0))
  · obtain ⟨h0, huv, hyz, hl⟩ := hf hc
    rw [isSame_str_other y z u v h0 huv hyz, hl]
    exact .of_eq rfl
  · exact .rule (.of_eq rfl)
/-- the first y in x replaced by z -/
def rep1 (x y z : Str) : Str := if ((occurrences x y 0 x.length 1).isEmpty || (y.length == 0 && z.length == 0)) = true then x else glued z (partsBetween x (occurrences x y 0 x.length 1) y.length)
theorem rep1_glued (x y z : Str) : (glued z (partsBetween x (occurrences x y 0 x.length 1) y.length)).length ≤ x.length + z.length := by
  have h1 := StrLaws.occ_length_le x y 0 x.length 1
  have hy : (glued y (partsBetween x (occurrences x y 0 x.length 1) y.length)).length = x.length := by rw [StrLaws.glued_between_self]
  rw [size_glued, length_partsBetween, Nat.add_sub_cancel] at hy
  rw [size_glued, length_partsBetween, Nat.add_sub_cancel]
  have h2 : (occurrences x y 0 x.length 1).length * z.length ≤ 1 * z.length := Nat.mul_le_mul_right _ h1
  omega
theorem call_rep1 {prog : Program} {w : World} {A : Around} {E : Value → Shared → Prop} {s : Shared} {x y z : Str} {t u v tc : Tok} {Q : Value → Shared → Prop}
    (hu : u ≠ 0) (hv : v ≠ 0) (huv : u ≠ v) (hyz : (y == z) = false) (hb : x.length + z.length ≤ 100000)
    (hq : ∀ t' k, Q (.str (rep1 x y z) t') { s with toks := k }) : wpAny (model prog w) A (call (.builtin "str.replace") [.str x t, .str y u, .str z v, .int 1 tc]) Q E s := by
  have hl : tooLong (x.length + (occurrences x y 0 x.length 1).length * z.length) = false := by
    have h1 := StrLaws.occ_length_le x y 0 x.length 1
    have h2 : (occurrences x y 0 x.length 1).length * z.length ≤ 1 * z.length := Nat.mul_le_mul_right _ h1
    unfold tooLong sizeLine
    exact decide_eq_false (by omega)
  refine call_gives F.slot_str_replace (typeIs_str _ _ _) F.entry_str_replace (F.args_str_replace_4 _ _ _ _)
    (gives_replace1 x y z t u v tc fun _ => ⟨by simp [hu, hv], by simp [huv], hyz, hl⟩) ?_
  have hq' := hq
  unfold rep1 at hq'
  cases hc : ((occurrences x y 0 x.length 1).isEmpty || (y.length == 0 && z.length == 0))
  · rw [hc] at hq'
    simp only [Bool.false_eq_true, if_false] at hq' ⊢
    exact ⟨Nat.le_trans (rep1_glued x y z) (by rw [sizeLine_eq]; omega), hq' _ _⟩
  · rw [hc] at hq'
    simp only [if_true] at hq' ⊢
    exact hq' t s.toks
end
open PySem PySem.Spec PyProof.Rows L2 TL NumText RZ
theorem rep1_len (x y z : Str) : (rep1 x y z).length ≤ x.length + z.length := by
  unfold rep1
  split
  · omega
  · exact rep1_glued x y z
theorem mem_joinL {S : List Nat} {c : Nat} : ∀ {ps : List (List Nat)}, c ∈ joinL S ps → c ∈ S ∨ ∃ p ∈ ps, c ∈ p
  | [], h => by cases h
  | [p], h => .inr ⟨p, List.mem_singleton.mpr rfl, h⟩
  | p :: q :: r, h => by
    rw [joinL_cons (by simp)] at h
    rcases List.mem_append.mp h with h | h
    · exact .inr ⟨p, List.mem_cons_self .., h⟩
    · rcases List.mem_append.mp h with h | h
      · exact .inl h
      · rcases mem_joinL h with h | ⟨x, hx, hc⟩
        · exact .inl h
        · exact .inr ⟨x, List.mem_cons_of_mem _ hx, hc⟩
theorem in_joinL {S : List Nat} : ∀ (ps : List (List Nat)), ∀ q ∈ ps, ∀ c ∈ q, c ∈ joinL S ps
  | [], q, h, _, _ => by cases h
  | [p], q, h, c, hc => by
    rw [List.mem_singleton.mp h] at hc
    exact hc
  | a :: b :: r, q, hq, c, hc => by
    rw [joinL_cons (by simp)]
    rcases List.mem_cons.mp hq with rfl | hq
    · exact List.mem_append_left _ hc
    · exact List.mem_append_right _ (List.mem_append_right _ (in_joinL (b :: r) q hq c hc))
theorem asc_join {y : Str} {ps : List Str} (hy : Asc y) (h : ∀ p ∈ ps, Asc p) : Asc (Txt.join y ps) := fun c hc => by
  rw [join_eq, tl_join] at hc
  rcases mem_joinL hc with hc | ⟨q, hq, hc⟩
  · exact hy c hc
  · obtain ⟨p, hp, rfl⟩ := List.mem_map.mp hq
    exact h p hp c hc
theorem rep1_asc {x y z : Str} (hx : Asc x) (hz : Asc z) : Asc (rep1 x y z) := by
  unfold rep1
  split
  · exact hx
  · intro c hc
    have e := StrLaws.glued_between_self x y 1
    rw [StrLaws.glued_eq_join, tl_join] at hc
    rcases mem_joinL hc with hc | ⟨q, hq, hc⟩
    · exact hz c hc
    · refine hx c ?_
      rw [← e, StrLaws.glued_eq_join, tl_join]
      exact in_joinL _ q hq c hc
/-! ### tokens -/
theorem Call_method3 {prog : Program} {w : World} {A : Around} {E : Value → Shared → Prop} {s : Shared} {env : Env} {o e₁ e₂ e₃ : Expr} {name : Str} {apos pos : Pos} {Q : Value → Shared → Prop}
    (hbase : attributeBase o name env (eval o env) = eval o env) (hs : starEach [e₁, e₂, e₃] env = [(false, eval e₁ env), (false, eval e₂ env), (false, eval e₃ env)]) (hline : (apos.endLine == pos.line) = true)
    (h : wpAny (model prog w) A (eval o env) (fun ov s₁ => MethodOnS prog w A E name ov pos [(false, eval e₁ env), (false, eval e₂ env), (false, eval e₃ env)] Q s₁) E s) :
    wpAny (model prog w) A (eval (.Call (.Attribute o name apos) [e₁, e₂, e₃] [] pos) env) Q E s := by
  refine wpAny_Call_method_lateS hbase (by rw [hs]; rfl) hline ?_
  rw [hs]; exact h
section
variable {X : Cx} {o e : Expr} {es : List Expr} {te : TE} {to : TE} {ta : TA} {y z c : Str} {j k m : Nat} {c0 c1 c2 apos pos p : Pos}
def tRep1 (to : TE) (y z : Str) : TE := fun σ H Q => to σ H fun v H1 => ∃ x, v = .str x ∧ x.length + z.length ≤ 100000 ∧ Q (.str (rep1 x y z)) H1
theorem pet_rep1 (ho : PE X o to) (hyz : (y == z) = false := by decide)
    (hst : starEach [.Constant (.str y) j c0, .Constant (.str z) k c1, .Constant (.int 1) m c2] X.env = [(false, eval (.Constant (.str y) j c0) X.env), (false, eval (.Constant (.str z) k c1) X.env), (false, eval (.Constant (.int 1) m c2) X.env)] := by rfl)
    (hbase : attributeBase o "replace" X.env (eval o X.env) = eval o X.env := by rfl) (hline : (apos.endLine == pos.line) = true := by rfl) :
    PET X (.Call (.Attribute o "replace" apos) [.Constant (.str y) j c0, .Constant (.str z) k c1, .Constant (.int 1) m c2] [] pos) (tRep1 to y z) := by
  intro pins s σ H Q h0 I h
  refine Call_method3 hbase hst hline (wpAny_mono (PySem.wpAny_toks (ho.run pins s σ H _ I h)) (fun v s1 q => ?_) fun _ _ z => z.2)
  obtain ⟨hk, v', H1, I1, r1, x, e1, hb, q⟩ := q
  subst e1
  obtain ⟨tx, e2⟩ := r1
  subst e2
  refine ⟨"str", _, PySem.F.plainAttrs_str, PySem.F.slot_str_replace, PySem.F.type_str_replace, typeIs_str _ _ _, (fun _ e => nomatch e), Calls.callWith_builtin rfl (Calls.evalArgs_plain (Calls.spliced_cons ?_))⟩
  refine Calls.Constant_str (Calls.spliced_cons (Calls.Constant_str (Calls.spliced_cons (wpAny_Constant_int (Calls.spliced_nil ?_)))))
  exact call_rep1 (by show s1.toks ≠ 0; omega) (by show s1.toks + 1 ≠ 0; omega) (by show s1.toks ≠ s1.toks + 1; omega) hyz hb fun t' k => ⟨.str (rep1 x y z), H1, I1.tok k, ⟨t', rfl⟩, q⟩
/-- e + ".." : behind it a token is out -/
theorem pa_consT (ha : PE X e te) (hr : PAT X es ta) (hs : starEach (.BinOp e .Add (.Constant (.str c) j c0) pos :: es) X.env = (false, eval (.BinOp e .Add (.Constant (.str c) j c0) pos) X.env) :: starEach es X.env := by rfl) :
    PA X (.BinOp e .Add (.Constant (.str c) j c0) pos :: es) (tCons (fun σ H Q => te σ H fun v H1 => ∃ x, v = .str x ∧ x.length + c.length ≤ sizeLine ∧ Q (.str (x ++ c)) H1) ta) := by
  refine ⟨fun pos' pins s σ H Q I h => ?_⟩
  rw [hs]
  show wpAny _ _ (spliced ((false, eval (.BinOp e .Add (.Constant (.str c) j c0) pos) X.env) :: backTo pos' (starEach es X.env))) _ _ s
  refine Calls.spliced_cons (wpAny_BinOp (thn (ha.run pins s σ H _ I h) fun u s1 ⟨x, H1, I1, r1, q1⟩ => Calls.Constant_str ?_))
  obtain ⟨xs, rfl, hl, q1⟩ := q1
  have I2 : Inv X pins σ H1 { s1 with toks := s1.toks + 1 } := I1.tok _
  refine wpAny_mono (PySem.wpAny_toks_of (n := 1) (by show 1 ≤ s1.toks + 1; omega) (op_add_str pins { s1 with toks := s1.toks + 1 } σ H1 (.str xs) (.str c) u (.str c s1.toks) (fun v H2 => ta σ H2 fun vs H3 => Q (v :: vs) H3) I2 r1 ⟨_, rfl⟩ ⟨xs, c, rfl, rfl, hl, q1⟩)) (fun v s3 q => ?_) fun _ _ z => z.2
  obtain ⟨hk, x3, H3, I3, r3, q3⟩ := q
  exact thn (hr pos' pins s3 σ H3 _ hk I3 q3) fun us s4 ⟨ys, H4, I4, r4, q4⟩ => ⟨x3 :: ys, H4, I4, .cons r3 r4, q4⟩
end
end K07

/-! # list of a text, text * number -/
namespace K07
open PySem PySem.Spec PyProof.Rows L2 TL NumText
theorem vals_each : ∀ {vs : List V} {us : List Value}, vs.length = us.length → (∀ (i : Nat) v u, vs[i]? = some v → us[i]? = some u → RelV v u) → Vals vs us
  | [], [], _, _ => .nil
  | [], _ :: _, h, _ => by cases h
  | _ :: _, [], h, _ => by cases h
  | v :: vs, u :: us, h, k => .cons (k 0 v u rfl rfl) (vals_each (Nat.succ.inj h) fun i v u a b => k (i + 1) v u a b)
section
variable {X : Cx}
/-- list(x), x a text: its signs -/
theorem call_listS (hc : X.calm = true) : CallR X (.type "list") (fun xs H Q => ∃ x : Str, xs = [.str x] ∧ x.length ≤ 1000 ∧ ∀ p, H p = none → Q (.ref p) (upd H p (.lst ((tl x).map fun c => V.str ⟨#[c]⟩)))) := by
  intro pins s σ H xs us Q I r h
  obtain ⟨x, rfl, hx, q⟩ := h
  obtain ⟨u, rfl, t, rfl⟩ := vals1 r
  have sz : x.cps.size ≤ sizeLine := Nat.le_of_lt (small1000 hx)
  refine PySem.call_list_str (I.ok.hd hc) x t (fun h' tk acc c' k hS it => ?_) sz
  have hl : ((tl x).map fun c => V.str ⟨#[c]⟩).length = x.cps.size := by rw [List.length_map]; exact Array.length_toList
  have rel : Vals ((tl x).map fun c => V.str ⟨#[c]⟩) acc.toList := by
    refine vals_each (by rw [hl, Array.length_toList]; exact it.1.symm) fun i v u hv hu => ?_
    rw [List.getElem?_map] at hv
    obtain ⟨c, t', hc', e⟩ := it.2 i u (by rw [← hu]; exact (Array.getElem?_toList).symm)
    have hc2 : (tl x)[i]? = some c := by rw [← hc']; exact Array.getElem?_toList
    rw [hc2] at hv
    obtain rfl : V.str ⟨#[c]⟩ = v := Option.some.inj hv
    exact ⟨t', e⟩
  refine ⟨.ref s.heap.objs.size, upd H s.heap.objs.size (.lst ((tl x).map fun c => V.str ⟨#[c]⟩)), I.laid (t' := tk) k (Nat.le_refl _) ⟨by rw [hl]; exact sz, acc.toList, c', rel, hS⟩, rfl, q _ (I.hok.fresh (Nat.le_refl _))⟩
theorem fold_cat (x : Str) : ∀ (n : Nat) (a : Array Nat), ((List.replicate n x.cps).foldl (· ++ ·) a).toList = a.toList ++ (List.replicate n (tl x)).flatten
  | 0, a => by simp
  | n + 1, a => by
    rw [List.replicate_succ, List.foldl_cons, fold_cat x n, Array.toList_append, List.replicate_succ, List.flatten_cons, List.append_assoc]
/-- text * number -/
theorem op_mulS : OpR X (binaryOp .Mult) (fun x y H Q => ∃ (z : Str) (n : Nat), x = .str z ∧ y = .int (n : Int) ∧ 1 < n ∧ n ≤ 1000 ∧ z.length ≠ 0 ∧ z.length ≤ 1000 ∧ ∀ z' : Str, tl z' = (List.replicate n (tl z)).flatten → Q (.str z') H) := by
  intro pins s σ H x y v u Q I rx ry h
  obtain ⟨z, n, rfl, rfl, n1, n2, z1, z2, q⟩ := h
  obtain ⟨t, rfl⟩ := (show ∃ t, v = Value.str z t from rx)
  obtain ⟨t', rfl⟩ := (show ∃ t, u = Value.int (n : Int) t from ry)
  have prod : z.length * n ≤ 1000 * 1000 := Nat.mul_le_mul z2 n2
  have hne : ((n : Int) == 1 || z.length == 0) = false := by
    rw [Bool.or_eq_false_iff]
    exact ⟨beq_false_of_ne (by omega), beq_false_of_ne z1⟩
  refine PySem.P.mul_str ?_ (fun _ _ => ?_) (fun _ _ => ?_) ?_
  · rw [decide_eq_false (by omega), decide_eq_false (by omega)]
    rfl
  · have e : (1000 : Int) ≤ (2 ^ 63 - 1) / (n : Int) := by
      rw [Int.le_ediv_iff_mul_le (by omega)]
      omega
    omega
  · exact decide_eq_false (by rw [sizeLine_eq, Int.toNat_natCast]; omega)
  · rw [if_neg (by omega), if_neg (by rw [hne]; exact Bool.false_ne_true)]
    refine ⟨?_, .str _, H, I.tok _, ⟨_, rfl⟩, q _ ?_⟩
    · have e : ((List.replicate (n : Int).toNat z.cps).foldl (· ++ ·) #[]).toList.length = n * z.length := by
        rw [fold_cat, Int.toNat_natCast]
        show ([] ++ (List.replicate n (tl z)).flatten).length = _
        rw [List.nil_append, List.length_flatten, List.map_replicate, List.sum_replicate_nat, ← len_tl z]
      show ((List.replicate (n : Int).toNat z.cps).foldl (· ++ ·) #[]).size ≤ sizeLine
      rw [← Array.length_toList, e, sizeLine_eq, Nat.mul_comm]
      omega
    · show ((List.replicate (n : Int).toNat z.cps).foldl (· ++ ·) #[]).toList = _
      rw [fold_cat, Int.toNat_natCast]
      rfl
end
end K07

/-! # a text spoilt -/
namespace K07
open PySem PySem.Spec PyProof.Rows L2 TL NumText RZ
theorem cut_take (z : Str) (j : Nat) : tl (cutS z none (some (j : Int))) = (tl z).take j := by
  show ((z.cps.toList.drop (HT.sIx z.length 0 none)).take (HT.sIx z.length z.length (some (j : Int)) - HT.sIx z.length 0 none)) = _
  rw [HT.sIx_none, HT.sIx_nat, List.drop_zero, Nat.sub_zero, len_tl z]
  show (tl z).take (min j (tl z).length) = (tl z).take j
  rcases Nat.le_total j (tl z).length with h | h
  · rw [Nat.min_eq_left h]
  · rw [Nat.min_eq_right h, List.take_length, List.take_of_length_le h]
theorem cut_drop (z : Str) (j : Nat) : tl (cutS z (some (j : Int)) none) = (tl z).drop j := by
  show ((z.cps.toList.drop (HT.sIx z.length 0 (some (j : Int)))).take (HT.sIx z.length z.length none - HT.sIx z.length 0 (some (j : Int)))) = _
  rw [HT.sIx_none, HT.sIx_nat, len_tl z]
  show ((tl z).drop (min j (tl z).length)).take ((tl z).length - min j (tl z).length) = (tl z).drop j
  rcases Nat.le_total j (tl z).length with h | h
  · rw [Nat.min_eq_left h, List.take_of_length_le (by rw [List.length_drop]; exact Nat.le_refl _)]
  · rw [Nat.min_eq_right h, Nat.sub_self, List.take_zero, List.drop_eq_nil_of_le h]
theorem cutV_take {xs : List V} (j : Nat) : cutV xs none (some (j : Int)) = xs.take j := by
  show ((xs.drop (HT.sIx xs.length 0 none)).take (HT.sIx xs.length xs.length (some (j : Int)) - HT.sIx xs.length 0 none)) = _
  rw [HT.sIx_none, HT.sIx_nat, List.drop_zero, Nat.sub_zero]
  rcases Nat.le_total j xs.length with h | h
  · rw [Nat.min_eq_left h]
  · rw [Nat.min_eq_right h, List.take_length, List.take_of_length_le h]
theorem cutV_drop {xs : List V} (j : Nat) : cutV xs (some (j : Int)) none = xs.drop j := by
  show ((xs.drop (HT.sIx xs.length 0 (some (j : Int)))).take (HT.sIx xs.length xs.length none - HT.sIx xs.length 0 (some (j : Int)))) = _
  rw [HT.sIx_none, HT.sIx_nat]
  rcases Nat.le_total j xs.length with h | h
  · rw [Nat.min_eq_left h, List.take_of_length_le (by rw [List.length_drop]; exact Nat.le_refl _)]
  · rw [Nat.min_eq_right h, Nat.sub_self, List.take_zero, List.drop_eq_nil_of_le h]
theorem sum_out {ws : List Str} {i : Nat} (h : i < ws.length) : ((ws.take i).map (·.length)).sum + ((ws.drop (i + 1)).map (·.length)).sum ≤ (ws.map (·.length)).sum := by
  have e : (ws.map (·.length)).sum = ((ws.take i).map (·.length)).sum + ((ws.drop i).map (·.length)).sum := by
    conv => lhs; rw [← List.take_append_drop i ws]
    rw [List.map_append, List.sum_append]
  rw [e, List.drop_eq_getElem_cons h, List.map_cons, List.sum_cons]
  omega
theorem asc_rep {a : Str} {n : Nat} {z : Str} (h : tl z = (List.replicate n (tl a)).flatten) (ha : Asc a) : Asc z := fun c hc => by
  rw [h] at hc
  obtain ⟨l, hl, hc⟩ := List.mem_flatten.mp hc
  rw [List.eq_of_mem_replicate hl] at hc
  exact ha c hc
theorem len_rep {a : Str} {n : Nat} {z : Str} (h : tl z = (List.replicate n (tl a)).flatten) : z.length = n * a.length := by
  rw [len_tl z, h, List.length_flatten, List.map_replicate, List.sum_replicate_nat, ← len_tl a]
theorem join_size (y : Str) (ps : List Str) : (Txt.join y ps).length = (ps.map (·.length)).sum + (ps.length - 1) * y.length := by
  rw [join_eq, ← PySem.StrLaws.glued_eq_join, PySem.size_glued]
theorem asc_app {x y : Str} (hx : Asc x) (hy : Asc y) : Asc (x ++ y) := fun c hc => by
  rw [tl_append] at hc
  rcases List.mem_append.mp hc with h | h
  · exact hx c h
  · exact hy c h
def unStr : V → Str
  | .str z => z
  | _ => Str.empty
theorem perm_strs {ys : List V} {ss : List Str} (h : ys.Perm (ss.map V.str)) : ∃ rs : List Str, ys = rs.map V.str ∧ rs.Perm ss := by
  refine ⟨ys.map unStr, ?_, ?_⟩
  · rw [List.map_map]
    refine (List.map_id ys).symm.trans (List.map_congr_left fun v hv => ?_)
    obtain ⟨z, _, rfl⟩ := List.mem_map.mp (h.mem_iff.mp hv)
    rfl
  · have z := h.map unStr
    rw [List.map_map] at z
    have e : ss.map (unStr ∘ V.str) = ss.map id := List.map_congr_left fun _ _ => rfl
    rwa [e, List.map_id] at z
section
variable {P : Program} {w : World} {K : PySem.W.Frag} {mg : Str → Option Value} {base : Heap} {C CS TL : Addr}
abbrev s_lspo : Stmt := topS 58
theorem sc_lspo : FnScope ["_law_pot_here", "_law_text_here", "_law_way", "_law_at", "_law_sign", "_law_words", "_law_spot"] ["_law_pot_here", "_law_text_here"] (defScope s_lspo) := ⟨rfl, rfl, rfl, by decide +kernel, rfl, by decide +kernel, by decide +kernel⟩
def spSpo : Sp := fun vs H Q _ => ∃ (u : Addr) (t : Str), vs = [.ref u, .str t] ∧ Urn H u ∧ t.length ≤ 5900 ∧ Asc t ∧ ∀ H' z, Old u H H' → Urn H' u → z.length ≤ t.length + 80 → Asc z → Q (.str z) H'
theorem ok_lspo {f f1 ft fs : Addr} {fd fd1 fdt fds : FuncData} (T : Txt mg) (N : Nam mg) (d : D K mg "_law_spoilt" s_lspo ["_law_pot_here", "_law_text_here"] f fd) (dt : D K mg "_law_dip" s_dip ["_law_pot_here", "_law_total"] ft fdt) (Gt : FnOk P w K mg base CX0 1 ft fdt ["_law_pot_here", "_law_total"] spTake)
    (ds : D K mg "_law_pick" s_pick ["_law_pot_here", "_law_items"] fs fds) (Gs : FnOk P w K mg base CX0 2 fs fds ["_law_pot_here", "_law_items"] spSome)
    (d1 : D K mg "_law_shaken" s_shak ["_law_pot_here", "_law_items"] f1 fd1) (G1 : FnOk P w K mg base CX0 3 f1 fd1 ["_law_pot_here", "_law_items"] (spShak K)) : FnOk P w K mg base CX0 4 f fd ["_law_pot_here", "_law_text_here"] spSpo := by
  refine d.F.ok sc_lspo (fun vs H Q E h => ?_) (fun cdv A outer s H vs Q E hr h => ?_)
  · obtain ⟨u, t, rfl, _⟩ := h
    rfl
  · obtain ⟨u, t, rfl, hu, t9, at_, q⟩ := h
    refine ⟨_, (pss_cons (ps_par (i := 2) (j := 3) rfl sc_lspo.nd rfl rfl (by decide) rfl rfl (pa_cons (pe_call Gt (hr.mono (by decide)) (by rfl) dt.g dt.F.kp dt.b .nil pass0 (pa_cons (pv 0) (pa_cons pe_int pa_nil))) (pa_cons (pe_call Gt (hr.mono (by decide)) (by rfl) dt.g dt.F.kp dt.b .nil pass0 (pa_cons (pv 0) (pa_cons (pe_op op_add (pe_callB call_len_str (by rfl) T.n_len PySem.boot_len (pa_cons (pv 1) pa_nil)) pe_int) pa_nil))) pa_nil)) (by rfl))
      (pss_cons (ps_set (i := 4) sc_lspo.nd rfl (.inl rfl) (pe_call Gs (hr.mono (by decide)) (by rfl) ds.g ds.F.kp ds.b .nil pass0 (pa_cons (pv 0) (pa_cons (pe_callTy (call_listS rfl) (by rfl) N.n_list (by decide +kernel) (pa_cons pe_str pa_nil)) pa_nil))))
      (pss_cons (ps_if (pt_cmpR op_eq (pv 2) pe_int (nomark _)) (pss_one (ps_ret (pe_op op_add_str (pe_op op_add_str (pe_slice sl_str (pv 1) po_none (po_some (pv 3))) (pv 4)) (pe_slice sl_str (pv 1) (po_some (pv 3)) po_none)))) pss_nil)
      (pss_cons (ps_if (pt_cmpR op_eq (pv 2) pe_int (nomark _)) (pss_one (ps_ret (pe_op op_add_str (pe_slice sl_str (pv 1) po_none (po_some (pv 3))) (pe_slice sl_str (pv 1) (po_some (pe_op op_add (pv 3) pe_int)) po_none)))) pss_nil)
      (pss_cons (ps_if (pt_cmpR op_eq (pv 2) pe_int (nomark _)) (pss_one (ps_ret (pe_op op_add_str (pe_op op_add_str (pe_slice sl_str (pv 1) po_none (po_some (pv 3))) (pv 4)) (pe_slice sl_str (pv 1) (po_some (pe_op op_add (pv 3) pe_int)) po_none)))) pss_nil)
      (pss_cons (ps_if (pt_cmpR op_eq (pv 2) pe_int (nomark _)) (pss_one (ps_ret (pe_join pe_str (pe_call G1 (hr.mono (by decide)) (by rfl) d1.g d1.F.kp d1.b .nil pass0 (pa_cons (pv 0) (pa_cons (pe_split (pv 1) pe_str) pa_nil)))))) pss_nil)
      (pss_cons (ps_if (pt_cmpR op_eq (pv 2) pe_int (nomark _)) (pss_one (ps_ret (pe_join pe_str (pe_call G1 (hr.mono (by decide)) (by rfl) d1.g d1.F.kp d1.b .nil pass0 (pa_cons (pv 0) (pa_cons (pe_op op_cat (pe_split (pv 1) pe_str) (pe_lst (pa_cons (pe_call Gs (hr.mono (by decide)) (by rfl) ds.g ds.F.kp ds.b .nil pass0 (pa_cons (pv 0) (pa_cons (pe_lst (pa_cons pe_str (pa_cons pe_str (pa_cons pe_str (pa_cons pe_str (pa_cons pe_str pa_nil)))))) pa_nil))) pa_nil))) pa_nil)))))) pss_nil)
      (pss_cons (ps_if (pt_cmpR op_eq (pv 2) pe_int (nomark _)) (pss_one (ps_ret (pe_join pe_str (pe_call G1 (hr.mono (by decide)) (by rfl) d1.g d1.F.kp d1.b .nil pass0 (pa_cons (pv 0) (pa_cons (pe_split (pv 1) pe_str) pa_nil)))))) pss_nil)
      (pss_cons (ps_if (pt_cmpR op_eq (pv 2) pe_int (nomark _)) (pss_one (ps_ret (pe_call Gs (hr.mono (by decide)) (by rfl) ds.g ds.F.kp ds.b .nil pass0 (pa_cons (pv 0) (pa_cons (pe_lst (pa_consT (pv 1) (pat_cons (CwR.PET.of (pe_op op_add_str pe_str (pv 1))) (pat_cons (CwR.PET.of (pe_op op_add_str (pv 1) pe_str)) (pat_cons (CwR.PET.of (pe_op op_add_str (pv 1) pe_str)) (pat_cons (CwR.PET.of (pe_op op_add_str (pv 1) pe_str)) (pat_cons (CwR.PET.of pe_str) (pat_cons (pet_rep1 (pv 1)) (pat_cons (pet_rep1 (pv 1)) pat_nil))))))))) pa_nil))))) pss_nil)
      (pss_cons (ps_if (pt_cmpR op_eq (pv 2) pe_int (nomark _)) (pss_cons (ps_set (i := 5) sc_lspo.nd rfl (.inl rfl) (pe_split (pv 1) pe_str))
      (pss_cons (ps_set (i := 6) sc_lspo.nd rfl (.inl rfl) (pe_call Gt (hr.mono (by decide)) (by rfl) dt.g dt.F.kp dt.b .nil pass0 (pa_cons (pv 0) (pa_cons (pe_callB call_len_seq (by rfl) T.n_len PySem.boot_len (pa_cons (pv 5) pa_nil)) pa_nil))))
      (pss_one (ps_ret (pe_join pe_str (pe_op op_cat (pe_op op_cat (pe_slice sl_list (pv 5) po_none (po_some (pv 6))) (pe_lst (pa_cons (pe_call Gs (hr.mono (by decide)) (by rfl) ds.g ds.F.kp ds.b .nil pass0 (pa_cons (pv 0) (pa_cons (pe_lst (pa_cons pe_str (pa_cons pe_str (pa_cons pe_str (pa_cons pe_str (pa_cons (pe_op op_mulS pe_str pe_int) (pa_cons (pe_op op_mulS pe_str pe_int) (pa_cons (pe_op op_add_str pe_str (pe_op op_mulS pe_str pe_int)) (pa_cons pe_str (pa_cons pe_str pa_nil)))))))))) pa_nil))) pa_nil))) (pe_slice sl_list (pv 5) (po_some (pe_op op_add (pv 6) pe_int)) po_none))))))) pss_nil)
      (pss_one (ps_ret (pe_slice sl_str (pv 1) po_none (po_some (pv 3))))))))))))))), ?_⟩
    have tsz : t.length ≤ sizeLine := by rw [sizeLine_eq]; omega
    refine ⟨_, rfl, u, _, rfl, hu, by decide, by decide +kernel, fun v1 H1 a0 a1 u1 bt1 => ?_⟩
    refine ⟨_, rfl, _, rfl, _, rfl, tsz, _, _, rfl, rfl, u, _, rfl, u1, by omega, Nat.lt_of_le_of_lt (Nat.log2_le_self _) (by omega), fun v2 H2 b0 b1 u2 bt2 => ⟨_, _, rfl, ?_⟩⟩
    obtain ⟨j, rfl⟩ : ∃ j : Nat, v2 = (j : Int) := ⟨v2.toNat, by omega⟩
    have o2 := (Old.of_but bt1).trans (Old.of_but bt2)
    clear bt1 bt2 u1
    refine ⟨_, rfl, _, rfl, (by decide +kernel), fun L nL => ?_⟩
    have sL := sub_same (o := .lst ((tl ("0123456789-/; x+\n" : Str)).map fun c => V.str ⟨#[c]⟩)) nL
    refine ⟨u, L, _, rfl, u2.same sL, upd_same, urn_ne u2 nL, (by decide +kernel), (by decide +kernel), fun kk xx H3 ekk u3 bt3 => ?_⟩
    have o3 := (o2.trans (Old.of_same sL)).trans (Old.of_but bt3)
    obtain ⟨c, rfl, c8⟩ : ∃ c : Nat, xx = .str ⟨#[c]⟩ ∧ c < 128 := by
      obtain ⟨c, mc, rfl⟩ := List.mem_map.mp (List.mem_of_getElem? ekk)
      refine ⟨c, rfl, ?_⟩
      revert mc
      have all : (tl ("0123456789-/; x+\n" : Str)).all (fun c => decide (c < 128)) = true := by decide +kernel
      exact fun mc => of_decide_eq_true (List.all_eq_true.mp all c mc)
    clear ekk bt3 sL nL u2 o2
    have sgA : Asc ⟨#[c]⟩ := fun x hx => by
      rw [List.mem_singleton.mp (show x ∈ [c] from hx)]
      exact c8
    have sg1 : (⟨#[c]⟩ : Str).length = 1 := rfl
    have tkA : ∀ n : Nat, Asc (cutS t none (some (n : Int))) ∧ (cutS t none (some (n : Int))).length = min n t.length := fun n => ⟨fun x hx => at_ x (by rw [cut_take] at hx; exact List.mem_of_mem_take hx), by rw [len_tl, cut_take, List.length_take, len_tl t]⟩
    have drA : ∀ n : Nat, Asc (cutS t (some (n : Int)) none) ∧ (cutS t (some (n : Int)) none).length = t.length - n := fun n => ⟨fun x hx => at_ x (by rw [cut_drop] at hx; exact List.mem_of_mem_drop hx), by rw [len_tl, cut_drop, List.length_drop, len_tl t]⟩
    have lapp : ∀ x y : Str, (x ++ y).length = x.length + y.length := fun x y => by rw [len_tl, tl_append, List.length_append, ← len_tl, ← len_tl]
    have jl : j ≤ t.length := by omega
    have fin : ∀ z, z.length ≤ t.length + 80 → Asc z → Q (.str z) H3 := fun z l a => q H3 z o3 u3 l a
    obtain ⟨a1', l1'⟩ := tkA j
    obtain ⟨a2', l2'⟩ := drA j
    obtain ⟨a3', l3'⟩ := drA (j + 1)
    rw [show ((j + 1 : Nat) : Int) = (j : Int) + 1 by omega] at a3' l3'
    -- way 0
    refine ⟨_, rfl, rfl, _, rfl, ite2 (fun _ => ?_) (fun _ => ?_)⟩
    · refine ⟨_, rfl, _, rfl, _, rfl, t, rfl, tsz, _, rfl, _, _, rfl, rfl, by rw [sizeLine_eq, l1', sg1]; omega, _, rfl, _, rfl, _, rfl, t, rfl, tsz, _, _, rfl, rfl, by rw [sizeLine_eq, lapp, l1', sg1, l2']; omega, fin _ (by rw [lapp, lapp, l1', sg1, l2']; omega) (asc_app (asc_app a1' sgA) a2')⟩
    -- way 1
    refine ⟨_, rfl, rfl, _, rfl, ite2 (fun _ => ?_) (fun _ => ?_)⟩
    · refine ⟨_, rfl, _, rfl, _, rfl, t, rfl, tsz, _, rfl, _, rfl, _, _, rfl, rfl, _, rfl, t, rfl, tsz, _, _, rfl, rfl, by rw [sizeLine_eq, l1', l3']; omega, fin _ (by rw [lapp, l1', l3']; omega) (asc_app a1' a3')⟩
    -- way 2
    refine ⟨_, rfl, rfl, _, rfl, ite2 (fun _ => ?_) (fun _ => ?_)⟩
    · refine ⟨_, rfl, _, rfl, _, rfl, t, rfl, tsz, _, rfl, _, _, rfl, rfl, by rw [sizeLine_eq, l1', sg1]; omega, _, rfl, _, rfl, _, _, rfl, rfl, _, rfl, t, rfl, tsz, _, _, rfl, rfl, by rw [sizeLine_eq, lapp, l1', sg1, l3']; omega, fin _ (by rw [lapp, lapp, l1', sg1, l3']; omega) (asc_app (asc_app a1' sgA) a3')⟩
    -- way 3
    refine ⟨_, rfl, rfl, _, rfl, ite2 (fun _ => ?_) (fun _ => ?_)⟩
    · refine ⟨⟨_, rfl⟩, _, rfl, _, rfl, ⟨_, rfl⟩, _, _, rfl, rfl, (by decide +kernel), by rw [sizeLine_eq]; omega, fun p np => ?_⟩
      obtain ⟨lw, mw⟩ := split_le sep_s t
      have aw := asc_split sep_s at_
      have jt := join_split sep_s t
      have s4 := sub_same (o := .lst ((Txt.split t "/").map V.str)) np
      refine ⟨u, p, _, rfl, u3.same s4, upd_same, urn_ne u3 np, by rw [List.length_map]; omega, fun H4 p2 ys o4 u4 np2 ep pm => ?_⟩
      obtain ⟨rs, rfl, pr⟩ := perm_strs pm
      have jl2 : (Txt.join "/" rs).length = t.length := by
        have e1 := join_size "/" rs
        have e2 := join_size "/" (Txt.split t "/")
        rw [jt] at e2
        rw [e1, e2, (pr.map (·.length)).sum_nat, pr.length_eq]
      have e1 := join_size "/" rs
      have l9 := pr.length_eq
      refine ⟨_, p2, rs, rfl, rfl, .inl (.inl (.inl ep)), ?_, q H4 _ ((o3.trans (Old.of_same s4)).trans o4) u4 (by omega) (asc_join (show Asc "/" from (by unfold Asc; decide +kernel)) fun r hr => aw r (pr.mem_iff.mp hr))⟩
      have yl : ("/" : Str).length = 1 := by decide +kernel
      rw [yl] at e1 ⊢
      omega
    -- way 4
    refine ⟨_, rfl, rfl, _, rfl, ite2 (fun _ => ?_) (fun _ => ?_)⟩
    · refine ⟨⟨_, rfl⟩, _, rfl, _, rfl, ⟨_, rfl⟩, _, _, rfl, rfl, (by decide +kernel), by rw [sizeLine_eq]; omega, fun p np => ?_⟩
      obtain ⟨lw, mw⟩ := split_le sep_c t
      have aw := asc_split sep_c at_
      have jt := join_split sep_c t
      have s4 := sub_same (o := .lst ((Txt.split t "; ").map V.str)) np
      have ep : upd H3 p (.lst ((Txt.split t "; ").map V.str)) p = some (.lst ((Txt.split t "; ").map V.str)) := upd_same
      have u4 := u3.same s4
      have o4 := o3.trans (Old.of_same s4)
      have pu := urn_ne u3 np
      revert ep u4 o4
      generalize upd H3 p (.lst ((Txt.split t "; ").map V.str)) = H4
      intro ep u4 o4
      refine ⟨_, rfl, (by show 5 ≤ sizeLine; decide), fun L nL => ?_⟩
      have s5 := sub_same (o := .lst ((["0", "7", "1 2/3", "", "-1 0 0/0 0/1"] : List Str).map V.str)) nL
      refine ⟨u, L, (["0", "7", "1 2/3", "", "-1 0 0/0 0/1"] : List Str).map V.str, rfl, u4.same s5, upd_same, urn_ne u4 nL, (fun z => by cases z), (by show 5 ≤ 1000; decide), fun kk xx H5 ekk u5 bt5 => ?_⟩
      have o5 := (o4.trans (Old.of_same s5)).trans (Old.of_but bt5)
      have ep5 := Old.of_but bt5 _ _ pu (s5 _ _ ep)
      obtain ⟨w0, rfl, w20, wA⟩ : ∃ w0 : Str, xx = .str w0 ∧ w0.length ≤ 20 ∧ Asc w0 := by
        obtain ⟨b, mb, rfl⟩ := List.mem_map.mp (List.mem_of_getElem? ekk)
        refine ⟨b, rfl, ?_⟩
        have all : ∀ b ∈ (["0", "7", "1 2/3", "", "-1 0 0/0 0/1"] : List Str), b.length ≤ 20 ∧ ∀ c ∈ tl b, c < 128 := by decide +kernel
        exact all b mb
      refine ⟨(by show 1 ≤ sizeLine; decide), fun L2 nL2 => ?_⟩
      have s6 := sub_same (o := .lst [V.str w0]) nL2
      refine ⟨p, L2, _, _, rfl, rfl, s6 _ _ ep5, upd_same, ?_, fun p3 np3 => ?_⟩
      · rw [List.length_map, sizeLine_eq]
        show (Txt.split t "; ").length + 1 ≤ _
        omega
      have s7 := sub_same (o := .lst ((Txt.split t "; ").map V.str ++ [V.str w0])) np3
      have u7 := (u5.same s6)
      refine ⟨u, p3, ((Txt.split t "; ") ++ [w0]).map V.str, rfl, u7.same s7, by rw [upd_same, List.map_append]; rfl, urn_ne u7 np3, by rw [List.length_map, List.length_append, List.length_singleton]; omega, fun H8 p2 ys o8 u8 np2 ep8 pm => ?_⟩
      obtain ⟨rs, rfl, pr⟩ := perm_strs pm
      have e1 := join_size "; " rs
      have e2 := join_size "; " (Txt.split t "; ")
      have l9 := pr.length_eq
      have sm := (pr.map (·.length)).sum_nat
      have ne := split_ne sep_c t
      have n1 : 1 ≤ (Txt.split t "; ").length := List.length_pos_iff.mpr ne
      rw [jt] at e2
      rw [List.map_append, List.sum_append] at sm
      have sm : (rs.map (·.length)).sum = ((Txt.split t "; ").map (·.length)).sum + (w0.length + 0) := sm
      have yl : ("; " : Str).length = 2 := by decide +kernel
      rw [List.length_append, List.length_singleton] at l9
      rw [yl] at e1 e2
      refine ⟨_, p2, rs, rfl, rfl, .inl (.inl (.inl ep8)), by rw [yl]; omega, q H8 _ ((((o5.trans (Old.of_same s6)).trans (Old.of_same s7))).trans o8) u8 (by omega) (asc_join (show Asc "; " from (by unfold Asc; decide +kernel)) fun r hr => ?_)⟩
      rcases List.mem_append.mp (pr.mem_iff.mp hr) with h | h
      · exact aw r h
      · rw [List.mem_singleton.mp h]
        exact wA
    -- way 5
    refine ⟨_, rfl, rfl, _, rfl, ite2 (fun _ => ?_) (fun _ => ?_)⟩
    · refine ⟨⟨_, rfl⟩, _, rfl, _, rfl, ⟨_, rfl⟩, _, _, rfl, rfl, (by decide +kernel), by rw [sizeLine_eq]; omega, fun p np => ?_⟩
      obtain ⟨lw, mw⟩ := split_le sep_b t
      have aw := asc_split sep_b at_
      have jt := join_split sep_b t
      have s4 := sub_same (o := .lst ((Txt.split t " ").map V.str)) np
      refine ⟨u, p, _, rfl, u3.same s4, upd_same, urn_ne u3 np, by rw [List.length_map]; omega, fun H4 p2 ys o4 u4 np2 ep pm => ?_⟩
      obtain ⟨rs, rfl, pr⟩ := perm_strs pm
      have jl2 : (Txt.join " " rs).length = t.length := by
        have e1 := join_size " " rs
        have e2 := join_size " " (Txt.split t " ")
        rw [jt] at e2
        rw [e1, e2, (pr.map (·.length)).sum_nat, pr.length_eq]
      have e1 := join_size " " rs
      have l9 := pr.length_eq
      refine ⟨_, p2, rs, rfl, rfl, .inl (.inl (.inl ep)), ?_, q H4 _ ((o3.trans (Old.of_same s4)).trans o4) u4 (by omega) (asc_join (show Asc " " from (by unfold Asc; decide +kernel)) fun r hr => aw r (pr.mem_iff.mp hr))⟩
      have yl : (" " : Str).length = 1 := by decide +kernel
      rw [yl] at e1 ⊢
      omega
    -- way 6
    refine ⟨_, rfl, rfl, _, rfl, ite2 (fun _ => ?_) (fun _ => ?_)⟩
    · have k1 : (" " : Str).length = 1 := by decide +kernel
      have k2 : ("/" : Str).length = 1 := by decide +kernel
      have k3 : ("; " : Str).length = 2 := by decide +kernel
      have k4 : (" 0" : Str).length = 2 := by decide +kernel
      have k5 : ("  " : Str).length = 2 := by decide +kernel
      have k6 : (";" : Str).length = 1 := by decide +kernel
      have A : ∀ y ∈ ([" ", "/", "; ", " 0", "", "  ", ";"] : List Str), Asc y := by unfold Asc; decide +kernel
      refine ⟨_, rfl, _, rfl, t, rfl, by rw [sizeLine_eq, k1]; omega, _, rfl, _, _, rfl, rfl, by rw [sizeLine_eq, k1]; omega, _, rfl, _, _, rfl, rfl, by rw [sizeLine_eq, k2]; omega, _, rfl, _, _, rfl, rfl, by rw [sizeLine_eq, k3]; omega, _, rfl, _, _, rfl, rfl, by rw [sizeLine_eq, k4]; omega, _, rfl, t, rfl, by rw [k5]; omega, _, rfl, t, rfl, by rw [k6]; omega, (by show 8 ≤ sizeLine; decide), fun L nL => ?_⟩
      have ek : ([t ++ " ", " " ++ t, t ++ "/", t ++ "; ", t ++ " 0", "", rep1 t " " "  ", rep1 t "; " ";"] : List Str).map V.str = [V.str (t ++ " "), V.str (" " ++ t), V.str (t ++ "/"), V.str (t ++ "; "), V.str (t ++ " 0"), V.str "", V.str (rep1 t " " "  "), V.str (rep1 t "; " ";")] := rfl
      rw [← ek]
      have all : ∀ z ∈ ([t ++ " ", " " ++ t, t ++ "/", t ++ "; ", t ++ " 0", "", rep1 t " " "  ", rep1 t "; " ";"] : List Str), z.length ≤ t.length + 80 ∧ Asc z := fun z hz => by
        have r1 := rep1_len t " " "  "
        have r2 := rep1_len t "; " ";"
        simp only [List.mem_cons, List.not_mem_nil, or_false] at hz
        rcases hz with rfl | rfl | rfl | rfl | rfl | rfl | rfl | rfl
        · exact ⟨by rw [lapp, k1]; omega, asc_app at_ (A _ (by simp))⟩
        · exact ⟨by rw [lapp, k1]; omega, asc_app (A _ (by simp)) at_⟩
        · exact ⟨by rw [lapp, k2]; omega, asc_app at_ (A _ (by simp))⟩
        · exact ⟨by rw [lapp, k3]; omega, asc_app at_ (A _ (by simp))⟩
        · exact ⟨by rw [lapp, k4]; omega, asc_app at_ (A _ (by simp))⟩
        · exact ⟨Nat.zero_le _, A _ (by simp)⟩
        · exact ⟨by omega, rep1_asc at_ (A _ (by simp))⟩
        · exact ⟨by omega, rep1_asc at_ (A _ (by simp))⟩
      have len8 : ([t ++ " ", " " ++ t, t ++ "/", t ++ "; ", t ++ " 0", "", rep1 t " " "  ", rep1 t "; " ";"] : List Str).length = 8 := rfl
      revert all len8
      generalize ([t ++ " ", " " ++ t, t ++ "/", t ++ "; ", t ++ " 0", "", rep1 t " " "  ", rep1 t "; " ";"] : List Str) = l8
      intro all len8
      have s4 := sub_same (o := .lst (l8.map V.str)) nL
      refine ⟨u, L, l8.map V.str, rfl, u3.same s4, upd_same, urn_ne u3 nL, (fun z => by rw [List.map_eq_nil_iff.mp z] at len8; cases len8), by rw [List.length_map, len8]; decide, fun kk xx H5 ekk u5 bt5 => ?_⟩
      obtain ⟨z, mz, rfl⟩ := List.mem_map.mp (List.mem_of_getElem? ekk)
      obtain ⟨z1, z2⟩ := all z mz
      exact q H5 z ((o3.trans (Old.of_same s4)).trans (Old.of_but bt5)) u5 z1 z2
    -- way 7
    refine ⟨_, rfl, rfl, _, rfl, ite2 (fun _ => ?_) (fun _ => ?_)⟩
    · refine ⟨_, rfl, ⟨_, rfl⟩, _, _, rfl, rfl, (by decide +kernel), by rw [sizeLine_eq]; omega, fun p np => ?_⟩
      obtain ⟨lw, mw⟩ := split_le sep_b t
      have aw := asc_split sep_b at_
      have jt := join_split sep_b t
      have ne := split_ne sep_b t
      revert lw mw aw jt ne
      generalize Txt.split t " " = ws
      intro lw mw aw jt ne
      have n1 : 1 ≤ ws.length := List.length_pos_iff.mpr ne
      have s4 := sub_same (o := .lst (ws.map V.str)) np
      have ep : upd H3 p (.lst (ws.map V.str)) p = some (.lst (ws.map V.str)) := upd_same
      have u4 := u3.same s4
      have o4 := o3.trans (Old.of_same s4)
      have pu := urn_ne u3 np
      revert ep u4 o4
      generalize upd H3 p (.lst (ws.map V.str)) = H4
      intro ep u4 o4
      refine ⟨_, rfl, _, rfl, p, _, rfl, .inl (.inl (.inl ep)), u, _, rfl, u4, by rw [List.length_map]; omega, by rw [List.length_map]; exact Nat.lt_of_le_of_lt (Nat.log2_le_self _) (by omega), fun v3 H5 c0 c1 u5 bt5 => ?_⟩
      rw [List.length_map] at c1
      obtain ⟨i, rfl⟩ : ∃ i : Nat, v3 = (i : Int) := ⟨v3.toNat, by omega⟩
      have ep5 := Old.of_but bt5 _ _ pu ep
      have o5 := o4.trans (Old.of_but bt5)
      refine ⟨⟨_, rfl⟩, _, rfl, _, rfl, _, rfl, p, _, rfl, .inl (.inl ep5), fun p1 np1 => ?_⟩
      rw [cutV_take, ← List.map_take]
      have s6 := sub_same (o := .lst ((ws.take i).map V.str)) np1
      have e6 : upd H5 p1 (.lst ((ws.take i).map V.str)) p1 = some (.lst ((ws.take i).map V.str)) := upd_same
      have u6 := u5.same s6
      have o6 := o5.trans (Old.of_same s6)
      have ep6 := s6 _ _ ep5
      have p1u := urn_ne u5 np1
      revert e6 u6 o6 ep6
      generalize upd H5 p1 (.lst ((ws.take i).map V.str)) = H6
      intro e6 u6 o6 ep6
      have d1 : ("1" : Str).length = 1 := by decide +kernel
      have d9 : ("9" : Str).length = 1 := by decide +kernel
      have d5 : ("5" : Str).length = 1 := by decide +kernel
      have dm : ("-" : Str).length = 1 := by decide +kernel
      have A : ∀ y ∈ (["1", "9", "5", "-"] : List Str), Asc y := by unfold Asc; decide +kernel
      refine ⟨_, rfl, "1", 60, rfl, rfl, by decide, by decide, by rw [d1]; decide, by rw [d1]; decide, fun z1 h1 => ⟨"9", 61, rfl, rfl, by decide, by decide, by rw [d9]; decide, by rw [d9]; decide, fun z2 h2 => ⟨"5", 61, rfl, rfl, by decide, by decide, by rw [d5]; decide, by rw [d5]; decide, fun z3 h3 => ?_⟩⟩⟩
      have l1 := len_rep h1
      have l2 := len_rep h2
      have l3 := len_rep h3
      rw [d1] at l1
      rw [d9] at l2
      rw [d5] at l3
      refine ⟨_, _, rfl, rfl, by rw [sizeLine_eq, l3, dm]; decide, (by show 9 ≤ sizeLine; decide), fun L nL => ?_⟩
      have ek : (["-0", "00", "07", "+1", z1, z2, "-" ++ z3, "--1", "1.0"] : List Str).map V.str = [V.str "-0", V.str "00", V.str "07", V.str "+1", V.str z1, V.str z2, V.str ("-" ++ z3), V.str "--1", V.str "1.0"] := rfl
      rw [← ek]
      have all : ∀ z ∈ (["-0", "00", "07", "+1", z1, z2, "-" ++ z3, "--1", "1.0"] : List Str), z.length ≤ 70 ∧ Asc z := fun z hz => by
        have sm : ∀ b ∈ (["-0", "00", "07", "+1", "--1", "1.0"] : List Str), b.length ≤ 70 ∧ ∀ c ∈ tl b, c < 128 := by decide +kernel
        simp only [List.mem_cons, List.not_mem_nil, or_false] at hz
        rcases hz with rfl | rfl | rfl | rfl | rfl | rfl | rfl | rfl | rfl
        · exact sm _ (by simp)
        · exact sm _ (by simp)
        · exact sm _ (by simp)
        · exact sm _ (by simp)
        · exact ⟨by omega, asc_rep h1 (A _ (by simp))⟩
        · exact ⟨by omega, asc_rep h2 (A _ (by simp))⟩
        · exact ⟨by rw [lapp, l3, dm]; decide, asc_app (A _ (by simp)) (asc_rep h3 (A _ (by simp)))⟩
        · exact sm _ (by simp)
        · exact sm _ (by simp)
      have len9 : (["-0", "00", "07", "+1", z1, z2, "-" ++ z3, "--1", "1.0"] : List Str).length = 9 := rfl
      revert all len9
      generalize (["-0", "00", "07", "+1", z1, z2, "-" ++ z3, "--1", "1.0"] : List Str) = l9
      intro all len9
      have s7 := sub_same (o := .lst (l9.map V.str)) nL
      refine ⟨u, L, l9.map V.str, rfl, u6.same s7, upd_same, urn_ne u6 nL, (fun z => by rw [List.map_eq_nil_iff.mp z] at len9; cases len9), by rw [List.length_map, len9]; decide, fun kk xx H8 ekk u8 bt8 => ?_⟩
      obtain ⟨w0, mz, rfl⟩ := List.mem_map.mp (List.mem_of_getElem? ekk)
      obtain ⟨w70, wA⟩ := all w0 mz
      have o8 := (o6.trans (Old.of_same s7)).trans (Old.of_but bt8)
      have ep8 := Old.of_but bt8 _ _ pu (s7 _ _ ep6)
      have e8 := Old.of_but bt8 _ _ p1u (s7 _ _ e6)
      refine ⟨(by show 1 ≤ sizeLine; decide), fun L2 nL2 => ?_⟩
      have s9 := sub_same (o := .lst [V.str w0]) nL2
      have lt : (ws.take i).length ≤ ws.length := by rw [List.length_take]; exact Nat.min_le_right _ _
      have ld : (ws.drop (i + 1)).length ≤ ws.length := by rw [List.length_drop]; exact Nat.sub_le _ _
      refine ⟨p1, L2, _, _, rfl, rfl, s9 _ _ e8, upd_same, ?_, fun p3 np3 => ?_⟩
      · rw [List.length_map, sizeLine_eq]
        show (ws.take i).length + 1 ≤ _
        omega
      have s10 := sub_same (o := .lst ((ws.take i).map V.str ++ [V.str w0])) np3
      have sA := s9.trans s10
      have e10 : upd (upd H8 L2 (.lst [V.str w0])) p3 (.lst ((ws.take i).map V.str ++ [V.str w0])) p3 = some (.lst ((ws.take i).map V.str ++ [V.str w0])) := upd_same
      have ep10 := sA _ _ ep8
      have u10 := u8.same sA
      have o10 := o8.trans (Old.of_same sA)
      revert e10 ep10 u10 o10
      generalize upd (upd H8 L2 (.lst [V.str w0])) p3 (.lst ((ws.take i).map V.str ++ [V.str w0])) = H10
      intro e10 ep10 u10 o10
      refine ⟨_, rfl, _, rfl, _, _, rfl, rfl, _, rfl, p, _, rfl, .inl (.inl ep10), fun p4 np4 => ?_⟩
      rw [show (i : Int) + 1 = ((i + 1 : Nat) : Int) by omega, cutV_drop, ← List.map_drop]
      have s11 := sub_same (o := .lst ((ws.drop (i + 1)).map V.str)) np4
      refine ⟨p3, p4, _, _, rfl, rfl, s11 _ _ e10, upd_same, ?_, fun p5 np5 => ?_⟩
      · rw [List.length_append, List.length_map, List.length_map, sizeLine_eq]
        show (ws.take i).length + 1 + (ws.drop (i + 1)).length ≤ _
        omega
      have s12 := sub_same (o := .lst ((ws.take i).map V.str ++ [V.str w0] ++ (ws.drop (i + 1)).map V.str)) np5
      have er : (ws.take i).map V.str ++ [V.str w0] ++ (ws.drop (i + 1)).map V.str = (ws.take i ++ [w0] ++ ws.drop (i + 1)).map V.str := by
        rw [List.map_append, List.map_append]
        rfl
      rw [er] at s12 ⊢
      have e1 := join_size " " (ws.take i ++ [w0] ++ ws.drop (i + 1))
      have e2 := join_size " " ws
      rw [jt] at e2
      have so := sum_out (ws := ws) (i := i) (by omega)
      have yl : (" " : Str).length = 1 := by decide +kernel
      have sm : ((ws.take i ++ [w0] ++ ws.drop (i + 1)).map (·.length)).sum = ((ws.take i).map (·.length)).sum + w0.length + ((ws.drop (i + 1)).map (·.length)).sum := by
        rw [List.map_append, List.map_append, List.sum_append, List.sum_append]
        rfl
      have lk : (ws.take i ++ [w0] ++ ws.drop (i + 1)).length = ws.length := by
        rw [List.length_append, List.length_append, List.length_take, List.length_drop, List.length_singleton, Nat.min_eq_left (by omega)]
        omega
      rw [yl] at e1 e2
      refine ⟨_, p5, ws.take i ++ [w0] ++ ws.drop (i + 1), rfl, rfl, .inl (.inl (.inl upd_same)), by rw [yl]; omega, q _ _ ((o10.trans (Old.of_same s11)).trans (Old.of_same s12)) ((u10.same s11).same s12) (by omega) (asc_join (show Asc " " from (by unfold Asc; decide +kernel)) fun r hr => ?_)⟩
      rcases List.mem_append.mp hr with h | h
      · rcases List.mem_append.mp h with h | h
        · exact aw r (List.mem_of_mem_take h)
        · rw [List.mem_singleton.mp h]
          exact wA
      · exact aw r (List.mem_of_mem_drop h)
    refine ⟨_, rfl, _, rfl, _, rfl, t, rfl, tsz, fin _ (by rw [l1']; omega) a1'⟩
end
end K07

/-! # the law: right -/
namespace K07
open PySem PySem.Spec PyProof.Rows L2 TL NumText RZ
theorem ne_false {ns l m : List Int} (h : l = m) : (!(decide (ns = ns) && decide (l = m))) = false := by rw [decide_eq_true rfl, decide_eq_true h]; rfl
theorem intS_le61 {i : Int} (h : Sm i) : (intS i).length ≤ 61 := by
  have z := numL_len (n := i.natAbs) (k := 60) (by decide) (sm_abs h)
  rw [len_tl, show tl (intS i) = intL i from tl_int i]
  unfold intL
  split
  · rw [List.length_cons]
    omega
  · omega
theorem asc_int (i : Int) : Asc (intS i) := fun c hc => by
  rw [show tl (intS i) = intL i from tl_int i] at hc
  unfold intL at hc
  split at hc
  · rcases List.mem_cons.mp hc with rfl | hc
    · decide
    · have := numL_digits _ c hc
      omega
  · have := numL_digits _ c hc
    omega
theorem asc_stair (num : Tri → Int) (ns : List Int) : Asc (stairS num ns) := by
  have a : ∀ y ∈ ([" ", "/", "; "] : List Str), Asc y := by unfold Asc; decide +kernel
  unfold stairS
  refine asc_join (a _ (by simp)) fun p hp => ?_
  obtain ⟨b, _, rfl⟩ := List.mem_map.mp hp
  unfold blkS
  refine asc_join (a _ (by simp)) fun p hp => ?_
  obtain ⟨i, _, rfl⟩ := List.mem_map.mp hp
  unfold rowS
  refine asc_join (a _ (by simp)) fun p hp => ?_
  obtain ⟨x, _, rfl⟩ := List.mem_map.mp hp
  exact asc_int x
theorem stair_le {num : Tri → Int} {ns : List Int} (S : Shp ns) (sm : SmN num ns) : (stairS num ns).length ≤ 5000 := by
  have z := (join_le (y := "; ") (ps := (List.range ns.length).map fun (b : Nat) => blkS num (b : Int) (ns.getD b 0).toNat) (m := 1555) (n := 3) (d := 2) (fun p hp => by
    obtain ⟨b, hb, rfl⟩ := List.mem_map.mp hp
    rw [List.mem_range] at hb
    have gd : ns.getD b 0 = ns[b] := by rw [List.getD_eq_getElem?_getD, List.getElem?_eq_getElem hb]; rfl
    have z6 := S.2.1 _ (List.getElem_mem hb)
    rw [← gd] at z6
    have y := (join_le (y := "/") (ps := (List.range ((ns.getD b 0).toNat - 1)).map fun (i : Nat) => rowS num (b : Int) (i : Int) ((ns.getD b 0).toNat - 1 - i)) (m := 310) (n := 5) (d := 1) (fun p hp => by
      obtain ⟨i, hi, rfl⟩ := List.mem_map.mp hp
      rw [List.mem_range] at hi
      have x := (join_le (y := " ") (ps := (rowNs num (b : Int) (i : Int) ((ns.getD b 0).toNat - 1 - i)).map intS) (m := 61) (n := 5) (d := 1) (fun p hp => by
        obtain ⟨v, hv, rfl⟩ := List.mem_map.mp hp
        unfold rowNs at hv
        obtain ⟨c, hc, rfl⟩ := List.mem_map.mp hv
        rw [List.mem_range] at hc
        have q := sm _ (mem_pl S (b := b) (i := i) (j := i + 1 + c) hb (by omega) (by omega))
        rw [show ((i + 1 + c : Nat) : Int) = (i : Int) + 1 + (c : Int) by omega] at q
        exact intS_le61 q) (by rw [List.length_map, rowNs_len]; omega) (by decide +kernel)).1
      exact Nat.le_trans x (by decide)) (by rw [List.length_map, List.length_range]; omega) (by decide +kernel)).1
    exact Nat.le_trans y (by decide)) (by rw [List.length_map, List.length_range]; exact S.1.2) (by decide +kernel)).1
  exact Nat.le_trans z (by decide)
section
variable {P : Program} {w : World} {K : PySem.W.Frag} {mg : Str → Option Value} {base : Heap} {C CP CS : Addr} {mc : Value}
abbrev s_lrt : Stmt := topS 61
theorem sc_lrt : FnScope ["_law_pot_here", "_law_shape_here", "_law_x", "_law_text_here", "_law_turn", "_law_near"] ["_law_pot_here"] (defScope s_lrt) := ⟨rfl, rfl, rfl, by decide +kernel, rfl, by decide +kernel, by decide +kernel⟩
def spLRt : Sp := fun vs H Q _ => ∃ u : Addr, vs = [.ref u] ∧ Urn H u ∧ ∀ H', Old u H H' → Q (.bl true) H'
theorem ok_lrt {f f1 f2 f3 f4 f5 fs fI pD gD gQ gR : Addr} {fd fd1 fd2 fd3 fd4 fd5 fds fdI fdD fdQ fdR : FuncData} (T : Txt mg) (N : Nam mg) (R : SC K mg C) (IC : C8.InsC K C) (ks : kit K (.ref C) (.type "str") false) (d : D K mg "_law_right" s_lrt ["_law_pot_here"] f fd)
    (d1 : D K mg "_law_shape" s_lshape ["_law_pot_here"] f1 fd1) (G1 : FnOk P w K mg base CX0 3 f1 fd1 ["_law_pot_here"] (spLShapeN K))
    (d2 : D K mg "_law_entries" s_lent ["_law_pot_here", "_law_shape_here"] f2 fd2) (G2 : FnOk P w K mg base CX0 4 f2 fd2 ["_law_pot_here", "_law_shape_here"] (spLEnt K))
    (d3 : D K mg "_law_text" s_ltext ["_law_shape_here", "_law_x"] f3 fd3) (G3 : FnOk P w K mg base CX0 1 f3 fd3 ["_law_shape_here", "_law_x"] (spLText K))
    (d4 : D K mg "_law_is_read" s_lir ["_law_text_here"] f4 fd4) (G4 : FnG P w K mg base CX0 12 f4 fd4 ["_law_text_here"] (spLIr K))
    (d5 : D K mg "_law_spoilt" s_lspo ["_law_pot_here", "_law_text_here"] f5 fd5) (G5 : FnOk P w K mg base CX0 4 f5 fd5 ["_law_pot_here", "_law_text_here"] spSpo)
    (ds : D K mg "_law_pick" s_pick ["_law_pot_here", "_law_items"] fs fds) (Gs : FnOk P w K mg base CX0 2 fs fds ["_law_pot_here", "_law_items"] spSome)
    (mk : Mk K C fI) (GI : FnOk P w K mg base CX0 7 fI fdI ["self", "shape", "entries"] (spInit K C)) (bI : Binds K fdI ["self", "shape", "entries"] [])
    (rd : ClX.CRead K C mc) (cmD : ClX.CMet K C mc "read" pD gD) (GD : FnOk P w K mg base CX0 9 gD fdD ["cls", "text"] (spReadS K C)) (bD : Binds K fdD ["cls", "text"] [])
    (hm : PySem.W.mroIn K C (.type "object") = some true) (hne : PySem.W.findIn K (.ref C) "__ne__" = some (some (.builtin "object.__ne__"))) (nfC : PySem.W.notFirst K C (.ref C) = true)
    (hsQ : PySem.W.findIn K (.ref C) "__eq__" = some (some (.ref gQ))) (hfQ : PySem.W.isFn K (.ref gQ) = true) (GQ : FnOk P w K mg base CX0 1 gQ fdQ ["self", "other"] (spSEq K C)) (bQ : Binds K fdQ ["self", "other"] [])
    (hsR : PySem.W.findIn K (.ref C) "__str__" = some (some (.ref gR))) (hfR : PySem.W.isFn K (.ref gR) = true) (GR : FnOk P w K mg base CX0 8 gR fdR ["self"] (spStr K C)) (bR : Binds K fdR ["self"] []) :
    FnG P w K mg base CX0 13 f fd ["_law_pot_here"] spLRt := by
  refine FnG.of d.F sc_lrt (fun vs H Q E h => ?_) (fun cdv A outer s H vs Q E hn hr h => ?_)
  · obtain ⟨u, rfl, _⟩ := h
    rfl
  · obtain ⟨u, rfl, hu, q⟩ := h
    refine ⟨_, (pss_cons (ps_set (i := 1) sc_lrt.nd rfl (.inl rfl) (pe_call G1 (hr.mono (by decide)) (by rfl) d1.g d1.F.kp d1.b .nil pass0 (pa_cons (pv 0) pa_nil)))
      (pss_cons (ps_set (i := 2) sc_lrt.nd rfl (.inl rfl) (pe_call G2 (hr.mono (by decide)) (by rfl) d2.g d2.F.kp d2.b .nil pass0 (pa_cons (pv 0) (pa_cons (pv 1) pa_nil))))
      (pss_cons (ps_set (i := 3) sc_lrt.nd rfl (.inl rfl) (pe_call G3 (hr.mono (by decide)) (by rfl) d3.g d3.F.kp d3.b .nil pass0 (pa_cons (pv 1) (pa_cons (pv 2) pa_nil))))
      (pss_cons (ps_if (PW.pt (pw_or (pt_cmpR op_ne (pe_callTy (call_strMine hsR hfR GR (hr.mono (by decide)) bR) (by rfl) N.n_str (by decide +kernel) (pa_cons (pe_make mk GI (hr.mono (by decide)) (by rfl) R.mC bI .nil pass0 (pa_cons (pv 1) (pa_cons (pv 2) pa_nil))) pa_nil)) (pv 3) (nomark _)) (pw_or (pt_cmpR (op_neMine hm hne hsQ hfQ GQ (hr.mono (by decide)) bQ) (ClX.pe_cmeth (pe_glob (v := .ref C) rfl R.mC rfl) rd cmD (GD.raw bD .nil) (hr.mono (by decide)) pass0 (pa_cons (pv 3) pa_nil)) (pe_make mk GI (hr.mono (by decide)) (by rfl) R.mC bI .nil pass0 (pa_cons (pv 1) (pa_cons (pv 2) pa_nil))) (nomark _)) (pw_or1 (pt_not (pt_val (pe_callG G4 hn (hr.mono (by decide)) (by rfl) d4.g d4.F.kp d4.b (pa_cons (pv 3) pa_nil)))))))) (pss_one (ps_ret pe_bl)) pss_nil)
      (pss_cons (ps_for PassesOwn.never rfl (pi_range1 (by rfl) T.n_range (pa_cons pe_int pa_nil)) (pg_name (i := 4) sc_lrt.nd rfl (.inl rfl))
        (pss_cons (ps_set (i := 5) sc_lrt.nd rfl (.inl rfl) (pe_call G5 (hr.mono (by decide)) (by rfl) d5.g d5.F.kp d5.b .nil pass0 (pa_cons (pv 0) (pa_cons (pv 3) pa_nil))))
      (pss_one (ps_if (PW.pt (pw_or (pt_not (pt_val (pe_callG G4 hn (hr.mono (by decide)) (by rfl) d4.g d4.F.kp d4.b (pa_cons (pv 5) pa_nil)))) (pw_or1 (pt_not (pt_val (pe_callG G4 hn (hr.mono (by decide)) (by rfl) d4.g d4.F.kp d4.b (pa_cons (pe_call G5 (hr.mono (by decide)) (by rfl) d5.g d5.F.kp d5.b .nil pass0 (pa_cons (pv 0) (pa_cons (pv 5) pa_nil))) pa_nil))))))) (pss_one (ps_ret pe_bl)) pss_nil))))
      (pss_one (ps_ret (pe_callG G4 hn (hr.mono (by decide)) (by rfl) d4.g d4.F.kp d4.b (pa_cons (pe_call Gs (hr.mono (by decide)) (by rfl) ds.g ds.F.kp ds.b .nil pass0 (pa_cons (pv 0) (pa_cons (pe_lst (pa_cons pe_non (pa_cons pe_int (pa_cons pe_bl (pa_cons (pe_tup (pa_cons pe_str pa_nil)) (pa_cons (pe_lst (pa_cons pe_str pa_nil)) (pa_cons pe_dnewT (pa_cons (pe_make mk GI (hr.mono (by decide)) (by rfl) R.mC bI .nil pass0 (pa_cons (pv 1) (pa_cons (pv 2) pa_nil))) pa_nil)))))))) pa_nil))) pa_nil))))))))), ?_⟩
    refine ⟨_, rfl, u, rfl, hu, fun H1 sh ns o1 u1 es S ne52 => ?_⟩
    have M := tables3 ns (shp_mem S)
    have l30 := M.2.1
    refine ⟨_, rfl, _, rfl, u, sh, ns, rfl, u1, es, S, fun H2 Dx nx o2 u2 nDx xd sm => ?_⟩
    have es2 := sqt_old u1 o2 es
    refine ⟨_, rfl, _, rfl, sh, Dx, ns, nx, rfl, es2, xd, S, smN_lo sm, fun H3 s3 => ?_⟩
    have es3 := sqt_same es2 s3
    have xd3 := xd.same s3
    have u3 := u2.same s3
    have o3 := (o1.trans o2).trans (Old.of_same s3)
    have ascT := asc_stair nx ns
    have tl5 := stair_le S sm
    obtain ⟨lpA, lqA, eXA⟩ := id xd3
    have llA : lpA.length = (pl ns).length := lqA.length_eq
    refine ⟨_, rfl, _, rfl, fun ca dxA nxA ndxA nexA => ?_⟩
    have sA : Same H3 (upd (upd H3 dxA (.own ca)) ca (.ins C dxA [])) := (sub_same ndxA).trans (sub_same (by rw [upd_ne (Ne.symm nexA)]; exact nxA))
    refine ⟨ca, sh, Dx, dxA, ns, dictO lpA nx, rfl, upd_same, sqt_same es3 sA, S, sA _ _ eXA, ent_dictO S (fun t m => lqA.mem_iff.mp m) (by omega) sm, fun ZA oA stA => ⟨rfl, ?_⟩⟩
    rw [nums_dictO fun t m n => absurd (lqA.mem_iff.mpr m) n] at stA
    have tA : Same H3 ZA := fun b o e => oA _ _ (ne_of_none e nxA) (sA _ _ e)
    have es3 := sqt_same es3 tA
    have xd3 := xd3.same tA
    have u3 := u3.same tA
    have o3 := o3.trans (Old.of_same tA)
    refine ⟨ca, rfl, ins_of stA, ca, ns, nx, rfl, stA, S, smN_lo sm, fun H4 s4 => ⟨_, rfl, _, rfl, rfl, !decide (V.str (stairS nx ns) = V.str (stairS nx ns)), rfl, ?_⟩⟩
    rw [decide_eq_true rfl]
    refine ite2 (fun z => absurd z Bool.false_ne_true) (fun _ => ?_)
    have es3 := sqt_same es3 s4
    have xd3 := xd3.same s4
    have u3 := u3.same s4
    have o3 := o3.trans (Old.of_same s4)
    refine ⟨rfl, _, rfl, nx, ns, rfl, S, sm, fun H5 cb s5 stB => ?_⟩
    have es3 := sqt_same es3 s5
    have xd3 := xd3.same s5
    have u3 := u3.same s5
    have o3 := o3.trans (Old.of_same s5)
    obtain ⟨lpC, lqC, eXC⟩ := id xd3
    have llC : lpC.length = (pl ns).length := lqC.length_eq
    refine ⟨_, rfl, _, rfl, fun cc dxC nxC ndxC nexC => ?_⟩
    have sC : Same H5 (upd (upd H5 dxC (.own cc)) cc (.ins C dxC [])) := (sub_same ndxC).trans (sub_same (by rw [upd_ne (Ne.symm nexC)]; exact nxC))
    refine ⟨cc, sh, Dx, dxC, ns, dictO lpC nx, rfl, upd_same, sqt_same es3 sC, S, sC _ _ eXC, ent_dictO S (fun t m => lqC.mem_iff.mp m) (by omega) sm, fun ZC oC stC => ⟨rfl, ?_⟩⟩
    rw [nums_dictO fun t m n => absurd (lqC.mem_iff.mpr m) n] at stC
    have tC : Same H5 ZC := fun b o e => oC _ _ (ne_of_none e nxC) (sC _ _ e)
    have es3 := sqt_same es3 tC
    have xd3 := xd3.same tC
    have u3 := u3.same tC
    have o3 := o3.trans (Old.of_same tC)
    have stB := stB.same tC
    refine ⟨cb, .ref C, rfl, ins_of stB, stC.ty IC, nfC, cb, .ref cc, ns, _, rfl, stB, .inl ⟨cc, ns, _, rfl, stC, _, rfl, _, rfl, ?_⟩⟩
    rw [ne_false rfl]
    refine ite2 (fun z => absurd z Bool.false_ne_true) (fun _ => ?_)
    refine ⟨_, rfl, .str (stairS nx ns), rfl, .inl ⟨_, rfl, by omega, ascT⟩, fun H6 s6 => ⟨true, rfl, ite2 (fun z => absurd z Bool.false_ne_true) (fun _ => ?_)⟩⟩
    have es3 := sqt_same es3 s6
    have xd3 := xd3.same s6
    have u3 := u3.same s6
    have o3 := o3.trans (Old.of_same s6)
    clear stA stB stC
    generalize stairS nx ns = t at ascT tl5
    refine ⟨9, rfl, by decide, by decide, ?_⟩
    refine for_range (lo := 0) (n := 9) (fun i σ Z => (∃ y4 y5, σ = [some (.ref u), some (.ref sh), some (.ref Dx), some (.str t), y4, y5]) ∧ Old u H6 Z ∧ Urn Z u) ⟨⟨_, _, rfl⟩, fun _ _ _ h => h, u3⟩ ?_ ?_
    · rintro i σ Z hi ⟨⟨y4, y5, rfl⟩, oz, uz⟩
      refine ⟨_, rfl, _, rfl, u, t, rfl, uz, by omega, ascT, fun Z1 n o1 u1 nl nA => ?_⟩
      refine ⟨_, rfl, .str n, rfl, .inl ⟨n, rfl, by omega, nA⟩, fun Z2 s2 => ⟨true, rfl, ite2 (fun z => absurd z Bool.false_ne_true) (fun _ => ?_)⟩⟩
      refine ⟨_, rfl, _, rfl, u, n, rfl, u1.same s2, by omega, nA, fun Z3 m o3' u3' ml mA => ?_⟩
      refine ⟨.str m, rfl, .inl ⟨m, rfl, by omega, mA⟩, fun Z4 s4 => ⟨true, rfl, ite2 (fun z => absurd z Bool.false_ne_true) (fun _ => ?_)⟩⟩
      exact ⟨⟨_, _, rfl⟩, (((oz.trans o1).trans (Old.of_same s2)).trans o3').trans (Old.of_same s4), u3'.same s4⟩
    · rintro σ Z ⟨⟨y4, y5, rfl⟩, oz, uz⟩
      have es3 := sqt_old u3 oz es3
      have xd3 := xd3.old u3 oz
      have o3 := o3.trans oz
      refine ⟨_, rfl, (by show 1 ≤ sizeLine; decide), fun p1 n1 => ?_⟩
      have k1 := sub_same (o := .tup [V.str "7"]) n1
      have e1 : upd Z p1 (.tup [V.str "7"]) p1 = some (.tup [V.str "7"]) := upd_same
      have v1 := urn_ne uz n1
      have u1 := uz.same k1
      refine ⟨(by show 1 ≤ sizeLine; decide), fun p2 n2 => ?_⟩
      have k2 := sub_same (o := .lst [V.str "7"]) n2
      have e2 : upd (upd Z p1 (.tup [V.str "7"])) p2 (.lst [V.str "7"]) p2 = some (.lst [V.str "7"]) := upd_same
      have v2 := urn_ne u1 n2
      have u2 := u1.same k2
      refine fun p3 n3 => ?_
      have k3 := sub_same (o := .dT []) n3
      have e3 : upd (upd (upd Z p1 (.tup [V.str "7"])) p2 (.lst [V.str "7"])) p3 (.dT []) p3 = some (.dT []) := upd_same
      have v3 := urn_ne u2 n3
      have u3 := u2.same k3
      have kA := (k1.trans k2).trans k3
      have e1 := k3 _ _ (k2 _ _ e1)
      have e2 := k3 _ _ e2
      have es3 := sqt_same es3 kA
      have xd3 := xd3.same kA
      have o3 := o3.trans (Old.of_same kA)
      revert e1 e2 e3 u3 es3 xd3 o3
      generalize upd (upd (upd Z p1 (.tup [V.str "7"])) p2 (.lst [V.str "7"])) p3 (.dT []) = Z3
      intro e3 u3 e1 e2 es3 xd3 o3
      obtain ⟨lpE, lqE, eXE⟩ := id xd3
      have llE : lpE.length = (pl ns).length := lqE.length_eq
      refine ⟨_, rfl, _, rfl, fun ce dxE nxE ndxE nexE => ?_⟩
      have sE : Same Z3 (upd (upd Z3 dxE (.own ce)) ce (.ins C dxE [])) := (sub_same ndxE).trans (sub_same (by rw [upd_ne (Ne.symm nexE)]; exact nxE))
      refine ⟨ce, sh, Dx, dxE, ns, dictO lpE nx, rfl, upd_same, sqt_same es3 sE, S, sE _ _ eXE, ent_dictO S (fun t m => lqE.mem_iff.mp m) (by omega) sm, fun ZE oE stE => ⟨rfl, ?_⟩⟩
      have tE : Same Z3 ZE := fun b o e => oE _ _ (ne_of_none e nxE) (sE _ _ e)
      have vE := urn_ne u3 nxE
      refine ⟨(by show 7 ≤ sizeLine; decide), fun L nL => ?_⟩
      have u5 := u3.same tE
      have k5 := sub_same (o := .lst [V.non, V.int 7, V.bl true, V.ref p1, V.ref p2, V.ref p3, V.ref ce]) nL
      refine ⟨u, L, _, rfl, u5.same k5, upd_same, urn_ne u5 nL, (fun z => by cases z), (by show 7 ≤ 1000; decide), fun kk xx H9 ekk u9 bt9 => ?_⟩
      have o9 := ((o3.trans (Old.of_same tE)).trans (Old.of_same k5)).trans (Old.of_but bt9)
      have g : ∀ (b : Addr) (o : HO), b ≠ u → ZE b = some o → H9 b = some o := fun b o n e => Old.of_but bt9 _ _ n (k5 _ _ e)
      have st9 : StairO K H9 ce C ns ((pl ns).map (numAt (dictO lpE nx))) := (stE.same k5).old (u5.same k5) (Old.of_but bt9)
      refine ⟨xx, rfl, .inr (fun H10 s10 => ?_), fun H11 s11 => q _ (o9.trans (Old.of_same s11))⟩
      have m := List.mem_of_getElem? ekk
      simp only [List.mem_cons, List.not_mem_nil, or_false] at m
      rcases m with rfl | rfl | rfl | rfl | rfl | rfl | rfl
      · exact ⟨_, .base .non, kit_ty (by decide +kernel)⟩
      · exact ⟨_, .base (.int 7), kit_ty (by decide +kernel)⟩
      · exact ⟨_, .base (.bl true), kit_ty (by decide +kernel)⟩
      · exact ⟨_, .base (.tup (s10 _ _ (g _ _ v1 (tE _ _ e1)))), kit_ty (by decide +kernel)⟩
      · exact ⟨_, .base (.lst (s10 _ _ (g _ _ v2 (tE _ _ e2)))), kit_ty (by decide +kernel)⟩
      · exact ⟨_, .base (.dT (s10 _ _ (g _ _ v3 (tE _ _ e3)))), kit_ty (by decide +kernel)⟩
      · exact ⟨_, (st9.same s10).ty IC, ks⟩
end
end K07

/-! # the law -/
namespace K07
open PySem PySem.Spec PyProof.Rows L2 TL NumText RZ
theorem seq_upd {K : PySem.W.Frag} {Z Z1 Z2 : Hp} {a u : Addr} {xs : List V} (h : SqL K Z a xs) (n : Z u = none) (s : Same Z Z1) (o : Old u Z1 Z2) : SqL K Z2 a xs := by
  rcases h with (e | ⟨od, e⟩) | h
  · exact .inl (.inl (o _ _ (fun z => by rw [z, n] at e; cases e) (s _ _ e)))
  · exact .inl (.inr ⟨od, o _ _ (fun z => by rw [z, n] at e; cases e) (s _ _ e)⟩)
  · exact .inr h
theorem turns (z : Int) : -(2 ^ 62) ≤ (if (if z < 5 then z else 5) > 1 then (if z < 5 then z else 5) else 1) ∧ (if (if z < 5 then z else 5) > 1 then (if z < 5 then z else 5) else 1) < 2 ^ 62 ∧ (if (if z < 5 then z else 5) > 1 then (if z < 5 then z else 5) else 1) ≤ 5 := by
  split <;> split <;> omega
def texts : List Str := ["7", "2 5/3; 7", "0", "", "2 5", "2/3", "1 2 3/4 5/6; 1 2/3", "1; 2; 3; 4", "-0", "1 2/ 3", "1 2 3 4 5 6/1 2 3 4 5/1 2 3 4/1 2 3/1 2/1"]
def badT (t : Str) : Bool := !goodW (W3 t)
theorem told_ok : texts.map badT = [false, false, false, true, true, true, false, true, true, true, true] := by decide +kernel
theorem texts_le : ∀ t ∈ texts, t.length ≤ 6000 := by decide +kernel
def boolsD (l : List Bool) : PyData := .list (l.map .bool)
theorem dp_bools (K : PySem.W.Frag) (H : Hp) : ∀ l : List Bool, DpAll K H (l.map V.bl) (l.map .bool)
  | [] => .nil
  | b :: l => .cons (.bl b) (dp_bools K H l)
theorem bools_ok : SeqAt.shaped (boolsD [false, false, false, true, true, true, false, true, true, true, true]) = true ∧ PyData.eqv (boolsD [false, false, false, true, true, true, false, true, true, true, true]) (boolsD [false, false, false, true, true, true, false, true, true, true, true]) = true := by decide +kernel
section
variable {P : Program} {w : World} {K : PySem.W.Frag} {mg : Str → Option Value} {base : Heap} {C CS TL : Addr} {mc : Value}
abbrev s_law : Stmt := topS 62
theorem sc_law : FnScope ["_law_script", "_law_at", "_law_texts", "_law_text_here"] ["_law_script"] (defScope s_law) := ⟨rfl, rfl, rfl, by decide +kernel, rfl, by decide +kernel, by decide +kernel⟩
def spLaw (K : PySem.W.Frag) : Sp := fun vs H Q _ => ∃ (a : Addr) (ns : List Int), vs = [.ref a] ∧ SqL K H a (ns.map V.int) ∧ ns.length ≤ 63 ∧ ∀ H', Q (.bl true) H'
theorem ok_law {f f1 f2 f3 : Addr} {fd fd1 fd2 fd3 : FuncData} (T : Txt mg) (N : Nam mg) (d : D K mg "law" s_law ["_law_script"] f fd)
    (d1 : D K mg "_law_right" s_lrt ["_law_pot_here"] f1 fd1) (G1 : FnG P w K mg base CX0 13 f1 fd1 ["_law_pot_here"] spLRt)
    (d2 : D K mg "_law_pot" s_pot ["_law_script", "_law_at"] f2 fd2) (G2 : FnOk P w K mg base CX0 1 f2 fd2 ["_law_script", "_law_at"] (spUrn K))
    (d3 : D K mg "_law_read" s_lrd ["_law_text_here"] f3 fd3) (G3 : FnOk P w K mg base CX0 11 f3 fd3 ["_law_text_here"] (spLRd K)) : FnG P w K mg base CX0 14 f fd ["_law_script"] (spLaw K) := by
  refine FnG.of d.F sc_law (fun vs H Q E h => ?_) (fun cdv A outer s H vs Q E hn hr h => ?_)
  · obtain ⟨a, ns, rfl, _⟩ := h
    rfl
  · obtain ⟨a, ns, rfl, hS, hl, q⟩ := h
    have u64 : (A.deeper (envOfC "law" (defScope s_law) s.heap.objs.size f cdv)).units + 64 < cLine := by have := hr.un; omega
    refine ⟨_, (pss_cons (ps_for PassesOwn.never rfl (pi_range1 (by rfl) T.n_range (pa_cons (pe_callB (call_max2 rfl) (by rfl) T.n_max (by decide +kernel) (pa_cons pe_int (pa_cons (pe_callB (call_min2 rfl) (by rfl) T.n_min (by decide +kernel) (pa_cons pe_int (pa_cons (pe_callB call_len_seq (by rfl) T.n_len PySem.boot_len (pa_cons (pv 0) pa_nil)) pa_nil))) pa_nil))) pa_nil)) (pg_name (i := 1) sc_law.nd rfl (.inl rfl))
        (pss_one (ps_if (pt_not (pt_val (pe_callG G1 hn hr (by rfl) d1.g d1.F.kp d1.b (pa_cons (pe_call G2 (hr.mono (by decide)) (by rfl) d2.g d2.F.kp d2.b .nil pass0 (pa_cons (pv 0) (pa_cons (pv 1) pa_nil))) pa_nil)))) (pss_one (ps_ret pe_bl)) pss_nil)))
      (pss_cons (ps_set (i := 2) sc_law.nd rfl (.inl rfl) (pe_lst (pa_cons pe_str (pa_cons pe_str (pa_cons pe_str (pa_cons pe_str (pa_cons pe_str (pa_cons pe_str (pa_cons pe_str (pa_cons pe_str (pa_cons pe_str (pa_cons pe_str (pa_cons pe_str pa_nil)))))))))))))
      (pss_one (ps_ret (pe_cmpR (op_eqD u64) (pe_lc (own := [("_law_text_here", 3)]) (g := gName 3) (tt := tYes) rfl sc_law.nd (pi_list (pv 2)) (blkOk_by (own := [("_law_text_here", 3)]) (N := ["_law_script", "_law_at", "_law_texts", "_law_text_here"]) (sc := defScope s_law) (by decide +kernel))
            (fun _ _ _ _ _ => (pg_name (i := 3) sc_law.nd rfl (Or.inl rfl))) (fun _ _ _ _ _ => pts_nil) (fun _ _ _ _ _ => (pe_callB (call_isiK (K := K) rfl) (by rfl) T.n_isinstance (by decide +kernel) (pa_cons (pe_ix (ix_tupK (K := K) rfl) (pe_call G3 (hr.mono (by decide)) (by rfl) d3.g d3.F.kp d3.b .nil pass0 (pa_cons (pv 3) pa_nil)) pe_int (fun _ _ => rfl)) (pa_cons (pe_bltn (v := .ty "int") (by rfl) T.n_int (by decide +kernel) rfl) pa_nil))))) (pe_op op_cat (pe_op op_cat (pe_op op_cat (pe_lst (pa_cons pe_bl (pa_cons pe_bl (pa_cons pe_bl pa_nil)))) (pe_op op_rep (pe_lst (pa_cons pe_bl pa_nil)) pe_int)) (pe_lst (pa_cons pe_bl pa_nil))) (pe_op op_rep (pe_lst (pa_cons pe_bl pa_nil)) pe_int)) (nomark _)))))), ?_⟩
    obtain ⟨j0, j1, j2⟩ := turns (((ns.map V.int).length : Nat) : Int)
    refine ⟨.ref a, rfl, a, _, rfl, .inl hS, _, _, rfl, _, _, rfl, _, rfl, j0, j1, ?_⟩
    refine for_range (fun i σ Z => (∃ y1 y2 y3, σ = [some (.ref a), y1, y2, y3]) ∧ SqL K Z a (ns.map V.int)) ⟨⟨_, _, _, rfl⟩, hS⟩ ?_ ?_
    · rintro i σ Z hi ⟨⟨y1, y2, y3, rfl⟩, sz⟩
      refine ⟨_, rfl, _, rfl, a, i, ns, (by simp), sz, by omega, fun H1 u s1 n1 u1 => ?_⟩
      refine ⟨u, rfl, u1, fun H2 o2 => ⟨true, rfl, ite2 (fun z => absurd z Bool.false_ne_true) (fun _ => ?_)⟩⟩
      exact ⟨⟨_, _, _, rfl⟩, seq_upd sz n1 s1 o2⟩
    · rintro σ Z ⟨⟨y1, y2, y3, rfl⟩, sz⟩
      refine ⟨(by show 11 ≤ sizeLine; decide), fun L nL => ?_⟩
      have ek : texts.map V.str = [V.str "7", V.str "2 5/3; 7", V.str "0", V.str "", V.str "2 5", V.str "2/3", V.str "1 2 3/4 5/6; 1 2/3", V.str "1; 2; 3; 4", V.str "-0", V.str "1 2/ 3", V.str "1 2 3 4 5 6/1 2 3 4 5/1 2 3 4/1 2 3/1 2/1"] := rfl
      rw [← ek]
      have eL : upd Z L (.lst (texts.map V.str)) L = some (.lst (texts.map V.str)) := upd_same
      have le := texts_le
      have tl := told_ok
      have b11 : texts.length = 11 := rfl
      revert eL
      generalize upd Z L (.lst (texts.map V.str)) = Z1
      intro eL
      refine ⟨_, rfl, L, rfl, ⟨_, .inl (.inl eL)⟩, fun D nD => ?_⟩
      refine lc_list (K := K) (a := L) (xs := texts.map V.str) (fun i Y => Same Z1 Y ∧ Y D = some (.lst (((texts.take i).map badT).map V.bl))) ⟨sub_same nD, upd_same⟩ (fun i Y _ h => .inl (.inl (h.1 _ _ eL))) ?_ ?_
      · rintro i x Y hx ⟨sy, hd⟩
        obtain ⟨t, et, rfl⟩ := strs_get hx
        have il := (List.getElem?_eq_some_iff.mp et).1
        have t6 := le t (List.mem_of_getElem? et)
        have fin : ∀ (Y2 : Hp) (b : Bool), Same Y Y2 → badT t = b → Y2 D = some (.lst (((texts.take i).map badT).map V.bl)) ∧ (((texts.take i).map badT).map V.bl).length < sizeLine ∧ Same Z1 (upd Y2 D (.lst (((texts.take i).map badT).map V.bl ++ [V.bl b]))) ∧ upd Y2 D (.lst (((texts.take i).map badT).map V.bl ++ [V.bl b])) D = some (.lst (((texts.take (i + 1)).map badT).map V.bl)) := fun Y2 b s2 hb => by
          refine ⟨s2 _ _ hd, ?_, fun k ob e => ?_, ?_⟩
          · rw [List.length_map, List.length_map, List.length_take, sizeLine_eq]
            omega
          · rw [upd_ne (fun z => by rw [z, nD] at e; cases e)]
            exact s2 _ _ (sy _ _ e)
          · rw [upd_same, List.take_succ, et, List.map_append, List.map_append, ← hb]
            rfl
        refine ⟨rfl, yesT ⟨_, rfl, .str t, rfl, .inl ⟨t, rfl, t6, fun h0 Y2 p s2 ep => ?_, fun h1 Y2 p sh nm s2 ep es enm => ?_⟩⟩⟩
        · obtain ⟨f1, f2, f3, f4⟩ := fin Y2 true s2 (by unfold badT; rw [h0]; rfl)
          exact ⟨p, _, 1, _, rfl, rfl, .inl (.inl ep), atI_nat (j := 1) rfl, _, _, .type "int", _, true, rfl, .ty _, .base (.int 0), kit_ty (by decide +kernel), _, f1, f2, f3, f4⟩
        · obtain ⟨f1, f2, f3, f4⟩ := fin Y2 false s2 (by unfold badT; rw [h1]; rfl)
          exact ⟨p, _, 1, _, rfl, rfl, .inl (.inl ep), atI_nat (j := 1) rfl, _, _, .type "tuple", _, false, rfl, .ty _, .base (.tup enm), kit_ty (by decide +kernel), _, f1, f2, f3, f4⟩
      · rintro Y ⟨sy, hd⟩
        rw [List.length_map, List.take_length, tl] at hd
        generalize hV : [false, false, false, true, true, true, false, true, true, true, true] = V11 at hd
        refine ⟨(by show 3 ≤ sizeLine; decide), fun p1 n1 => ?_⟩
        have s1 := sub_same (o := .lst [V.bl false, V.bl false, V.bl false]) n1
        have e1 : upd Y p1 (.lst [V.bl false, V.bl false, V.bl false]) p1 = some (.lst [V.bl false, V.bl false, V.bl false]) := upd_same
        have hd := s1 _ _ hd
        revert e1 hd
        generalize upd Y p1 (.lst [V.bl false, V.bl false, V.bl false]) = Y1
        intro e1 hd
        refine ⟨(by show 1 ≤ sizeLine; decide), fun p2 n2 => ?_⟩
        have s2 := sub_same (o := .lst [V.bl true]) n2
        have e2 : upd Y1 p2 (.lst [V.bl true]) p2 = some (.lst [V.bl true]) := upd_same
        have hd := s2 _ _ hd
        have e1 := s2 _ _ e1
        revert e2 hd e1
        generalize upd Y1 p2 (.lst [V.bl true]) = Y2
        intro e2 hd e1
        refine ⟨p2, 3, [V.bl true], rfl, rfl, e2, by decide, by decide, by decide, fun p3 n3 => ?_⟩
        rw [show (List.replicate (Int.toNat 3) [V.bl true]).flatten = [V.bl true, V.bl true, V.bl true] from rfl]
        have s3 := sub_same (o := .lst [V.bl true, V.bl true, V.bl true]) n3
        have e3 : upd Y2 p3 (.lst [V.bl true, V.bl true, V.bl true]) p3 = some (.lst [V.bl true, V.bl true, V.bl true]) := upd_same
        have hd := s3 _ _ hd
        have e1 := s3 _ _ e1
        have e2 := s3 _ _ e2
        revert e3 hd e1 e2
        generalize upd Y2 p3 (.lst [V.bl true, V.bl true, V.bl true]) = Y3
        intro e3 hd e1 e2
        refine ⟨p1, p3, _, _, rfl, rfl, e1, e3, (by show 3 + 3 ≤ sizeLine; decide), fun p4 n4 => ?_⟩
        rw [show ([V.bl false, V.bl false, V.bl false] ++ [V.bl true, V.bl true, V.bl true] : List V) = [V.bl false, V.bl false, V.bl false, V.bl true, V.bl true, V.bl true] from rfl]
        have s4 := sub_same (o := .lst [V.bl false, V.bl false, V.bl false, V.bl true, V.bl true, V.bl true]) n4
        have e4 : upd Y3 p4 (.lst [V.bl false, V.bl false, V.bl false, V.bl true, V.bl true, V.bl true]) p4 = some (.lst [V.bl false, V.bl false, V.bl false, V.bl true, V.bl true, V.bl true]) := upd_same
        have hd := s4 _ _ hd
        have e1 := s4 _ _ e1
        have e2 := s4 _ _ e2
        have e3 := s4 _ _ e3
        revert e4 hd e1 e2 e3
        generalize upd Y3 p4 (.lst [V.bl false, V.bl false, V.bl false, V.bl true, V.bl true, V.bl true]) = Y4
        intro e4 hd e1 e2 e3
        refine ⟨(by show 1 ≤ sizeLine; decide), fun p5 n5 => ?_⟩
        have s5 := sub_same (o := .lst [V.bl false]) n5
        have e5 : upd Y4 p5 (.lst [V.bl false]) p5 = some (.lst [V.bl false]) := upd_same
        have hd := s5 _ _ hd
        have e1 := s5 _ _ e1
        have e2 := s5 _ _ e2
        have e3 := s5 _ _ e3
        have e4 := s5 _ _ e4
        revert e5 hd e1 e2 e3 e4
        generalize upd Y4 p5 (.lst [V.bl false]) = Y5
        intro e5 hd e1 e2 e3 e4
        refine ⟨p4, p5, _, _, rfl, rfl, e4, e5, (by show 6 + 1 ≤ sizeLine; decide), fun p6 n6 => ?_⟩
        rw [show ([V.bl false, V.bl false, V.bl false, V.bl true, V.bl true, V.bl true] ++ [V.bl false] : List V) = [V.bl false, V.bl false, V.bl false, V.bl true, V.bl true, V.bl true, V.bl false] from rfl]
        have s6 := sub_same (o := .lst [V.bl false, V.bl false, V.bl false, V.bl true, V.bl true, V.bl true, V.bl false]) n6
        have e6 : upd Y5 p6 (.lst [V.bl false, V.bl false, V.bl false, V.bl true, V.bl true, V.bl true, V.bl false]) p6 = some (.lst [V.bl false, V.bl false, V.bl false, V.bl true, V.bl true, V.bl true, V.bl false]) := upd_same
        have hd := s6 _ _ hd
        have e1 := s6 _ _ e1
        have e2 := s6 _ _ e2
        have e3 := s6 _ _ e3
        have e4 := s6 _ _ e4
        have e5 := s6 _ _ e5
        revert e6 hd e1 e2 e3 e4 e5
        generalize upd Y5 p6 (.lst [V.bl false, V.bl false, V.bl false, V.bl true, V.bl true, V.bl true, V.bl false]) = Y6
        intro e6 hd e1 e2 e3 e4 e5
        refine ⟨(by show 1 ≤ sizeLine; decide), fun p7 n7 => ?_⟩
        have s7 := sub_same (o := .lst [V.bl true]) n7
        have e7 : upd Y6 p7 (.lst [V.bl true]) p7 = some (.lst [V.bl true]) := upd_same
        have hd := s7 _ _ hd
        have e1 := s7 _ _ e1
        have e2 := s7 _ _ e2
        have e3 := s7 _ _ e3
        have e4 := s7 _ _ e4
        have e5 := s7 _ _ e5
        have e6 := s7 _ _ e6
        revert e7 hd e1 e2 e3 e4 e5 e6
        generalize upd Y6 p7 (.lst [V.bl true]) = Y7
        intro e7 hd e1 e2 e3 e4 e5 e6
        refine ⟨p7, 4, [V.bl true], rfl, rfl, e7, by decide, by decide, by decide, fun p8 n8 => ?_⟩
        rw [show (List.replicate (Int.toNat 4) [V.bl true]).flatten = [V.bl true, V.bl true, V.bl true, V.bl true] from rfl]
        have s8 := sub_same (o := .lst [V.bl true, V.bl true, V.bl true, V.bl true]) n8
        have e8 : upd Y7 p8 (.lst [V.bl true, V.bl true, V.bl true, V.bl true]) p8 = some (.lst [V.bl true, V.bl true, V.bl true, V.bl true]) := upd_same
        have hd := s8 _ _ hd
        have e1 := s8 _ _ e1
        have e2 := s8 _ _ e2
        have e3 := s8 _ _ e3
        have e4 := s8 _ _ e4
        have e5 := s8 _ _ e5
        have e6 := s8 _ _ e6
        have e7 := s8 _ _ e7
        revert e8 hd e1 e2 e3 e4 e5 e6 e7
        generalize upd Y7 p8 (.lst [V.bl true, V.bl true, V.bl true, V.bl true]) = Y8
        intro e8 hd e1 e2 e3 e4 e5 e6 e7
        refine ⟨p6, p8, _, _, rfl, rfl, e6, e8, (by show 7 + 4 ≤ sizeLine; decide), fun p9 n9 => ?_⟩
        rw [show ([V.bl false, V.bl false, V.bl false, V.bl true, V.bl true, V.bl true, V.bl false] ++ [V.bl true, V.bl true, V.bl true, V.bl true] : List V) = [V.bl false, V.bl false, V.bl false, V.bl true, V.bl true, V.bl true, V.bl false, V.bl true, V.bl true, V.bl true, V.bl true] from rfl]
        have s9 := sub_same (o := .lst [V.bl false, V.bl false, V.bl false, V.bl true, V.bl true, V.bl true, V.bl false, V.bl true, V.bl true, V.bl true, V.bl true]) n9
        have e9 : upd Y8 p9 (.lst [V.bl false, V.bl false, V.bl false, V.bl true, V.bl true, V.bl true, V.bl false, V.bl true, V.bl true, V.bl true, V.bl true]) p9 = some (.lst [V.bl false, V.bl false, V.bl false, V.bl true, V.bl true, V.bl true, V.bl false, V.bl true, V.bl true, V.bl true, V.bl true]) := upd_same
        have hd := s9 _ _ hd
        have e1 := s9 _ _ e1
        have e2 := s9 _ _ e2
        have e3 := s9 _ _ e3
        have e4 := s9 _ _ e4
        have e5 := s9 _ _ e5
        have e6 := s9 _ _ e6
        have e7 := s9 _ _ e7
        have e8 := s9 _ _ e8
        revert e9 hd e1 e2 e3 e4 e5 e6 e7 e8
        generalize upd Y8 p9 (.lst [V.bl false, V.bl false, V.bl false, V.bl true, V.bl true, V.bl true, V.bl false, V.bl true, V.bl true, V.bl true, V.bl true]) = Y9
        intro e9 hd e1 e2 e3 e4 e5 e6 e7 e8
        obtain ⟨k1, k2⟩ := bools_ok
        have dA : ∀ {b : Addr} {l : List Bool}, Y9 b = some (.lst (l.map V.bl)) → Dp K Y9 (.ref b) (boolsD l) := fun {b l} e => .lst (.inl (.inl e)) (dp_bools K _ l)
        rw [← hV] at hd
        refine ⟨_, _, dA hd, dA (l := [false, false, false, true, true, true, false, true, true, true, true]) e9, k1, k1, ?_⟩
        rw [k2]
        exact q _
end
end K07

namespace K07
open PySem PySem.Spec PyProof.Rows L2 PySem.HandSPX
theorem kit_self {K : PySem.W.Frag} (t : Value) : PySem.W.kitOne K t t = some true := by
  unfold PySem.W.kitOne
  rw [if_pos (beq_self_eq_true t)]
/-- an error of the class at S is what «except S» names -/
theorem exm_own {K : PySem.W.Frag} {S : Addr} (h1 : PySem.W.subIn K (.ref S) (.type "BaseException") = some true) (h2 : PySem.W.isClsIn K S = true) (h3 : PySem.W.typeIn K (.ref S) = some (.type "type")) (h4 : PySem.W.subIn K (.ref S) (.ref S) = some true) :
    PySem.W.exmOne K (.ref S) (.ref S) = some true := by
  have e1 : (PySem.W.subIn K (.ref S) (.type "BaseException") == some true) = true := by rw [h1] <;> rfl
  have e2 : ((PySem.W.clsIn K S).isSome && PySem.W.typeIn K (.ref S) == some (.type "type")) = true := by
    have h2' : (PySem.W.clsIn K S).isSome = true := h2
    rw [h2', h3] <;> rfl
  show (if (PySem.W.subIn K (.ref S) (.type "BaseException") == some true) = true then (if ((PySem.W.clsIn K S).isSome && PySem.W.typeIn K (.ref S) == some (.type "type")) = true then PySem.W.subIn K (.ref S) (.ref S) else none) else none) = some true
  rw [if_pos e1, if_pos e2]
  exact h4
theorem all_of {l : PySem.W.OpenLaw} {w : World} {K : PySem.W.Frag} {h : Heap} {mg : Str → Option Value} {fa : Addr} (X : K.In h) (G : h.Ns mainGlobals mg) (hfa : mg "law" = some (.ref fa))
    {C CS TL fI gD gS gN gT gR gQ fP pD qS qN qT : Addr} {rD rS rN rT : List Value}
    (aC : PySem.W.nsIn K mainGlobals "Stair" = some (some (.ref C)))
    (pg : PySem.W.plainGet K C Str.empty = true) (hd : PySem.W.hasDictIn K C = true) (po : PySem.W.plainOver K C = true) (sa : PySem.W.findIn K (.ref C) "__setattr__" = some (some (.builtin "object.__setattr__")))
    (nS : PySem.W.findIn K (.ref C) "_shape" = some none) (nP : PySem.W.findIn K (.ref C) "_plan" = some none) (nN : PySem.W.findIn K (.ref C) "_numbers" = some none)
    (ha : PySem.W.findIn K (.ref C) "__class__" = some (some (.builtin "object.__class__"))) (hn : PySem.W.specialIn K (.builtin "object.__class__") "__get__" = some (some (.builtin "getset_descriptor.__get__"))) (htk : PySem.W.takesIn K (.builtin "object.__class__") = some true) (hm : PySem.W.mroIn K C (.type "object") = some true) (ne : PySem.W.findIn K (.ref C) "__ne__" = some (some (.builtin "object.__ne__")))
    (sf : PySem.W.selfFirst K C = true) (nfC : PySem.W.notFirst K C (.ref C) = true) (ki : PySem.W.kitOne K (.ref C) (.type "int") = some false)
    (mks : PySem.W.makesIn K C = true) (ini : PySem.W.findIn K (.ref C) "__init__" = some (some (.ref fI))) (ifn : PySem.W.isFn K (.ref fI) = true) (kpC : PySem.W.keepIn K (.ref C) = true)
    (eR : PySem.W.findIn K (.ref C) "__str__" = some (some (.ref gR))) (iR : PySem.W.isFn K (.ref gR) = true)
    (eQ : PySem.W.findIn K (.ref C) "__eq__" = some (some (.ref gQ))) (iQ : PySem.W.isFn K (.ref gQ) = true)
    (pSa : PySem.W.findIn K (.ref C) "shape" = some (some (.ref qS))) (pSg : PySem.W.specialIn K (.ref qS) "__get__" = some (some (.builtin "property.__get__"))) (pSt : PySem.W.takesIn K (.ref qS) = some true) (pSr : PySem.W.recIn K qS "property" = some (.ref gS :: rS))
    (pNa : PySem.W.findIn K (.ref C) "numbers" = some (some (.ref qN))) (pNg : PySem.W.specialIn K (.ref qN) "__get__" = some (some (.builtin "property.__get__"))) (pNt : PySem.W.takesIn K (.ref qN) = some true) (pNr : PySem.W.recIn K qN "property" = some (.ref gN :: rN))
    (pTa : PySem.W.findIn K (.ref C) "tables" = some (some (.ref qT))) (pTg : PySem.W.specialIn K (.ref qT) "__get__" = some (some (.builtin "property.__get__"))) (pTt : PySem.W.takesIn K (.ref qT) = some true) (pTr : PySem.W.recIn K qT "property" = some (.ref gT :: rT))
    (rd : PySem.W.readsIn K C (.type "type") = true) (rga : PySem.W.specialIn K (.ref C) "__getattribute__" = some (some (.builtin "type.__getattribute__")))
    (cAD : PySem.W.findCls K (.ref C) (.type "type") "read" = some (.get (.builtin "classmethod.__get__") (.ref pD) .none (.ref C))) (cRD : PySem.W.recIn K pD "classmethod" = some (.ref gD :: rD)) (cFD : PySem.W.fnIn K gD = true)
    (aX : PySem.W.nsIn K mainGlobals "InvalidShape" = some (some (.ref CS))) (xX : PySem.W.excIn K CS [.type "ValueError", .type "Exception", .type "BaseException", .type "object"] "ValueError.__new__" = true) (kX : PySem.W.keepIn K (.ref CS) = true) (bX : PySem.W.subIn K (.ref CS) (.type "BaseException") = some true) (tX : PySem.W.typeIn K (.ref CS) = some (.type "type"))
    (ks : PySem.W.kitOne K (.ref C) (.type "str") = some false)
    {CP N0 : Addr} {nm qn : Str} {bs : List Value} {bm : List Value} {sn : List Str} {sub : List Value} {ab : Bool} {col : Option Bool} {dd : Option Addr} {m0 m1 m2 m3 m5 : Option Value} (aP : PySem.W.nsIn K mainGlobals "ParseError" = some (some (.ref CP)))
    (xP : K.lookup CP = some (excClassObj nm qn CP N0 bs bm true sn sub ab col dd m0 m1 m2 m3 m5 "ValueError.__new__"))
    (rP : PySem.HandSPX.refsVE bm = true)
    (saP : PySem.W.findIn K (.ref CP) "__setattr__" = some (some (.builtin "object.__setattr__")))
    (exP : PySem.W.subIn K (.ref CP) (.type "BaseException") = some true) (tyP : PySem.W.typeIn K (.ref CP) = some (.type "type")) (kPc : PySem.W.keepIn K (.ref CP) = true) (noP : PySem.W.findIn K (.ref CP) "spot" = some none) (iP : PySem.W.findIn K (.ref CP) "__init__" = some (some (.ref fP))) (tP : PySem.W.typeIn K (.ref fP) = some (.type "function"))
    (gaP : PySem.W.findIn K (.ref CP) "__getattribute__" = some (some (.builtin "BaseException.__getattribute__"))) (ggP : PySem.W.findIn K (.ref CP) "__getattr__" = some none) (hdP : PySem.W.hasDictIn K CP = true) (icP : PySem.W.isClsIn K CP = true)
    (sbP : PySem.W.subIn K (.ref CP) (.ref CP) = some true)
    {t0 : Tok} (cst0 : PySem.W.nsIn K mainGlobals "_MOST_BLOCKS" = some (some (.int 3 t0)))
    {t1 : Tok} (cst1 : PySem.W.nsIn K mainGlobals "_LEAST_SIZE" = some (some (.int 2 t1)))
    {t2 : Tok} (cst2 : PySem.W.nsIn K mainGlobals "_MOST_SIZE" = some (some (.int 6 t2)))
    {t3 : Tok} (cst3 : PySem.W.nsIn K mainGlobals "MAX_BOXES" = some (some (.int 8 t3)))
    {t4 : Tok} (cst4 : PySem.W.nsIn K mainGlobals "_LIMIT" = some (some (.int (10 ^ 60) t4)))
    {t_MAX_DIGITS : Tok} (cst_MAX_DIGITS : PySem.W.nsIn K mainGlobals "MAX_DIGITS" = some (some (.int 60 t_MAX_DIGITS)))
    {odTL : Option Addr} {slTL : Array (Option Value)} {tTL : Tok} {nTL : Nat} (aTL : PySem.W.nsIn K mainGlobals "_LEAST_SHAPE" = some (some (.ref TL))) (lTL : K.lookup TL = some ⟨.type "tuple", odTL, .seq #[.int 2 tTL] nTL, slTL⟩)
    (n_len : PySem.W.nsIn K mainGlobals "len" = some none)
    (n_abs : PySem.W.nsIn K mainGlobals "abs" = some none)
    (n_int : PySem.W.nsIn K mainGlobals "int" = some none)
    (n_bool : PySem.W.nsIn K mainGlobals "bool" = some none)
    (n_max : PySem.W.nsIn K mainGlobals "max" = some none)
    (n_min : PySem.W.nsIn K mainGlobals "min" = some none)
    (n_sum : PySem.W.nsIn K mainGlobals "sum" = some none)
    (n_tuple : PySem.W.nsIn K mainGlobals "tuple" = some none)
    (n_range : PySem.W.nsIn K mainGlobals "range" = some none)
    (n_repr : PySem.W.nsIn K mainGlobals "repr" = some none)
    (n_isinstance : PySem.W.nsIn K mainGlobals "isinstance" = some none)
    (n_reversed : PySem.W.nsIn K mainGlobals "reversed" = some none)
    (n_all : PySem.W.nsIn K mainGlobals "all" = some none)
    (n_any : PySem.W.nsIn K mainGlobals "any" = some none)
    (n_list : PySem.W.nsIn K mainGlobals "list" = some none)
    (n_dict : PySem.W.nsIn K mainGlobals "dict" = some none)
    (n_enumerate : PySem.W.nsIn K mainGlobals "enumerate" = some none)
    (n_sorted : PySem.W.nsIn K mainGlobals "sorted" = some none)
    (n_str : PySem.W.nsIn K mainGlobals "str" = some none)
    (n_zip : PySem.W.nsIn K mainGlobals "zip" = some none)
    {od_I an_I : Option Addr} {sl_I : Array (Option Value)} {oc_I kV_I dc_I pm_I cd_I ct_I : Value} (l_I : K.lookup fI = some ⟨oc_I, od_I, .func (PySem.W.fnOf "__init__" "Stair.__init__" (defArgs s_init) (defBody s_init) (defScope s_init) .none kV_I dc_I pm_I an_I cd_I ct_I), sl_I⟩) (c_I : PySem.W.codeIn K cd_I "Stair.__init__" = true) (k_I : PySem.W.keepIn K (.ref fI) = true)
    {od_D an_D : Option Addr} {sl_D : Array (Option Value)} {oc_D kV_D dc_D pm_D cd_D ct_D : Value} (l_D : K.lookup gD = some ⟨oc_D, od_D, .func (PySem.W.fnOf "read" "Stair.read" (defArgs s_read) (defBody s_read) (defScope s_read) .none kV_D dc_D pm_D an_D cd_D ct_D), sl_D⟩) (c_D : PySem.W.codeIn K cd_D "Stair.read" = true) (k_D : PySem.W.keepIn K (.ref gD) = true)
    {od_S an_S : Option Addr} {sl_S : Array (Option Value)} {oc_S kV_S dc_S pm_S cd_S ct_S : Value} (l_S : K.lookup gS = some ⟨oc_S, od_S, .func (PySem.W.fnOf "shape" "Stair.shape" (defArgs s_shp) (defBody s_shp) (defScope s_shp) .none kV_S dc_S pm_S an_S cd_S ct_S), sl_S⟩) (c_S : PySem.W.codeIn K cd_S "Stair.shape" = true) (k_S : PySem.W.keepIn K (.ref gS) = true)
    {od_N an_N : Option Addr} {sl_N : Array (Option Value)} {oc_N kV_N dc_N pm_N cd_N ct_N : Value} (l_N : K.lookup gN = some ⟨oc_N, od_N, .func (PySem.W.fnOf "numbers" "Stair.numbers" (defArgs s_nums) (defBody s_nums) (defScope s_nums) .none kV_N dc_N pm_N an_N cd_N ct_N), sl_N⟩) (c_N : PySem.W.codeIn K cd_N "Stair.numbers" = true) (k_N : PySem.W.keepIn K (.ref gN) = true)
    {od_T an_T : Option Addr} {sl_T : Array (Option Value)} {oc_T kV_T dc_T pm_T cd_T ct_T : Value} (l_T : K.lookup gT = some ⟨oc_T, od_T, .func (PySem.W.fnOf "tables" "Stair.tables" (defArgs s_tabs) (defBody s_tabs) (defScope s_tabs) .none kV_T dc_T pm_T an_T cd_T ct_T), sl_T⟩) (c_T : PySem.W.codeIn K cd_T "Stair.tables" = true) (k_T : PySem.W.keepIn K (.ref gT) = true)
    {od_R an_R : Option Addr} {sl_R : Array (Option Value)} {oc_R kV_R dc_R pm_R cd_R ct_R : Value} (l_R : K.lookup gR = some ⟨oc_R, od_R, .func (PySem.W.fnOf "__str__" "Stair.__str__" (defArgs s_str) (defBody s_str) (defScope s_str) .none kV_R dc_R pm_R an_R cd_R ct_R), sl_R⟩) (c_R : PySem.W.codeIn K cd_R "Stair.__str__" = true) (k_R : PySem.W.keepIn K (.ref gR) = true)
    {od_Q an_Q : Option Addr} {sl_Q : Array (Option Value)} {oc_Q kV_Q dc_Q pm_Q cd_Q ct_Q : Value} (l_Q : K.lookup gQ = some ⟨oc_Q, od_Q, .func (PySem.W.fnOf "__eq__" "Stair.__eq__" (defArgs s_seq) (defBody s_seq) (defScope s_seq) .none kV_Q dc_Q pm_Q an_Q cd_Q ct_Q), sl_Q⟩) (c_Q : PySem.W.codeIn K cd_Q "Stair.__eq__" = true) (k_Q : PySem.W.keepIn K (.ref gQ) = true)
    {od_P an_P : Option Addr} {sl_P : Array (Option Value)} {oc_P kV_P dc_P pm_P cd_P ct_P : Value} (l_P : K.lookup fP = some ⟨oc_P, od_P, .func (PySem.W.fnOf "__init__" "ParseError.__init__" (defArgs s_pinit) (defBody s_pinit) (defScope s_pinit) .none kV_P dc_P pm_P an_P cd_P ct_P), sl_P⟩) (c_P : PySem.W.codeIn K cd_P "ParseError.__init__" = true) (k_P : PySem.W.keepIn K (.ref fP) = true)
    {f0 : Addr} {od0 an0 : Option Addr} {sl0 : Array (Option Value)} {oc0 kV0 dc0 pm0 cd0 ct0 : Value} (a0 : PySem.W.nsIn K mainGlobals "is_whole" = some (some (.ref f0))) (l0 : K.lookup f0 = some ⟨oc0, od0, .func (PySem.W.fnOf "is_whole" "is_whole" (defArgs s_is_whole) (defBody s_is_whole) (defScope s_is_whole) .none kV0 dc0 pm0 an0 cd0 ct0), sl0⟩) (c0 : PySem.W.codeIn K cd0 "is_whole" = true) (k0 : PySem.W.keepIn K (.ref f0) = true)
    {f1 : Addr} {od1 an1 : Option Addr} {sl1 : Array (Option Value)} {oc1 kV1 dc1 pm1 cd1 ct1 : Value} (a1 : PySem.W.nsIn K mainGlobals "is_integer" = some (some (.ref f1))) (l1 : K.lookup f1 = some ⟨oc1, od1, .func (PySem.W.fnOf "is_integer" "is_integer" (defArgs s_is_integer) (defBody s_is_integer) (defScope s_is_integer) .none kV1 dc1 pm1 an1 cd1 ct1), sl1⟩) (c1 : PySem.W.codeIn K cd1 "is_integer" = true) (k1 : PySem.W.keepIn K (.ref f1) = true)
    {f2 : Addr} {od2 an2 : Option Addr} {sl2 : Array (Option Value)} {oc2 kV2 dc2 pm2 cd2 ct2 : Value} (a2 : PySem.W.nsIn K mainGlobals "is_between" = some (some (.ref f2))) (l2 : K.lookup f2 = some ⟨oc2, od2, .func (PySem.W.fnOf "is_between" "is_between" (defArgs s_is_between) (defBody s_is_between) (defScope s_is_between) .none kV2 dc2 pm2 an2 cd2 ct2), sl2⟩) (c2 : PySem.W.codeIn K cd2 "is_between" = true) (k2 : PySem.W.keepIn K (.ref f2) = true)
    {f3 : Addr} {od3 an3 : Option Addr} {sl3 : Array (Option Value)} {oc3 kV3 dc3 pm3 cd3 ct3 : Value} (a3 : PySem.W.nsIn K mainGlobals "is_index" = some (some (.ref f3))) (l3 : K.lookup f3 = some ⟨oc3, od3, .func (PySem.W.fnOf "is_index" "is_index" (defArgs s_is_index) (defBody s_is_index) (defScope s_is_index) .none kV3 dc3 pm3 an3 cd3 ct3), sl3⟩) (c3 : PySem.W.codeIn K cd3 "is_index" = true) (k3 : PySem.W.keepIn K (.ref f3) = true)
    {f4 : Addr} {od4 an4 : Option Addr} {sl4 : Array (Option Value)} {oc4 kV4 dc4 pm4 cd4 ct4 : Value} (a4 : PySem.W.nsIn K mainGlobals "is_shape" = some (some (.ref f4))) (l4 : K.lookup f4 = some ⟨oc4, od4, .func (PySem.W.fnOf "is_shape" "is_shape" (defArgs s_is_shape) (defBody s_is_shape) (defScope s_is_shape) .none kV4 dc4 pm4 an4 cd4 ct4), sl4⟩) (c4 : PySem.W.codeIn K cd4 "is_shape" = true) (k4 : PySem.W.keepIn K (.ref f4) = true)
    {f5 : Addr} {od5 an5 : Option Addr} {sl5 : Array (Option Value)} {oc5 kV5 dc5 pm5 cd5 ct5 : Value} (a5 : PySem.W.nsIn K mainGlobals "check_shape" = some (some (.ref f5))) (l5 : K.lookup f5 = some ⟨oc5, od5, .func (PySem.W.fnOf "check_shape" "check_shape" (defArgs s_check) (defBody s_check) (defScope s_check) .none kV5 dc5 pm5 an5 cd5 ct5), sl5⟩) (c5 : PySem.W.codeIn K cd5 "check_shape" = true) (k5 : PySem.W.keepIn K (.ref f5) = true)
    {f6 : Addr} {od6 an6 : Option Addr} {sl6 : Array (Option Value)} {oc6 kV6 dc6 pm6 cd6 ct6 : Value} (a6 : PySem.W.nsIn K mainGlobals "places" = some (some (.ref f6))) (l6 : K.lookup f6 = some ⟨oc6, od6, .func (PySem.W.fnOf "places" "places" (defArgs s_places) (defBody s_places) (defScope s_places) .none kV6 dc6 pm6 an6 cd6 ct6), sl6⟩) (c6 : PySem.W.codeIn K cd6 "places" = true) (k6 : PySem.W.keepIn K (.ref f6) = true)
    {f7 : Addr} {od7 an7 : Option Addr} {sl7 : Array (Option Value)} {oc7 kV7 dc7 pm7 cd7 ct7 : Value} (a7 : PySem.W.nsIn K mainGlobals "is_place" = some (some (.ref f7))) (l7 : K.lookup f7 = some ⟨oc7, od7, .func (PySem.W.fnOf "is_place" "is_place" (defArgs s_place) (defBody s_place) (defScope s_place) .none kV7 dc7 pm7 an7 cd7 ct7), sl7⟩) (c7 : PySem.W.codeIn K cd7 "is_place" = true) (k7 : PySem.W.keepIn K (.ref f7) = true)
    {f8 : Addr} {od8 an8 : Option Addr} {sl8 : Array (Option Value)} {oc8 kV8 dc8 pm8 cd8 ct8 : Value} (a8 : PySem.W.nsIn K mainGlobals "plan_of" = some (some (.ref f8))) (l8 : K.lookup f8 = some ⟨oc8, od8, .func (PySem.W.fnOf "plan_of" "plan_of" (defArgs s_plan) (defBody s_plan) (defScope s_plan) .none kV8 dc8 pm8 an8 cd8 ct8), sl8⟩) (c8 : PySem.W.codeIn K cd8 "plan_of" = true) (k8 : PySem.W.keepIn K (.ref f8) = true)
    {f9 : Addr} {od9 an9 : Option Addr} {sl9 : Array (Option Value)} {oc9 kV9 dc9 pm9 cd9 ct9 : Value} (a9 : PySem.W.nsIn K mainGlobals "are_entries" = some (some (.ref f9))) (l9 : K.lookup f9 = some ⟨oc9, od9, .func (PySem.W.fnOf "are_entries" "are_entries" (defArgs s_ents) (defBody s_ents) (defScope s_ents) .none kV9 dc9 pm9 an9 cd9 ct9), sl9⟩) (c9 : PySem.W.codeIn K cd9 "are_entries" = true) (k9 : PySem.W.keepIn K (.ref f9) = true)
    {f10 : Addr} {od10 an10 : Option Addr} {sl10 : Array (Option Value)} {oc10 kV10 dc10 pm10 cd10 ct10 : Value} (a10 : PySem.W.nsIn K mainGlobals "table_entry" = some (some (.ref f10))) (l10 : K.lookup f10 = some ⟨oc10, od10, .func (PySem.W.fnOf "table_entry" "table_entry" (defArgs s_tent) (defBody s_tent) (defScope s_tent) .none kV10 dc10 pm10 an10 cd10 ct10), sl10⟩) (c10 : PySem.W.codeIn K cd10 "table_entry" = true) (k10 : PySem.W.keepIn K (.ref f10) = true)
    {f11 : Addr} {od11 an11 : Option Addr} {sl11 : Array (Option Value)} {oc11 kV11 dc11 pm11 cd11 ct11 : Value} (a11 : PySem.W.nsIn K mainGlobals "table_of" = some (some (.ref f11))) (l11 : K.lookup f11 = some ⟨oc11, od11, .func (PySem.W.fnOf "table_of" "table_of" (defArgs s_tof) (defBody s_tof) (defScope s_tof) .none kV11 dc11 pm11 an11 cd11 ct11), sl11⟩) (c11 : PySem.W.codeIn K cd11 "table_of" = true) (k11 : PySem.W.keepIn K (.ref f11) = true)
    {f12 : Addr} {od12 an12 : Option Addr} {sl12 : Array (Option Value)} {oc12 kV12 dc12 pm12 cd12 ct12 : Value} (a12 : PySem.W.nsIn K mainGlobals "read_integer" = some (some (.ref f12))) (l12 : K.lookup f12 = some ⟨oc12, od12, .func (PySem.W.fnOf "read_integer" "read_integer" (defArgs s_read_integer) (defBody s_read_integer) (defScope s_read_integer) .none kV12 dc12 pm12 an12 cd12 ct12), sl12⟩) (c12 : PySem.W.codeIn K cd12 "read_integer" = true) (k12 : PySem.W.keepIn K (.ref f12) = true)
    {f13 : Addr} {od13 an13 : Option Addr} {sl13 : Array (Option Value)} {oc13 kV13 dc13 pm13 cd13 ct13 : Value} (a13 : PySem.W.nsIn K mainGlobals "text_of" = some (some (.ref f13))) (l13 : K.lookup f13 = some ⟨oc13, od13, .func (PySem.W.fnOf "text_of" "text_of" (defArgs s_text) (defBody s_text) (defScope s_text) .none kV13 dc13 pm13 an13 cd13 ct13), sl13⟩) (c13 : PySem.W.codeIn K cd13 "text_of" = true) (k13 : PySem.W.keepIn K (.ref f13) = true)
    {f14 : Addr} {od14 an14 : Option Addr} {sl14 : Array (Option Value)} {oc14 kV14 dc14 pm14 cd14 ct14 : Value} (a14 : PySem.W.nsIn K mainGlobals "are_rows" = some (some (.ref f14))) (l14 : K.lookup f14 = some ⟨oc14, od14, .func (PySem.W.fnOf "are_rows" "are_rows" (defArgs s_rows) (defBody s_rows) (defScope s_rows) .none kV14 dc14 pm14 an14 cd14 ct14), sl14⟩) (c14 : PySem.W.codeIn K cd14 "are_rows" = true) (k14 : PySem.W.keepIn K (.ref f14) = true)
    {f15 : Addr} {od15 an15 : Option Addr} {sl15 : Array (Option Value)} {oc15 kV15 dc15 pm15 cd15 ct15 : Value} (a15 : PySem.W.nsIn K mainGlobals "blocks_of" = some (some (.ref f15))) (l15 : K.lookup f15 = some ⟨oc15, od15, .func (PySem.W.fnOf "blocks_of" "blocks_of" (defArgs s_blks) (defBody s_blks) (defScope s_blks) .none kV15 dc15 pm15 an15 cd15 ct15), sl15⟩) (c15 : PySem.W.codeIn K cd15 "blocks_of" = true) (k15 : PySem.W.keepIn K (.ref f15) = true)
    {f16 : Addr} {od16 an16 : Option Addr} {sl16 : Array (Option Value)} {oc16 kV16 dc16 pm16 cd16 ct16 : Value} (a16 : PySem.W.nsIn K mainGlobals "entries_of" = some (some (.ref f16))) (l16 : K.lookup f16 = some ⟨oc16, od16, .func (PySem.W.fnOf "entries_of" "entries_of" (defArgs s_eof) (defBody s_eof) (defScope s_eof) .none kV16 dc16 pm16 an16 cd16 ct16), sl16⟩) (c16 : PySem.W.codeIn K cd16 "entries_of" = true) (k16 : PySem.W.keepIn K (.ref f16) = true)
    {f17 : Addr} {od17 an17 : Option Addr} {sl17 : Array (Option Value)} {oc17 kV17 dc17 pm17 cd17 ct17 : Value} (a17 : PySem.W.nsIn K mainGlobals "_law_pot" = some (some (.ref f17))) (l17 : K.lookup f17 = some ⟨oc17, od17, .func (PySem.W.fnOf "_law_pot" "_law_pot" (defArgs s_pot) (defBody s_pot) (defScope s_pot) .none kV17 dc17 pm17 an17 cd17 ct17), sl17⟩) (c17 : PySem.W.codeIn K cd17 "_law_pot" = true) (k17 : PySem.W.keepIn K (.ref f17) = true)
    {f18 : Addr} {od18 an18 : Option Addr} {sl18 : Array (Option Value)} {oc18 kV18 dc18 pm18 cd18 ct18 : Value} (a18 : PySem.W.nsIn K mainGlobals "_law_dip" = some (some (.ref f18))) (l18 : K.lookup f18 = some ⟨oc18, od18, .func (PySem.W.fnOf "_law_dip" "_law_dip" (defArgs s_dip) (defBody s_dip) (defScope s_dip) .none kV18 dc18 pm18 an18 cd18 ct18), sl18⟩) (c18 : PySem.W.codeIn K cd18 "_law_dip" = true) (k18 : PySem.W.keepIn K (.ref f18) = true)
    {f19 : Addr} {od19 an19 : Option Addr} {sl19 : Array (Option Value)} {oc19 kV19 dc19 pm19 cd19 ct19 : Value} (a19 : PySem.W.nsIn K mainGlobals "_law_pick" = some (some (.ref f19))) (l19 : K.lookup f19 = some ⟨oc19, od19, .func (PySem.W.fnOf "_law_pick" "_law_pick" (defArgs s_pick) (defBody s_pick) (defScope s_pick) .none kV19 dc19 pm19 an19 cd19 ct19), sl19⟩) (c19 : PySem.W.codeIn K cd19 "_law_pick" = true) (k19 : PySem.W.keepIn K (.ref f19) = true)
    {f20 : Addr} {od20 an20 : Option Addr} {sl20 : Array (Option Value)} {oc20 kV20 dc20 pm20 cd20 ct20 : Value} (a20 : PySem.W.nsIn K mainGlobals "_law_shaken" = some (some (.ref f20))) (l20 : K.lookup f20 = some ⟨oc20, od20, .func (PySem.W.fnOf "_law_shaken" "_law_shaken" (defArgs s_shak) (defBody s_shak) (defScope s_shak) .none kV20 dc20 pm20 an20 cd20 ct20), sl20⟩) (c20 : PySem.W.codeIn K cd20 "_law_shaken" = true) (k20 : PySem.W.keepIn K (.ref f20) = true)
    {f21 : Addr} {od21 an21 : Option Addr} {sl21 : Array (Option Value)} {oc21 kV21 dc21 pm21 cd21 ct21 : Value} (a21 : PySem.W.nsIn K mainGlobals "_law_places" = some (some (.ref f21))) (l21 : K.lookup f21 = some ⟨oc21, od21, .func (PySem.W.fnOf "_law_places" "_law_places" (defArgs s_lplaces) (defBody s_lplaces) (defScope s_lplaces) .none kV21 dc21 pm21 an21 cd21 ct21), sl21⟩) (c21 : PySem.W.codeIn K cd21 "_law_places" = true) (k21 : PySem.W.keepIn K (.ref f21) = true)
    {f22 : Addr} {od22 an22 : Option Addr} {sl22 : Array (Option Value)} {oc22 kV22 dc22 pm22 cd22 ct22 : Value} (a22 : PySem.W.nsIn K mainGlobals "_law_shape" = some (some (.ref f22))) (l22 : K.lookup f22 = some ⟨oc22, od22, .func (PySem.W.fnOf "_law_shape" "_law_shape" (defArgs s_lshape) (defBody s_lshape) (defScope s_lshape) .none kV22 dc22 pm22 an22 cd22 ct22), sl22⟩) (c22 : PySem.W.codeIn K cd22 "_law_shape" = true) (k22 : PySem.W.keepIn K (.ref f22) = true)
    {f23 : Addr} {od23 an23 : Option Addr} {sl23 : Array (Option Value)} {oc23 kV23 dc23 pm23 cd23 ct23 : Value} (a23 : PySem.W.nsIn K mainGlobals "_law_number" = some (some (.ref f23))) (l23 : K.lookup f23 = some ⟨oc23, od23, .func (PySem.W.fnOf "_law_number" "_law_number" (defArgs s_lnum) (defBody s_lnum) (defScope s_lnum) .none kV23 dc23 pm23 an23 cd23 ct23), sl23⟩) (c23 : PySem.W.codeIn K cd23 "_law_number" = true) (k23 : PySem.W.keepIn K (.ref f23) = true)
    {f24 : Addr} {od24 an24 : Option Addr} {sl24 : Array (Option Value)} {oc24 kV24 dc24 pm24 cd24 ct24 : Value} (a24 : PySem.W.nsIn K mainGlobals "_law_entries" = some (some (.ref f24))) (l24 : K.lookup f24 = some ⟨oc24, od24, .func (PySem.W.fnOf "_law_entries" "_law_entries" (defArgs s_lent) (defBody s_lent) (defScope s_lent) .none kV24 dc24 pm24 an24 cd24 ct24), sl24⟩) (c24 : PySem.W.codeIn K cd24 "_law_entries" = true) (k24 : PySem.W.keepIn K (.ref f24) = true)
    {f25 : Addr} {od25 an25 : Option Addr} {sl25 : Array (Option Value)} {oc25 kV25 dc25 pm25 cd25 ct25 : Value} (a25 : PySem.W.nsIn K mainGlobals "_law_text" = some (some (.ref f25))) (l25 : K.lookup f25 = some ⟨oc25, od25, .func (PySem.W.fnOf "_law_text" "_law_text" (defArgs s_ltext) (defBody s_ltext) (defScope s_ltext) .none kV25 dc25 pm25 an25 cd25 ct25), sl25⟩) (c25 : PySem.W.codeIn K cd25 "_law_text" = true) (k25 : PySem.W.keepIn K (.ref f25) = true)
    {f26 : Addr} {od26 an26 : Option Addr} {sl26 : Array (Option Value)} {oc26 kV26 dc26 pm26 cd26 ct26 : Value} (a26 : PySem.W.nsIn K mainGlobals "_law_integer" = some (some (.ref f26))) (l26 : K.lookup f26 = some ⟨oc26, od26, .func (PySem.W.fnOf "_law_integer" "_law_integer" (defArgs s_lint) (defBody s_lint) (defScope s_lint) .none kV26 dc26 pm26 an26 cd26 ct26), sl26⟩) (c26 : PySem.W.codeIn K cd26 "_law_integer" = true) (k26 : PySem.W.keepIn K (.ref f26) = true)
    {f27 : Addr} {od27 an27 : Option Addr} {sl27 : Array (Option Value)} {oc27 kV27 dc27 pm27 cd27 ct27 : Value} (a27 : PySem.W.nsIn K mainGlobals "_law_block" = some (some (.ref f27))) (l27 : K.lookup f27 = some ⟨oc27, od27, .func (PySem.W.fnOf "_law_block" "_law_block" (defArgs s_lbk) (defBody s_lbk) (defScope s_lbk) .none kV27 dc27 pm27 an27 cd27 ct27), sl27⟩) (c27 : PySem.W.codeIn K cd27 "_law_block" = true) (k27 : PySem.W.keepIn K (.ref f27) = true)
    {f28 : Addr} {od28 an28 : Option Addr} {sl28 : Array (Option Value)} {oc28 kV28 dc28 pm28 cd28 ct28 : Value} (a28 : PySem.W.nsIn K mainGlobals "_law_meant" = some (some (.ref f28))) (l28 : K.lookup f28 = some ⟨oc28, od28, .func (PySem.W.fnOf "_law_meant" "_law_meant" (defArgs s_lmea) (defBody s_lmea) (defScope s_lmea) .none kV28 dc28 pm28 an28 cd28 ct28), sl28⟩) (c28 : PySem.W.codeIn K cd28 "_law_meant" = true) (k28 : PySem.W.keepIn K (.ref f28) = true)
    {f29 : Addr} {od29 an29 : Option Addr} {sl29 : Array (Option Value)} {oc29 kV29 dc29 pm29 cd29 ct29 : Value} (a29 : PySem.W.nsIn K mainGlobals "_law_spoilt" = some (some (.ref f29))) (l29 : K.lookup f29 = some ⟨oc29, od29, .func (PySem.W.fnOf "_law_spoilt" "_law_spoilt" (defArgs s_lspo) (defBody s_lspo) (defScope s_lspo) .none kV29 dc29 pm29 an29 cd29 ct29), sl29⟩) (c29 : PySem.W.codeIn K cd29 "_law_spoilt" = true) (k29 : PySem.W.keepIn K (.ref f29) = true)
    {f30 : Addr} {od30 an30 : Option Addr} {sl30 : Array (Option Value)} {oc30 kV30 dc30 pm30 cd30 ct30 : Value} (a30 : PySem.W.nsIn K mainGlobals "_law_read" = some (some (.ref f30))) (l30 : K.lookup f30 = some ⟨oc30, od30, .func (PySem.W.fnOf "_law_read" "_law_read" (defArgs s_lrd) (defBody s_lrd) (defScope s_lrd) .none kV30 dc30 pm30 an30 cd30 ct30), sl30⟩) (c30 : PySem.W.codeIn K cd30 "_law_read" = true) (k30 : PySem.W.keepIn K (.ref f30) = true)
    {f31 : Addr} {od31 an31 : Option Addr} {sl31 : Array (Option Value)} {oc31 kV31 dc31 pm31 cd31 ct31 : Value} (a31 : PySem.W.nsIn K mainGlobals "_law_is_read" = some (some (.ref f31))) (l31 : K.lookup f31 = some ⟨oc31, od31, .func (PySem.W.fnOf "_law_is_read" "_law_is_read" (defArgs s_lir) (defBody s_lir) (defScope s_lir) .none kV31 dc31 pm31 an31 cd31 ct31), sl31⟩) (c31 : PySem.W.codeIn K cd31 "_law_is_read" = true) (k31 : PySem.W.keepIn K (.ref f31) = true)
    {f32 : Addr} {od32 an32 : Option Addr} {sl32 : Array (Option Value)} {oc32 kV32 dc32 pm32 cd32 ct32 : Value} (a32 : PySem.W.nsIn K mainGlobals "_law_right" = some (some (.ref f32))) (l32 : K.lookup f32 = some ⟨oc32, od32, .func (PySem.W.fnOf "_law_right" "_law_right" (defArgs s_lrt) (defBody s_lrt) (defScope s_lrt) .none kV32 dc32 pm32 an32 cd32 ct32), sl32⟩) (c32 : PySem.W.codeIn K cd32 "_law_right" = true) (k32 : PySem.W.keepIn K (.ref f32) = true)
    {f33 : Addr} {od33 an33 : Option Addr} {sl33 : Array (Option Value)} {oc33 kV33 dc33 pm33 cd33 ct33 : Value} (a33 : PySem.W.nsIn K mainGlobals "law" = some (some (.ref f33))) (l33 : K.lookup f33 = some ⟨oc33, od33, .func (PySem.W.fnOf "law" "law" (defArgs s_law) (defBody s_law) (defScope s_law) .none kV33 dc33 pm33 an33 cd33 ct33), sl33⟩) (c33 : PySem.W.codeIn K cd33 "law" = true) (k33 : PySem.W.keepIn K (.ref f33) = true) :
    ∃ fd : FuncData, (∀ (s : Shared) (u : Value), BindsTo s fd ⟨[u], []⟩ [("_law_script", u)]) ∧ ∀ base : Heap, K.In base → base.Ns mainGlobals mg → FnG l.prog w K mg base CX0 14 fa fd ["_law_script"] (spLaw K) := by
  have e := hfa.symm.trans (PySem.W.mg_of X G a33)
  cases e
  have cls : Cls K C := ⟨pg, hd, po, sa⟩
  have R : SC K mg C := ⟨cls, nS, nP, nN, PySem.W.mg_of X G aC⟩
  have IC : C8.InsC K C := ⟨cls, ha, hn, htk, hm, kit_self _⟩
  have own : kit K (.ref C) (.ref C) true := kit_self _
  have mk : Mk K C fI := ⟨mks, ini, ifn, kpC⟩
  have O : OpX K mg "InvalidShape" CS := ⟨xX, PySem.W.mg_of X G aX, kX, bX, tX⟩
  have nz : mg "zip" = none := PySem.W.mg_none_of X G n_zip
  have least : ∀ H : Hp, SqT K H TL ([2].map V.int) := fun H => .inr ⟨_, _, _, lTL, rfl, rfl, by show 1 ≤ sizeLine; decide, .cons ⟨_, rfl⟩ .nil⟩
  have T : Txt mg := ⟨PySem.W.mg_none_of X G n_len, PySem.W.mg_none_of X G n_abs, PySem.W.mg_none_of X G n_int, PySem.W.mg_none_of X G n_bool, PySem.W.mg_none_of X G n_max, PySem.W.mg_none_of X G n_min, PySem.W.mg_none_of X G n_sum, PySem.W.mg_none_of X G n_tuple, PySem.W.mg_none_of X G n_range, PySem.W.mg_none_of X G n_repr, PySem.W.mg_none_of X G n_isinstance, PySem.W.mg_none_of X G n_reversed⟩
  have N : Nam mg := ⟨PySem.W.mg_none_of X G n_all, PySem.W.mg_none_of X G n_any, PySem.W.mg_none_of X G n_list, PySem.W.mg_none_of X G n_dict, PySem.W.mg_none_of X G n_enumerate, PySem.W.mg_none_of X G n_sorted, PySem.W.mg_none_of X G n_str, ⟨_, PySem.W.mg_of X G cst0⟩, ⟨_, PySem.W.mg_of X G cst1⟩, ⟨_, PySem.W.mg_of X G cst2⟩, ⟨_, PySem.W.mg_of X G cst3⟩, ⟨_, PySem.W.mg_of X G cst4⟩⟩
  have F_I := fun_mk (st := s_init) l_I c_I k_I
  have M_I : M K "__init__" "Stair.__init__" s_init ["self", "shape", "entries"] fI _ := ⟨F_I, F_I.binds (ps := ["self", "shape", "entries"]) fun _ _ _ _ _ _ us hl => match us, hl with | [_, _, _], _ => rfl⟩
  have F_D := fun_mk (st := s_read) l_D c_D k_D
  have M_D : M K "read" "Stair.read" s_read ["cls", "text"] gD _ := ⟨F_D, F_D.binds (ps := ["cls", "text"]) fun _ _ _ _ _ _ us hl => match us, hl with | [_, _], _ => rfl⟩
  have F_S := fun_mk (st := s_shp) l_S c_S k_S
  have M_S : M K "shape" "Stair.shape" s_shp ["self"] gS _ := ⟨F_S, F_S.binds (ps := ["self"]) fun _ _ _ _ _ _ us hl => match us, hl with | [_], _ => rfl⟩
  have F_N := fun_mk (st := s_nums) l_N c_N k_N
  have M_N : M K "numbers" "Stair.numbers" s_nums ["self"] gN _ := ⟨F_N, F_N.binds (ps := ["self"]) fun _ _ _ _ _ _ us hl => match us, hl with | [_], _ => rfl⟩
  have F_T := fun_mk (st := s_tabs) l_T c_T k_T
  have M_T : M K "tables" "Stair.tables" s_tabs ["self"] gT _ := ⟨F_T, F_T.binds (ps := ["self"]) fun _ _ _ _ _ _ us hl => match us, hl with | [_], _ => rfl⟩
  have F_R := fun_mk (st := s_str) l_R c_R k_R
  have M_R : M K "__str__" "Stair.__str__" s_str ["self"] gR _ := ⟨F_R, F_R.binds (ps := ["self"]) fun _ _ _ _ _ _ us hl => match us, hl with | [_], _ => rfl⟩
  have F_Q := fun_mk (st := s_seq) l_Q c_Q k_Q
  have M_Q : M K "__eq__" "Stair.__eq__" s_seq ["self", "other"] gQ _ := ⟨F_Q, F_Q.binds (ps := ["self", "other"]) fun _ _ _ _ _ _ us hl => match us, hl with | [_, _], _ => rfl⟩
  have F_P := fun_mk (st := s_pinit) l_P c_P k_P
  have M_P : M K "__init__" "ParseError.__init__" s_pinit ["self", "spot"] fP _ := ⟨F_P, F_P.binds (ps := ["self", "spot"]) fun _ _ _ _ _ _ us hl => match us, hl with | [_, _], _ => rfl⟩
  have F0 := fun_mk (st := s_is_whole) l0 c0 k0
  have d_is_whole : D K mg "is_whole" s_is_whole ["value"] _ _ := ⟨F0, PySem.W.mg_of X G a0, F0.binds (ps := ["value"]) fun _ _ _ _ _ _ us hl => match us, hl with | [_], _ => rfl⟩
  have F1 := fun_mk (st := s_is_integer) l1 c1 k1
  have d_is_integer : D K mg "is_integer" s_is_integer ["value"] _ _ := ⟨F1, PySem.W.mg_of X G a1, F1.binds (ps := ["value"]) fun _ _ _ _ _ _ us hl => match us, hl with | [_], _ => rfl⟩
  have F2 := fun_mk (st := s_is_between) l2 c2 k2
  have d_is_between : D K mg "is_between" s_is_between ["value", "least", "most"] _ _ := ⟨F2, PySem.W.mg_of X G a2, F2.binds (ps := ["value", "least", "most"]) fun _ _ _ _ _ _ us hl => match us, hl with | [_, _, _], _ => rfl⟩
  have F3 := fun_mk (st := s_is_index) l3 c3 k3
  have d_is_index : D K mg "is_index" s_is_index ["value", "many"] _ _ := ⟨F3, PySem.W.mg_of X G a3, F3.binds (ps := ["value", "many"]) fun _ _ _ _ _ _ us hl => match us, hl with | [_, _], _ => rfl⟩
  have F4 := fun_mk (st := s_is_shape) l4 c4 k4
  have d_is_shape : D K mg "is_shape" s_is_shape ["value"] _ _ := ⟨F4, PySem.W.mg_of X G a4, F4.binds (ps := ["value"]) fun _ _ _ _ _ _ us hl => match us, hl with | [_], _ => rfl⟩
  have F5 := fun_mk (st := s_check) l5 c5 k5
  have d_check_shape : D K mg "check_shape" s_check ["shape"] _ _ := ⟨F5, PySem.W.mg_of X G a5, F5.binds (ps := ["shape"]) fun _ _ _ _ _ _ us hl => match us, hl with | [_], _ => rfl⟩
  have F6 := fun_mk (st := s_places) l6 c6 k6
  have d_places : D K mg "places" s_places ["shape"] _ _ := ⟨F6, PySem.W.mg_of X G a6, F6.binds (ps := ["shape"]) fun _ _ _ _ _ _ us hl => match us, hl with | [_], _ => rfl⟩
  have F7 := fun_mk (st := s_place) l7 c7 k7
  have d_is_place : D K mg "is_place" s_place ["shape", "value"] _ _ := ⟨F7, PySem.W.mg_of X G a7, F7.binds (ps := ["shape", "value"]) fun _ _ _ _ _ _ us hl => match us, hl with | [_, _], _ => rfl⟩
  have F8 := fun_mk (st := s_plan) l8 c8 k8
  have d_plan_of : D K mg "plan_of" s_plan ["shape"] _ _ := ⟨F8, PySem.W.mg_of X G a8, F8.binds (ps := ["shape"]) fun _ _ _ _ _ _ us hl => match us, hl with | [_], _ => rfl⟩
  have F9 := fun_mk (st := s_ents) l9 c9 k9
  have d_are_entries : D K mg "are_entries" s_ents ["shape", "value"] _ _ := ⟨F9, PySem.W.mg_of X G a9, F9.binds (ps := ["shape", "value"]) fun _ _ _ _ _ _ us hl => match us, hl with | [_, _], _ => rfl⟩
  have F10 := fun_mk (st := s_tent) l10 c10 k10
  have d_table_entry : D K mg "table_entry" s_tent ["entries", "block", "row", "column"] _ _ := ⟨F10, PySem.W.mg_of X G a10, F10.binds (ps := ["entries", "block", "row", "column"]) fun _ _ _ _ _ _ us hl => match us, hl with | [_, _, _, _], _ => rfl⟩
  have F11 := fun_mk (st := s_tof) l11 c11 k11
  have d_table_of : D K mg "table_of" s_tof ["entries", "block", "size"] _ _ := ⟨F11, PySem.W.mg_of X G a11, F11.binds (ps := ["entries", "block", "size"]) fun _ _ _ _ _ _ us hl => match us, hl with | [_, _, _], _ => rfl⟩
  have F12 := fun_mk (st := s_read_integer) l12 c12 k12
  have d_read_integer : D K mg "read_integer" s_read_integer ["text"] _ _ := ⟨F12, PySem.W.mg_of X G a12, F12.binds (ps := ["text"]) fun _ _ _ _ _ _ us hl => match us, hl with | [_], _ => rfl⟩
  have F13 := fun_mk (st := s_text) l13 c13 k13
  have d_text_of : D K mg "text_of" s_text ["table"] _ _ := ⟨F13, PySem.W.mg_of X G a13, F13.binds (ps := ["table"]) fun _ _ _ _ _ _ us hl => match us, hl with | [_], _ => rfl⟩
  have F14 := fun_mk (st := s_rows) l14 c14 k14
  have d_are_rows : D K mg "are_rows" s_rows ["rows"] _ _ := ⟨F14, PySem.W.mg_of X G a14, F14.binds (ps := ["rows"]) fun _ _ _ _ _ _ us hl => match us, hl with | [_], _ => rfl⟩
  have F15 := fun_mk (st := s_blks) l15 c15 k15
  have d_blocks_of : D K mg "blocks_of" s_blks ["text"] _ _ := ⟨F15, PySem.W.mg_of X G a15, F15.binds (ps := ["text"]) fun _ _ _ _ _ _ us hl => match us, hl with | [_], _ => rfl⟩
  have F16 := fun_mk (st := s_eof) l16 c16 k16
  have d_entries_of : D K mg "entries_of" s_eof ["shape", "blocks"] _ _ := ⟨F16, PySem.W.mg_of X G a16, F16.binds (ps := ["shape", "blocks"]) fun _ _ _ _ _ _ us hl => match us, hl with | [_, _], _ => rfl⟩
  have F17 := fun_mk (st := s_pot) l17 c17 k17
  have d_law_pot : D K mg "_law_pot" s_pot ["_law_script", "_law_at"] _ _ := ⟨F17, PySem.W.mg_of X G a17, F17.binds (ps := ["_law_script", "_law_at"]) fun _ _ _ _ _ _ us hl => match us, hl with | [_, _], _ => rfl⟩
  have F18 := fun_mk (st := s_dip) l18 c18 k18
  have d_law_dip : D K mg "_law_dip" s_dip ["_law_pot_here", "_law_total"] _ _ := ⟨F18, PySem.W.mg_of X G a18, F18.binds (ps := ["_law_pot_here", "_law_total"]) fun _ _ _ _ _ _ us hl => match us, hl with | [_, _], _ => rfl⟩
  have F19 := fun_mk (st := s_pick) l19 c19 k19
  have d_law_pick : D K mg "_law_pick" s_pick ["_law_pot_here", "_law_items"] _ _ := ⟨F19, PySem.W.mg_of X G a19, F19.binds (ps := ["_law_pot_here", "_law_items"]) fun _ _ _ _ _ _ us hl => match us, hl with | [_, _], _ => rfl⟩
  have F20 := fun_mk (st := s_shak) l20 c20 k20
  have d_law_shaken : D K mg "_law_shaken" s_shak ["_law_pot_here", "_law_items"] _ _ := ⟨F20, PySem.W.mg_of X G a20, F20.binds (ps := ["_law_pot_here", "_law_items"]) fun _ _ _ _ _ _ us hl => match us, hl with | [_, _], _ => rfl⟩
  have F21 := fun_mk (st := s_lplaces) l21 c21 k21
  have d_law_places : D K mg "_law_places" s_lplaces ["_law_shape_here"] _ _ := ⟨F21, PySem.W.mg_of X G a21, F21.binds (ps := ["_law_shape_here"]) fun _ _ _ _ _ _ us hl => match us, hl with | [_], _ => rfl⟩
  have F22 := fun_mk (st := s_lshape) l22 c22 k22
  have d_law_shape : D K mg "_law_shape" s_lshape ["_law_pot_here"] _ _ := ⟨F22, PySem.W.mg_of X G a22, F22.binds (ps := ["_law_pot_here"]) fun _ _ _ _ _ _ us hl => match us, hl with | [_], _ => rfl⟩
  have F23 := fun_mk (st := s_lnum) l23 c23 k23
  have d_law_number : D K mg "_law_number" s_lnum ["_law_pot_here"] _ _ := ⟨F23, PySem.W.mg_of X G a23, F23.binds (ps := ["_law_pot_here"]) fun _ _ _ _ _ _ us hl => match us, hl with | [_], _ => rfl⟩
  have F24 := fun_mk (st := s_lent) l24 c24 k24
  have d_law_entries : D K mg "_law_entries" s_lent ["_law_pot_here", "_law_shape_here"] _ _ := ⟨F24, PySem.W.mg_of X G a24, F24.binds (ps := ["_law_pot_here", "_law_shape_here"]) fun _ _ _ _ _ _ us hl => match us, hl with | [_, _], _ => rfl⟩
  have F25 := fun_mk (st := s_ltext) l25 c25 k25
  have d_law_text : D K mg "_law_text" s_ltext ["_law_shape_here", "_law_x"] _ _ := ⟨F25, PySem.W.mg_of X G a25, F25.binds (ps := ["_law_shape_here", "_law_x"]) fun _ _ _ _ _ _ us hl => match us, hl with | [_, _], _ => rfl⟩
  have F26 := fun_mk (st := s_lint) l26 c26 k26
  have d_law_integer : D K mg "_law_integer" s_lint ["_law_text_here"] _ _ := ⟨F26, PySem.W.mg_of X G a26, F26.binds (ps := ["_law_text_here"]) fun _ _ _ _ _ _ us hl => match us, hl with | [_], _ => rfl⟩
  have F27 := fun_mk (st := s_lbk) l27 c27 k27
  have d_law_block : D K mg "_law_block" s_lbk ["_law_text_here"] _ _ := ⟨F27, PySem.W.mg_of X G a27, F27.binds (ps := ["_law_text_here"]) fun _ _ _ _ _ _ us hl => match us, hl with | [_], _ => rfl⟩
  have F28 := fun_mk (st := s_lmea) l28 c28 k28
  have d_law_meant : D K mg "_law_meant" s_lmea ["_law_text_here"] _ _ := ⟨F28, PySem.W.mg_of X G a28, F28.binds (ps := ["_law_text_here"]) fun _ _ _ _ _ _ us hl => match us, hl with | [_], _ => rfl⟩
  have F29 := fun_mk (st := s_lspo) l29 c29 k29
  have d_law_spoilt : D K mg "_law_spoilt" s_lspo ["_law_pot_here", "_law_text_here"] _ _ := ⟨F29, PySem.W.mg_of X G a29, F29.binds (ps := ["_law_pot_here", "_law_text_here"]) fun _ _ _ _ _ _ us hl => match us, hl with | [_, _], _ => rfl⟩
  have F30 := fun_mk (st := s_lrd) l30 c30 k30
  have d_law_read : D K mg "_law_read" s_lrd ["_law_text_here"] _ _ := ⟨F30, PySem.W.mg_of X G a30, F30.binds (ps := ["_law_text_here"]) fun _ _ _ _ _ _ us hl => match us, hl with | [_], _ => rfl⟩
  have F31 := fun_mk (st := s_lir) l31 c31 k31
  have d_law_is_read : D K mg "_law_is_read" s_lir ["_law_text_here"] _ _ := ⟨F31, PySem.W.mg_of X G a31, F31.binds (ps := ["_law_text_here"]) fun _ _ _ _ _ _ us hl => match us, hl with | [_], _ => rfl⟩
  have F32 := fun_mk (st := s_lrt) l32 c32 k32
  have d_law_right : D K mg "_law_right" s_lrt ["_law_pot_here"] _ _ := ⟨F32, PySem.W.mg_of X G a32, F32.binds (ps := ["_law_pot_here"]) fun _ _ _ _ _ _ us hl => match us, hl with | [_], _ => rfl⟩
  have F33 := fun_mk (st := s_law) l33 c33 k33
  have d_law : D K mg "law" s_law ["_law_script"] _ _ := ⟨F33, PySem.W.mg_of X G a33, F33.binds (ps := ["_law_script"]) fun _ _ _ _ _ _ us hl => match us, hl with | [_], _ => rfl⟩
  refine ⟨PySem.W.fnOf "law" "law" (defArgs s_law) (defBody s_law) (defScope s_law) .none kV33 dc33 pm33 an33 cd33 ct33, fun s u => .of_eq rfl, fun base _ _ => ?_⟩

  have Gsh : FnOk l.prog w K mg base CX0 3 _ _ ["value"] (spShape K) := ok_shape (k := 0) T N d_is_shape d_is_between d_is_whole
  have Gck := ok_check (k := 0) (base := base) (P := l.prog) (w := w) T O d_check_shape d_is_shape Gsh
  have Gpl := ok_places T N d_places d_check_shape Gck
  have Gix : FnOk l.prog w K mg base CX0 3 _ _ ["value", "many"] (spIdx K) := ok_index (k := 0) T d_is_index d_is_between d_is_whole
  have Gip := ok_place T d_is_place d_check_shape d_is_index Gck Gix
  have Gin : FnOk l.prog w K mg base CX0 2 _ _ ["value"] spInt := ok_integer (k := 0) T N d_is_integer d_is_whole
  have Gen := ok_ents T N d_are_entries d_is_place d_is_integer Gip Gin
  have Gpn := ok_plan T N d_plan_of d_places Gpl
  have GI := ok_init T N R M_I d_check_shape d_are_entries d_plan_of d_places Gck Gen Gpn Gpl
  have Gto := ok_tof (P := l.prog) (w := w) (base := base) T d_table_of d_table_entry (ok_tent (k := 0) d_table_entry)
  have GT := ok_tabs T N nz R M_T d_places Gpl d_table_of Gto
  have ppT : PropOf K C "tables" qT gT := ⟨pTa, pTg, pTt, ⟨_, pTr⟩⟩
  have ppS : PropOf K C "shape" qS gS := ⟨pSa, pSg, pSt, ⟨_, pSr⟩⟩
  have ppN : PropOf K C "numbers" qN gN := ⟨pNa, pNg, pNt, ⟨_, pNr⟩⟩
  have GR := ok_str T R M_R d_text_of (ok_text (k := 0) T N d_text_of) ppT GT M_T.b
  have GN : FnOk l.prog w K mg base CX0 1 gN _ ["self"] (spNums K C) := ok_nums (k := 0) R M_N
  have GS : FnOk l.prog w K mg base CX0 1 gS _ ["self"] (spShp K C) := ok_shp (k := 0) R M_S
  have GQ : FnOk l.prog w K mg base CX0 1 gQ _ ["self", "other"] (spSEq K C) := ok_seq (k := 0) T R IC own M_Q
  have Gri : FnOk l.prog w K mg base CX0 1 _ _ ["text"] spRead := ok_read (k := 0) T N ⟨_, PySem.W.mg_of X G cst_MAX_DIGITS⟩ d_read_integer
  have Gra : FnOk l.prog w K mg base CX0 1 _ _ ["text"] spReadA := ok_readA (k := 0) T N ⟨_, PySem.W.mg_of X G cst_MAX_DIGITS⟩ d_read_integer
  have Grw := ok_rows (k := 0) T N d_are_rows d_read_integer Gri
  have Grwa := ok_rowsA (k := 0) T N d_are_rows d_read_integer Gra
  have Gbl : FnOk l.prog w K mg base CX0 1 _ _ ["text"] (spBlks K) := ok_blks (k := 0) d_blocks_of
  have Gbla : FnOk l.prog w K mg base CX0 1 _ _ ["text"] (spBlksA K) := ok_blksA (k := 0) d_blocks_of
  have Gef := ok_eof d_entries_of d_places Gpl d_read_integer Gri
  have GD := ok_readS T N M_D d_blocks_of Gbl d_is_shape Gsh d_are_rows Grw d_entries_of Gef mk GI M_I.b
  have dP : RD K mg CP fP _ := ⟨⟨⟨nm, qn, N0, bs, bm, sn, sub, ab, col, dd, m0, m1, m2, m3, m5, xP, rP⟩, saP, exP, tyP, kPc⟩, noP, iP, tP, PySem.W.mg_of X G aP, M_P⟩
  have xf : XfC K CP := ⟨gaP, ggP, exP, hdP⟩
  have te := exm_own exP icP tyP sbP
  have GP : FnOk l.prog w K mg base CX0 1 fP _ ["self", "spot"] (spPinit CP) := ok_pinit (k := 0) dP.T dP.no dP.m
  have GX := ok_readX (C := C) T N M_D d_blocks_of Gbla d_is_shape Gsh d_are_rows Grwa d_entries_of Gef mk GI M_I.b dP GP
  have rdC : ClX.CRead K C (.type "type") := ⟨rd, rga⟩
  have cmD : ClX.CMet K C (.type "type") "read" pD gD := ⟨cAD, ⟨_, cRD⟩, cFD⟩
  have Glp : FnOk l.prog w K mg base CX0 1 _ _ ["_law_shape_here"] (spLPlaces K) := ok_lplaces (k := 0) T N d_law_places
  have Gtk : FnOk l.prog w K mg base CX0 1 _ _ ["_law_pot_here", "_law_total"] spTake := ok_take (k := 0) T d_law_dip
  have Gsm : FnOk l.prog w K mg base CX0 2 _ _ ["_law_pot_here", "_law_items"] spSome := ok_some (k := 0) T d_law_pick d_law_dip
  have GlsN := ok_lshapeN d_law_shape d_law_pick Gsm
  have Gln := ok_lnum d_law_number d_law_dip Gtk d_law_pick Gsm
  have Gsk := ok_shak T N d_law_shaken d_law_dip Gtk
  have Gle := ok_lent T N d_law_entries d_law_places Glp d_law_number Gln
  have Glt : FnOk l.prog w K mg base CX0 1 _ _ ["_law_shape_here", "_law_x"] (spLText K) := ok_ltext (k := 0) T N d_law_text
  have Gli : FnOk l.prog w K mg base CX0 1 _ _ ["_law_text_here"] spLInt := ok_lint (k := 0) T N d_law_integer
  have Glb := ok_lbk T N d_law_block d_law_integer Gli
  have Glm := ok_lmea T N d_law_meant d_law_block Glb
  have Glr := ok_lrd T N R dP xf te rdC cmD GX M_D.b ppS GS M_S.b ppN GN M_N.b eR iR GR M_R.b d_law_read
  have Gir := ok_lir T d_law_is_read d_law_meant Glm d_law_read Glr d_law_places Glp
  have Gsp := ok_lspo T N d_law_spoilt d_law_dip Gtk d_law_pick Gsm d_law_shaken Gsk
  have Grg := ok_lrt T N R IC ks d_law_right d_law_shape GlsN d_law_entries Gle d_law_text Glt d_law_is_read Gir d_law_spoilt Gsp d_law_pick Gsm mk GI M_I.b rdC cmD GD M_D.b hm ne nfC eQ iQ GQ M_Q.b eR iR GR M_R.b
  exact ok_law T N d_law d_law_right Grg d_law_pot (ok_urn (k := 0) T d_law_pot) d_law_read Glr
end K07

open PySem PySem.W PyProof.Rows
set_option maxRecDepth 100000 in
set_option maxHeartbeats 0 in
theorem PySem.Challenge.cw_stairlots_k07_whole_texts_of_stairs_holds : PySem.Challenge.rw_stairlots_k07_whole_texts_of_stairs.Holds := by
  w_on; o_law; k_head; (case hw => w_witness2)
  k_fill
  refine K07.walk_ofG (l := PySem.Challenge.rw_stairlots_k07_whole_texts_of_stairs) (n := 63) (k := 14) (x := "_law_script") (sp := K07.spLaw) rfl (by decide) rfl ⟨rfl, by decide, by decide⟩ (fun w h Y => PySem.W.kIn_of Y) ?F (fun _ _ a ns hl hS => ⟨a, ns, rfl, hS, hl, fun _ => rfl⟩)
  case F =>
    intro w mg fa h KX G hmg
    refine' K07.all_of KX G hmg ?aC ?pg ?hd ?po ?sa ?nS ?nP ?nN ?ha ?hn ?htk ?hm ?ne ?sf ?nfC ?ki ?mks ?ini ?ifn ?kpC ?eR ?iR ?eQ ?iQ ?pSa ?pSg ?pSt ?pSr ?pNa ?pNg ?pNt ?pNr ?pTa ?pTg ?pTt ?pTr ?rd ?rga ?cAD ?cRD ?cFD ?aX ?xX ?kX ?bX ?tX ?ks ?aP ?xP ?rP ?saP ?exP ?tyP ?kPc ?noP ?iP ?tP ?gaP ?ggP ?hdP ?icP ?sbP ?cst0 ?cst1 ?cst2 ?cst3 ?cst4 ?cst_MAX_DIGITS ?aTL ?lTL ?n_len ?n_abs ?n_int ?n_bool ?n_max ?n_min ?n_sum ?n_tuple ?n_range ?n_repr ?n_isinstance ?n_reversed ?n_all ?n_any ?n_list ?n_dict ?n_enumerate ?n_sorted ?n_str ?n_zip ?l_I ?c_I ?k_I ?l_D ?c_D ?k_D ?l_S ?c_S ?k_S ?l_N ?c_N ?k_N ?l_T ?c_T ?k_T ?l_R ?c_R ?k_R ?l_Q ?c_Q ?k_Q ?l_P ?c_P ?k_P ?a0 ?l0 ?c0 ?k0 ?a1 ?l1 ?c1 ?k1 ?a2 ?l2 ?c2 ?k2 ?a3 ?l3 ?c3 ?k3 ?a4 ?l4 ?c4 ?k4 ?a5 ?l5 ?c5 ?k5 ?a6 ?l6 ?c6 ?k6 ?a7 ?l7 ?c7 ?k7 ?a8 ?l8 ?c8 ?k8 ?a9 ?l9 ?c9 ?k9 ?a10 ?l10 ?c10 ?k10 ?a11 ?l11 ?c11 ?k11 ?a12 ?l12 ?c12 ?k12 ?a13 ?l13 ?c13 ?k13 ?a14 ?l14 ?c14 ?k14 ?a15 ?l15 ?c15 ?k15 ?a16 ?l16 ?c16 ?k16 ?a17 ?l17 ?c17 ?k17 ?a18 ?l18 ?c18 ?k18 ?a19 ?l19 ?c19 ?k19 ?a20 ?l20 ?c20 ?k20 ?a21 ?l21 ?c21 ?k21 ?a22 ?l22 ?c22 ?k22 ?a23 ?l23 ?c23 ?k23 ?a24 ?l24 ?c24 ?k24 ?a25 ?l25 ?c25 ?k25 ?a26 ?l26 ?c26 ?k26 ?a27 ?l27 ?c27 ?k27 ?a28 ?l28 ?c28 ?k28 ?a29 ?l29 ?c29 ?k29 ?a30 ?l30 ?c30 ?k30 ?a31 ?l31 ?c31 ?k31 ?a32 ?l32 ?c32 ?k32 ?a33 ?l33 ?c33 ?k33
    (case aC => k_is)
    (case pg => k_is)
    (case hd => k_is)
    (case po => k_is)
    (case sa => k_is)
    (case nS => k_is)
    (case nP => k_is)
    (case nN => k_is)
    (case ha => k_is)
    (case hn => k_is)
    (case htk => k_is)
    (case hm => k_is)
    (case ne => k_is)
    (case sf => k_is)
    (case nfC => k_is)
    (case ki => first | kit_is | k_is)
    (case mks => k_is)
    (case ini => k_is)
    (case ifn => k_is)
    (case kpC => k_is)
    (case eR => k_is)
    (case iR => k_is)
    (case eQ => k_is)
    (case iQ => k_is)
    (case pSa => k_is)
    (case pSg => k_is)
    (case pSt => k_is)
    (case pSr => k_is)
    (case pNa => k_is)
    (case pNg => k_is)
    (case pNt => k_is)
    (case pNr => k_is)
    (case pTa => k_is)
    (case pTg => k_is)
    (case pTt => k_is)
    (case pTr => k_is)
    (case rd => k_is)
    (case rga => k_is)
    (case cAD => k_is)
    (case cRD => k_is)
    (case cFD => k_is)
    (case aX => k_is)
    (case xX => first | k_exc | k_is)
    (case kX => k_is)
    (case bX => k_is)
    (case tX => k_is)
    (case ks => first | kit_is | k_is)
    (case aP => k_is)
    (case xP => k_is)
    (case rP => first | decide +kernel | k_is)
    (case saP => k_is)
    (case exP => k_is)
    (case tyP => k_is)
    (case kPc => k_is)
    (case noP => k_is)
    (case iP => k_is)
    (case tP => k_is)
    (case gaP => k_is)
    (case ggP => k_is)
    (case hdP => k_is)
    (case icP => k_is)
    (case sbP => first | rfl | k_is)
    (case cst0 => k_is)
    (case cst1 => k_is)
    (case cst2 => k_is)
    (case cst3 => k_is)
    (case cst4 => k_is)
    (case cst_MAX_DIGITS => k_is)
    (case aTL => k_is)
    (case lTL => k_is)
    (case n_len => k_is)
    (case n_abs => k_is)
    (case n_int => k_is)
    (case n_bool => k_is)
    (case n_max => k_is)
    (case n_min => k_is)
    (case n_sum => k_is)
    (case n_tuple => k_is)
    (case n_range => k_is)
    (case n_repr => k_is)
    (case n_isinstance => k_is)
    (case n_reversed => k_is)
    (case n_all => k_is)
    (case n_any => k_is)
    (case n_list => k_is)
    (case n_dict => k_is)
    (case n_enumerate => k_is)
    (case n_sorted => k_is)
    (case n_str => k_is)
    (case n_zip => k_is)
    (case l_I => k_is)
    (case c_I => k_is)
    (case k_I => k_is)
    (case l_D => k_is)
    (case c_D => k_is)
    (case k_D => k_is)
    (case l_S => k_is)
    (case c_S => k_is)
    (case k_S => k_is)
    (case l_N => k_is)
    (case c_N => k_is)
    (case k_N => k_is)
    (case l_T => k_is)
    (case c_T => k_is)
    (case k_T => k_is)
    (case l_R => k_is)
    (case c_R => k_is)
    (case k_R => k_is)
    (case l_Q => k_is)
    (case c_Q => k_is)
    (case k_Q => k_is)
    (case l_P => k_is)
    (case c_P => k_is)
    (case k_P => k_is)
    (case a0 => k_is)
    (case l0 => k_is)
    (case c0 => k_is)
    (case k0 => k_is)
    (case a1 => k_is)
    (case l1 => k_is)
    (case c1 => k_is)
    (case k1 => k_is)
    (case a2 => k_is)
    (case l2 => k_is)
    (case c2 => k_is)
    (case k2 => k_is)
    (case a3 => k_is)
    (case l3 => k_is)
    (case c3 => k_is)
    (case k3 => k_is)
    (case a4 => k_is)
    (case l4 => k_is)
    (case c4 => k_is)
    (case k4 => k_is)
    (case a5 => k_is)
    (case l5 => k_is)
    (case c5 => k_is)
    (case k5 => k_is)
    (case a6 => k_is)
    (case l6 => k_is)
    (case c6 => k_is)
    (case k6 => k_is)
    (case a7 => k_is)
    (case l7 => k_is)
    (case c7 => k_is)
    (case k7 => k_is)
    (case a8 => k_is)
    (case l8 => k_is)
    (case c8 => k_is)
    (case k8 => k_is)
    (case a9 => k_is)
    (case l9 => k_is)
    (case c9 => k_is)
    (case k9 => k_is)
    (case a10 => k_is)
    (case l10 => k_is)
    (case c10 => k_is)
    (case k10 => k_is)
    (case a11 => k_is)
    (case l11 => k_is)
    (case c11 => k_is)
    (case k11 => k_is)
    (case a12 => k_is)
    (case l12 => k_is)
    (case c12 => k_is)
    (case k12 => k_is)
    (case a13 => k_is)
    (case l13 => k_is)
    (case c13 => k_is)
    (case k13 => k_is)
    (case a14 => k_is)
    (case l14 => k_is)
    (case c14 => k_is)
    (case k14 => k_is)
    (case a15 => k_is)
    (case l15 => k_is)
    (case c15 => k_is)
    (case k15 => k_is)
    (case a16 => k_is)
    (case l16 => k_is)
    (case c16 => k_is)
    (case k16 => k_is)
    (case a17 => k_is)
    (case l17 => k_is)
    (case c17 => k_is)
    (case k17 => k_is)
    (case a18 => k_is)
    (case l18 => k_is)
    (case c18 => k_is)
    (case k18 => k_is)
    (case a19 => k_is)
    (case l19 => k_is)
    (case c19 => k_is)
    (case k19 => k_is)
    (case a20 => k_is)
    (case l20 => k_is)
    (case c20 => k_is)
    (case k20 => k_is)
    (case a21 => k_is)
    (case l21 => k_is)
    (case c21 => k_is)
    (case k21 => k_is)
    (case a22 => k_is)
    (case l22 => k_is)
    (case c22 => k_is)
    (case k22 => k_is)
    (case a23 => k_is)
    (case l23 => k_is)
    (case c23 => k_is)
    (case k23 => k_is)
    (case a24 => k_is)
    (case l24 => k_is)
    (case c24 => k_is)
    (case k24 => k_is)
    (case a25 => k_is)
    (case l25 => k_is)
    (case c25 => k_is)
    (case k25 => k_is)
    (case a26 => k_is)
    (case l26 => k_is)
    (case c26 => k_is)
    (case k26 => k_is)
    (case a27 => k_is)
    (case l27 => k_is)
    (case c27 => k_is)
    (case k27 => k_is)
    (case a28 => k_is)
    (case l28 => k_is)
    (case c28 => k_is)
    (case k28 => k_is)
    (case a29 => k_is)
    (case l29 => k_is)
    (case c29 => k_is)
    (case k29 => k_is)
    (case a30 => k_is)
    (case l30 => k_is)
    (case c30 => k_is)
    (case k30 => k_is)
    (case a31 => k_is)
    (case l31 => k_is)
    (case c31 => k_is)
    (case k31 => k_is)
    (case a32 => k_is)
    (case l32 => k_is)
    (case c32 => k_is)
    (case k32 => k_is)
    (case a33 => k_is)
    (case l33 => k_is)
    (case c33 => k_is)
    (case k33 => k_is)

