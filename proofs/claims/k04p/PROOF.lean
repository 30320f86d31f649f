import PyProof.Rows.All
import Wide.All
import OpenK.AllK
import Wide.FinOn
import PySem.Challenge.RW_stairlots_k04_whole_shapes_and_places
import HandS.ForMost
import HandS.Exc
import HandS.TryOnly
import HandS.ExcOwn
import HandS.WordsExc
import HandS.Wide
import HandS.WideMore
import HandS.IsInst
import HandS.Property
import HandS.SlotsOwn
import HandS.Codes
import HandS.Walk
import HandS.Style
import HandS.Comp
import HandS.More
import HandS.Conv
import HandS.Lambda
import HandS.EndTab
import KE.IntTextText
import KE.GoesEnum
import KE.KTupSum
import KE.DataMinMax
import HandS.TupSets
import HandS.Deep
import HandS.DictComp
import HandS.DictTup
import HandS.Iter
import KE.KDictPairs
import KE.KOpsOwn
import KE.KCallOwn
import KE.DataAny
import HandS.ClsMeth
import HandS.Defaults
import HandS.ExcIs
import KE.KNestM
import KE.KExcLine
set_option Elab.async false
set_option linter.all false
set_option maxRecDepth 100000
set_option maxHeartbeats 8000000
/-! # the pot -/
namespace K04
open PySem PySem.Spec PyProof.Rows L2
def topS (i : Nat) : Stmt := PySem.Challenge.pw_stairlots_k04_whole_shapes_and_places.main.body.getD i (.Pass ⟨0, 0, 0, 0⟩)
/-! ### rules of my own -/
/-- ** of a base of any size, the result below 2 ^ 27 bits -/
def CPowW (i j : Int) : Prop := 0 ≤ j ∧ (Builtin.Int.intBits i : Int) * j ≤ 2 ^ 27
theorem op_powW {X : Cx} : OpR X (binaryOp .Pow) (rI CPowW fun i j => .int (i ^ j.toNat)) := opI fun _ _ _ _ _ _ _ hc q => pow_int hc.1 hc.2 q
theorem sub_same {H : Hp} {p : Addr} {o : HO} (h : H p = none) : Same H (upd H p o) := fun b x e => by
  rw [upd_ne (ne_of_none e h)]
  exact e
/-- all but one address as before -/
def But (a : Addr) (H H' : Hp) : Prop := ∀ b, b ≠ a → H' b = H b
theorem But.refl (a : Addr) (H : Hp) : But a H H := fun _ _ => rfl
theorem But.trans {a : Addr} {H H1 H2 : Hp} (x : But a H H1) (y : But a H1 H2) : But a H H2 := fun b hb => (y b hb).trans (x b hb)
theorem but_upd (a : Addr) (H : Hp) (o : HO) : But a H (upd H a o) := fun b hb => upd_ne hb
/-! ### the urn: a list of three ints -/
def Urn (H : Hp) (a : Addr) : Prop := ∃ g m c : Int, H a = some (.lst [.int g, .int m, .int c])
theorem Urn.seq {K : PySem.W.Frag} {H : Hp} {a : Addr} {xs : List V} (h : H a = some (.lst xs)) : SqL K H a xs := .inl (.inl h)
abbrev s_pot : Stmt := topS 47
theorem sc_pot : FnScope ["_law_script", "_law_at", "_law_cell", "_law_great", "_law_mixed"] ["_law_script", "_law_at"] (defScope s_pot) := ⟨rfl, rfl, rfl, by decide +kernel, rfl, by decide +kernel, by decide +kernel⟩
abbrev s_dip : Stmt := topS 48
theorem sc_dip : FnScope ["_law_pot_here", "_law_total", "_law_found", "_law_one", "_law_two"] ["_law_pot_here", "_law_total"] (defScope s_dip) := ⟨rfl, rfl, rfl, by decide +kernel, rfl, by decide +kernel, by decide +kernel⟩
abbrev s_pick : Stmt := topS 49
theorem sc_pick : FnScope ["_law_pot_here", "_law_items"] ["_law_pot_here", "_law_items"] (defScope s_pick) := ⟨rfl, rfl, rfl, by decide +kernel, rfl, by decide +kernel, by decide +kernel⟩
section
variable {P : Program} {w : World} {K : PySem.W.Frag} {mg : Str → Option Value} {base : Heap}
structure Txt (mg : Str → Option Value) : Prop where
  n_len : mg "len" = none
  n_abs : mg "abs" = none
  n_int : mg "int" = none
  n_bool : mg "bool" = none
  n_max : mg "max" = none
  n_min : mg "min" = none
  n_sum : mg "sum" = none
  n_tuple : mg "tuple" = none
  n_range : mg "range" = none
  n_repr : mg "repr" = none
  n_isinstance : mg "isinstance" = none
  n_reversed : mg "reversed" = none
structure D (K : PySem.W.Frag) (mg : Str → Option Value) (x : Str) (st : Stmt) (ps : List Str) (f : Addr) (fd : FuncData) : Prop where
  F : Fun K x x st f fd
  g : mg x = some (.ref f)
  b : Binds K fd ps []
/-- a drawn number below the total -/
def spTake : Sp := fun vs H Q _ => ∃ (a : Addr) (t : Int), vs = [.ref a, .int t] ∧ Urn H a ∧ 0 < t ∧ t.natAbs.log2 < 9000 ∧
  ∀ (v : Int) (H' : Hp), 0 ≤ v → v < t → Urn H' a → But a H H' → Q (.int v) H'
theorem ok_take {f : Addr} {fd : FuncData} {k : Nat} (T : Txt mg) (d : D K mg "_law_dip" s_dip ["_law_pot_here", "_law_total"] f fd) :
    FnOk P w K mg base CX0 (k + 1) f fd ["_law_pot_here", "_law_total"] spTake := by
  refine d.F.ok sc_dip (fun vs H Q E h => ?_) (fun cdv A outer s H vs Q E hr h => ?_)
  · obtain ⟨a, t, rfl, _⟩ := h
    rfl
  · obtain ⟨a, t, rfl, ⟨g, m, c, hu⟩, ht, hl, q⟩ := h
    refine ⟨_, (pss_cons (ps_if (pt_cmpR op_gt (pe_ix ix_list (pv 0) pe_int (fun _ _ => rfl)) pe_int (nomark _)) (pss_cons (ps_set (i := 2) sc_dip.nd rfl (.inl rfl) (pe_op op_mod (pe_callTy call_int1 (by rfl) T.n_int (by decide +kernel) (pa_cons (pe_ix ix_list (pv 0) pe_int (fun _ _ => rfl)) pa_nil)) (pv 1)))
        (pss_cons (ps_asg (pe_op op_fdivW (pe_ix ix_list (pv 0) pe_int (fun _ _ => rfl)) (pv 1)) (pg_sub (pv 0) pe_int set_list))
        (pss_one (ps_ret (pv 2))))) pss_nil)
      (pss_cons (ps_asg (pe_op op_add (pe_ix ix_list (pv 0) pe_int (fun _ _ => rfl)) pe_int) (pg_sub (pv 0) pe_int set_list))
      (pss_cons (ps_set (i := 3) sc_dip.nd rfl (.inl rfl) (pe_op op_mod (pe_callTy call_int1 (by rfl) T.n_int (by decide +kernel) (pa_cons (pe_op op_add (pe_ix ix_list (pv 0) pe_int (fun _ _ => rfl)) (pe_op op_mul pe_int (pe_ix ix_list (pv 0) pe_int (fun _ _ => rfl)))) pa_nil)) pe_int))
      (pss_cons (ps_set (i := 4) sc_dip.nd rfl (.inl rfl) (pe_op op_add (pe_op op_mul (pe_op op_mod (pe_callTy call_int1 (by rfl) T.n_int (by decide +kernel) (pa_cons (pe_op op_mul (pv 3) (pv 3)) pa_nil)) pe_int) (pv 3)) (pe_op op_mul pe_int (pe_ix ix_list (pv 0) pe_int (fun _ _ => rfl)))))
      (pss_one (ps_ret (pe_op op_mod (pe_callTy call_int1 (by rfl) T.n_int (by decide +kernel) (pa_cons (pe_op op_fdivW (pe_op op_mod (pe_callTy call_int1 (by rfl) T.n_int (by decide +kernel) (pa_cons (pv 4) pa_nil)) pe_int) pe_int) pa_nil)) (pv 1)))))))), ?_⟩
    refine ⟨.ref a, rfl, a, _, 0, .int g, rfl, rfl, Urn.seq hu, atI_nat (j := 0) rfl, g, 0, rfl, rfl, _, rfl, ite2 (fun e => ?_) (fun e => ?_)⟩
    · refine ⟨.ref a, rfl, ⟨a, _, 0, .int g, rfl, rfl, Urn.seq hu, atI_nat (j := 0) rfl, .inl ⟨g, rfl, .int t, rfl, g, t, rfl, rfl, ht, ?_⟩⟩⟩
      refine ⟨.ref a, rfl, ⟨a, _, 0, .int g, rfl, rfl, Urn.seq hu, atI_nat (j := 0) rfl, .int t, rfl, g, t, rfl, rfl, ⟨ht, hl⟩, ?_⟩⟩
      refine ⟨.ref a, rfl, a, _, 0, 0, rfl, rfl, hu, rfl, ?_⟩
      exact ⟨_, rfl, q _ _ (Int.emod_nonneg _ (by omega)) (Int.emod_lt_of_pos _ ht) ⟨_, _, _, upd_same⟩ (but_upd _ _ _)⟩
    · refine ⟨.ref a, rfl, ⟨a, _, 2, .int c, rfl, rfl, Urn.seq hu, atI_nat (j := 2) rfl, c, 1, rfl, rfl, ?_⟩⟩
      refine ⟨.ref a, rfl, a, _, 2, 2, rfl, rfl, hu, rfl, ?_⟩
      have h1 : (upd H a (.lst ([.int g, .int m, .int c].set 2 (.int (c + 1))))) a = some (.lst [.int g, .int m, .int (c + 1)]) := upd_same
      have b1 := but_upd a H (.lst ([.int g, .int m, .int c].set 2 (.int (c + 1))))
      revert h1 b1
      generalize upd H a (.lst ([.int g, .int m, .int c].set 2 (.int (c + 1)))) = H1
      intro h1 b1
      refine ⟨.ref a, rfl, ⟨a, _, 1, .int m, rfl, rfl, Urn.seq h1, atI_nat (j := 1) rfl, ?_⟩⟩
      refine ⟨.ref a, rfl, ⟨a, _, 2, .int (c + 1), rfl, rfl, Urn.seq h1, atI_nat (j := 2) rfl, ?_⟩⟩
      refine ⟨_, _, rfl, rfl, .inl (by decide), _, _, rfl, rfl, .inl ⟨_, rfl, _, _, rfl, rfl, (by show (0 : Int) < _; decide), ?_⟩⟩
      generalize ho : (m + 1000117 * (c + 1)) % 2305843009213693951 = o
      have o0 : 0 ≤ o := by omega
      have o1 : o < 2305843009213693951 := by omega
      refine ⟨_, rfl, _, rfl, _, _, rfl, rfl, .inl (by omega), .inl ⟨_, rfl, _, _, rfl, rfl, (by show (0 : Int) < _; decide), ?_⟩⟩
      generalize ho2 : o * o % 2305843009213693907 = r
      have r0 : 0 ≤ r := by omega
      have r1 : r < 2305843009213693907 := by omega
      refine ⟨_, rfl, _, _, rfl, rfl, .inl (by omega), ?_⟩
      refine ⟨.ref a, rfl, ⟨a, _, 2, .int (c + 1), rfl, rfl, Urn.seq h1, atI_nat (j := 2) rfl, ?_⟩⟩
      refine ⟨_, _, rfl, rfl, .inl (by decide), _, _, rfl, rfl, ?_⟩
      generalize r * o + 9059 * (c + 1) = z
      refine ⟨_, rfl, .inl ⟨_, rfl, _, _, rfl, rfl, (by show (0 : Int) < _; decide), _, _, rfl, rfl, ⟨by decide, by decide⟩, .inl ⟨_, rfl, _, rfl, _, _, rfl, rfl, ht, ?_⟩⟩⟩
      exact q _ _ (Int.emod_nonneg _ (by omega)) (Int.emod_lt_of_pos _ ht) ⟨_, _, _, h1⟩ b1
/-- one of the items -/
def spSome : Sp := fun vs H Q _ => ∃ (a b : Addr) (xs : List V), vs = [.ref a, .ref b] ∧ Urn H a ∧ H b = some (.lst xs) ∧ b ≠ a ∧ xs ≠ [] ∧ xs.length ≤ 1000 ∧
  ∀ (i : Nat) (x : V) (H' : Hp), xs[i]? = some x → Urn H' a → But a H H' → Q x H'
theorem ok_some {f ft : Addr} {fd fdt : FuncData} {k : Nat} (T : Txt mg) (d : D K mg "_law_pick" s_pick ["_law_pot_here", "_law_items"] f fd) (dt : D K mg "_law_dip" s_dip ["_law_pot_here", "_law_total"] ft fdt) :
    FnOk P w K mg base CX0 (k + 2) f fd ["_law_pot_here", "_law_items"] spSome := by
  have G : FnOk P w K mg base CX0 (k + 1) ft fdt ["_law_pot_here", "_law_total"] spTake := ok_take T dt
  refine d.F.ok sc_pick (fun vs H Q E h => ?_) (fun cdv A outer s H vs Q E hr h => ?_)
  · obtain ⟨a, b, xs, rfl, _⟩ := h
    rfl
  · obtain ⟨a, b, xs, rfl, hu, hb, hne, hx, hz, q⟩ := h
    refine ⟨_, (pss_one (ps_ret (pe_ix ix_list (pv 1) (pe_call G hr (by rfl) dt.g dt.F.kp dt.b .nil pass0 (pa_cons (pv 0) (pa_cons (pe_callB call_len_seq (by rfl) T.n_len PySem.boot_len (pa_cons (pv 1) pa_nil)) pa_nil))) (fun _ _ => rfl)))), ?_⟩
    refine ⟨.ref b, rfl, .ref a, rfl, .ref b, rfl, b, xs, rfl, .inl (Urn.seq hb), a, _, rfl, hu, ?_, ?_, fun v H' v0 v1 hu' hk => ?_⟩
    · cases xs with
      | nil => exact absurd rfl hx
      | cons x r => rw [List.length_cons]; omega
    · have e : ((xs.length : Int)).natAbs = xs.length := Int.natAbs_natCast _
      rw [e]
      exact Nat.lt_of_le_of_lt (Nat.log2_le_self _) (by omega)
    · obtain ⟨j, rfl⟩ : ∃ j : Nat, v = (j : Int) := ⟨v.toNat, by omega⟩
      have hv : j < xs.length := by omega
      exact ⟨b, xs, j, xs[j], rfl, rfl, Urn.seq ((hk b hne).trans hb), atI_nat (List.getElem?_eq_getElem hv), q j _ H' (List.getElem?_eq_getElem hv) hu' hk⟩
/-- a new pot -/
def spUrn (K : PySem.W.Frag) : Sp := fun vs H Q _ => ∃ (a : Addr) (i : Nat) (ns : List Int), vs = [.ref a, .int i] ∧ SqL K H a (ns.map V.int) ∧ i ≤ 1000 ∧
  ∀ (H' : Hp) (p : Addr), Same H H' → H p = none → Urn H' p → Q (.ref p) H'
theorem ok_urn {f : Addr} {fd : FuncData} {k : Nat} (T : Txt mg) (d : D K mg "_law_pot" s_pot ["_law_script", "_law_at"] f fd) : FnOk P w K mg base CX0 (k + 1) f fd ["_law_script", "_law_at"] (spUrn K) := by
  refine d.F.ok sc_pot (fun vs H Q E h => ?_) (fun cdv A outer s H vs Q E hr h => ?_)
  · obtain ⟨a, i, ns, rfl, _⟩ := h
    rfl
  · obtain ⟨a, i, ns, rfl, hS, hi, q⟩ := h
    refine ⟨_, (pss_cons (ps_set (i := 2) sc_pot.nd rfl (.inl rfl) (pe_ifExp (pt_cmpR op_lt (pv 1) (pe_callB call_len_seq (by rfl) T.n_len PySem.boot_len (pa_cons (pv 0) pa_nil)) (nomark _)) (pe_ix ix_list (pv 0) (pv 1) (fun _ _ => rfl)) (pe_op op_add (pe_op op_mul pe_int (pv 1)) pe_int)))
      (pss_cons (ps_set (i := 3) sc_pot.nd rfl (.inl rfl) (pe_op op_mod (pe_callTy call_int1 (by rfl) T.n_int (by decide +kernel) (pa_cons (pe_callB call_abs (by rfl) T.n_abs (by decide +kernel) (pa_cons (pv 2) pa_nil)) pa_nil)) (pe_op op_powW (pe_op op_powW pe_int pe_int) pe_int)))
      (pss_cons (ps_set (i := 4) sc_pot.nd rfl (.inl rfl) (pe_op op_add (pe_op op_add (pe_op op_add (pe_op op_mul (pe_op op_mod (pe_callTy call_int1 (by rfl) T.n_int (by decide +kernel) (pa_cons (pv 3) pa_nil)) pe_int) pe_int) (pe_op op_mul pe_int (pv 1))) (pe_op op_mul pe_int (pe_callTy call_int1 (by rfl) T.n_int (by decide +kernel) (pa_cons (pe_cmpR op_lt (pv 2) pe_int (nomark _)) pa_nil)))) pe_int))
      (pss_one (ps_ret (pe_lst (pa_cons (pe_callB (call_max2 rfl) (by rfl) T.n_max (by decide +kernel) (pa_cons pe_int (pa_cons (pe_op op_add (pe_op op_sub (pv 3) (pe_op op_powW pe_int pe_int)) pe_int) pa_nil))) (pa_cons (pe_op op_mod (pe_callTy call_int1 (by rfl) T.n_int (by decide +kernel) (pa_cons (pv 4) pa_nil)) pe_int) (pa_cons pe_int pa_nil))))))))), ?_⟩
    have fin : ∀ (g m : Int) (p : Addr), H p = none → Q (.ref p) (upd H p (.lst [.int g, .int m, .int 0])) := fun g m p np => q _ p (sub_same np) np ⟨_, _, _, upd_same⟩
    refine ⟨_, rfl, .ref a, rfl, a, _, rfl, .inl hS, _, _, rfl, rfl, _, rfl, ite2 (fun e => ?_) (fun e => ?_)⟩
    · have hlt : i < ns.length := by
        have z := of_decide_eq_true e
        rw [List.length_map] at z
        omega
      refine ⟨.ref a, rfl, _, rfl, a, _, _, .int ns[i], rfl, rfl, hS, atI_nat (by rw [List.getElem?_map, List.getElem?_eq_getElem hlt]; rfl), ?_⟩
      generalize ns[i] = z
      refine ⟨_, rfl, _, rfl, .inl ⟨_, rfl, _, _, rfl, rfl, ⟨by decide, by decide +kernel⟩, _, _, rfl, rfl, ⟨by decide, by decide +kernel⟩, _, _, rfl, rfl, (by show (0 : Int) < _; decide), ?_⟩⟩
      refine ⟨_, rfl, .inl ⟨_, rfl, _, _, rfl, rfl, (by show (0 : Int) < _; decide), _, _, rfl, rfl, .inr (by decide), ?_⟩⟩
      refine ⟨_, rfl, _, _, rfl, rfl, .inl (by decide), _, _, rfl, rfl, _, rfl, _, _, rfl, rfl, .inr ⟨_, rfl, _, _, rfl, rfl, .inl (by decide), _, _, rfl, rfl, _, _, rfl, rfl, ?_⟩⟩
      refine ⟨_, rfl, _, _, rfl, rfl, ⟨by decide, by decide +kernel⟩, _, _, rfl, rfl, _, _, rfl, rfl, _, _, rfl, ?_⟩
      exact ⟨_, rfl, .inl ⟨_, rfl, _, _, rfl, rfl, (by show (0 : Int) < _; decide), (by show 3 ≤ sizeLine; decide), fun p np => fin _ _ p np⟩⟩
    · refine ⟨_, rfl, _, _, rfl, rfl, .inl (by decide), _, _, rfl, rfl, ?_⟩
      generalize 67 * (i : Int) + 43 = z
      refine ⟨_, rfl, _, rfl, .inl ⟨_, rfl, _, _, rfl, rfl, ⟨by decide, by decide +kernel⟩, _, _, rfl, rfl, ⟨by decide, by decide +kernel⟩, _, _, rfl, rfl, (by show (0 : Int) < _; decide), ?_⟩⟩
      refine ⟨_, rfl, .inl ⟨_, rfl, _, _, rfl, rfl, (by show (0 : Int) < _; decide), _, _, rfl, rfl, .inr (by decide), ?_⟩⟩
      refine ⟨_, rfl, _, _, rfl, rfl, .inl (by decide), _, _, rfl, rfl, _, rfl, _, _, rfl, rfl, .inr ⟨_, rfl, _, _, rfl, rfl, .inl (by decide), _, _, rfl, rfl, _, _, rfl, rfl, ?_⟩⟩
      refine ⟨_, rfl, _, _, rfl, rfl, ⟨by decide, by decide +kernel⟩, _, _, rfl, rfl, _, _, rfl, rfl, _, _, rfl, ?_⟩
      exact ⟨_, rfl, .inl ⟨_, rfl, _, _, rfl, rfl, (by show (0 : Int) < _; decide), (by show 3 ≤ sizeLine; decide), fun p np => fin _ _ p np⟩⟩
end
end K04

/-! # enumerate(tuple) -/
namespace K04W
open PySem PySem.Spec PyProof.Rows
set_option maxHeartbeats 1000000 in
theorem meets_enumerate_new1 {v : Value} {o : Obj} {H : Heap → Prop} (B : Begins v o H) :
    Meets (Builtin.«enumerate.__new__» ⟨[.type "enumerate", v], []⟩) (fun _ R s => H s.heap ∧
      R (.ok (.ret (.ref (s.heap.push o).objs.size))) { s with heap := (s.heap.push o).push { cls := .type "enumerate", data := .fields #[.none, .bool false, .ref s.heap.objs.size, rawInt 0, .none, .none] } }) :=
  .of_wp fun prog w A R s h => by
    obtain ⟨hp, g, d, tk, os⟩ := s; obtain ⟨h1, h⟩ := h
    have hsub := sub_enumerate
    have q1 : ∀ {A' : Around} {E : Value → Shared → Prop} {Q : Value → Shared → Prop}, Q (.ref hp.objs.size) ⟨hp.push o, g, d, tk, os⟩ → wpAny (model prog w) A' (pyIter v) Q E ⟨hp, g, d, tk, os⟩ :=
      fun q => B.iter prog w _ _ ⟨hp, g, d, tk, os⟩ _ h1 q
    wp_walk using q1
    refine wpAny_stack_any fun st => wpAny_pure ?_
    split
    · rename_i c _ _ _ _ _
      cases (c == Value.type "enumerate")
      · wp_walk using q1
        exact ⟨_, rfl, h⟩
      · wp_walk using q1
        exact ⟨_, rfl, h⟩
    · wp_walk using q1
      exact ⟨_, rfl, h⟩
section
variable {prog : Program} {w : World} {A : Around} {E : Value → Shared → Prop} {s : Shared}
theorem enum_begins1 {v : Value} {o : Obj} {H : Heap → Prop} {Q : Value → Shared → Prop} (B : Begins v o H) (h1 : H s.heap)
    (h : ∀ h', IsEnum h' (s.heap.objs.size + 1) s.heap.objs.size 0 .none → h'.get? s.heap.objs.size = some o → h'.objs.size = s.heap.objs.size + 2 →
      (∀ b o, s.heap.get? b = some o → h'.get? b = some o) → Q (.ref (s.heap.objs.size + 1)) { s with heap := h' }) :
    wpAny (model prog w) A (call (.type "enumerate") [v]) Q E s := by
  refine callType_new F.called_enumerate (by decide) (F.typeCall_enumerate_1 _) (F.newCall_enumerate_1 _) (fun obj => F.args_object_init_2 obj _) F.entry_enumerate_new
    (meets_enumerate_new1 B) ⟨h1, ?_⟩
  have hz : (s.heap.push o).objs.size = s.heap.objs.size + 1 := Heap.size_push ..
  show _ ∧ _
  rw [hz]
  have he : IsEnum ((s.heap.push o).push { cls := .type "enumerate", data := .fields #[.none, .bool false, .ref s.heap.objs.size, rawInt 0, .none, .none] }) (s.heap.objs.size + 1) s.heap.objs.size 0 .none := by
    have := Heap.get?_push_size (s.heap.push o) (o := { cls := .type "enumerate", data := .fields #[.none, .bool false, .ref s.heap.objs.size, rawInt 0, .none, .none] }) rfl
    rw [hz] at this; exact this
  refine ⟨⟨_, he, rfl⟩, h _ he (Heap.get?_push_of_some _ (Heap.get?_push_size _ B.free)) (by rw [Heap.size_push, hz]) fun b o x => Heap.get?_push_of_some _ (Heap.get?_push_of_some _ x)⟩
theorem enum_end_tuple {e it a : Addr} {i : Nat} {items : Array Value} {c : Int} {old : Value} {Q : Option Value → Shared → Prop} (hh : A.handled = none)
    (he : IsEnum s.heap e it c old) (hit : s.heap.IsTupleIter it a i) (ht : s.heap.IsTuple a items) (hx : items[i]? = none)
    (hQ : ∀ h', Heap.ExtBut it s.heap h' → Q none { s with heap := h' }) : wpAny (model prog w) A (pyNext (.ref e)) Q E s := by
  have hT : s.TypeIs (.ref e) "enumerate" := ⟨_, he, rfl⟩
  unfold pyNext
  refine wpAny_bind (wpAny_attempt (wpAny_callSpecial?_slot (name := Str.ofString "__next__") hT F.slot_enumerate_next
    (wpAny_call_entry F.slot_enumerate_next hT F.entry_enumerate_next ?_ (F.args_enumerate_next_1 _))))
  show wpAny _ _ (field (.ref e) 2 >>= _) _ _ _
  refine wpAny_bind (wpAny_field he rfl (x := .ref it) rfl ?_)
  refine wpAny_bind (wpAny_nextOf_tuple_end (A := A.in1) hh hit ht hx fun h' x he' hx' => ?_)
  obtain ⟨o, ho, hc⟩ := hx'
  refine wpAny_bind (wpAny_isInstance (T := "StopIteration") (b := true) ⟨o, ho, hc⟩ isSubtype_stop ?_)
  exact wpAny_pure (hQ _ he')
end
end K04W
namespace K04
open PySem PySem.Spec PyProof.Rows L2
/-- the tuple at a, each item in a new pair -/
def IteT (K : PySem.W.Frag) (a : Addr) : It :=
  ⟨fun i H => ∃ (xs : List V) (x : V), SqT K H a xs ∧ xs[i]? = some x, fun i H v H' => ∃ T x, v = .ref T ∧ H T = none ∧ H' = upd H T (.tup [.int (i : Nat), x]) ∧ ∀ xs, SqT K H a xs → xs[i]? = some x, fun i H => ∃ xs : List V, SqT K H a xs ∧ xs.length ≤ i⟩
theorem turn_enumT {P : Program} {w : World} {K : PySem.W.Frag} {elts : List Expr} {kk : Nat} {tpos : Pos} (a e it : Addr) :
    Turn P w K (.Tuple elts kk tpos) (IteT K a) [e, it] e (fun i h => (∃ old, IsEnum h e it ((i : Nat) : Int) old) ∧ h.IsTupleIter it a i ∧ e ≠ it) where
  mem := by simp
  obj := fun i h st b hb => by
    obtain ⟨⟨old, he⟩, ⟨o, ho, hc, hd⟩, _⟩ := st
    have e' : b = e ∨ b = it := by simpa using hb
    rcases e' with z | z
    · rw [z]; exact ⟨_, he, fun v q => nomatch q⟩
    · rw [z]; exact ⟨o, ho, fun v q => by rw [hd] at q; cases q⟩
  keep := fun i h h' st k => let ⟨⟨old, he⟩, hi, hne⟩ := st; ⟨⟨old, k e (by simp) _ he⟩, hi.at fun o q => k it (by simp) o q, hne⟩
  item := by
    intro X hP hw hK hc i pins s σ H E I hf st hg
    subst hP hw hK
    obtain ⟨⟨old, he⟩, hit, hne⟩ := st
    obtain ⟨xs, x, hq, hx⟩ := hg
    obtain ⟨its, rv, p, hz⟩ := I.tuple hq
    obtain ⟨u, hu, ru⟩ := rv.get hx
    have p' : s.heap.IsTuple a its.toArray := p
    have ai : a ≠ it := fun z => by
      obtain ⟨o, ho, ho2, _⟩ := id hit
      obtain ⟨o', ho', hc', _⟩ := id p'
      rw [z, ho] at ho'
      rw [Option.some.inj ho', hc'] at ho2
      exact absurd ho2 (by decide)
    have ae : a ≠ e := fun z => by
      obtain ⟨o', ho', hc', _⟩ := id p'
      rw [z, he] at ho'
      rw [← Option.some.inj ho'] at hc'
      exact absurd (show Value.type "enumerate" = Value.type "tuple" from hc') (by decide)
    have hel : e < s.heap.objs.size := Heap.lt_size he
    have hil : it < s.heap.objs.size := by obtain ⟨_, q, _⟩ := hit; exact Heap.lt_size q
    have il : i < its.toArray.size := by
      have z := (List.getElem?_eq_some_iff.mp hu).1
      simpa using z
    have DD : Draws X.prog X.w X.A.in1 it [it, a] its.toArray.size (fun i v => its.toArray[i]? = some v) (fun i h => h.IsTupleIter it a i ∧ h.IsTuple a its.toArray) := Draws.tuple (A := X.A.in1) (I.ok.hd hc) it a ai its.toArray
    refine wpAny_pyNext_enum_itemC DD he ⟨hit, p'⟩ il hne (fun z => by
      rcases List.mem_cons.mp z with z | z
      · exact hne z
      · exact ae (List.mem_singleton.mp z).symm) fun u' h' tk hP ho hit' hT hsz hk => ?_
    have eu : u' = u := by
      have z : its[i]? = some u' := by simpa using hP
      rw [hu] at z
      exact (Option.some.inj z).symm
    subst eu
    refine ⟨_, rfl, wpAny_letOwnedTupleGo_enum (s := { s with heap := h', toks := tk + 1 }) ho fun h'' he' sb => ?_⟩
    have hT2 : h''.get? s.heap.objs.size = some { cls := .type "tuple", data := .seq #[.int i tk, u'] } := (sb.2 _ (Nat.ne_of_gt hel)).trans hT
    have new : ObjOk X.prog X.w (upd H s.heap.objs.size (.tup [.int (i : Nat), x])) h'' s.heap.objs.size (.tup [.int (i : Nat), x]) :=
      ⟨by show 2 ≤ sizeLine; decide, [.int i tk, u'], .cons ⟨_, rfl⟩ (.cons ru .nil), ⟨_, hT2, rfl, _, rfl⟩⟩
    have I1 : Inv X pins σ (upd H s.heap.objs.size (.tup [.int (i : Nat), x])) { s with heap := h'', toks := tk + 1 } :=
      I.turnedNew (ch := [e, it]) (fun b ob hb q => (sb.2 b (fun z => hb (by simp [z]))).trans (hk b ob (fun z => hb (by simp [z])) (fun z => hb (by simp [z])) q)) hf (Nat.le_refl _) new
    refine ⟨.ref s.heap.objs.size, _, I1, rfl, ⟨_, x, rfl, I.hok.fresh (Nat.le_refl _), rfl, fun ys hy => by rw [I.tuple_inj hy hq]; exact hx⟩, ⟨⟨u', ?_⟩, hit'.1.at fun o q => (sb.2 it (Ne.symm hne)).trans q, hne⟩, fun b hb => ?_⟩
    · have e1 : ((i + 1 : Nat) : Int) = (i : Int) + 1 := by omega
      rw [e1]; exact he'
    · have hb' : b < s.heap.objs.size := by
        have e' : b = e ∨ b = it := by simpa using hb
        rcases e' with z | z
        · rw [z]; exact hel
        · rw [z]; exact hil
      rw [upd_ne (Nat.ne_of_lt hb')]
      exact (hf b hb).1
  done := by
    intro X hP hw hK hc i pins s σ H E I hf st hg
    subst hP hw hK
    obtain ⟨⟨old, he⟩, hit, hne⟩ := st
    obtain ⟨xs, hq, hx⟩ := hg
    obtain ⟨its, rv, p, hz⟩ := I.tuple hq
    have p' : s.heap.IsTuple a its.toArray := p
    obtain ⟨f0, f1, f2, f3, f4, f5⟩ := hf it (by simp)
    have hl := rv.length
    exact K04W.enum_end_tuple (I.ok.hd hc) he hit p' (by simp; omega) fun h' eb => ⟨rfl, I.turned (t' := s.toks) (fun b o hb e => eb b o hb e) f0 f1 f3 f4 f5⟩
  self := fun A i s Q E st h => let ⟨⟨_, he⟩, _⟩ := st; wpAny_pyIter_enum he h
def iEnumT (K : PySem.W.Frag) (ta : TA) : TI := fun σ H R => ta σ H fun vs H1 => ∃ a xs, vs = [.ref a] ∧ SqT K H1 a xs ∧ R (IteT K a) H1
theorem pi_enumT {X : Cx} {e : Expr} {ta : TA} {p pos tpos : Pos} {elts : List Expr} {kk : Nat} (hg : Gl X "enumerate") (hm : X.mg "enumerate" = none) (ha : PA X [e] ta) (hs : starEach [e] X.env = [(false, eval e X.env)] := by rfl) :
    PI X (.Tuple elts kk tpos) (.Call (.Name "enumerate" p) [e] [] pos) (iEnumT X.K ta) := by
  refine ⟨fun pins s σ H R I h => ?_⟩
  refine Call_ (ld_blt I hg hm boot_enumerate (PyProof.Rows.callWith_type1 (thn (ha.run pos pins s σ H _ I h) fun us s1 ⟨vs, H1, I1, r1, q1⟩ => ?_) hs rfl))
  obtain ⟨a, xs, ex, hq, q⟩ := q1
  subst ex
  cases r1 with
  | cons r rr =>
    cases rr
    cases r
    obtain ⟨its, rv, p', hz⟩ := I1.tuple hq
    refine K04W.enum_begins1 (begins_tuple a its.toArray) (show s1.heap.IsTuple a its.toArray from p') fun h' he hit hsz hk => wpAny_pyIter_enum he ?_
    have I2 : Inv X pins σ H1 { s1 with heap := h' } := I1.kept (t' := s1.toks) hk
    refine ⟨s1.heap.objs.size + 1, [s1.heap.objs.size + 1, s1.heap.objs.size], _, _, H1, rfl, I2, turn_enumT a (s1.heap.objs.size + 1) s1.heap.objs.size, ⟨⟨.none, he⟩, ⟨_, hit, rfl, rfl⟩, Nat.succ_ne_self _⟩, fun b hb => ?_, q⟩
    have e' : b = s1.heap.objs.size + 1 ∨ b = s1.heap.objs.size := by simpa using hb
    have hle : s1.heap.objs.size ≤ b := by
      rcases e' with z | z
      · rw [z]; exact Nat.le_add_right _ _
      · rw [z]; exact Nat.le_refl _
    exact I1.fpOk hle (I1.hok.fresh hle)
end K04
namespace K04
open PySem PySem.Spec PyProof.Rows L2
theorem walk_enumT {K : PySem.W.Frag} {a : Addr} {xs : List V} : Walk (IteT K a) xs.length (fun H => SqT K H a xs) (YPair (fun i => some (.int (i : Nat))) (fun i => xs[i]?)) := by
  refine ⟨fun i _ hi q => ⟨xs, xs[i], q, by simp [hi]⟩, fun _ q => ⟨xs, q, Nat.le_refl _⟩, fun i H v H' _ q y => ?_⟩
  obtain ⟨T, x, h1, h2, h3, h4⟩ := y
  exact ⟨T, .int (i : Nat), x, h1, h2, h3, rfl, h4 xs q⟩
end K04

/-! # sums and greatest of tuples; kinds of values; shapes -/
namespace K04
open PySem PySem.Spec PyProof.Rows L2
section
variable {X : Cx}
theorem cr_sumT (hc : X.calm = true) : CallR X (.builtin "sum") (fun vs H Q => ∃ (a : Addr) (ns : List Int), vs = [V.ref a] ∧ SqT X.K H a (ns.map V.int) ∧ Q (.int ns.sum) H) := by
  intro pins s σ H vs us Q I r h
  obtain ⟨a, ns, rfl, hs, q⟩ := h
  obtain ⟨its, rv, hl, _⟩ := I.tuple hs
  rw [Vals.ref1 r]
  have hi := rv.ints
  obtain ⟨xs, e⟩ := hi.allInts.items
  have hn : numsOf (PySem.intItems xs).toList = ns := by rw [← e]; exact hi.numsOf
  rw [nums_intItems] at hn
  have hl' : s.heap.IsTuple a its.toArray := hl
  rw [e] at hl'
  refine PySem.W.ktm_sumG (I.ok.hd hc) hl' fun h' tk t' hk => ?_
  have z : EP X pins σ Q (.int ns.sum t') { s with heap := h', toks := tk } := ⟨.int _, H, I.kept hk, ⟨_, rfl⟩, q⟩
  rw [preSum_eq, List.take_of_length_le (by simp), hn]
  exact z
theorem alike_int (ns : List Int) : PySem.W.AlikeAll (ns.map PyData.int) := by
  refine ⟨fun x hx y hy => ?_, fun x hx => ?_⟩
  · obtain ⟨i, _, rfl⟩ := List.mem_map.mp hx
    obtain ⟨j, _, rfl⟩ := List.mem_map.mp hy
    rfl
  · obtain ⟨i, _, rfl⟩ := List.mem_map.mp hx
    exact fun z => by cases z
theorem dp_ints (K : PySem.W.Frag) (H : Hp) : ∀ ns : List Int, DpAll K H (ns.map V.int) (ns.map PyData.int)
  | [] => .nil
  | n :: r => .cons (.int n) (dp_ints K H r)
theorem dep_ints : ∀ ns : List Int, PyData.depthAll (ns.map PyData.int) = 0
  | [] => rfl
  | n :: r => by
    show max 0 (PyData.depthAll (r.map PyData.int)) = 0
    rw [dep_ints r]
    rfl
theorem cr_maxT (hc : X.calm = true) (hu : X.A.units + 8 < cLine) : CallR X (.builtin "max") (fun vs H Q => ∃ (a : Addr) (n : Int) (ns : List Int), vs = [V.ref a] ∧ SqT X.K H a ((n :: ns).map V.int) ∧ Q (.int (ns.foldl max n)) H) := by
  intro pins s σ H vs us Q I r h
  obtain ⟨a, n, ns, rfl, hs, q⟩ := h
  obtain ⟨its, rv, hl, _⟩ := I.tuple hs
  rw [Vals.ref1 r]
  obtain ⟨as, ra⟩ := Dp.readsAll I ((n :: ns).map PyData.int) _ its (dp_ints X.K H (n :: ns)) rv
  refine PySem.W.max_tuple_data (x := .int n) (xs := ns.map PyData.int) (I.ok.hd hc) (show s.heap.IsTuple a its.toArray from hl) (show ReadsAll s.heap its.toArray.toList _ _ from ra) (alike_int (n :: ns)) (by rw [show PyData.int n :: ns.map PyData.int = (n :: ns).map PyData.int from rfl, dep_ints]; omega) fun i v h' tk bs _ hr hk => ?_
  rw [PySem.W.maxD_ints] at hr
  obtain ⟨t, rfl⟩ : ∃ t, v = .int (ns.foldl max n) t := by
    cases hr
    exact ⟨_, rfl⟩
  exact ⟨.int _, H, I.kept hk, ⟨_, rfl⟩, q⟩
end
/-! ### kinds of values -/
mutual
/-- a value without lists and dicts -/
inductive Tv (H : Hp) : V → PyData → Prop
  | non : Tv H .non .none
  | bl (b : Bool) : Tv H (.bl b) (.bool b)
  | int (i : Int) : Tv H (.int i) (.int i)
  | str (z : Str) : Tv H (.str z) (.str z)
  | tup {a : Addr} {xs : List V} {ds : List PyData} : H a = some (.tup xs) → TvL H xs ds → Tv H (.ref a) (.tuple ds)
inductive TvL (H : Hp) : List V → List PyData → Prop
  | nil : TvL H [] []
  | cons {x : V} {d : PyData} {xs : List V} {ds : List PyData} : Tv H x d → TvL H xs ds → TvL H (x :: xs) (d :: ds)
end
/-- all objects but the one at a as before, new ones may be there -/
def Old (a : Addr) (H H' : Hp) : Prop := ∀ b o, b ≠ a → H b = some o → H' b = some o
theorem Old.of_same {a : Addr} {H H' : Hp} (s : Same H H') : Old a H H' := fun b o _ h => s b o h
theorem Old.of_but {a : Addr} {H H' : Hp} (s : But a H H') : Old a H H' := fun b o n h => (s b n).trans h
theorem Old.trans {a : Addr} {H H1 H2 : Hp} (x : Old a H H1) (y : Old a H1 H2) : Old a H H2 := fun b o n h => y b o n (x b o n h)
theorem Urn.same {H H' : Hp} {a : Addr} (u : Urn H a) (s : Same H H') : Urn H' a := let ⟨g, m, c, h⟩ := u; ⟨g, m, c, s _ _ h⟩
theorem urn_ne {H : Hp} {a p : Addr} (u : Urn H a) (h : H p = none) : p ≠ a := fun e => by
  obtain ⟨g, m, c, hu⟩ := u
  rw [e, hu] at h
  cases h
mutual
theorem Tv.old {H H' : Hp} {u : Addr} (hu : Urn H u) (o : Old u H H') : ∀ {x : V} {d : PyData}, Tv H x d → Tv H' x d
  | _, _, .non => .non
  | _, _, .bl b => .bl b
  | _, _, .int i => .int i
  | _, _, .str z => .str z
  | _, _, .tup (a := a) e l => .tup (o a _ (fun z => by
      obtain ⟨g, m, c, eu⟩ := hu
      rw [z, eu] at e
      cases e) e) (l.old hu o)
theorem TvL.old {H H' : Hp} {u : Addr} (hu : Urn H u) (o : Old u H H') : ∀ {xs : List V} {ds : List PyData}, TvL H xs ds → TvL H' xs ds
  | _, _, .nil => .nil
  | _, _, .cons h t => .cons (h.old hu o) (t.old hu o)
end
mutual
theorem Tv.same {H H' : Hp} (o : Same H H') : ∀ {x : V} {d : PyData}, Tv H x d → Tv H' x d
  | _, _, .non => .non
  | _, _, .bl b => .bl b
  | _, _, .int i => .int i
  | _, _, .str z => .str z
  | _, _, .tup e l => .tup (o _ _ e) (l.same o)
theorem TvL.same {H H' : Hp} (o : Same H H') : ∀ {xs : List V} {ds : List PyData}, TvL H xs ds → TvL H' xs ds
  | _, _, .nil => .nil
  | _, _, .cons h t => .cons (h.same o) (t.same o)
end
mutual
theorem Tv.put {H : Hp} {D : Addr} {xs ys : List V} (hd : H D = some (.lst xs)) : ∀ {x : V} {d : PyData}, Tv H x d → Tv (upd H D (.lst ys)) x d
  | _, _, .non => .non
  | _, _, .bl b => .bl b
  | _, _, .int i => .int i
  | _, _, .str z => .str z
  | _, _, .tup (a := a) e l => .tup ((upd_ne (fun z => by rw [z, hd] at e; cases e)).trans e) (l.put hd)
theorem TvL.put {H : Hp} {D : Addr} {xs ys : List V} (hd : H D = some (.lst xs)) : ∀ {zs : List V} {ds : List PyData}, TvL H zs ds → TvL (upd H D (.lst ys)) zs ds
  | _, _, .nil => .nil
  | _, _, .cons h t => .cons (h.put hd) (t.put hd)
end
theorem TvL.snoc {H : Hp} : ∀ {xs : List V} {ds : List PyData} {x : V} {d : PyData}, TvL H xs ds → Tv H x d → TvL H (xs ++ [x]) (ds ++ [d])
  | _, _, _, _, .nil, h => .cons h .nil
  | _, _, _, _, .cons a t, h => .cons a (t.snoc h)
theorem TvL.len {H : Hp} : ∀ {xs : List V} {ds : List PyData}, TvL H xs ds → xs.length = ds.length
  | _, _, .nil => rfl
  | _, _, .cons _ t => congrArg (· + 1) t.len
theorem TvL.get {H : Hp} : ∀ {xs : List V} {ds : List PyData} {i : Nat} {x : V}, TvL H xs ds → xs[i]? = some x → ∃ d, ds[i]? = some d ∧ Tv H x d
  | _, _, _, _, .nil, h => by simp at h
  | _, _, 0, _, .cons a _, h => by
    rw [List.getElem?_cons_zero] at h
    obtain rfl := Option.some.inj h
    exact ⟨_, rfl, a⟩
  | _, _, i + 1, _, .cons _ t, h => by
    rw [List.getElem?_cons_succ] at h
    exact t.get h
/-- such a value, a list of ints, a dict of one int to one int -/
inductive Dw (H : Hp) : V → PyData → Prop
  | tv {x : V} {d : PyData} : Tv H x d → Dw H x d
  | lst {a : Addr} {ns : List Int} : H a = some (.lst (ns.map V.int)) → Dw H (.ref a) (.list (ns.map .int))
  | dic {a : Addr} {m n : Int} : H a = some (.dK [(.inl m, .int n)]) → Dw H (.ref a) (.dict [(.int m, .int n)])
theorem Dw.same {H H' : Hp} (o : Same H H') {x : V} {d : PyData} (h : Dw H x d) : Dw H' x d := by
  cases h with
  | tv t => exact .tv (t.same o)
  | lst e => exact .lst (o _ _ e)
  | dic e => exact .dic (o _ _ e)
abbrev kit (K : PySem.W.Frag) (t c : Value) (b : Bool) : Prop := PySem.W.kitOne K t c = some b
/-- the name of the type -/
def tyN : PyData → String
  | .none => "NoneType"
  | .bool _ => "bool"
  | .int _ => "int"
  | .str _ => "str"
  | .list _ => "list"
  | .tuple _ => "tuple"
  | .dict _ => "dict"
theorem Tv.ty {K : PySem.W.Frag} {H : Hp} {x : V} {d : PyData} (h : Tv H x d) : TyX K H x (.type (tyN d)) := by
  cases h with
  | non => exact .base .non
  | bl b => exact .base (.bl b)
  | int i => exact .base (.int i)
  | str z => exact .base (.str z)
  | tup e _ => exact .base (.tup e)
theorem Dw.ty {K : PySem.W.Frag} {H : Hp} {x : V} {d : PyData} (h : Dw H x d) : TyX K H x (.type (tyN d)) := by
  cases h with
  | tv t => exact t.ty
  | lst e => exact .base (.lst e)
  | dic e => exact .base (.dK e)
def isT : PyData → Bool
  | .tuple _ => true
  | _ => false
def isB : PyData → Bool
  | .bool _ => true
  | _ => false
def isI : PyData → Bool
  | .bool _ => true
  | .int _ => true
  | _ => false
theorem kitT {K : PySem.W.Frag} : ∀ d : PyData, kit K (.type (tyN d)) (.type "tuple") (isT d)
  | .none => kit_ty (show kitB "NoneType" "tuple" = some false by decide +kernel)
  | .bool _ => kit_ty (show kitB "bool" "tuple" = some false by decide +kernel)
  | .int _ => kit_ty (show kitB "int" "tuple" = some false by decide +kernel)
  | .str _ => kit_ty (show kitB "str" "tuple" = some false by decide +kernel)
  | .list _ => kit_ty (show kitB "list" "tuple" = some false by decide +kernel)
  | .tuple _ => kit_ty (show kitB "tuple" "tuple" = some true by decide +kernel)
  | .dict _ => kit_ty (show kitB "dict" "tuple" = some false by decide +kernel)
theorem kitB' {K : PySem.W.Frag} : ∀ d : PyData, kit K (.type (tyN d)) (.type "bool") (isB d)
  | .none => kit_ty (show kitB "NoneType" "bool" = some false by decide +kernel)
  | .bool _ => kit_ty (show kitB "bool" "bool" = some true by decide +kernel)
  | .int _ => kit_ty (show kitB "int" "bool" = some false by decide +kernel)
  | .str _ => kit_ty (show kitB "str" "bool" = some false by decide +kernel)
  | .list _ => kit_ty (show kitB "list" "bool" = some false by decide +kernel)
  | .tuple _ => kit_ty (show kitB "tuple" "bool" = some false by decide +kernel)
  | .dict _ => kit_ty (show kitB "dict" "bool" = some false by decide +kernel)
theorem kitI {K : PySem.W.Frag} : ∀ d : PyData, kit K (.type (tyN d)) (.type "int") (isI d)
  | .none => kit_ty (show kitB "NoneType" "int" = some false by decide +kernel)
  | .bool _ => kit_ty (show kitB "bool" "int" = some true by decide +kernel)
  | .int _ => kit_ty (show kitB "int" "int" = some true by decide +kernel)
  | .str _ => kit_ty (show kitB "str" "int" = some false by decide +kernel)
  | .list _ => kit_ty (show kitB "list" "int" = some false by decide +kernel)
  | .tuple _ => kit_ty (show kitB "tuple" "int" = some false by decide +kernel)
  | .dict _ => kit_ty (show kitB "dict" "int" = some false by decide +kernel)
theorem iteP {p A B : Prop} [Decidable p] (h : p) (a : A) : if decide p = true then A else B := by
  rw [if_pos (decide_eq_true h)]
  exact a
theorem iteQ {p A B : Prop} [Decidable p] (h : ¬ p) (b : B) : if decide p = true then A else B := by
  rw [if_neg (fun z => h (of_decide_eq_true z))]
  exact b
/-- an int from lo to hi -/
def btw (d : PyData) (lo hi : Int) : Bool := match d with
  | .int n => decide (lo ≤ n) && decide (n ≤ hi)
  | _ => false
def isW : PyData → Bool
  | .int _ => true
  | _ => false
theorem isW_eq (d : PyData) : (isI d && !isB d) = isW d := by cases d <;> rfl
section
variable {P : Program} {w : World} {K : PySem.W.Frag} {mg : Str → Option Value} {base : Heap}
abbrev s_is_whole : Stmt := topS 10
theorem sc_is_whole : FnScope ["value"] ["value"] (defScope s_is_whole) := ⟨rfl, rfl, rfl, by decide +kernel, rfl, by decide +kernel, by decide +kernel⟩
abbrev s_is_integer : Stmt := topS 11
theorem sc_is_integer : FnScope ["value"] ["value"] (defScope s_is_integer) := ⟨rfl, rfl, rfl, by decide +kernel, rfl, by decide +kernel, by decide +kernel⟩
abbrev s_is_between : Stmt := topS 12
theorem sc_is_between : FnScope ["value", "least", "most"] ["value", "least", "most"] (defScope s_is_between) := ⟨rfl, rfl, rfl, by decide +kernel, rfl, by decide +kernel, by decide +kernel⟩
abbrev s_is_index : Stmt := topS 13
theorem sc_is_index : FnScope ["value", "many"] ["value", "many"] (defScope s_is_index) := ⟨rfl, rfl, rfl, by decide +kernel, rfl, by decide +kernel, by decide +kernel⟩
def spWhole : Sp := fun vs H Q _ => ∃ (x : V) (d : PyData), vs = [x] ∧ Dw H x d ∧ Q (.bl (isW d)) H
theorem ok_whole {f : Addr} {fd : FuncData} {k : Nat} (T : Txt mg) (d : D K mg "is_whole" s_is_whole ["value"] f fd) : FnOk P w K mg base CX0 (k + 1) f fd ["value"] spWhole := by
  refine d.F.ok sc_is_whole (fun vs H Q E h => ?_) (fun cdv A outer s H vs Q E hr h => ?_)
  · obtain ⟨x, d, rfl, _⟩ := h
    rfl
  · obtain ⟨x, d, rfl, hd, q⟩ := h
    refine ⟨_, (pss_one (ps_ret (pe_and (pe_callB call_isi (by rfl) T.n_isinstance (by decide +kernel) (pa_cons (pv 0) (pa_cons (pe_bltn (v := .ty "int") (by rfl) T.n_int (by decide +kernel) rfl) pa_nil)))
      (pe_one (pe_not (pe_callB call_isi (by rfl) T.n_isinstance (by decide +kernel) (pa_cons (pv 0) (pa_cons (pe_bltn (v := .ty "bool") (by rfl) T.n_bool (by decide +kernel) rfl) pa_nil)))))))), ?_⟩
    refine ⟨_, rfl, _, _, _, _, _, rfl, .ty _, hd.ty, kitI d, _, rfl, ?_⟩
    rw [← isW_eq] at q
    cases e : isI d with
    | false =>
      rw [e] at q
      exact iteF q
    | true =>
      rw [e] at q
      exact iteT ⟨_, rfl, _, _, _, _, _, rfl, .ty _, hd.ty, kitB' d, _, rfl, q⟩
def spBtw : Sp := fun vs H Q _ => ∃ (x : V) (d : PyData) (lo hi : Int), vs = [x, .int lo, .int hi] ∧ Dw H x d ∧ Q (.bl (btw d lo hi)) H
theorem ok_between {f f1 : Addr} {fd fd1 : FuncData} {k : Nat} (T : Txt mg) (d : D K mg "is_between" s_is_between ["value", "least", "most"] f fd) (d1 : D K mg "is_whole" s_is_whole ["value"] f1 fd1) : FnOk P w K mg base CX0 (k + 2) f fd ["value", "least", "most"] spBtw := by
  have G1 : FnOk P w K mg base CX0 (k + 1) f1 fd1 ["value"] spWhole := ok_whole T d1
  refine d.F.ok sc_is_between (fun vs H Q E h => ?_) (fun cdv A outer s H vs Q E hr h => ?_)
  · obtain ⟨x, d, lo, hi, rfl, _⟩ := h
    rfl
  · obtain ⟨x, d, lo, hi, rfl, hd, q⟩ := h
    refine ⟨_, (pss_one (ps_ret (pe_and (pe_call G1 hr (by rfl) d1.g d1.F.kp d1.b .nil pass0 (pa_cons (pv 0) pa_nil)) (pe_one (pe_chain op_le op_le (pv 1) (pv 0) (pv 2)))))), ?_⟩
    refine ⟨_, rfl, x, d, rfl, hd, _, rfl, ?_⟩
    cases d with
    | int n =>
      cases hd with
      | tv t =>
        cases t
        refine iteT ⟨_, rfl, _, rfl, _, _, rfl, rfl, _, rfl, ?_⟩
        show if decide (lo ≤ n) = true then _ else _
        have q' : Q (.bl (decide (lo ≤ n) && decide (n ≤ hi))) H := q
        by_cases l : lo ≤ n
        · rw [decide_eq_true l] at q'
          exact iteP l ⟨_, rfl, _, _, rfl, rfl, q'⟩
        · rw [decide_eq_false l] at q'
          exact iteQ l q'
    | _ => exact iteF q
def spIdx : Sp := fun vs H Q _ => ∃ (x : V) (d : PyData) (n : Int), vs = [x, .int n] ∧ Dw H x d ∧ Q (.bl (btw d 0 (n - 1))) H
theorem ok_index {f f1 f2 : Addr} {fd fd1 fd2 : FuncData} {k : Nat} (T : Txt mg) (d : D K mg "is_index" s_is_index ["value", "many"] f fd) (d1 : D K mg "is_between" s_is_between ["value", "least", "most"] f1 fd1) (d2 : D K mg "is_whole" s_is_whole ["value"] f2 fd2) : FnOk P w K mg base CX0 (k + 3) f fd ["value", "many"] spIdx := by
  have G1 : FnOk P w K mg base CX0 (k + 2) f1 fd1 ["value", "least", "most"] spBtw := ok_between T d1 d2
  refine d.F.ok sc_is_index (fun vs H Q E h => ?_) (fun cdv A outer s H vs Q E hr h => ?_)
  · obtain ⟨x, d, n, rfl, _⟩ := h
    rfl
  · obtain ⟨x, d, n, rfl, hd, q⟩ := h
    refine ⟨_, (pss_one (ps_ret (pe_call G1 hr (by rfl) d1.g d1.F.kp d1.b .nil pass0 (pa_cons (pv 0) (pa_cons pe_int (pa_cons (pe_op op_sub (pv 1) pe_int) pa_nil)))))), ?_⟩
    exact ⟨_, rfl, _, rfl, _, _, rfl, rfl, x, d, 0, n - 1, rfl, hd, q⟩
end
end K04

/-! # shapes -/
namespace K04
open PySem PySem.Spec PyProof.Rows L2
/-- names of the module, and its numbers -/
structure Nam (mg : Str → Option Value) : Prop where
  n_all : mg "all" = none
  n_any : mg "any" = none
  n_list : mg "list" = none
  n_dict : mg "dict" = none
  n_enumerate : mg "enumerate" = none
  n_sorted : mg "sorted" = none
  n_str : mg "str" = none
  cB : ∃ t, mg "_MOST_BLOCKS" = some (.int 3 t)
  cL : ∃ t, mg "_LEAST_SIZE" = some (.int 2 t)
  cS : ∃ t, mg "_MOST_SIZE" = some (.int 6 t)
  cM : ∃ t, mg "MAX_BOXES" = some (.int 8 t)
  cI : ∃ t, mg "_LIMIT" = some (.int (10 ^ 60) t)
def sumD : List PyData → Int
  | [] => 0
  | .int n :: r => n + sumD r
  | _ :: r => sumD r
def isSh : PyData → Bool
  | .tuple ds => (decide (1 ≤ (ds.length : Int)) && decide ((ds.length : Int) ≤ 3)) && (ds.all (fun d => btw d 2 6) && decide (sumD ds ≤ 8))
  | _ => false
theorem all_ints : ∀ {ds : List PyData}, ds.all (fun d => btw d 2 6) = true → ∃ ns : List Int, ds = ns.map .int ∧ ∀ n ∈ ns, 2 ≤ n ∧ n ≤ 6
  | [], _ => ⟨[], rfl, fun n h => by cases h⟩
  | d :: r, h => by
    rw [List.all_cons, Bool.and_eq_true] at h
    obtain ⟨ns, e, b⟩ := all_ints h.2
    cases d with
    | int n =>
      have z : (decide (2 ≤ n) && decide (n ≤ 6)) = true := h.1
      rw [Bool.and_eq_true] at z
      refine ⟨n :: ns, by rw [e]; rfl, fun m hm => ?_⟩
      rcases List.mem_cons.mp hm with rfl | hm
      · exact ⟨of_decide_eq_true z.1, of_decide_eq_true z.2⟩
      · exact b m hm
    | _ => exact absurd h.1 Bool.false_ne_true
theorem sum_ints : ∀ ns : List Int, sumD (ns.map .int) = ns.sum
  | [] => rfl
  | n :: r => by
    show n + sumD (r.map .int) = (n :: r).sum
    rw [sum_ints r, List.sum_cons]
theorem TvL.ints {H : Hp} : ∀ {xs : List V} {ns : List Int}, TvL H xs (ns.map .int) → xs = ns.map V.int
  | [], [], _ => rfl
  | _ :: _, [], h => by cases h
  | [], _ :: _, h => by cases h
  | x :: xs, n :: ns, h => by
    cases h with
    | cons a t =>
      cases a
      rw [t.ints]
      rfl
/-- a shape -/
def Shp (ns : List Int) : Prop := (1 ≤ ns.length ∧ ns.length ≤ 3) ∧ (∀ n ∈ ns, 2 ≤ n ∧ n ≤ 6) ∧ ns.sum ≤ 8
theorem shp_of {d : PyData} (h : isSh d = true) : ∃ ns, d = .tuple (ns.map .int) ∧ Shp ns := by
  cases d with
  | tuple ds =>
    have z : ((decide (1 ≤ (ds.length : Int)) && decide ((ds.length : Int) ≤ 3)) && (ds.all (fun d => btw d 2 6) && decide (sumD ds ≤ 8))) = true := h
    simp only [Bool.and_eq_true] at z
    obtain ⟨⟨h1, h2⟩, h3, h4⟩ := z
    obtain ⟨ns, e, b⟩ := all_ints h3
    subst e
    have h1 := of_decide_eq_true h1
    have h2 := of_decide_eq_true h2
    have h4 := of_decide_eq_true h4
    rw [List.length_map] at h1 h2
    rw [sum_ints] at h4
    exact ⟨ns, rfl, ⟨by omega, by omega⟩, b, h4⟩
  | _ => exact absurd h Bool.false_ne_true
theorem shp_is {ns : List Int} (h : Shp ns) : isSh (.tuple (ns.map .int)) = true := by
  obtain ⟨⟨h1, h2⟩, b, h4⟩ := h
  show ((decide (1 ≤ ((ns.map PyData.int).length : Int)) && decide (((ns.map PyData.int).length : Int) ≤ 3)) && ((ns.map PyData.int).all (fun d => btw d 2 6) && decide (sumD (ns.map .int) ≤ 8))) = true
  rw [List.length_map, sum_ints, decide_eq_true h4, decide_eq_true (show 1 ≤ (ns.length : Int) by omega), decide_eq_true (show (ns.length : Int) ≤ 3 by omega)]
  have z : (ns.map PyData.int).all (fun d => btw d 2 6) = true := by
    rw [List.all_eq_true]
    intro d hd
    obtain ⟨n, hn, rfl⟩ := List.mem_map.mp hd
    obtain ⟨c1, c2⟩ := b n hn
    show (decide (2 ≤ n) && decide (n ≤ 6)) = true
    rw [decide_eq_true c1, decide_eq_true c2]
    rfl
  rw [z]
  rfl
section
variable {P : Program} {w : World} {K : PySem.W.Frag} {mg : Str → Option Value} {base : Heap}
abbrev s_is_shape : Stmt := topS 20
theorem sc_is_shape : FnScope ["value", "size"] ["value"] (defScope s_is_shape) := ⟨rfl, rfl, rfl, by decide +kernel, rfl, by decide +kernel, by decide +kernel⟩
def spShape : Sp := fun vs H Q _ => ∃ (x : V) (d : PyData), vs = [x] ∧ Dw H x d ∧ ∀ H', Same H H' → Q (.bl (isSh d)) H'
theorem ok_shape {f f1 f2 : Addr} {fd fd1 fd2 : FuncData} {k : Nat} (T : Txt mg) (N : Nam mg) (d : D K mg "is_shape" s_is_shape ["value"] f fd) (d1 : D K mg "is_between" s_is_between ["value", "least", "most"] f1 fd1) (d2 : D K mg "is_whole" s_is_whole ["value"] f2 fd2) : FnOk P w K mg base CX0 (k + 3) f fd ["value"] spShape := by
  have G1 : FnOk P w K mg base CX0 (k + 2) f1 fd1 ["value", "least", "most"] spBtw := ok_between T d1 d2
  obtain ⟨tB, cB⟩ := N.cB
  obtain ⟨tL, cL⟩ := N.cL
  obtain ⟨tS, cS⟩ := N.cS
  obtain ⟨tM, cM⟩ := N.cM
  refine d.F.ok sc_is_shape (fun vs H Q E h => ?_) (fun cdv A outer s H vs Q E hr h => ?_)
  · obtain ⟨x, d, rfl, _⟩ := h
    rfl
  · obtain ⟨x, d, rfl, hd, q⟩ := h
    refine ⟨_, (pss_cons (ps_if (PW.pt (pw_or (pt_not (pt_val (pe_callB call_isi (by rfl) T.n_isinstance (by decide +kernel) (pa_cons (pv 0) (pa_cons (pe_bltn (v := .ty "tuple") (by rfl) T.n_tuple (by decide +kernel) rfl) pa_nil)))))
        (pw_or1 (pt_not (pt_chain op_le op_le pe_int (pe_callB call_len_seq (by rfl) T.n_len PySem.boot_len (pa_cons (pv 0) pa_nil)) (pe_glob (v := .int 3) rfl cB ⟨_, rfl⟩)))))) (pss_one (ps_ret pe_bl)) pss_nil)
      (pss_cons (ps_if (pt_not (pt_val (pe_callB (cr_all rfl) (by rfl) N.n_all (by decide +kernel) (pa_cons (pe_lc (own := [("size", 1)]) (g := gName 1) (tt := tYes) rfl sc_is_shape.nd (pi_tup (pv 0)) (blkOk_by (own := [("size", 1)]) (N := ["value", "size"]) (sc := defScope s_is_shape) (by decide +kernel))
            (fun _ _ _ _ _ => pg_name (i := 1) sc_is_shape.nd rfl (Or.inl rfl)) (fun _ _ _ _ _ => pts_nil) (fun _ _ _ _ _ => pe_call G1 hr (by rfl) d1.g d1.F.kp d1.b .nil pass0 (pa_cons (pv 1) (pa_cons (pe_glob (v := .int 2) rfl cL ⟨_, rfl⟩) (pa_cons (pe_glob (v := .int 6) rfl cS ⟨_, rfl⟩) pa_nil))))) pa_nil)))) (pss_one (ps_ret pe_bl)) pss_nil)
      (pss_one (ps_ret (pe_cmpR op_le (pe_callB (cr_sumT rfl) (by rfl) T.n_sum (by decide +kernel) (pa_cons (pv 0) pa_nil)) (pe_glob (v := .int 8) rfl cM ⟨_, rfl⟩) (nomark _)))))), ?_⟩
    refine ⟨_, rfl, _, _, _, _, _, rfl, .ty _, hd.ty, kitT d, _, rfl, ?_⟩
    cases d with
    | tuple ds =>
      obtain ⟨a, xs, rfl, e, l⟩ : ∃ a xs, x = .ref a ∧ H a = some (.tup xs) ∧ TvL H xs ds := by
        cases hd with
        | tv t =>
          cases t with
          | tup e l => exact ⟨_, _, rfl, e, l⟩
      have ll := l.len
      refine ite2 (fun z => absurd z Bool.false_ne_true) (fun _ => ?_)
      refine ⟨.ref a, rfl, a, xs, rfl, .inr (.inl (.inl e)), _, _, rfl, rfl, _, rfl, ?_⟩
      rw [ll]
      by_cases c1 : 1 ≤ (ds.length : Int)
      · refine iteP c1 ⟨_, _, rfl, rfl, _, rfl, ?_⟩
        by_cases c2 : (ds.length : Int) ≤ 3
        · rw [decide_eq_true c2]
          refine ite2 (fun z => absurd z Bool.false_ne_true) (fun _ => ?_)
          refine ⟨_, rfl, a, rfl, ⟨_, .inl (.inl e)⟩, fun D hD => ?_⟩
          have off : ∀ {Z : Hp} {o : HO}, Same H Z → Same H (upd Z D o) := fun sz b o h => by
            rw [upd_ne (ne_of_none h hD)]
            exact sz b o h
          refine lc_tup (K := K) (a := a) (xs := xs) (fun i H' => Same H H' ∧ H' D = some (.lst (((ds.take i).map fun d => btw d 2 6).map V.bl))) ⟨off (Same.refl H), upd_same⟩ (fun i H' _ h => .inl (.inl (h.1 _ _ e))) ?_ ?_
          · rintro i x H' hx ⟨sm, hl⟩
            obtain ⟨d0, hd0, tv⟩ := l.get hx
            have il : i < ds.length := (List.getElem?_eq_some_iff.mp hd0).1
            refine ⟨rfl, ?_⟩
            unfold tYes
            refine ite2 (fun _ => ?_) (fun q => absurd rfl q)
            refine ⟨_, rfl, x, d0, 2, 6, rfl, .tv (tv.same sm), ?_⟩
            refine ⟨_, hl, Nat.lt_of_lt_of_le (show _ < 4 by rw [List.length_map, List.length_map, List.length_take]; omega) (by decide), off sm, ?_⟩
            have tk : ds.take (i + 1) = ds.take i ++ [d0] := by rw [List.take_succ, hd0]; rfl
            rw [upd_same, tk, List.map_append, List.map_append]
            rfl
          · rintro H' ⟨sm, hl⟩
            rw [ll, List.take_length] at hl
            refine ⟨D, ds.map fun d => btw d 2 6, rfl, .inl (.inl hl), _, rfl, ?_⟩
            have e1 : (ds.map fun d => btw d 2 6).all id = ds.all fun d => btw d 2 6 := by rw [List.all_map]; rfl
            rw [e1]
            have q' := q H' sm
            have z0 : isSh (.tuple ds) = ((decide (1 ≤ (ds.length : Int)) && decide ((ds.length : Int) ≤ 3)) && (ds.all (fun d => btw d 2 6) && decide (sumD ds ≤ 8))) := rfl
            rw [z0, decide_eq_true c1, decide_eq_true c2, Bool.true_and, Bool.true_and] at q'
            cases c3 : ds.all fun d => btw d 2 6 with
            | false =>
              rw [c3] at q'
              exact ite2 (fun _ => q') (fun z => absurd rfl z)
            | true =>
              rw [c3, Bool.true_and] at q'
              refine ite2 (fun z => absurd z Bool.false_ne_true) (fun _ => ?_)
              obtain ⟨ns, en, _⟩ := all_ints c3
              subst en
              rw [sum_ints] at q'
              have ex := l.ints
              exact ⟨_, rfl, a, ns, rfl, .inl (.inl (by rw [← ex]; exact sm _ _ e)), _, _, rfl, rfl, q'⟩
        · rw [decide_eq_false c2]
          refine ite2 (fun _ => ?_) (fun z => absurd rfl z)
          have z : isSh (.tuple ds) = false := by
            show ((decide (1 ≤ (ds.length : Int)) && decide ((ds.length : Int) ≤ 3)) && _) = false
            rw [decide_eq_false c2, Bool.and_false, Bool.false_and]
          have q' := q H (Same.refl H)
          rw [z] at q'
          exact q'
      · refine iteQ c1 ⟨_, rfl, ite2 (fun _ => ?_) (fun z => absurd rfl z)⟩
        have z : isSh (.tuple ds) = false := by
          show ((decide (1 ≤ (ds.length : Int)) && decide ((ds.length : Int) ≤ 3)) && _) = false
          rw [decide_eq_false c1, Bool.false_and, Bool.false_and]
        have q' := q H (Same.refl H)
        rw [z] at q'
        exact q'
    | _ => exact ite2 (fun _ => ite2 (fun _ => q H (Same.refl H)) (fun z => absurd rfl z)) (fun z => absurd rfl z)
end
end K04

/-! # shapes, by the law -/
namespace K04
open PySem PySem.Spec PyProof.Rows L2
theorem btw_no {d : PyData} {lo hi : Int} (h : isW d = false) : btw d lo hi = false := by cases d <;> first | rfl | exact absurd (show true = false from h) (by decide)
theorem not_all {ds : List PyData} {i : Nat} {d : PyData} (h : ds[i]? = some d) (b : btw d 2 6 = false) : isSh (.tuple ds) = false := by
  have z : ds.all (fun d => btw d 2 6) = false := by
    cases e : ds.all (fun d => btw d 2 6) with
    | false => rfl
    | true =>
      have y := List.all_eq_true.mp e d (List.mem_of_getElem? h)
      rw [b] at y
      cases y
  show (_ && (ds.all (fun d => btw d 2 6) && _)) = false
  rw [z, Bool.false_and, Bool.and_false]
section
variable {P : Program} {w : World} {K : PySem.W.Frag} {mg : Str → Option Value} {base : Heap}
abbrev s_right_of : Stmt := topS 51
theorem sc_right_of : FnScope ["_law_value", "_law_size"] ["_law_value"] (defScope s_right_of) := ⟨rfl, rfl, rfl, by decide +kernel, rfl, by decide +kernel, by decide +kernel⟩
def spRightOf : Sp := fun vs H Q _ => ∃ (x : V) (d : PyData), vs = [x] ∧ Dw H x d ∧ Q (.bl (isSh d)) H
theorem ok_right_of {f : Addr} {fd : FuncData} {k : Nat} (T : Txt mg) (d : D K mg "_law_is_right" s_right_of ["_law_value"] f fd) : FnOk P w K mg base CX0 (k + 1) f fd ["_law_value"] spRightOf := by
  refine d.F.ok sc_right_of (fun vs H Q E h => ?_) (fun cdv A outer s H vs Q E hr h => ?_)
  · obtain ⟨x, d, rfl, _⟩ := h
    rfl
  · obtain ⟨x, d, rfl, hd, q⟩ := h
    refine ⟨_, (pss_cons (ps_if (PW.pt (pw_or (pt_not (pt_val (pe_callB call_isi (by rfl) T.n_isinstance (by decide +kernel) (pa_cons (pv 0) (pa_cons (pe_bltn (v := .ty "tuple") (by rfl) T.n_tuple (by decide +kernel) rfl) pa_nil)))))
        (pw_or1 (pt_not (pt_chain op_le op_le pe_int (pe_callB call_len_seq (by rfl) T.n_len PySem.boot_len (pa_cons (pv 0) pa_nil)) pe_int))))) (pss_one (ps_ret pe_bl)) pss_nil)
      (pss_cons (ps_for PassesOwn.never rfl (pi_tup (pv 0)) (pg_name (i := 1) sc_right_of.nd rfl (.inl rfl))
        (pss_one (ps_if (PW.pt (pw_or (pt_not (pt_val (pe_callB call_isi (by rfl) T.n_isinstance (by decide +kernel) (pa_cons (pv 1) (pa_cons (pe_bltn (v := .ty "int") (by rfl) T.n_int (by decide +kernel) rfl) pa_nil)))))
          (pw_or (pt_val (pe_callB call_isi (by rfl) T.n_isinstance (by decide +kernel) (pa_cons (pv 1) (pa_cons (pe_bltn (v := .ty "bool") (by rfl) T.n_bool (by decide +kernel) rfl) pa_nil))))
            (pw_or1 (pt_not (pt_chain op_le op_le pe_int (pv 1) pe_int)))))) (pss_one (ps_ret pe_bl)) pss_nil)))
      (pss_one (ps_ret (pe_cmpR op_le (pe_callB (cr_sumT rfl) (by rfl) T.n_sum (by decide +kernel) (pa_cons (pv 0) pa_nil)) pe_int (nomark _)))))), ?_⟩
    refine ⟨_, rfl, _, _, _, _, _, rfl, .ty _, hd.ty, kitT d, _, rfl, ?_⟩
    cases d with
    | tuple ds =>
      obtain ⟨a, xs, rfl, e, l⟩ : ∃ a xs, x = .ref a ∧ H a = some (.tup xs) ∧ TvL H xs ds := by
        cases hd with
        | tv t =>
          cases t with
          | tup e l => exact ⟨_, _, rfl, e, l⟩
      have ll := l.len
      refine ite2 (fun z => absurd z Bool.false_ne_true) (fun _ => ?_)
      refine ⟨.ref a, rfl, a, xs, rfl, .inr (.inl (.inl e)), _, _, rfl, rfl, _, rfl, ?_⟩
      rw [ll]
      by_cases c1 : 1 ≤ (ds.length : Int)
      · refine iteP c1 ⟨_, _, rfl, rfl, _, rfl, ?_⟩
        by_cases c2 : (ds.length : Int) ≤ 3
        · rw [decide_eq_true c2]
          refine ite2 (fun z => absurd z Bool.false_ne_true) (fun _ => ?_)
          refine ⟨_, rfl, a, rfl, ⟨_, .inl (.inl e)⟩, ?_⟩
          refine for_tup (K := K) (a := a) (xs := xs) (fun i σ H' => (∃ y, σ = [some (.ref a), y]) ∧ H' = H ∧ (ds.take i).all (fun d => btw d 2 6) = true) ⟨⟨none, rfl⟩, rfl, rfl⟩ (fun i σ H' _ h => by rw [h.2.1]; exact .inl (.inl e)) ?_ ?_
          · rintro i x σ H' hx ⟨⟨y, rfl⟩, rfl, al⟩
            obtain ⟨d0, hd0, tv⟩ := l.get hx
            have tk : ds.take (i + 1) = ds.take i ++ [d0] := by rw [List.take_succ, hd0]; rfl
            have bad : btw d0 2 6 = false → Q (.bl false) H' := fun b => by
              rw [not_all hd0 b] at q
              exact q
            refine ⟨_, rfl, _, _, _, _, _, rfl, .ty _, tv.ty, kitI d0, _, rfl, ?_⟩
            cases ci : isI d0 with
            | false => exact ite2 (fun _ => ite2 (fun _ => bad (btw_no (by rw [← isW_eq, ci]; rfl))) (fun z => absurd rfl z)) (fun z => absurd rfl z)
            | true =>
              refine ite2 (fun z => absurd z Bool.false_ne_true) (fun _ => ⟨_, rfl, _, _, _, _, _, rfl, .ty _, tv.ty, kitB' d0, _, rfl, ?_⟩)
              cases cb : isB d0 with
              | true => exact ite2 (fun _ => ite2 (fun _ => bad (btw_no (by rw [← isW_eq, ci, cb]; rfl))) (fun z => absurd rfl z)) (fun z => absurd rfl z)
              | false =>
                have iw : isW d0 = true := by rw [← isW_eq, ci, cb]; rfl
                obtain ⟨n, rfl⟩ : ∃ n, d0 = .int n := by cases d0 <;> first | exact ⟨_, rfl⟩ | cases iw
                cases tv
                refine ite2 (fun z => absurd z Bool.false_ne_true) (fun _ => ⟨_, rfl, _, _, rfl, rfl, _, rfl, ?_⟩)
                have be : btw (.int n) 2 6 = (decide (2 ≤ n) && decide (n ≤ 6)) := rfl
                by_cases c3 : 2 ≤ n
                · refine iteP c3 ⟨_, _, rfl, rfl, _, rfl, ?_⟩
                  by_cases c4 : n ≤ 6
                  · rw [decide_eq_true c4]
                    refine ite2 (fun z => absurd z Bool.false_ne_true) (fun _ => ⟨⟨_, rfl⟩, rfl, ?_⟩)
                    rw [tk, List.all_append, al, List.all_cons, be, decide_eq_true c3, decide_eq_true c4]
                    rfl
                  · rw [decide_eq_false c4]
                    exact ite2 (fun _ => bad (by rw [be, decide_eq_false c4, Bool.and_false])) (fun z => absurd rfl z)
                · exact iteQ c3 ⟨_, rfl, ite2 (fun _ => bad (by rw [be, decide_eq_false c3, Bool.false_and])) (fun z => absurd rfl z)⟩
          · rintro σ H' ⟨⟨y, rfl⟩, rfl, al⟩
            rw [ll, List.take_length] at al
            have z0 : isSh (.tuple ds) = ((decide (1 ≤ (ds.length : Int)) && decide ((ds.length : Int) ≤ 3)) && (ds.all (fun d => btw d 2 6) && decide (sumD ds ≤ 8))) := rfl
            rw [z0, decide_eq_true c1, decide_eq_true c2, Bool.true_and, Bool.true_and, al, Bool.true_and] at q
            obtain ⟨ns, en, _⟩ := all_ints al
            subst en
            rw [sum_ints] at q
            have ex := l.ints
            exact ⟨_, rfl, a, ns, rfl, .inl (.inl (by rw [← ex]; exact e)), _, _, rfl, rfl, q⟩
        · rw [decide_eq_false c2]
          refine ite2 (fun _ => ?_) (fun z => absurd rfl z)
          have z : isSh (.tuple ds) = false := by
            show ((decide (1 ≤ (ds.length : Int)) && decide ((ds.length : Int) ≤ 3)) && _) = false
            rw [decide_eq_false c2, Bool.and_false, Bool.false_and]
          rw [z] at q
          exact q
      · refine iteQ c1 ⟨_, rfl, ite2 (fun _ => ?_) (fun z => absurd rfl z)⟩
        have z : isSh (.tuple ds) = false := by
          show ((decide (1 ≤ (ds.length : Int)) && decide ((ds.length : Int) ≤ 3)) && _) = false
          rw [decide_eq_false c1, Bool.false_and, Bool.false_and]
        rw [z] at q
        exact q
    | _ => exact ite2 (fun _ => ite2 (fun _ => q) (fun z => absurd rfl z)) (fun z => absurd rfl z)
end
end K04

/-! # a value is drawn -/
namespace K04
open PySem PySem.Spec PyProof.Rows L2
inductive DwL (H : Hp) : List V → List PyData → Prop
  | nil : DwL H [] []
  | cons {x : V} {d : PyData} {xs : List V} {ds : List PyData} : Dw H x d → DwL H xs ds → DwL H (x :: xs) (d :: ds)
theorem DwL.same {H H' : Hp} (o : Same H H') : ∀ {xs : List V} {ds : List PyData}, DwL H xs ds → DwL H' xs ds
  | _, _, .nil => .nil
  | _, _, .cons h t => .cons (h.same o) (t.same o)
theorem DwL.get {H : Hp} : ∀ {xs : List V} {ds : List PyData} {i : Nat} {x : V}, DwL H xs ds → xs[i]? = some x → ∃ d, d ∈ ds ∧ Dw H x d
  | _, _, _, _, .nil, h => by simp at h
  | _, _, 0, _, .cons a _, h => by
    rw [List.getElem?_cons_zero] at h
    obtain rfl := Option.some.inj h
    exact ⟨_, List.mem_cons_self .., a⟩
  | _, _, i + 1, _, .cons _ t, h => by
    rw [List.getElem?_cons_succ] at h
    obtain ⟨d, m, z⟩ := t.get h
    exact ⟨d, List.mem_cons_of_mem _ m, z⟩
theorem DwL.len {H : Hp} : ∀ {xs : List V} {ds : List PyData}, DwL H xs ds → xs.length = ds.length
  | _, _, .nil => rfl
  | _, _, .cons _ t => congrArg (· + 1) t.len
theorem Dw.old {H H' : Hp} {u : Addr} {x : V} {d : PyData} (hu : Urn H u) (o : Old u H H') (h : Dw H x d) (n : ∀ a b c : Int, d ≠ .list ([a, b, c].map .int)) : Dw H' x d := by
  have off : ∀ {a : Addr} {v : HO}, H a = some v → (∀ g m c : Int, v ≠ .lst [.int g, .int m, .int c]) → a ≠ u := fun e n z => by
    obtain ⟨g, m, c, eu⟩ := hu
    rw [z, eu] at e
    exact n g m c (Option.some.inj e).symm
  cases h with
  | tv t => exact .tv (t.old hu o)
  | @lst a ns e =>
    refine .lst (o _ _ (off e fun g m c z => ?_) e)
    have z2 : ns.map V.int = [g, m, c].map V.int := HO.lst.inj z
    have inj : ∀ {l r : List Int}, l.map V.int = r.map V.int → l = r := fun {l r} h => by
      induction l generalizing r with
      | nil => cases r with
        | nil => rfl
        | cons _ _ => cases h
      | cons x l ih => cases r with
        | nil => cases h
        | cons y r =>
          rw [List.map_cons, List.map_cons] at h
          obtain ⟨h1, h2⟩ := List.cons.inj h
          rw [V.int.inj h1, ih h2]
    exact n g m c (by rw [inj z2])
  | dic e => exact .dic (o _ _ (off e fun g m c z => by cases z) e)
def noL3 : PyData → Bool
  | .list [_, _, _] => false
  | _ => true
theorem noL3_ok {d : PyData} (h : noL3 d = true) (a b c : Int) : d ≠ .list ([a, b, c].map .int) := fun z => by
  rw [z] at h
  cases h
/-! ### what an expression lays -/
def Lays (σ : L2.St) (t : TE) (d : PyData) : Prop := ∀ (H : Hp) (Q : VK), (∀ x H', Same H H' → Tv H' x d → Q x H') → t σ H Q
def LaysA (σ : L2.St) (t : TA) (ds : List PyData) : Prop := ∀ (H : Hp) (Q : List V → Hp → Prop), (∀ xs H', Same H H' → TvL H' xs ds → Q xs H') → t σ H Q
def LaysD (σ : L2.St) (t : TE) (d : PyData) : Prop := ∀ (H : Hp) (Q : VK), (∀ x H', Same H H' → Dw H' x d → Q x H') → t σ H Q
def LaysDA (σ : L2.St) (t : TA) (ds : List PyData) : Prop := ∀ (H : Hp) (Q : List V → Hp → Prop), (∀ xs H', Same H H' → DwL H' xs ds → Q xs H') → t σ H Q
section
variable {σ : L2.St}
theorem Lays.int (n : Int) : Lays σ (tC (.int n)) (.int n) := fun H Q q => q _ _ (Same.refl H) (.int n)
theorem Lays.str (z : Str) : Lays σ (tC (.str z)) (.str z) := fun H Q q => q _ _ (Same.refl H) (.str z)
theorem Lays.bl (b : Bool) : Lays σ (tC (.bl b)) (.bool b) := fun H Q q => q _ _ (Same.refl H) (.bl b)
theorem Lays.non : Lays σ (tC .non) .none := fun H Q q => q _ _ (Same.refl H) .non
theorem LaysA.nil : LaysA σ tNil [] := fun H Q q => q _ _ (Same.refl H) .nil
theorem LaysA.cons {t : TE} {ts : TA} {d : PyData} {ds : List PyData} (h : Lays σ t d) (hs : LaysA σ ts ds) : LaysA σ (tCons t ts) (d :: ds) := fun H Q q =>
  h H _ fun x H1 s1 t1 => hs H1 _ fun xs H2 s2 t2 => q (x :: xs) H2 (s1.trans s2) (.cons (t1.same s2) t2)
theorem Lays.tup {ts : TA} {ds : List PyData} (hs : LaysA σ ts ds) (l : ds.length ≤ 100) : Lays σ (tTup ts) (.tuple ds) := fun H Q q =>
  hs H _ fun xs H1 s1 t1 => ⟨by rw [t1.len]; exact Nat.le_trans l (by decide), fun p np => q _ _ (s1.trans (sub_same np)) (.tup upd_same (t1.same (sub_same np)))⟩
theorem Lays.d {t : TE} {d : PyData} (h : Lays σ t d) : LaysD σ t d := fun H Q q => h H Q fun x H' s t => q x H' s (.tv t)
theorem LaysDA.nil : LaysDA σ tNil [] := fun H Q q => q _ _ (Same.refl H) .nil
theorem LaysDA.cons {t : TE} {ts : TA} {d : PyData} {ds : List PyData} (h : LaysD σ t d) (hs : LaysDA σ ts ds) : LaysDA σ (tCons t ts) (d :: ds) := fun H Q q =>
  h H _ fun x H1 s1 t1 => hs H1 _ fun xs H2 s2 t2 => q (x :: xs) H2 (s1.trans s2) (.cons (t1.same s2) t2)
theorem LaysD.lst {ts : TA} {ns : List Int} (hs : LaysA σ ts (ns.map .int)) (l : ns.length ≤ 100) : LaysD σ (tLst ts) (.list (ns.map .int)) := fun H Q q =>
  hs H _ fun xs H1 s1 t1 => ⟨by rw [t1.len, List.length_map]; exact Nat.le_trans l (by decide), fun p np => q _ _ (s1.trans (sub_same np)) (.lst (by rw [upd_same, t1.ints]))⟩
theorem LaysD.dic (m n : Int) : LaysD σ (tDisp [(tC (.int m), tC (.int n))]) (.dict [(.int m, .int n)]) := fun H Q q p np => by
  refine ⟨upd_same, [(.inl m, .int n)], rfl, (by decide : 1 ≤ 15), q _ _ (fun b o e => ?_) (.dic upd_same)⟩
  rw [upd_ne (ne_of_none e np), upd_ne (ne_of_none e np)]
  exact e
theorem Lays.pow (i j : Int) (h : CPowW i j) : Lays σ (tOp (rI CPowW fun i j => .int (i ^ j.toNat)) (tC (.int i)) (tC (.int j))) (.int (i ^ j.toNat)) := fun H Q q => ⟨_, _, rfl, rfl, h, q _ _ (Same.refl H) (.int _)⟩
theorem lay_lst {ts : TA} {ds : List PyData} (hs : LaysDA σ ts ds) (l : ds.length ≤ 100) {H : Hp} {Q : VK} (q : ∀ xs H1 b, Same H H1 → H1 b = none → DwL H1 xs ds → Q (.ref b) (upd H1 b (.lst xs))) : tLst ts σ H Q :=
  hs H _ fun xs H1 s1 t1 => ⟨by rw [t1.len]; exact Nat.le_trans l (by decide), fun b nb => q xs H1 b s1 nb t1⟩
end
section
variable {P : Program} {w : World} {K : PySem.W.Frag} {mg : Str → Option Value} {base : Heap}
abbrev s_sizes : Stmt := topS 50
theorem sc_sizes : FnScope ["_law_pot_here", "_law_way", "_law_turn"] ["_law_pot_here"] (defScope s_sizes) := ⟨rfl, rfl, rfl, by decide +kernel, rfl, by decide +kernel, by decide +kernel⟩
def spSizes : Sp := fun vs H Q _ => ∃ (u : Addr), vs = [.ref u] ∧ Urn H u ∧ ∀ (x : V) (d : PyData) (H' : Hp), Urn H' u → Old u H H' → Dw H' x d → Q x H'
theorem ok_sizes {f fs ft : Addr} {fd fds fdt : FuncData} (T : Txt mg) (d : D K mg "_law_sizes" s_sizes ["_law_pot_here"] f fd) (ds : D K mg "_law_pick" s_pick ["_law_pot_here", "_law_items"] fs fds) (dt : D K mg "_law_dip" s_dip ["_law_pot_here", "_law_total"] ft fdt) :
    FnOk P w K mg base CX0 3 f fd ["_law_pot_here"] spSizes := by
  have Gs : FnOk P w K mg base CX0 2 fs fds ["_law_pot_here", "_law_items"] spSome := ok_some T ds dt
  have Gt : FnOk P w K mg base CX0 1 ft fdt ["_law_pot_here", "_law_total"] spTake := ok_take T dt
  refine d.F.ok sc_sizes (fun vs H Q E h => ?_) (fun cdv A outer s H vs Q E hr h => ?_)
  · obtain ⟨u, rfl, _⟩ := h
    rfl
  · obtain ⟨u, rfl, hu, g⟩ := h
    refine ⟨_, (pss_cons (ps_set (i := 1) sc_sizes.nd rfl (.inr rfl) (pe_call Gt (hr.mono (by decide)) (by rfl) dt.g dt.F.kp dt.b .nil pass0 (pa_cons (pv 0) (pa_cons pe_int pa_nil))))
      (pss_cons (ps_if (pt_cmpR op_eq (pv 1) pe_int (nomark _)) (pss_one (ps_ret (pe_call Gs (hr.mono (by decide)) (by rfl) ds.g ds.F.kp ds.b .nil pass0 (pa_cons (pv 0) (pa_cons (pe_lst (pa_cons pe_non (pa_cons pe_int (pa_cons pe_bl (pa_cons pe_str (pa_cons (pe_lst (pa_cons pe_int pa_nil)) (pa_cons (pe_lst (pa_cons pe_int (pa_cons pe_int pa_nil))) (pa_cons (pe_disp (pps_cons pe_int pe_int pps_nil) (by rfl) (by rfl) (fun z => by cases z) (by decide)) (pa_cons (pe_tup pa_nil) (pa_cons (pe_tup (pa_cons (pe_tup (pa_cons pe_int pa_nil)) pa_nil)) (pa_cons (pe_tup (pa_cons pe_non pa_nil)) (pa_cons (pe_tup (pa_cons pe_str pa_nil)) (pa_cons (pe_tup (pa_cons pe_bl (pa_cons pe_int pa_nil))) (pa_cons (pe_tup (pa_cons (pe_op op_powW pe_int pe_int) (pa_cons pe_int pa_nil))) pa_nil)))))))))))))) pa_nil))))) pss_nil)
      (pss_cons (ps_if (pt_cmpR op_lt (pv 1) pe_int (nomark _)) (pss_one (ps_ret (pe_call Gs (hr.mono (by decide)) (by rfl) ds.g ds.F.kp ds.b .nil pass0 (pa_cons (pv 0) (pa_cons (pe_lst (pa_cons (pe_tup (pa_cons pe_int pa_nil)) (pa_cons (pe_tup (pa_cons pe_int pa_nil)) (pa_cons (pe_tup (pa_cons pe_int (pa_cons pe_int pa_nil))) (pa_cons (pe_tup (pa_cons pe_int (pa_cons pe_int pa_nil))) (pa_cons (pe_tup (pa_cons pe_int (pa_cons pe_int pa_nil))) (pa_cons (pe_tup (pa_cons pe_int (pa_cons pe_int pa_nil))) (pa_cons (pe_tup (pa_cons pe_int (pa_cons pe_int (pa_cons pe_int pa_nil)))) (pa_cons (pe_tup (pa_cons pe_int (pa_cons pe_int (pa_cons pe_int pa_nil)))) (pa_cons (pe_tup (pa_cons pe_int (pa_cons pe_int (pa_cons pe_int pa_nil)))) (pa_cons (pe_tup (pa_cons pe_int (pa_cons pe_int pa_nil))) (pa_cons (pe_tup (pa_cons pe_int (pa_cons pe_int (pa_cons pe_int pa_nil)))) (pa_cons (pe_tup (pa_cons pe_int pa_nil)) (pa_cons (pe_tup (pa_cons pe_int pa_nil)) pa_nil)))))))))))))) pa_nil))))) pss_nil)
      (pss_one (ps_ret (pe_tupleOf (by rfl) T.n_tuple (pe_lc (own := [("_law_turn", 2)]) (g := gName 2) (tt := tYes) rfl sc_sizes.nd (pi_range1 (by rfl) T.n_range (pa_cons (pe_op op_add pe_int (pe_call Gt (hr.mono (by decide)) (by rfl) dt.g dt.F.kp dt.b .nil pass0 (pa_cons (pv 0) (pa_cons pe_int pa_nil)))) pa_nil)) (blkOk_by (own := [("_law_turn", 2)]) (N := ["_law_pot_here", "_law_way", "_law_turn"]) (sc := defScope s_sizes) (by decide +kernel))
            (fun _ _ _ _ _ => (pg_name (i := 2) sc_sizes.nd rfl (Or.inl rfl))) (fun _ _ _ _ _ => pts_nil) (fun _ _ _ _ _ => (pe_ifExp (pt_cmpR op_gt (pv 1) pe_int (nomark _)) (pe_op op_add pe_int (pe_call Gt (hr.mono (by decide)) (by rfl) dt.g dt.F.kp dt.b .nil pass0 (pa_cons (pv 0) (pa_cons pe_int pa_nil)))) (pe_op op_add pe_int (pe_call Gt (hr.mono (by decide)) (by rfl) dt.g dt.F.kp dt.b .nil pass0 (pa_cons (pv 0) (pa_cons pe_int pa_nil))))))))))))), ?_⟩
    have pw60 : CPowW 10 60 := ⟨by decide, by decide +kernel⟩
    refine ⟨_, rfl, u, 9, rfl, hu, by decide, by decide +kernel, fun way H1 w0 w1 u1 k1 => ?_⟩
    have o1 := Old.of_but k1
    have pick : ∀ {ds : List PyData} {xs : List V} {Hx : Hp} {b : Addr}, ds.all noL3 = true → 0 < ds.length → ds.length ≤ 1000 → Same H1 Hx → Hx b = none → DwL Hx xs ds → spSome [.ref u, .ref b] (upd Hx b (.lst xs)) Q E0 := fun {ds xs Hx b} no l0 l1 sx nb dl => by
      have ux := u1.same sx
      have sb := sub_same (o := .lst xs) nb
      have ln := dl.len
      refine ⟨u, b, xs, rfl, ux.same sb, upd_same, urn_ne ux nb, (fun z => by rw [z] at ln; rw [← ln] at l0; exact absurd l0 (by decide)), by omega, fun i x H3 hx u3 k3 => ?_⟩
      obtain ⟨d, md, dw⟩ := dl.get hx
      exact g x d H3 u3 (((o1.trans (.of_same sx)).trans (.of_same sb)).trans (.of_but k3)) ((dw.same sb).old (ux.same sb) (.of_but k3) fun a b c => noL3_ok (List.all_eq_true.mp no d md) a b c)
    refine ⟨_, rfl, rfl, _, rfl, ite2 (fun _ => ?_) (fun _ => ?_)⟩
    · refine ⟨_, rfl, lay_lst (LaysDA.cons Lays.non.d (LaysDA.cons (Lays.int 4).d (LaysDA.cons (Lays.bl true).d (LaysDA.cons (Lays.str "4").d (LaysDA.cons (LaysD.lst (ns := [3]) (LaysA.cons (Lays.int 3) LaysA.nil) (by decide)) (LaysDA.cons (LaysD.lst (ns := [2, 3]) (LaysA.cons (Lays.int 2) (LaysA.cons (Lays.int 3) LaysA.nil)) (by decide)) (LaysDA.cons (LaysD.dic 2 3) (LaysDA.cons (Lays.tup LaysA.nil (by decide)).d (LaysDA.cons (Lays.tup (LaysA.cons (Lays.tup (LaysA.cons (Lays.int 3) LaysA.nil) (by decide)) LaysA.nil) (by decide)).d (LaysDA.cons (Lays.tup (LaysA.cons Lays.non LaysA.nil) (by decide)).d (LaysDA.cons (Lays.tup (LaysA.cons (Lays.str "3") LaysA.nil) (by decide)).d (LaysDA.cons (Lays.tup (LaysA.cons (Lays.bl true) (LaysA.cons (Lays.int 3) LaysA.nil)) (by decide)).d (LaysDA.cons (Lays.tup (LaysA.cons (Lays.pow 10 60 pw60) (LaysA.cons (Lays.int 2) LaysA.nil)) (by decide)).d LaysDA.nil))))))))))))) (by decide) fun xs Hx b sx nb dl => pick (by decide +kernel) (by decide) (by decide) sx nb dl⟩
    refine ⟨_, rfl, _, _, rfl, rfl, _, rfl, ite2 (fun _ => ?_) (fun _ => ?_)⟩
    · refine ⟨_, rfl, lay_lst (LaysDA.cons (Lays.tup (LaysA.cons (Lays.int 2) LaysA.nil) (by decide)).d (LaysDA.cons (Lays.tup (LaysA.cons (Lays.int 6) LaysA.nil) (by decide)).d (LaysDA.cons (Lays.tup (LaysA.cons (Lays.int 6) (LaysA.cons (Lays.int 2) LaysA.nil)) (by decide)).d (LaysDA.cons (Lays.tup (LaysA.cons (Lays.int 2) (LaysA.cons (Lays.int 6) LaysA.nil)) (by decide)).d (LaysDA.cons (Lays.tup (LaysA.cons (Lays.int 5) (LaysA.cons (Lays.int 3) LaysA.nil)) (by decide)).d (LaysDA.cons (Lays.tup (LaysA.cons (Lays.int 4) (LaysA.cons (Lays.int 4) LaysA.nil)) (by decide)).d (LaysDA.cons (Lays.tup (LaysA.cons (Lays.int 2) (LaysA.cons (Lays.int 2) (LaysA.cons (Lays.int 2) LaysA.nil))) (by decide)).d (LaysDA.cons (Lays.tup (LaysA.cons (Lays.int 2) (LaysA.cons (Lays.int 2) (LaysA.cons (Lays.int 4) LaysA.nil))) (by decide)).d (LaysDA.cons (Lays.tup (LaysA.cons (Lays.int 3) (LaysA.cons (Lays.int 3) (LaysA.cons (Lays.int 2) LaysA.nil))) (by decide)).d (LaysDA.cons (Lays.tup (LaysA.cons (Lays.int 6) (LaysA.cons (Lays.int 3) LaysA.nil)) (by decide)).d (LaysDA.cons (Lays.tup (LaysA.cons (Lays.int 2) (LaysA.cons (Lays.int 3) (LaysA.cons (Lays.int 4) LaysA.nil))) (by decide)).d (LaysDA.cons (Lays.tup (LaysA.cons (Lays.int 7) LaysA.nil) (by decide)).d (LaysDA.cons (Lays.tup (LaysA.cons (Lays.int 1) LaysA.nil) (by decide)).d LaysDA.nil))))))))))))) (by decide) fun xs Hx b sx nb dl => pick (by decide +kernel) (by decide) (by decide) sx nb dl⟩
    refine ⟨_, rfl, u, 4, rfl, u1, by decide, by decide +kernel, fun m H2 m0 m1 u2 k2 => ⟨_, _, rfl, rfl, _, rfl, by omega, by omega, fun D hD => ?_⟩⟩
    obtain ⟨k, rfl⟩ : ∃ k : Nat, m = (k : Int) := ⟨m.toNat, by omega⟩
    have o2 := o1.trans (.of_but k2)
    have Du : D ≠ u := urn_ne u2 hD
    have put : ∀ {H' H5 : Hp} {ns : List Int} (v : Int), Urn H5 u → Old u H2 H' → But u H' H5 → H' D = some (.lst (ns.map V.int)) → Urn (upd H5 D (.lst (ns.map V.int ++ [.int v]))) u ∧ Old u H2 (upd H5 D (.lst (ns.map V.int ++ [.int v]))) ∧ H5 D = some (.lst (ns.map V.int)) := fun {H' H5 ns} v u5 oo k5 hv => by
      refine ⟨?_, fun b o nb hb => ?_, (k5 D Du).trans hv⟩
      · obtain ⟨g, m, c, e⟩ := u5
        exact ⟨g, m, c, (upd_ne (Ne.symm Du)).trans e⟩
      · rw [upd_ne (ne_of_none hb hD), k5 b nb]
        exact oo b o nb hb
    refine lc_range (n := 1 + k) (fun i H' => Urn H' u ∧ Old u H2 H' ∧ ∃ ns : List Int, H' D = some (.lst (ns.map V.int)) ∧ ns.length = i) ⟨u2.same (sub_same hD), .of_same (sub_same hD), [], upd_same, rfl⟩ ?_ ?_
    · rintro i H' hi ⟨uu, oo, ns, hv, lv⟩
      have sz : (ns.map V.int).length < sizeLine := Nat.lt_of_lt_of_le (show _ < 5 by rw [List.length_map]; omega) (by decide)
      refine ⟨rfl, ?_⟩
      unfold tYes
      refine ite2 (fun _ => ?_) (fun q => absurd rfl q)
      refine ⟨_, rfl, _, _, rfl, rfl, _, rfl, ite2 (fun _ => ?_) (fun _ => ?_)⟩
      · refine ⟨_, rfl, u, 7, rfl, uu, by decide, by decide +kernel, fun v H5 v0 v1 u5 k5 => ⟨_, _, rfl, rfl, ?_⟩⟩
        obtain ⟨p1, p2, p3⟩ := put (1 + v) u5 oo k5 hv
        exact ⟨_, p3, sz, p1, p2, ns ++ [1 + v], by rw [upd_same, List.map_append]; rfl, by rw [List.length_append]; exact congrArg (· + 1) lv⟩
      · refine ⟨_, rfl, u, 4, rfl, uu, by decide, by decide +kernel, fun v H5 v0 v1 u5 k5 => ⟨_, _, rfl, rfl, ?_⟩⟩
        obtain ⟨p1, p2, p3⟩ := put (2 + v) u5 oo k5 hv
        exact ⟨_, p3, sz, p1, p2, ns ++ [2 + v], by rw [upd_same, List.map_append]; rfl, by rw [List.length_append]; exact congrArg (· + 1) lv⟩
    · rintro H5 ⟨u5, o5, ns, hv, lv⟩
      refine .inl ⟨D, ns.map V.int, rfl, .inl (.inl hv), fun q nq => ?_⟩
      have s6 := sub_same (o := .tup (ns.map V.int)) nq
      have tvl : ∀ {Z : Hp} (l : List Int), TvL Z (l.map V.int) (l.map .int) := fun {Z} l => by
        induction l with
        | nil => exact .nil
        | cons x r ih => exact .cons (.int x) ih
      exact g _ (.tuple (ns.map .int)) _ (u5.same s6) ((o2.trans o5).trans (.of_same s6)) (.tv (.tup upd_same (tvl ns)))
end
end K04

/-! # places -/
namespace K04
open PySem PySem.Spec PyProof.Rows L2
abbrev Tri := Int × Int × Int
def triV (t : Tri) : List V := [.int t.1, .int t.2.1, .int t.2.2]
def triD (t : Tri) : PyData := .tuple [.int t.1, .int t.2.1, .int t.2.2]
/-- the places of the block b at the distance d, those of the first k rows -/
def rowsP (b d : Int) (k : Nat) : List Tri := (List.range k).map fun (r : Nat) => (b, (r : Int), (r : Int) + d)
/-- those of the first j blocks -/
def blkP (ns : List Int) (d : Int) (j : Nat) : List Tri := (List.range j).flatMap fun (b : Nat) => rowsP b d (ns.getD b 0 - d).toNat
/-- those at the first i distances -/
def disP (ns : List Int) (i : Nat) : List Tri := (List.range i).flatMap fun (e : Nat) => blkP ns (1 + (e : Int)) ns.length
def mx : List Int → Int
  | [] => 0
  | n :: r => r.foldl max n
/-- the places in their order -/
def pl (ns : List Int) : List Tri := disP ns (mx ns - 1).toNat
theorem rowsP_succ (b d : Int) (k : Nat) : rowsP b d (k + 1) = rowsP b d k ++ [(b, (k : Int), (k : Int) + d)] := by
  unfold rowsP
  rw [List.range_succ, List.map_append]
  rfl
theorem blkP_succ (ns : List Int) (d : Int) (j : Nat) : blkP ns d (j + 1) = blkP ns d j ++ rowsP j d (ns.getD j 0 - d).toNat := by
  unfold blkP
  rw [List.range_succ, List.flatMap_append, List.flatMap_singleton]
theorem disP_succ (ns : List Int) (i : Nat) : disP ns (i + 1) = disP ns i ++ blkP ns (1 + (i : Int)) ns.length := by
  unfold disP
  rw [List.range_succ, List.flatMap_append, List.flatMap_singleton]
theorem rowsP_len (b d : Int) (k : Nat) : (rowsP b d k).length = k := by
  unfold rowsP
  rw [List.length_map, List.length_range]
theorem blkP_len {ns : List Int} {d : Int} (b : ∀ n ∈ ns, 2 ≤ n ∧ n ≤ 6) (h : 0 ≤ d) : ∀ j, (blkP ns d j).length ≤ 6 * j
  | 0 => Nat.le_refl _
  | j + 1 => by
    rw [blkP_succ, List.length_append, rowsP_len]
    have z := blkP_len b h j
    have y : (ns.getD j 0 - d).toNat ≤ 6 := by
      have x : ns.getD j 0 ≤ 6 := by
        rw [List.getD_eq_getElem?_getD]
        cases e : ns[j]? with
        | none => show (0 : Int) ≤ 6; decide
        | some n => exact (b n (List.mem_of_getElem? e)).2
      omega
    omega
theorem disP_len {ns : List Int} (h : Shp ns) : ∀ i, (disP ns i).length ≤ 18 * i
  | 0 => Nat.le_refl _
  | i + 1 => by
    rw [disP_succ, List.length_append]
    have z := disP_len h i
    have y := blkP_len (d := 1 + (i : Int)) h.2.1 (by omega) ns.length
    have x := h.1.2
    omega
theorem mx_le {ns : List Int} (h : ∀ n ∈ ns, n ≤ 6) : mx ns ≤ 6 := by
  cases ns with
  | nil => show (0 : Int) ≤ 6; decide
  | cons n r =>
    show r.foldl max n ≤ 6
    have go : ∀ (r : List Int) (n : Int), n ≤ 6 → (∀ m ∈ r, m ≤ 6) → r.foldl max n ≤ 6 := fun r => by
      induction r with
      | nil => exact fun n h _ => h
      | cons m r ih =>
        intro n hn hr
        rw [List.foldl_cons]
        exact ih _ (Int.max_le.mpr ⟨hn, hr m (List.mem_cons_self ..)⟩) fun k hk => hr k (List.mem_cons_of_mem _ hk)
    exact go r n (h n (List.mem_cons_self ..)) fun m hm => h m (List.mem_cons_of_mem _ hm)
theorem fold_ge : ∀ (r : List Int) (n : Int), n ≤ r.foldl max n
  | [], n => Int.le_refl n
  | m :: r, n => Int.le_trans (Int.le_max_left n m) (fold_ge r (max n m))
/-- an error class of the package that keeps nothing -/
structure OpX (K : PySem.W.Frag) (mg : Str → Option Value) (nm : Str) (C : Addr) : Prop where
  x : PySem.W.excIn K C [.type "ValueError", .type "Exception", .type "BaseException", .type "object"] "ValueError.__new__" = true
  g : mg nm = some (.ref C)
  k : PySem.W.keepIn K (.ref C) = true
  b : PySem.W.subIn K (.ref C) (.type "BaseException") = some true
  t : PySem.W.typeIn K (.ref C) = some (.type "type")
theorem tvl_ints {Z : Hp} : ∀ l : List Int, TvL Z (l.map V.int) (l.map .int)
  | [] => .nil
  | x :: r => .cons (.int x) (tvl_ints r)
theorem int_at {ns : List Int} {i : Nat} {x : V} (h : (ns.map V.int)[i]? = some x) : ∃ z : Int, ns[i]? = some z ∧ x = .int z := by
  rw [List.getElem?_map] at h
  cases e : ns[i]? with
  | none =>
    rw [e] at h
    cases h
  | some z =>
    rw [e] at h
    exact ⟨z, rfl, (Option.some.inj h).symm⟩
section
variable {P : Program} {w : World} {K : PySem.W.Frag} {mg : Str → Option Value} {base : Heap} {CS : Addr}
abbrev s_check : Stmt := topS 21
theorem sc_check : FnScope ["shape"] ["shape"] (defScope s_check) := ⟨rfl, rfl, rfl, by decide +kernel, rfl, by decide +kernel, by decide +kernel⟩
abbrev s_places : Stmt := topS 22
theorem sc_places : FnScope ["shape", "found", "distance", "block", "size", "row"] ["shape"] (defScope s_places) := ⟨rfl, rfl, rfl, by decide +kernel, rfl, by decide +kernel, by decide +kernel⟩
def spCheck (CS : Addr) : Sp := fun vs H Q E => ∃ (x : V) (d : PyData), vs = [x] ∧ Dw H x d ∧ (isSh d = true → ∀ H', Same H H' → Q .non H') ∧ (isSh d = false → ∀ H', Same H H' → E (.ref CS) none H')
theorem ok_check {f f1 : Addr} {fd fd1 : FuncData} {k : Nat} (T : Txt mg) (O : OpX K mg "InvalidShape" CS) (d : D K mg "check_shape" s_check ["shape"] f fd) (d1 : D K mg "is_shape" s_is_shape ["value"] f1 fd1) (G1 : FnOk P w K mg base CX0 3 f1 fd1 ["value"] spShape) : FnOk P w K mg base (L2.CX P w) 4 f fd ["shape"] (spCheck CS) := by
  refine d.F.okX sc_check (fun vs H Q E h => ?_) (fun cdv A outer s H vs Q E hr h => ?_)
  · obtain ⟨x, d, rfl, _⟩ := h
    rfl
  · obtain ⟨x, d, rfl, hd, q, qe⟩ := h
    refine ⟨_, (pss_one (ps_if (pt_not (pt_val (pe_call G1 (hr.mono (by decide)) (by rfl) d1.g d1.F.kp d1.b .nil pass0 (pa_cons (pv 0) pa_nil)))) (pss_one (ps_raise rfl (takes_of rfl rfl rfl rfl) (by exact (pmk_own PySem.F.excBase_ValueError O.x O.g O.k (raises_own O.b O.t) rfl)))) pss_nil)), ?_⟩
    refine ⟨_, rfl, x, d, rfl, hd, fun H' sm => ⟨_, rfl, ?_⟩⟩
    cases e : isSh d with
    | true => exact ite2 (fun z => absurd z Bool.false_ne_true) (fun _ => q e H' sm)
    | false => exact ite2 (fun _ => qe e H' sm) (fun z => absurd rfl z)
/-- the tuple of the places of a shape -/
def spPlaces (CS : Addr) : Sp := fun vs H Q E => ∃ (x : V) (d : PyData), vs = [x] ∧ Dw H x d ∧ (∀ ns, d = .tuple (ns.map .int) → Shp ns → ∀ H' y, Same H H' → Tv H' y (.tuple ((pl ns).map triD)) → Q y H') ∧ (isSh d = false → ∀ H', Same H H' → E (.ref CS) none H')
theorem ok_places {f f1 : Addr} {fd fd1 : FuncData} (T : Txt mg) (N : Nam mg) (d : D K mg "places" s_places ["shape"] f fd) (d1 : D K mg "check_shape" s_check ["shape"] f1 fd1) (G1 : FnOk P w K mg base (L2.CX P w) 4 f1 fd1 ["shape"] (spCheck CS)) : FnOk P w K mg base (L2.CX P w) 5 f fd ["shape"] (spPlaces CS) := by
  refine d.F.okX sc_places (fun vs H Q E h => ?_) (fun cdv A outer s H vs Q E hr h => ?_)
  · obtain ⟨x, d, rfl, _⟩ := h
    rfl
  · obtain ⟨x, d, rfl, hd, q, qe⟩ := h
    have un : (A.deeper (envOfC "places" (defScope s_places) s.heap.objs.size f cdv)).units + 8 < cLine := by have := hr.un; omega
    refine ⟨_, (pss_cons (ps_expr (pe_call (E := E) G1 (hr.mono (by decide)) (by rfl) d1.g d1.F.kp d1.b .nil (passes_call (takes_of rfl rfl rfl rfl) (fun _ _ _ _ h => h)) (pa_cons (pv 0) pa_nil)))
      (pss_cons (ps_set (i := 1) sc_places.nd rfl (.inl rfl) (pe_lst pa_nil))
      (pss_cons (ps_for (passes_of rfl) rfl (pi_range2 (by rfl) T.n_range (pa_cons pe_int (pa_cons (pe_callB (cr_maxT rfl un) (by rfl) T.n_max (by decide +kernel) (pa_cons (pv 0) pa_nil)) pa_nil))) (pg_name (i := 2) sc_places.nd rfl (.inl rfl))
        (pss_one (ps_for (passes_of rfl) rfl (pi_enumT (by rfl) N.n_enumerate (pa_cons (pv 0) pa_nil)) (pg_tup rfl (pgs_cons (pg_name (i := 3) sc_places.nd rfl (.inl rfl)) (pgs_cons (pg_name (i := 4) sc_places.nd rfl (.inl rfl)) pgs_nil)))
        (pss_one (ps_for (passes_of rfl) rfl (pi_range1 (by rfl) T.n_range (pa_cons (pe_op op_sub (pv 4) (pv 2)) pa_nil)) (pg_name (i := 5) sc_places.nd rfl (.inl rfl))
        (pss_one (ps_expr (pe_bm PySem.F.plainAttrs_list PySem.F.slot_list_append PySem.F.type_list_append mt_append (pv 1) (pa_cons (pe_tup (pa_cons (pv 3) (pa_cons (pv 5) (pa_cons (pe_op op_add (pv 5) (pv 2)) pa_nil)))) pa_nil)))))))))
      (pss_one (ps_ret (pe_tupleOf (by rfl) T.n_tuple (pv 1))))))), ?_⟩
    refine ⟨_, rfl, x, d, rfl, hd, fun sh H1 s1 => ?_, fun sh H1 s1 => qe sh H1 s1⟩
    obtain ⟨ns, rfl, S⟩ := shp_of sh
    obtain ⟨a, rfl, e⟩ : ∃ a, x = .ref a ∧ H a = some (.tup (ns.map V.int)) := by
      cases hd with
      | tv t =>
        cases t with
        | tup e l =>
          rw [l.ints] at e
          exact ⟨_, rfl, e⟩
    have q' := q ns rfl S
    have e1 := s1 _ _ e
    clear hd q qe e sh d
    refine ⟨(by show 0 ≤ sizeLine; decide), fun D nD => ?_⟩
    have off : ∀ {Z : Hp} {o : HO}, Same H1 Z → Same H1 (upd Z D o) := fun sz b o h => by
      rw [upd_ne (ne_of_none h nD)]
      exact sz b o h
    have sq : ∀ {Z : Hp}, Same H1 Z → SqT K Z a (ns.map V.int) := fun sz => .inl (.inl (sz _ _ e1))
    obtain ⟨n0, nr, en⟩ : ∃ n0 nr, ns = n0 :: nr := by
      cases ns with
      | nil => exact absurd S.1.1 (by decide)
      | cons n r => exact ⟨n, r, rfl⟩
    have m6 := mx_le fun n hn => (S.2.1 n hn).2
    have em : mx ns = nr.foldl max n0 := by rw [en]; rfl
    have m2 : 0 ≤ mx ns := by
      have z := fold_ge nr n0
      have y := (S.2.1 n0 (by rw [en]; exact List.mem_cons_self ..)).1
      omega
    refine ⟨_, rfl, a, n0, nr, rfl, by rw [← en]; exact sq (sub_same nD), 1, nr.foldl max n0, rfl, ⟨by decide, by decide, by omega, by omega⟩, ?_⟩
    rw [← em]
    refine for_range (lo := 1) (n := (mx ns - 1).toNat) (fun i σ H' => (∃ y2 y3 y4 y5, σ = [some (.ref a), some (.ref D), y2, y3, y4, y5]) ∧ Same H1 H' ∧ ∃ xs, H' D = some (.lst xs) ∧ TvL H' xs ((disP ns i).map triD)) ⟨⟨_, _, _, _, rfl⟩, sub_same nD, [], upd_same, .nil⟩ ?_ ?_
    · rintro i σ H2 hi ⟨⟨y2, y3, y4, y5, rfl⟩, s2, xs, hv, tv⟩
      refine ⟨_, rfl, a, _, rfl, sq s2, ?_⟩
      refine for_it (walk_enumT (K := K) (a := a) (xs := ns.map V.int)) (fun j σ H' => (∃ y3 y4 y5, σ = [some (.ref a), some (.ref D), some (.int (1 + (i : Int))), y3, y4, y5]) ∧ Same H1 H' ∧ ∃ xs, H' D = some (.lst xs) ∧ TvL H' xs ((disP ns i ++ blkP ns (1 + (i : Int)) j).map triD)) ⟨⟨_, _, _, rfl⟩, s2, xs, hv, by rw [show blkP ns (1 + (i : Int)) 0 = [] from rfl, List.append_nil]; exact tv⟩ (fun j σ H' _ h => sq h.2.1) ?_ ?_
      · rintro j v σ H2' H3 hj ⟨⟨y3, y4, y5, rfl⟩, s3, xs, hv, tv⟩ ⟨T, x0, y0, rfl, nT, rfl, ex, ey⟩
        obtain rfl := Option.some.inj ex
        obtain ⟨z, ez, rfl⟩ := int_at ey
        have nTD : D ≠ T := fun z => by rw [← z, hv] at nT; cases nT
        have s4 := s3.trans (sub_same (o := .tup [V.int (j : Nat), V.int z]) nT)
        have hv4 := sub_same (o := .tup [V.int (j : Nat), V.int z]) nT _ _ hv
        have tv4 := tv.same (sub_same (o := .tup [V.int (j : Nat), V.int z]) nT)
        have hT : upd H2' T (.tup [V.int (j : Nat), V.int z]) T = some (.tup [V.int (j : Nat), V.int z]) := upd_same
        revert s4 hv4 tv4 hT
        generalize upd H2' T (.tup [V.int (j : Nat), V.int z]) = H4
        intro s4 hv4 tv4 hT
        have z6 := S.2.1 z (List.mem_of_getElem? ez)
        refine ⟨T, _, rfl, .inl (.inl hT), rfl, _, _, rfl, _, _, rfl, rfl, ?_⟩
        refine ⟨_, rfl, _, rfl, _, _, rfl, rfl, _, rfl, by omega, by omega, ?_⟩
        have ez2 : ns.getD j 0 = z := by rw [List.getD_eq_getElem?_getD, ez]; rfl
        refine for_range (lo := 0) (n := (z - (1 + (i : Int))).toNat) (fun k σ H' => (∃ y5, σ = [some (.ref a), some (.ref D), some (.int (1 + (i : Int))), some (.int (j : Nat)), some (.int z), y5]) ∧ Same H1 H' ∧ ∃ xs, H' D = some (.lst xs) ∧ TvL H' xs ((disP ns i ++ blkP ns (1 + (i : Int)) j ++ rowsP (j : Nat) (1 + (i : Int)) k).map triD)) ⟨⟨_, rfl⟩, s4, xs, hv4, by rw [show rowsP (j : Nat) (1 + (i : Int)) 0 = [] from rfl, List.append_nil]; exact tv4⟩ ?_ ?_
        · rintro k σ H5 hk ⟨⟨y5, rfl⟩, s5, xs5, hv5, tv5⟩
          have sz : xs5.length < sizeLine := by
            rw [tv5.len, List.length_map, List.length_append, List.length_append, rowsP_len]
            have b1 := disP_len S i
            have b2 := blkP_len (d := 1 + (i : Int)) S.2.1 (by omega) j
            have b3 := S.1.2
            rw [List.length_map] at hj
            exact Nat.lt_of_lt_of_le (show _ < 1000 by omega) (by decide)
          refine ⟨_, rfl, .inl ⟨rfl, _, .inl (.inl hv5)⟩, _, rfl, _, rfl, _, rfl, _, rfl, _, _, rfl, rfl, (by show 3 ≤ sizeLine; decide), fun p np => ?_⟩
          have s6 := sub_same (o := .tup [V.int (j : Nat), V.int (0 + (k : Int)), V.int (0 + (k : Int) + (1 + (i : Int)))]) np
          refine ⟨D, xs5, _, rfl, rfl, s6 _ _ hv5, sz, ⟨_, rfl⟩, off (s5.trans s6), _, upd_same, ?_⟩
          have k0 : (0 : Int) + (k : Int) = k := by omega
          have one : Tv (upd H5 p (.tup [V.int (j : Nat), V.int (0 + (k : Int)), V.int (0 + (k : Int) + (1 + (i : Int)))])) (.ref p) (triD ((j : Int), (k : Int), (k : Int) + (1 + (i : Int)))) := by
            rw [k0]
            exact .tup upd_same (.cons (.int _) (.cons (.int _) (.cons (.int _) .nil)))
          rw [rowsP_succ, ← List.append_assoc, List.map_append]
          exact ((tv5.same s6).snoc one).put (s6 _ _ hv5)
        · rintro σ H5 ⟨⟨y5, rfl⟩, s5, xs5, hv5, tv5⟩
          refine ⟨⟨_, _, _, rfl⟩, s5, xs5, hv5, ?_⟩
          rw [blkP_succ, ez2, ← List.append_assoc]
          exact tv5
      · rintro σ H3 ⟨⟨y3, y4, y5, rfl⟩, s3, xs, hv, tv⟩
        rw [List.length_map] at tv
        exact ⟨⟨_, _, _, _, rfl⟩, s3, xs, hv, by rw [disP_succ]; exact tv⟩
    · rintro σ H2 ⟨⟨y2, y3, y4, y5, rfl⟩, s2, xs, hv, tv⟩
      refine ⟨_, rfl, .inl ⟨D, xs, rfl, .inl (.inl hv), fun p np => ?_⟩⟩
      have s3 := sub_same (o := .tup xs) np
      exact q' _ _ (s1.trans (s2.trans s3)) (.tup upd_same (tv.same s3))
end
end K04

/-! # is_place -/
namespace K04
open PySem PySem.Spec PyProof.Rows L2
/-- whether three things are a place -/
def isP2 (s : Int) (i : PyData) : PyData → Bool
  | .int m => btw (.int m) 0 (s - 1) && btw i 0 (m - 1)
  | _ => false
def isP3 (ns : List Int) (b i j : PyData) : Bool := match b with
  | .int n => btw (.int n) 0 ((ns.length : Int) - 1) && isP2 (ns.getD n.toNat 0) i j
  | _ => false
def isPl (ns : List Int) : PyData → Bool
  | .tuple [b, i, j] => isP3 ns b i j
  | _ => false
theorem isPl_len {ns : List Int} {ds : List PyData} (h : ds.length ≠ 3) : isPl ns (.tuple ds) = false := by
  unfold isPl
  split
  · rename_i e
    cases e
    exact absurd rfl h
  · rfl
theorem btw_int {d : PyData} {lo hi : Int} (h : btw d lo hi = true) : ∃ n, d = .int n ∧ lo ≤ n ∧ n ≤ hi := by
  cases d with
  | int n =>
    have z : (decide (lo ≤ n) && decide (n ≤ hi)) = true := h
    rw [Bool.and_eq_true] at z
    exact ⟨n, rfl, of_decide_eq_true z.1, of_decide_eq_true z.2⟩
  | _ => exact absurd h Bool.false_ne_true
section
variable {P : Program} {w : World} {K : PySem.W.Frag} {mg : Str → Option Value} {base : Heap} {CS : Addr}
abbrev s_place : Stmt := topS 23
theorem sc_place : FnScope ["shape", "value", "block", "row", "column"] ["shape", "value"] (defScope s_place) := ⟨rfl, rfl, rfl, by decide +kernel, rfl, by decide +kernel, by decide +kernel⟩
def spPlace (CS : Addr) : Sp := fun vs H Q E => ∃ (x y : V) (d e : PyData), vs = [x, y] ∧ Dw H x d ∧ Dw H y e ∧ (∀ ns, d = .tuple (ns.map .int) → Shp ns → ∀ H', Same H H' → Q (.bl (isPl ns e)) H') ∧ (isSh d = false → ∀ H', Same H H' → E (.ref CS) none H')
theorem ok_place {f f1 f2 : Addr} {fd fd1 fd2 : FuncData} (T : Txt mg) (d : D K mg "is_place" s_place ["shape", "value"] f fd) (d1 : D K mg "check_shape" s_check ["shape"] f1 fd1) (d2 : D K mg "is_index" s_is_index ["value", "many"] f2 fd2)
    (G1 : FnOk P w K mg base (L2.CX P w) 4 f1 fd1 ["shape"] (spCheck CS)) (G2 : FnOk P w K mg base CX0 3 f2 fd2 ["value", "many"] spIdx) : FnOk P w K mg base (L2.CX P w) 5 f fd ["shape", "value"] (spPlace CS) := by
  refine d.F.okX sc_place (fun vs H Q E h => ?_) (fun cdv A outer s H vs Q E hr h => ?_)
  · obtain ⟨x, y, d, e, rfl, _⟩ := h
    rfl
  · obtain ⟨x, y, d, e, rfl, hd, he, q, qe⟩ := h
    refine ⟨_, (pss_cons (ps_expr (pe_call (E := E) G1 (hr.mono (by decide)) (by rfl) d1.g d1.F.kp d1.b .nil (passes_call (takes_of rfl rfl rfl rfl) (fun _ _ _ _ h => h)) (pa_cons (pv 0) pa_nil)))
      (pss_cons (ps_if (PW.pt (pw_or (pt_not (pt_val (pe_callB call_isi (by rfl) T.n_isinstance (by decide +kernel) (pa_cons (pv 1) (pa_cons (pe_bltn (v := .ty "tuple") (by rfl) T.n_tuple (by decide +kernel) rfl) pa_nil))))) (pw_or1 (pt_cmpR op_ne (pe_callB call_len_seq (by rfl) T.n_len PySem.boot_len (pa_cons (pv 1) pa_nil)) pe_int (nomark _))))) (pss_one (ps_ret pe_bl)) pss_nil)
      (pss_cons (ps_asg (pv 1) (pg_tup rfl (pgs_cons (pg_name (i := 2) sc_place.nd rfl (.inl rfl)) (pgs_cons (pg_name (i := 3) sc_place.nd rfl (.inl rfl)) (pgs_cons (pg_name (i := 4) sc_place.nd rfl (.inl rfl)) pgs_nil)))))
      (pss_cons (ps_if (pt_not (pt_val (pe_call G2 (hr.mono (by decide)) (by rfl) d2.g d2.F.kp d2.b .nil pass0 (pa_cons (pv 2) (pa_cons (pe_callB call_len_seq (by rfl) T.n_len PySem.boot_len (pa_cons (pv 0) pa_nil)) pa_nil))))) (pss_one (ps_ret pe_bl)) pss_nil)
      (pss_one (ps_ret (pe_and (pe_call G2 (hr.mono (by decide)) (by rfl) d2.g d2.F.kp d2.b .nil pass0 (pa_cons (pv 4) (pa_cons (pe_ix ix_tup (pv 0) (pv 2) (fun _ _ => rfl)) pa_nil))) (pe_one (pe_call G2 (hr.mono (by decide)) (by rfl) d2.g d2.F.kp d2.b .nil pass0 (pa_cons (pv 3) (pa_cons (pv 4) pa_nil))))))))))), ?_⟩
    refine ⟨_, rfl, x, d, rfl, hd, fun sh H1 s1 => ?_, fun sh H1 s1 => qe sh H1 s1⟩
    obtain ⟨ns, rfl, S⟩ := shp_of sh
    obtain ⟨a, rfl, ea⟩ : ∃ a, x = .ref a ∧ H a = some (.tup (ns.map V.int)) := by
      cases hd with
      | tv t =>
        cases t with
        | tup e l =>
          rw [l.ints] at e
          exact ⟨_, rfl, e⟩
    have q' := q ns rfl S H1 s1
    have e1 := s1 _ _ ea
    have he1 := he.same s1
    clear hd q qe ea sh he
    refine ⟨_, rfl, _, _, _, _, _, rfl, .ty _, he1.ty, kitT e, _, rfl, ?_⟩
    cases e with
    | tuple ds =>
      obtain ⟨c, xs, rfl, ec, l⟩ : ∃ c xs, y = .ref c ∧ H1 c = some (.tup xs) ∧ TvL H1 xs ds := by
        cases he1 with
        | tv t =>
          cases t with
          | tup e l => exact ⟨_, _, rfl, e, l⟩
      have ll := l.len
      refine ite2 (fun z => absurd z Bool.false_ne_true) (fun _ => ?_)
      refine ⟨_, rfl, c, xs, rfl, .inr (.inl (.inl ec)), rfl, _, rfl, ?_⟩
      by_cases l3 : ds.length = 3
      · have e3 : (!decide (V.int (xs.length : Nat) = V.int 3)) = false := by
          rw [ll, l3]
          rfl
        rw [e3]
        refine ite2 (fun z => absurd z Bool.false_ne_true) (fun _ => ?_)
        obtain ⟨b, i, j, rfl⟩ : ∃ b i j, ds = [b, i, j] := by
          match ds, l3 with
          | [b, i, j], _ => exact ⟨b, i, j, rfl⟩
        obtain ⟨x1, x2, x3, rfl, t1, t2, t3⟩ : ∃ x1 x2 x3, xs = [x1, x2, x3] ∧ Tv H1 x1 b ∧ Tv H1 x2 i ∧ Tv H1 x3 j := by
          cases l with
          | cons a l => cases l with
            | cons b l => cases l with
              | cons c l =>
                cases l
                exact ⟨_, _, _, rfl, a, b, c⟩
        refine ⟨_, rfl, c, _, rfl, .inl (.inl ec), rfl, _, _, rfl, _, _, rfl, _, _, rfl, rfl, ?_⟩
        have qf : Q (.bl (isP3 ns b i j)) H1 := q'
        refine ⟨_, rfl, _, rfl, a, _, rfl, .inr (.inl (.inl e1)), x1, b, _, rfl, .tv t1, _, rfl, ?_⟩
        rw [List.length_map]
        cases cb : btw b 0 ((ns.length : Int) - 1) with
        | false =>
          have z : isP3 ns b i j = false := by
            unfold isP3
            cases b with
            | int n =>
              show (btw (.int n) 0 ((ns.length : Int) - 1) && _) = false
              rw [cb, Bool.false_and]
            | _ => rfl
          rw [z] at qf
          exact ite2 (fun _ => qf) (fun z => absurd rfl z)
        | true =>
          refine ite2 (fun z => absurd z Bool.false_ne_true) (fun _ => ?_)
          obtain ⟨n, rfl, n0, n1⟩ := btw_int cb
          cases t1
          obtain ⟨n, rfl⟩ : ∃ k : Nat, n = (k : Int) := ⟨n.toNat, by omega⟩
          have nl : n < ns.length := by omega
          have gd : ns.getD n 0 = ns[n] := by rw [List.getD_eq_getElem?_getD, List.getElem?_eq_getElem nl]; rfl
          have z : isP3 ns (.int (n : Int)) i j = isP2 ns[n] i j := by
            show (btw (.int (n : Int)) 0 ((ns.length : Int) - 1) && isP2 (ns.getD n 0) i j) = _
            rw [cb, Bool.true_and, gd]
          rw [z] at qf
          refine ⟨_, rfl, _, rfl, _, rfl, a, _, n, .int ns[n], rfl, rfl, .inl (.inl e1), atI_nat (by rw [List.getElem?_map, List.getElem?_eq_getElem nl]; rfl), x3, j, ns[n], rfl, .tv t3, _, rfl, ?_⟩
          cases cj : btw j 0 (ns[n] - 1) with
          | false =>
            have z2 : isP2 ns[n] i j = false := by
              cases j with
              | int m =>
                show (btw (.int m) 0 (ns[n] - 1) && _) = false
                rw [cj, Bool.false_and]
              | _ => rfl
            rw [z2] at qf
            exact iteF qf
          | true =>
            obtain ⟨m, rfl, m0, m1⟩ := btw_int cj
            cases t3
            have qg : Q (.bl (btw (.int m) 0 (ns[n] - 1) && btw i 0 (m - 1))) H1 := qf
            rw [cj, Bool.true_and] at qg
            exact iteT ⟨_, rfl, _, rfl, x2, i, m, rfl, .tv t2, qg⟩
      · have e3 : (!decide (V.int (xs.length : Nat) = V.int 3)) = true := by
          rw [ll, decide_eq_false (fun z => l3 (by have := V.int.inj z; omega))]
          rfl
        rw [e3]
        rw [isPl_len l3] at q'
        exact ite2 (fun _ => q') (fun z => absurd rfl z)
    | _ => exact ite2 (fun _ => ite2 (fun _ => q') (fun z => absurd rfl z)) (fun z => absurd rfl z)
end
end K04

/-! # places, by the law -/
namespace K04
open PySem PySem.Spec PyProof.Rows L2
abbrev Quad := Int × Int × Int × Int
def quadI (t : Quad) : List Int := [t.1, t.2.1, t.2.2.1, t.2.2.2]
def quadD (t : Quad) : PyData := .tuple ((quadI t).map .int)
def rowQ (b s : Int) (r : Nat) : Nat → List Quad := fun k => (List.range k).map fun (c : Nat) => ((r : Int) + 1 + (c : Int) - (r : Int), b, (r : Int), (r : Int) + 1 + (c : Int))
def blkQ (b s : Int) (k : Nat) : List Quad := (List.range k).flatMap fun (r : Nat) => rowQ b s r (s - ((r : Int) + 1)).toNat
def allQ (ns : List Int) (j : Nat) : List Quad := (List.range j).flatMap fun (b : Nat) => blkQ b (ns.getD b 0) (ns.getD b 0).toNat
theorem rowQ_succ (b s : Int) (r k : Nat) : rowQ b s r (k + 1) = rowQ b s r k ++ [((r : Int) + 1 + (k : Int) - (r : Int), b, (r : Int), (r : Int) + 1 + (k : Int))] := by
  unfold rowQ
  rw [List.range_succ, List.map_append]
  rfl
theorem blkQ_succ (b s : Int) (k : Nat) : blkQ b s (k + 1) = blkQ b s k ++ rowQ b s k (s - ((k : Int) + 1)).toNat := by
  unfold blkQ
  rw [List.range_succ, List.flatMap_append, List.flatMap_singleton]
theorem allQ_succ (ns : List Int) (j : Nat) : allQ ns (j + 1) = allQ ns j ++ blkQ j (ns.getD j 0) (ns.getD j 0).toNat := by
  unfold allQ
  rw [List.range_succ, List.flatMap_append, List.flatMap_singleton]
/-- the places with their distances -/
def plQ (ns : List Int) : List Quad := (pl ns).map fun t => (t.2.2 - t.2.1, t.1, t.2.1, t.2.2)
/-! ### the thirty shapes -/
def r5 : List Int := [2, 3, 4, 5, 6]
theorem r5_mem {n : Int} (h : 2 ≤ n ∧ n ≤ 6) : n ∈ r5 := by
  have z : n = 2 ∨ n = 3 ∨ n = 4 ∨ n = 5 ∨ n = 6 := by omega
  rcases z with rfl | rfl | rfl | rfl | rfl <;> decide
def shapesL : List (List Int) := ((r5.map fun a => [a]) ++ (r5.flatMap fun a => r5.map fun b => [a, b]) ++ (r5.flatMap fun a => r5.flatMap fun b => r5.map fun c => [a, b, c])).filter fun l => decide (l.sum ≤ 8)
theorem shp_mem {ns : List Int} (S : Shp ns) : ns ∈ shapesL := by
  obtain ⟨⟨h1, h2⟩, b, s⟩ := S
  refine List.mem_filter.mpr ⟨?_, decide_eq_true s⟩
  match ns, h1, h2, b with
  | [a], _, _, b => exact List.mem_append_left _ (List.mem_append_left _ (List.mem_map.mpr ⟨a, r5_mem (b a (by simp)), rfl⟩))
  | [a, c], _, _, b => exact List.mem_append_left _ (List.mem_append_right _ (List.mem_flatMap.mpr ⟨a, r5_mem (b a (by simp)), List.mem_map.mpr ⟨c, r5_mem (b c (by simp)), rfl⟩⟩))
  | [a, c, d], _, _, b => exact List.mem_append_right _ (List.mem_flatMap.mpr ⟨a, r5_mem (b a (by simp)), List.mem_flatMap.mpr ⟨c, r5_mem (b c (by simp)), List.mem_map.mpr ⟨d, r5_mem (b d (by simp)), rfl⟩⟩⟩)
  | _ :: _ :: _ :: _ :: _, _, h2, _ => exact absurd h2 (by simp)
  | [], h1, _, _ => exact absurd h1 (by simp)
theorem tables : ∀ ns ∈ shapesL, (plQ ns).Perm (allQ ns ns.length) ∧ (plQ ns).Pairwise (fun p q => TS.code 8 (quadI p) ≤ TS.code 8 (quadI q)) ∧ (∀ p ∈ plQ ns, ∀ q ∈ plQ ns, TS.code 8 (quadI p) = TS.code 8 (quadI q) → p = q) ∧ (∀ p ∈ plQ ns, ∀ m ∈ quadI p, 0 ≤ m ∧ m < 8) ∧ (plQ ns).length < 64 ∧ 0 < (pl ns).length := by decide +kernel
theorem uniq {α : Type} (k : α → Int) : ∀ {l r : List α}, l.Perm r → l.Pairwise (fun x y => k x ≤ k y) → r.Pairwise (fun x y => k x ≤ k y) → (∀ x ∈ l, ∀ y ∈ l, k x = k y → x = y) → l = r
  | [], r, h, _, _, _ => (List.Perm.nil_eq h)
  | x :: l, [], h, _, _, _ => absurd h.length_eq (by simp)
  | x :: l, y :: r, h, hl, hr, inj => by
    have mx : x ∈ y :: r := h.mem_iff.mp (List.mem_cons_self ..)
    have my : y ∈ x :: l := h.mem_iff.mpr (List.mem_cons_self ..)
    have a1 : k y ≤ k x := by
      rcases List.mem_cons.mp mx with rfl | m
      · exact Int.le_refl _
      · exact (List.pairwise_cons.mp hr).1 x m
    have a2 : k x ≤ k y := by
      rcases List.mem_cons.mp my with rfl | m
      · exact Int.le_refl _
      · exact (List.pairwise_cons.mp hl).1 y m
    have e := inj x (List.mem_cons_self ..) y my (by omega)
    subst e
    rw [uniq k (List.Perm.cons_inv h) (List.pairwise_cons.mp hl).2 (List.pairwise_cons.mp hr).2 fun p hp q hq => inj p (List.mem_cons_of_mem _ hp) q (List.mem_cons_of_mem _ hq)]
theorem TvL.perm {H : Hp} {α : Type} (f : α → PyData) {xs ys : List V} (h : xs.Perm ys) : ∀ {ts : List α}, TvL H xs (ts.map f) → ∃ qs : List α, qs.Perm ts ∧ TvL H ys (qs.map f) := by
  induction h with
  | nil =>
    intro ts t
    cases ts with
    | nil => exact ⟨[], .nil, .nil⟩
    | cons _ _ => cases t
  | cons x _ ih =>
    intro ts t
    cases ts with
    | nil => cases t
    | cons q ts =>
      cases t with
      | cons a t =>
        obtain ⟨qs, p, z⟩ := ih t
        exact ⟨q :: qs, p.cons q, .cons a z⟩
  | swap x y l =>
    intro ts t
    match ts, t with
    | [], t => cases t
    | [_], t =>
      cases t with
      | cons _ t => cases t
    | p :: q :: ts, t =>
      cases t with
      | cons a t => cases t with
        | cons b t => exact ⟨q :: p :: ts, .swap _ _ _, .cons b (.cons a t)⟩
  | trans _ _ ih1 ih2 =>
    intro ts t
    obtain ⟨qs, p, z⟩ := ih1 t
    obtain ⟨rs, p2, z2⟩ := ih2 z
    exact ⟨rs, p2.trans p, z2⟩
theorem quad_tup {K : PySem.W.Frag} {H : Hp} {x : V} {q : Quad} (h : Tv H x (quadD q)) : TupI K H x (quadI q) := by
  cases h with
  | tup e l =>
    have z : TvL H _ ((quadI q).map .int) := l
    rw [z.ints] at e
    exact ⟨_, rfl, .inl (.inl e)⟩
theorem quads_pair {K : PySem.W.Frag} {H : Hp} : ∀ {ys : List V} {qs : List Quad}, TvL H ys (qs.map quadD) → ys.Pairwise (fun x y => ∀ n m, TupI K H x n → TupI K H y m → TS.code 8 n ≤ TS.code 8 m) → qs.Pairwise fun p q => TS.code 8 (quadI p) ≤ TS.code 8 (quadI q)
  | [], [], _, _ => .nil
  | [], _ :: _, h, _ => by cases h
  | _ :: _, [], h, _ => by cases h
  | y :: ys, q :: qs, h, p => by
    cases h with
    | cons a t =>
      rw [List.pairwise_cons] at p
      refine List.pairwise_cons.mpr ⟨fun r hr => ?_, quads_pair t p.2⟩
      obtain ⟨i, hi⟩ := List.getElem?_of_mem hr
      have li : i < ys.length := by
        have z := t.len
        rw [List.length_map] at z
        have := (List.getElem?_eq_some_iff.mp hi).1
        omega
      obtain ⟨d, ed, td⟩ := t.get (List.getElem?_eq_getElem li)
      rw [List.getElem?_map, hi] at ed
      obtain rfl := Option.some.inj ed
      exact p.1 _ (List.getElem_mem li) _ _ (quad_tup a) (quad_tup td)
theorem rowQ_len (b s : Int) (r k : Nat) : (rowQ b s r k).length = k := by
  unfold rowQ
  rw [List.length_map, List.length_range]
theorem blkQ_len {s : Int} (h : s ≤ 6) (b : Int) : ∀ k, (blkQ b s k).length ≤ 6 * k
  | 0 => Nat.le_refl _
  | k + 1 => by
    rw [blkQ_succ, List.length_append, rowQ_len]
    have z := blkQ_len h b k
    omega
theorem allQ_len {ns : List Int} (b : ∀ n ∈ ns, 2 ≤ n ∧ n ≤ 6) : ∀ j, (allQ ns j).length ≤ 36 * j
  | 0 => Nat.le_refl _
  | j + 1 => by
    rw [allQ_succ, List.length_append]
    have z := allQ_len b j
    have x : ns.getD j 0 ≤ 6 := by
      rw [List.getD_eq_getElem?_getD]
      cases e : ns[j]? with
      | none => show (0 : Int) ≤ 6; decide
      | some n => exact (b n (List.mem_of_getElem? e)).2
    have y := blkQ_len x j (ns.getD j 0).toNat
    omega
section
variable {P : Program} {w : World} {K : PySem.W.Frag} {mg : Str → Option Value} {base : Heap}
abbrev s_lplaces : Stmt := topS 52
theorem sc_lplaces : FnScope ["_law_shape", "_law_found", "_law_block", "_law_size", "_law_row", "_law_column", "_law_distance"] ["_law_shape"] (defScope s_lplaces) := ⟨rfl, rfl, rfl, by decide +kernel, rfl, by decide +kernel, by decide +kernel⟩
def spLPlaces : Sp := fun vs H Q _ => ∃ (a : Addr) (ns : List Int), vs = [.ref a] ∧ H a = some (.tup (ns.map V.int)) ∧ Shp ns ∧ ∀ H' p xs, Same H H' → H p = none → H' p = some (.lst xs) → TvL H' xs ((pl ns).map triD) → Q (.ref p) H'
theorem ok_lplaces {f : Addr} {fd : FuncData} {k : Nat} (T : Txt mg) (N : Nam mg) (d : D K mg "_law_places" s_lplaces ["_law_shape"] f fd) : FnOk P w K mg base CX0 (k + 1) f fd ["_law_shape"] spLPlaces := by
  refine d.F.ok sc_lplaces (fun vs H Q E h => ?_) (fun cdv A outer s H vs Q E hr h => ?_)
  · obtain ⟨a, ns, rfl, _⟩ := h
    rfl
  · obtain ⟨a, ns, rfl, ea, S, q⟩ := h
    refine ⟨_, (pss_cons (ps_set (i := 1) sc_lplaces.nd rfl (.inl rfl) (pe_lst pa_nil))
      (pss_cons (ps_for PassesOwn.never rfl (pi_enumT (by rfl) N.n_enumerate (pa_cons (pv 0) pa_nil)) (pg_tup rfl (pgs_cons (pg_name (i := 2) sc_lplaces.nd rfl (.inr rfl)) (pgs_cons (pg_name (i := 3) sc_lplaces.nd rfl (.inl rfl)) pgs_nil)))
        (pss_one (ps_for PassesOwn.never rfl (pi_range1 (by rfl) T.n_range (pa_cons (pv 3) pa_nil)) (pg_name (i := 4) sc_lplaces.nd rfl (.inr rfl))
        (pss_one (ps_set (i := 1) sc_lplaces.nd rfl (.inl rfl) (pe_op op_cat (pv 1) (pe_lc (own := [("_law_column", 5)]) (g := gName 5) (tt := tYes) rfl sc_lplaces.nd (pi_range2 (by rfl) T.n_range (pa_cons (pe_op op_add (pv 4) pe_int) (pa_cons (pv 3) pa_nil))) (blkOk_by (own := [("_law_column", 5)]) (N := ["_law_shape", "_law_found", "_law_block", "_law_size", "_law_row", "_law_column", "_law_distance"]) (sc := defScope s_lplaces) (by decide +kernel))
            (fun _ _ _ _ _ => (pg_name (i := 5) sc_lplaces.nd rfl (Or.inl rfl))) (fun _ _ _ _ _ => pts_nil) (fun _ _ _ _ _ => (pe_tup (pa_cons (pe_op op_sub (pv 5) (pv 4)) (pa_cons (pv 2) (pa_cons (pv 4) (pa_cons (pv 5) pa_nil)))))))))))))
      (pss_one (ps_ret (pe_lc (own := [("_law_distance", 6), ("_law_block", 2), ("_law_row", 4), ("_law_column", 5)]) (g := gTup K 4 (gCons (gName 6) (gCons (gName 2) (gCons (gName 4) (gCons (gName 5) gNil))))) (tt := tYes) rfl sc_lplaces.nd (pi_list (pe_callB (cr_sortT (d := 4) (B := 8) (by decide)) (by rfl) N.n_sorted (by decide +kernel) (pa_cons (pv 1) pa_nil))) (blkOk_by (own := [("_law_distance", 6), ("_law_block", 2), ("_law_row", 4), ("_law_column", 5)]) (N := ["_law_shape", "_law_found", "_law_block", "_law_size", "_law_row", "_law_column", "_law_distance"]) (sc := defScope s_lplaces) (by decide +kernel))
            (fun _ _ _ _ _ => (pg_tup rfl (pgs_cons (pg_name (i := 6) sc_lplaces.nd rfl (Or.inl rfl)) (pgs_cons (pg_name (i := 2) sc_lplaces.nd rfl (Or.inl rfl)) (pgs_cons (pg_name (i := 4) sc_lplaces.nd rfl (Or.inl rfl)) (pgs_cons (pg_name (i := 5) sc_lplaces.nd rfl (Or.inl rfl)) pgs_nil)))))) (fun _ _ _ _ _ => pts_nil) (fun _ _ _ _ _ => (pe_tup (pa_cons (pv 2) (pa_cons (pv 4) (pa_cons (pv 5) pa_nil)))))))))), ?_⟩
    refine ⟨(by show 0 ≤ sizeLine; decide), fun D0 nD0 => ?_⟩
    have sq : ∀ {Z : Hp}, Same H Z → SqT K Z a (ns.map V.int) := fun sz => .inl (.inl (sz _ _ ea))
    refine ⟨_, rfl, a, _, rfl, sq (sub_same nD0), ?_⟩
    refine for_it (walk_enumT (K := K) (a := a) (xs := ns.map V.int)) (fun j σ H' => (∃ y2 y3 y4 D, σ = [some (.ref a), some (.ref D), y2, y3, y4, none, none] ∧ ∃ xs, H' D = some (.lst xs) ∧ TvL H' xs ((allQ ns j).map quadD)) ∧ Same H H') ⟨⟨_, _, _, D0, rfl, [], upd_same, .nil⟩, sub_same nD0⟩ (fun j σ H' _ h => sq h.2) ?_ ?_
    · rintro j v σ H2 H3 hj ⟨⟨y2, y3, y4, D, rfl, xs, hv, tv⟩, s3⟩ ⟨T1, x0, y0, rfl, nT, rfl, ex, ey⟩
      obtain rfl := Option.some.inj ex
      obtain ⟨z, ez, rfl⟩ := int_at ey
      have s4 := s3.trans (sub_same (o := .tup [V.int (j : Nat), V.int z]) nT)
      have hv4 := sub_same (o := .tup [V.int (j : Nat), V.int z]) nT _ _ hv
      have tv4 := tv.same (sub_same (o := .tup [V.int (j : Nat), V.int z]) nT)
      have hT : upd H2 T1 (.tup [V.int (j : Nat), V.int z]) T1 = some (.tup [V.int (j : Nat), V.int z]) := upd_same
      revert s4 hv4 tv4 hT
      generalize upd H2 T1 (.tup [V.int (j : Nat), V.int z]) = H4
      intro s4 hv4 tv4 hT
      have z6 := S.2.1 z (List.mem_of_getElem? ez)
      have ez2 : ns.getD j 0 = z := by rw [List.getD_eq_getElem?_getD, ez]; rfl
      rw [List.length_map] at hj
      have b3 := S.1.2
      refine ⟨T1, _, rfl, .inl (.inl hT), rfl, _, _, rfl, _, _, rfl, rfl, ?_⟩
      refine ⟨_, rfl, _, rfl, by omega, by omega, ?_⟩
      refine for_range (lo := 0) (n := z.toNat) (fun k σ H' => (∃ y4 D, σ = [some (.ref a), some (.ref D), some (.int (j : Nat)), some (.int z), y4, none, none] ∧ ∃ xs, H' D = some (.lst xs) ∧ TvL H' xs ((allQ ns j ++ blkQ (j : Nat) z k).map quadD)) ∧ Same H H') ⟨⟨_, D, rfl, xs, hv4, by rw [show blkQ (j : Nat) z 0 = [] from rfl, List.append_nil]; exact tv4⟩, s4⟩ ?_ ?_
      · rintro k σ H5 hk ⟨⟨y4, D, rfl, xs, hv, tv⟩, s5⟩
        have k0 : (0 : Int) + (k : Int) = k := by omega
        rw [k0]
        refine ⟨_, rfl, _, rfl, _, _, rfl, rfl, _, rfl, _, _, rfl, ⟨by omega, by omega, by omega, by omega⟩, fun D2 nD2 => ?_⟩
        have off : ∀ {Z : Hp} {o : HO}, Same H5 Z → Same H5 (upd Z D2 o) := fun sz b o h => by
          rw [upd_ne (ne_of_none h nD2)]
          exact sz b o h
        refine lc_range (lo := (k : Int) + 1) (n := (z - ((k : Int) + 1)).toNat) (fun c H' => Same H5 H' ∧ ∃ xs2, H' D2 = some (.lst xs2) ∧ TvL H' xs2 ((rowQ (j : Nat) z k c).map quadD)) ⟨sub_same nD2, [], upd_same, .nil⟩ ?_ ?_
        · rintro c H6 hc ⟨s6, xs2, hv2, tv2⟩
          refine ⟨rfl, ?_⟩
          unfold tYes
          refine ite2 (fun _ => ?_) (fun q => absurd rfl q)
          refine ⟨_, rfl, _, rfl, _, _, rfl, rfl, _, rfl, _, rfl, _, rfl, (by show 4 ≤ sizeLine; decide), fun p np => ?_⟩
          have s7 := sub_same (o := .tup [V.int ((k : Int) + 1 + (c : Int) - (k : Int)), V.int (j : Nat), V.int (k : Int), V.int ((k : Int) + 1 + (c : Int))]) np
          refine ⟨xs2, s7 _ _ hv2, ?_, off (s6.trans s7), _, upd_same, ?_⟩
          · rw [tv2.len, List.length_map, rowQ_len]
            exact Nat.lt_of_lt_of_le (show c < 10 by omega) (by decide)
          rw [rowQ_succ, List.map_append]
          exact ((tv2.same s7).snoc (.tup upd_same (.cons (.int _) (.cons (.int _) (.cons (.int _) (.cons (.int _) .nil)))))).put (s7 _ _ hv2)
        · rintro H6 ⟨s6, xs2, hv2, tv2⟩
          refine ⟨D, D2, xs, xs2, rfl, rfl, s6 _ _ hv, hv2, ?_, fun D3 nD3 => ?_⟩
          · rw [tv.len, tv2.len, List.length_map, List.length_map, List.length_append, rowQ_len]
            have b1 := allQ_len S.2.1 j
            have b2 := blkQ_len z6.2 (j : Nat) k
            exact Nat.le_trans (show _ ≤ 1000 by omega) (by decide)
          have s7 := sub_same (o := .lst (xs ++ xs2)) nD3
          have app : ∀ {Z : Hp} {us vs : List V} {ds es : List PyData}, TvL Z us ds → TvL Z vs es → TvL Z (us ++ vs) (ds ++ es) := fun {Z us vs ds es} h g => by
            induction us generalizing ds with
            | nil => cases h; exact g
            | cons u us ih =>
              cases h with
              | cons a t => exact .cons a (ih t)
          refine ⟨⟨_, D3, rfl, xs ++ xs2, upd_same, ?_⟩, (s5.trans s6).trans s7⟩
          rw [blkQ_succ, ← List.append_assoc, List.map_append]
          exact app ((tv.same s6).same s7) (tv2.same s7)
      · rintro σ H5 ⟨⟨y4, D, rfl, xs, hv, tv⟩, s5⟩
        refine ⟨⟨_, _, _, D, rfl, xs, hv, ?_⟩, s5⟩
        rw [allQ_succ, ez2]
        exact tv
    · rintro σ H2 ⟨⟨y2, y3, y4, D, rfl, xs, hv, tv⟩, s2⟩
      rw [List.length_map] at tv
      obtain ⟨h1, h2, h3, h4, h5, _⟩ := tables ns (shp_mem S)
      have lx : xs.length < 64 := by
        rw [tv.len, List.length_map, ← h1.length_eq]
        exact h5
      refine ⟨_, rfl, D, xs, rfl, .inl (.inl hv), lx, fun x hx => ?_, fun ys p pm pw np => ?_⟩
      · obtain ⟨i, hi⟩ := List.getElem?_of_mem hx
        obtain ⟨d0, e0, t0⟩ := tv.get hi
        rw [List.getElem?_map] at e0
        obtain ⟨q0, eq, rfl⟩ := Option.map_eq_some_iff.mp e0
        exact ⟨_, quad_tup t0, rfl, fun m hm => h4 q0 (h1.mem_iff.mpr (List.mem_of_getElem? eq)) m hm⟩
      obtain ⟨qs, pq, tq⟩ := TvL.perm quadD pm.symm tv
      have eq : plQ ns = qs := uniq (fun q => TS.code 8 (quadI q)) (h1.trans pq.symm) h2 (quads_pair tq pw) h3
      subst eq
      have s3 := sub_same (o := .lst ys) np
      have hp : upd H2 p (.lst ys) p = some (.lst ys) := upd_same
      have tq3 := tq.same s3
      have s4 := s2.trans s3
      revert hp tq3 s4
      generalize upd H2 p (.lst ys) = H3
      intro hp tq3 s4
      refine ⟨p, rfl, ⟨_, .inl (.inl hp)⟩, fun D3 nD3 => ?_⟩
      have off : ∀ {Z : Hp} {o : HO}, Same H3 Z → Same H3 (upd Z D3 o) := fun sz b o h => by
        rw [upd_ne (ne_of_none h nD3)]
        exact sz b o h
      have ly := tq3.len
      rw [List.length_map] at ly
      have lp : (plQ ns).length = (pl ns).length := by unfold plQ; rw [List.length_map]
      refine lc_list (K := K) (a := p) (xs := ys) (fun i H' => Same H3 H' ∧ ∃ zs, H' D3 = some (.lst zs) ∧ TvL H' zs (((pl ns).take i).map triD)) ⟨sub_same nD3, [], upd_same, .nil⟩ (fun i H' _ h => .inl (.inl (h.1 _ _ hp))) ?_ ?_
      · rintro i x H4 hx ⟨s5, zs, hz, tz⟩
        obtain ⟨d0, e0, t0⟩ := tq3.get hx
        rw [List.getElem?_map] at e0
        obtain ⟨q0, eq0, rfl⟩ := Option.map_eq_some_iff.mp e0
        unfold plQ at eq0
        rw [List.getElem?_map] at eq0
        obtain ⟨t, et, rfl⟩ := Option.map_eq_some_iff.mp eq0
        obtain ⟨c, rfl, ec⟩ : ∃ c, x = .ref c ∧ H3 c = some (.tup [.int (t.2.2 - t.2.1), .int t.1, .int t.2.1, .int t.2.2]) := by
          cases t0 with
          | tup e l =>
            have z : TvL H3 _ ((quadI (t.2.2 - t.2.1, t.1, t.2.1, t.2.2)).map .int) := l
            rw [z.ints] at e
            exact ⟨_, rfl, e⟩
        refine ⟨c, _, rfl, .inl (.inl (s5 _ _ ec)), rfl, _, _, rfl, _, _, rfl, _, _, rfl, _, _, rfl, rfl, rfl, ?_⟩
        unfold tYes
        refine ite2 (fun _ => ?_) (fun q => absurd rfl q)
        refine ⟨_, rfl, _, rfl, _, rfl, (by show 3 ≤ sizeLine; decide), fun r nr => ?_⟩
        have s6 := sub_same (o := .tup [V.int t.1, V.int t.2.1, V.int t.2.2]) nr
        refine ⟨zs, s6 _ _ hz, ?_, off (s5.trans s6), _, upd_same, ?_⟩
        · rw [tz.len, List.length_map, List.length_take]
          exact Nat.lt_of_lt_of_le (show _ < 64 by omega) (by decide)
        · have tk : (pl ns).take (i + 1) = (pl ns).take i ++ [t] := by rw [List.take_succ, et]; rfl
          rw [tk, List.map_append]
          exact ((tz.same s6).snoc (.tup upd_same (.cons (.int _) (.cons (.int _) (.cons (.int _) .nil))))).put (s6 _ _ hz)
      · rintro H4 ⟨s5, zs, hz, tz⟩
        rw [ly, lp, List.take_length] at tz
        exact q H4 D3 zs (s4.trans s5) (s4.free nD3) hz tz
end
end K04

/-! # whether a value is a place, by the law -/
namespace K04
open PySem PySem.Spec PyProof.Rows L2
mutual
theorem Tv.dp (K : PySem.W.Frag) {H : Hp} : ∀ {x : V} {d : PyData}, Tv H x d → Dp K H x d
  | _, _, .non => .non
  | _, _, .bl b => .bl b
  | _, _, .int i => .int i
  | _, _, .str z => .str z
  | _, _, .tup e l => .tup (.inl (.inl e)) (l.dp K)
theorem TvL.dp (K : PySem.W.Frag) {H : Hp} : ∀ {xs : List V} {ds : List PyData}, TvL H xs ds → DpAll K H xs ds
  | _, _, .nil => .nil
  | _, _, .cons h t => .cons (h.dp K) (t.dp K)
end
theorem tables2 : ∀ ns ∈ shapesL, SeqAt.shaped (.list ((pl ns).map triD)) = true ∧ (∀ t ∈ pl ns, isPl ns (triD t) = true) ∧ ((List.range 3).all fun b => (List.range 6).all fun i => (List.range 6).all fun j => !isPl ns (triD ((b : Nat), (i : Nat), (j : Nat))) || decide ((((b : Nat) : Int), ((i : Nat) : Int), ((j : Nat) : Int)) ∈ pl ns)) = true := by decide +kernel
theorem all_whole : ∀ {ds : List PyData}, ds.all isW = true → ∃ ms : List Int, ds = ms.map .int
  | [], _ => ⟨[], rfl⟩
  | d :: r, h => by
    rw [List.all_cons, Bool.and_eq_true] at h
    obtain ⟨ms, e⟩ := all_whole h.2
    cases d with
    | int n => exact ⟨n :: ms, by rw [e]; rfl⟩
    | _ => exact absurd h.1 Bool.false_ne_true
theorem isP3_ints {ns : List Int} {b i j : PyData} (h : isP3 ns b i j = true) : ∃ n k m : Int, b = .int n ∧ i = .int k ∧ j = .int m ∧ 0 ≤ n ∧ n < ns.length ∧ 0 ≤ k ∧ k < m ∧ 0 ≤ m ∧ m < ns.getD n.toNat 0 := by
  cases b with
  | int n =>
    have z : (btw (.int n) 0 ((ns.length : Int) - 1) && isP2 (ns.getD n.toNat 0) i j) = true := h
    rw [Bool.and_eq_true] at z
    obtain ⟨_, e, n0, n1⟩ := btw_int z.1
    cases e
    cases j with
    | int m =>
      have y : (btw (.int m) 0 (ns.getD n.toNat 0 - 1) && btw i 0 (m - 1)) = true := z.2
      rw [Bool.and_eq_true] at y
      obtain ⟨_, e, m0, m1⟩ := btw_int y.1
      cases e
      obtain ⟨k, rfl, k0, k1⟩ := btw_int y.2
      exact ⟨n, k, m, rfl, rfl, rfl, n0, by omega, k0, by omega, m0, by omega⟩
    | _ => exact absurd z.2 Bool.false_ne_true
  | _ => exact absurd h Bool.false_ne_true
theorem isPl_whole {ns : List Int} {ds : List PyData} (h : isPl ns (.tuple ds) = true) : ds.all isW = true := by
  match ds, h with
  | [b, i, j], h =>
    obtain ⟨n, k, m, rfl, rfl, rfl, _⟩ := isP3_ints (show isP3 ns b i j = true from h)
    rfl
  | [], h => exact absurd h Bool.false_ne_true
  | [_], h => exact absurd h Bool.false_ne_true
  | [_, _], h => exact absurd h Bool.false_ne_true
  | _ :: _ :: _ :: _ :: _, h => exact absurd h Bool.false_ne_true
theorem eqv_ints : ∀ {ms ks : List Int}, PyData.eqvAll (ms.map .int) (ks.map .int) = decide (ms = ks)
  | [], [] => rfl
  | [], _ :: _ => rfl
  | _ :: _, [] => rfl
  | m :: ms, k :: ks => by
    show ((m == k) && PyData.eqvAll (ms.map .int) (ks.map .int)) = decide (m :: ms = k :: ks)
    rw [eqv_ints, Bool.eq_iff_iff]
    simp
def triI (t : Tri) : List Int := [t.1, t.2.1, t.2.2]
theorem triI_inj {t u : Tri} (h : triI t = triI u) : t = u := by
  obtain ⟨a, b, c⟩ := t
  obtain ⟨d, e, f⟩ := u
  cases h
  rfl
theorem any_pl {ns : List Int} (S : Shp ns) (ms : List Int) : (((pl ns).map triD).any fun z => PyData.eqv z (.tuple (ms.map .int))) = isPl ns (.tuple (ms.map .int)) := by
  obtain ⟨_, t2, t3⟩ := tables2 ns (shp_mem S)
  have ev : ∀ t : Tri, PyData.eqv (triD t) (.tuple (ms.map .int)) = decide (triI t = ms) := fun t => by
    show PyData.eqvAll ((triI t).map .int) (ms.map .int) = _
    rw [eqv_ints]
  rw [Bool.eq_iff_iff, List.any_eq_true]
  constructor
  · rintro ⟨z, hz, e⟩
    obtain ⟨t, ht, rfl⟩ := List.mem_map.mp hz
    rw [ev] at e
    have e' := of_decide_eq_true e
    have y := t2 t ht
    rw [← e']
    exact y
  · intro h
    obtain ⟨n, k, m, e⟩ : ∃ n k m, ms = [n, k, m] := by
      match ms, h with
      | [n, k, m], _ => exact ⟨n, k, m, rfl⟩
      | [], h => exact absurd h Bool.false_ne_true
      | [_], h => exact absurd h Bool.false_ne_true
      | [_, _], h => exact absurd h Bool.false_ne_true
      | _ :: _ :: _ :: _ :: _, h => exact absurd h Bool.false_ne_true
    subst e
    obtain ⟨_, _, _, e1, e2, e3, n0, n1, k0, k1, m0, m1⟩ := isP3_ints (show isP3 ns (.int n) (.int k) (.int m) = true from h)
    cases e1
    cases e2
    cases e3
    have l3 := S.1.2
    have g6 : ns.getD n.toNat 0 ≤ 6 := by
      rw [List.getD_eq_getElem?_getD]
      cases e : ns[n.toNat]? with
      | none => show (0 : Int) ≤ 6; decide
      | some n => exact (S.2.1 n (List.mem_of_getElem? e)).2
    obtain ⟨n, rfl⟩ : ∃ c : Nat, n = (c : Int) := ⟨n.toNat, by omega⟩
    obtain ⟨k, rfl⟩ : ∃ c : Nat, k = (c : Int) := ⟨k.toNat, by omega⟩
    obtain ⟨m, rfl⟩ : ∃ c : Nat, m = (c : Int) := ⟨m.toNat, by omega⟩
    have y0 := List.all_eq_true.mp (List.all_eq_true.mp (List.all_eq_true.mp t3 n (List.mem_range.mpr (by omega))) k (List.mem_range.mpr (by omega))) m (List.mem_range.mpr (by omega))
    have hh : isPl ns (triD ((n : Nat), (k : Nat), (m : Nat))) = true := h
    rw [hh, Bool.not_true, Bool.false_or] at y0
    have y := of_decide_eq_true y0
    exact ⟨_, List.mem_map.mpr ⟨_, y, rfl⟩, by rw [ev]; exact decide_eq_true rfl⟩
theorem call_isiK {X : Cx} {K : PySem.W.Frag} (h : X.K = K) : CallR X (.builtin "isinstance") (rIsi K) := by
  subst h
  exact call_isi
section
variable {P : Program} {w : World} {K : PySem.W.Frag} {mg : Str → Option Value} {base : Heap}
abbrev s_one : Stmt := topS 54
theorem sc_one : FnScope ["_law_shape", "_law_value", "_law_part"] ["_law_shape", "_law_value"] (defScope s_one) := ⟨rfl, rfl, rfl, by decide +kernel, rfl, by decide +kernel, by decide +kernel⟩
def spOne : Sp := fun vs H Q _ => ∃ (a : Addr) (ns : List Int) (y : V) (e : PyData), vs = [.ref a, y] ∧ H a = some (.tup (ns.map V.int)) ∧ Shp ns ∧ Dw H y e ∧ (∀ ds, e = .tuple ds → PyData.canLayAll0 ds = true ∧ PyData.depthAll ds ≤ 2 ∧ ds.length ≤ 10) ∧ ∀ H', Same H H' → Q (.bl (isPl ns e)) H'
theorem ok_one {f f1 : Addr} {fd fd1 : FuncData} (T : Txt mg) (N : Nam mg) (d : D K mg "_law_is_one" s_one ["_law_shape", "_law_value"] f fd) (d1 : D K mg "_law_places" s_lplaces ["_law_shape"] f1 fd1) (G1 : FnOk P w K mg base CX0 1 f1 fd1 ["_law_shape"] spLPlaces) : FnOk P w K mg base CX0 2 f fd ["_law_shape", "_law_value"] spOne := by
  refine d.F.ok sc_one (fun vs H Q E h => ?_) (fun cdv A outer s H vs Q E hr h => ?_)
  · obtain ⟨a, ns, y, e, rfl, _⟩ := h
    rfl
  · obtain ⟨a, ns, y, e, rfl, ea, S, he, lay, q⟩ := h
    have un : (A.deeper (envOfC "_law_is_one" (defScope s_one) s.heap.objs.size f cdv)).units + 64 < cLine := by have := hr.un; omega
    have un5 : (A.deeper (envOfC "_law_is_one" (defScope s_one) s.heap.objs.size f cdv)).units + 65 < cLine := by have := hr.un; omega
    refine ⟨_, (pss_cons (ps_if (PW.pt (pw_or (pt_not (pt_val (pe_callB call_isi (by rfl) T.n_isinstance (by decide +kernel) (pa_cons (pv 1) (pa_cons (pe_bltn (v := .ty "tuple") (by rfl) T.n_tuple (by decide +kernel) rfl) pa_nil))))) (pw_or1 (pt_cmpR (op_neD un) (pe_lc (own := [("_law_part", 2)]) (g := gName 2) rfl sc_one.nd (pi_tup (pv 1)) (blkOk_by (own := [("_law_part", 2)]) (N := ["_law_shape", "_law_value", "_law_part"]) (sc := defScope s_one) (by decide +kernel))
            (fun _ _ _ _ _ => (pg_name (i := 2) sc_one.nd rfl (Or.inl rfl))) (fun _ _ _ _ _ => (pts_one (PW.pt (pw_or (pt_not (pt_val (pe_callB (call_isiK (K := K) rfl) (by rfl) T.n_isinstance (by decide +kernel) (pa_cons (pv 2) (pa_cons (pe_bltn (v := .ty "int") (by rfl) T.n_int (by decide +kernel) rfl) pa_nil))))) (pw_or1 (pt_val (pe_callB (call_isiK (K := K) rfl) (by rfl) T.n_isinstance (by decide +kernel) (pa_cons (pv 2) (pa_cons (pe_bltn (v := .ty "bool") (by rfl) T.n_bool (by decide +kernel) rfl) pa_nil))))))))) (fun _ _ _ _ _ => (pv 2))) (pe_lst pa_nil) (nomark _))))) (pss_one (ps_ret pe_bl)) pss_nil)
      (pss_one (ps_ret (pe_cmpR (op_inD un5) (pv 1) (pe_call G1 (hr.mono (by decide)) (by rfl) d1.g d1.F.kp d1.b .nil pass0 (pa_cons (pv 0) pa_nil)) (by with_unfolding_all rfl))))), ?_⟩
    refine ⟨_, rfl, _, _, _, _, _, rfl, .ty _, he.ty, kitT e, _, rfl, ?_⟩
    cases e with
    | tuple ds =>
      obtain ⟨c, xs, rfl, ec, l⟩ : ∃ c xs, y = .ref c ∧ H c = some (.tup xs) ∧ TvL H xs ds := by
        cases he with
        | tv t =>
          cases t with
          | tup e l => exact ⟨_, _, rfl, e, l⟩
      have ll := l.len
      obtain ⟨cl, dl, nl⟩ := lay ds rfl
      refine ite2 (fun z => absurd z Bool.false_ne_true) (fun _ => ?_)
      refine ⟨_, rfl, c, rfl, ⟨_, .inl (.inl ec)⟩, fun D hD => ?_⟩
      have off : ∀ {Z : Hp} {o : HO}, Same H Z → Same H (upd Z D o) := fun sz b o h => by
        rw [upd_ne (ne_of_none h hD)]
        exact sz b o h
      refine lc_tup (K := K) (a := c) (xs := xs) (fun i H' => Same H H' ∧ ∃ zs, H' D = some (.lst zs) ∧ TvL H' zs ((ds.take i).filter fun d => !isW d)) ⟨sub_same hD, [], upd_same, .nil⟩ (fun i H' _ h => .inl (.inl (h.1 _ _ ec))) ?_ ?_
      · rintro i x H' hx ⟨sm, zs, hz, tz⟩
        obtain ⟨d0, hd0, t0⟩ := l.get hx
        have tk : ds.take (i + 1) = ds.take i ++ [d0] := by rw [List.take_succ, hd0]; rfl
        have add : isW d0 = false → ∃ acc, H' D = some (.lst acc) ∧ acc.length < sizeLine ∧ (Same H (upd H' D (.lst (acc ++ [x]))) ∧ ∃ zs, upd H' D (.lst (acc ++ [x])) D = some (.lst zs) ∧ TvL (upd H' D (.lst (acc ++ [x]))) zs ((ds.take (i + 1)).filter fun d => !isW d)) := fun w => by
          refine ⟨zs, hz, ?_, off sm, _, upd_same, ?_⟩
          · have a1 := tz.len
            have a2 := List.length_filter_le (fun d => !isW d) (ds.take i)
            have a3 : i < ds.length := (List.getElem?_eq_some_iff.mp hd0).1
            rw [List.length_take] at a2
            exact Nat.lt_of_lt_of_le (show _ < 11 by omega) (by decide)
          · rw [tk, List.filter_append, List.filter_cons_of_pos (by rw [w]; rfl), List.filter_nil]
            exact (tz.snoc (t0.same sm)).put hz
        refine ⟨rfl, ?_⟩
        refine ⟨_, rfl, _, _, _, _, _, rfl, .ty _, (t0.same sm).ty, kitI d0, _, rfl, ?_⟩
        cases ci : isI d0 with
        | false => exact ite2 (fun _ => ite2 (fun _ => ⟨_, rfl, add (by rw [← isW_eq, ci]; rfl)⟩) (fun z => absurd rfl z)) (fun z => absurd rfl z)
        | true =>
          refine ite2 (fun z => absurd z Bool.false_ne_true) (fun _ => ⟨_, rfl, _, _, _, _, _, rfl, .ty _, (t0.same sm).ty, kitB' d0, _, rfl, ?_⟩)
          cases cb : isB d0 with
          | true => exact ite2 (fun _ => ⟨_, rfl, add (by rw [← isW_eq, ci, cb]; rfl)⟩) (fun z => absurd rfl z)
          | false =>
            refine ite2 (fun z => absurd z Bool.false_ne_true) (fun _ => ⟨sm, zs, hz, ?_⟩)
            have w : isW d0 = true := by rw [← isW_eq, ci, cb]; rfl
            rw [tk, List.filter_append, List.filter_cons_of_neg (by rw [w]; decide), List.filter_nil, List.append_nil]
            exact tz
      · rintro H' ⟨sm, zs, hz, tz⟩
        rw [ll, List.take_length] at tz
        have fl : ∀ {es : List PyData}, PyData.canLayAll0 es = true → PyData.depthAll es ≤ 2 → PyData.canLayAll0 (es.filter fun d => !isW d) = true ∧ PyData.depthAll (es.filter fun d => !isW d) ≤ 2 := fun {es} h1 h2 => by
          induction es with
          | nil => exact ⟨rfl, by decide⟩
          | cons d r ih =>
            have z1 : (PyData.canLay0 d && PyData.canLayAll0 r) = true := h1
            rw [Bool.and_eq_true] at z1
            have z2 : max (PyData.depth d) (PyData.depthAll r) ≤ 2 := h2
            obtain ⟨y1, y2⟩ := ih z1.2 (by omega)
            rw [List.filter_cons]
            split
            · refine ⟨?_, ?_⟩
              · show (PyData.canLay0 d && PyData.canLayAll0 _) = true
                rw [z1.1, y1]
                rfl
              · show max (PyData.depth d) (PyData.depthAll _) ≤ 2
                omega
            · exact ⟨y1, y2⟩
        have shp : ∀ {es : List PyData}, PyData.canLayAll0 es = true → PyData.depthAll es ≤ 2 → (PyData.canLayAll0 es && decide (PyData.depthAll es + 1 ≤ 64)) = true := fun {es} h1 h2 => by
          rw [h1, decide_eq_true (show PyData.depthAll es + 1 ≤ 64 by omega)]
          rfl
        obtain ⟨f1, f2⟩ := fl cl dl
        refine ⟨(by show 0 ≤ sizeLine; decide), fun p np => ⟨.list (ds.filter fun d => !isW d), .list [], .lst (.inl (.inl (sub_same np _ _ hz))) ((tz.same (sub_same np)).dp K), .lst (.inl (.inl upd_same)) .nil, shp f1 f2, rfl, _, rfl, ?_⟩⟩
        have sp := sm.trans (sub_same (o := .lst []) np)
        cases eb : ds.filter fun d => !isW d with
        | cons d r =>
          refine ite2 (fun _ => ?_) (fun z => absurd rfl z)
          have no : isPl ns (.tuple ds) = false := by
            cases e : isPl ns (.tuple ds) with
            | false => rfl
            | true =>
              have al := isPl_whole e
              have m : d ∈ ds.filter fun d => !isW d := by rw [eb]; exact List.mem_cons_self ..
              have m2 := List.mem_filter.mp m
              have w := List.all_eq_true.mp al d m2.1
              have m3 := m2.2
              rw [w] at m3
              cases m3
          have q' := q _ sp
          rw [no] at q'
          exact q'
        | nil =>
          refine ite2 (fun z => absurd z Bool.false_ne_true) (fun _ => ?_)
          have al : ds.all isW = true := List.all_eq_true.mpr fun d hd => by
            cases w : isW d with
            | true => rfl
            | false =>
              have m : d ∈ ds.filter fun d => !isW d := List.mem_filter.mpr ⟨hd, by rw [w]; rfl⟩
              rw [eb] at m
              cases m
          obtain ⟨ms, rfl⟩ := all_whole al
          have tup : ∀ {Z : Hp}, Same H Z → Dp K Z (.ref c) (.tuple (ms.map .int)) := fun sz => .tup (.inl (.inl (sz _ _ ec))) ((l.same sz).dp K)
          have any := any_pl S ms
          have shL := (tables2 ns (shp_mem S)).1
          refine ⟨_, rfl, _, rfl, a, ns, rfl, sp _ _ ea, S, fun H6 p6 xs6 s6 n6 h6 t6 => ?_⟩
          refine ⟨.tuple (ms.map .int), (pl ns).map triD, tup (sp.trans s6), .lst (.inl (.inl h6)) (t6.dp K), shp cl dl, shL, ?_⟩
          rw [any]
          exact q _ (sp.trans s6)
    | _ => exact ite2 (fun _ => ite2 (fun _ => q H (Same.refl H)) (fun z => absurd rfl z)) (fun z => absurd rfl z)
end
end K04

/-! # a value near a place -/
namespace K04
open PySem PySem.Spec PyProof.Rows L2
/-- fit for the comparison -/
def Fit (d : PyData) : Prop := ∀ ds, d = .tuple ds → PyData.canLayAll0 ds = true ∧ PyData.depthAll ds ≤ 2 ∧ ds.length ≤ 10
theorem Dw.oldR {H H' : Hp} {u : Addr} {x : V} {d : PyData} (hu : Urn H u) (o : Old u H H') (h : Dw H x d) (n : x ≠ .ref u) : Dw H' x d := by
  cases h with
  | tv t => exact .tv (t.old hu o)
  | lst e => exact .lst (o _ _ (fun z => n (by rw [z])) e)
  | dic e => exact .dic (o _ _ (fun z => n (by rw [z])) e)
/-! ### what an expression lays where J stands -/
structure DnL (u : Addr) (H : Hp) (xs : List V) (ds : List PyData) : Prop where
  d : DwL H xs ds
  n : ∀ x ∈ xs, x ≠ .ref u
def LJ (J : Hp → Prop) (u : Addr) (σ : L2.St) (t : TE) (d : PyData) : Prop := ∀ (H : Hp) (Q : VK), J H → (∀ x H', Same H H' → Dw H' x d → x ≠ .ref u → Q x H') → t σ H Q
def LJA (J : Hp → Prop) (u : Addr) (σ : L2.St) (t : TA) (ds : List PyData) : Prop := ∀ (H : Hp) (Q : List V → Hp → Prop), J H → (∀ xs H', Same H H' → DnL u H' xs ds → Q xs H') → t σ H Q
theorem LJA.nil {J : Hp → Prop} {u : Addr} {σ : L2.St} : LJA J u σ tNil [] := fun H Q _ q => q _ _ (Same.refl H) ⟨.nil, fun x h => by cases h⟩
theorem LJA.cons {J : Hp → Prop} (st : ∀ {H H' : Hp}, Same H H' → J H → J H') {u : Addr} {σ : L2.St} {t : TE} {ts : TA} {d : PyData} {ds : List PyData} (h : LJ J u σ t d) (hs : LJA J u σ ts ds) : LJA J u σ (tCons t ts) (d :: ds) := fun H Q j q =>
  h H _ j fun x H1 s1 t1 n1 => hs H1 _ (st s1 j) fun xs H2 s2 t2 => q (x :: xs) H2 (s1.trans s2) ⟨.cons (t1.same s2) t2.d, fun y hy => (List.mem_cons.mp hy).elim (fun e => by rw [e]; exact n1) (t2.n y)⟩
theorem lay_lstJ {J : Hp → Prop} {u : Addr} {σ : L2.St} {ts : TA} {ds : List PyData} (hs : LJA J u σ ts ds) (l : ds.length ≤ 100) {H : Hp} {Q : VK} (j : J H) (q : ∀ xs H1 b, Same H H1 → H1 b = none → DnL u H1 xs ds → Q (.ref b) (upd H1 b (.lst xs))) : tLst ts σ H Q :=
  hs H _ j fun xs H1 s1 t1 => ⟨by rw [t1.d.len]; exact Nat.le_trans l (by decide), fun b nb => q xs H1 b s1 nb t1⟩
theorem DwL.at {H : Hp} : ∀ {xs : List V} {ds : List PyData} {i : Nat} {x : V}, DwL H xs ds → xs[i]? = some x → ∃ d, ds[i]? = some d ∧ Dw H x d
  | _, _, _, _, .nil, h => by simp at h
  | _, _, 0, _, .cons a _, h => by
    rw [List.getElem?_cons_zero] at h
    obtain rfl := Option.some.inj h
    exact ⟨_, rfl, a⟩
  | _, _, i + 1, _, .cons _ t, h => by
    rw [List.getElem?_cons_succ] at h
    exact t.at h
theorem TvL.set {H : Hp} : ∀ {xs : List V} {ds : List PyData} {x : V} {d : PyData} (k : Nat), TvL H xs ds → Tv H x d → TvL H (xs.set k x) (ds.set k d)
  | _, _, _, _, _, .nil, _ => .nil
  | _, _, _, _, 0, .cons _ t, h => .cons h t
  | _, _, _, _, k + 1, .cons a t, h => .cons a (t.set k h)
/-- a part of a bent place -/
def Prt (d : PyData) : Prop := PyData.canLay0 d = true ∧ PyData.depth d ≤ 1 ∧ ∀ H x, Dw H x d → Tv H x d
section
variable {P : Program} {w : World} {K : PySem.W.Frag} {mg : Str → Option Value} {base : Heap}
abbrev s_near : Stmt := topS 53
theorem sc_near : FnScope ["_law_pot_here", "_law_place", "_law_at", "_law_bent"] ["_law_pot_here", "_law_place"] (defScope s_near) := ⟨rfl, rfl, rfl, by decide +kernel, rfl, by decide +kernel, by decide +kernel⟩
def spNear : Sp := fun vs H Q _ => ∃ (u c : Addr) (t : Tri), vs = [.ref u, .ref c] ∧ Urn H u ∧ H c = some (.tup (triV t)) ∧ (∀ m ∈ triI t, 0 ≤ m ∧ m < 8) ∧ ∀ (y : V) (d : PyData) (H' : Hp), Urn H' u → Old u H H' → Dw H' y d → Fit d → Q y H'
theorem ok_near {f fs ft : Addr} {fd fds fdt : FuncData} (T : Txt mg) (N : Nam mg) (d : D K mg "_law_near" s_near ["_law_pot_here", "_law_place"] f fd) (ds : D K mg "_law_pick" s_pick ["_law_pot_here", "_law_items"] fs fds) (dt : D K mg "_law_dip" s_dip ["_law_pot_here", "_law_total"] ft fdt) :
    FnOk P w K mg base CX0 3 f fd ["_law_pot_here", "_law_place"] spNear := by
  have Gs : FnOk P w K mg base CX0 2 fs fds ["_law_pot_here", "_law_items"] spSome := ok_some T ds dt
  have Gt : FnOk P w K mg base CX0 1 ft fdt ["_law_pot_here", "_law_total"] spTake := ok_take T dt
  refine d.F.ok sc_near (fun vs H Q E h => ?_) (fun cdv A outer s H vs Q E hr h => ?_)
  · obtain ⟨u, c, t, rfl, _⟩ := h
    rfl
  · obtain ⟨u, c, t, rfl, hu, hc, ht, g⟩ := h
    refine ⟨_, (pss_cons (ps_set (i := 2) sc_near.nd rfl (.inl rfl) (pe_call Gt (hr.mono (by decide)) (by rfl) dt.g dt.F.kp dt.b .nil pass0 (pa_cons (pv 0) (pa_cons pe_int pa_nil))))
      (pss_cons (ps_set (i := 3) sc_near.nd rfl (.inl rfl) (pe_callTy call_list_of (by rfl) N.n_list (by decide +kernel) (pa_cons (pv 1) pa_nil)))
      (pss_cons (ps_asg (pe_call Gs (hr.mono (by decide)) (by rfl) ds.g ds.F.kp ds.b .nil pass0 (pa_cons (pv 0) (pa_cons (pe_lst (pa_cons (pe_op op_add (pe_ix ix_list (pv 3) (pv 2) (fun _ _ => rfl)) pe_int) (pa_cons (pe_op op_sub (pe_ix ix_list (pv 3) (pv 2) (fun _ _ => rfl)) pe_int) (pa_cons (pe_op op_add (pe_ix ix_list (pv 3) (pv 2) (fun _ _ => rfl)) (pe_op op_powW pe_int pe_int)) (pa_cons pe_non (pa_cons (pe_callTy call_str_int (by rfl) N.n_str (by decide +kernel) (pa_cons (pe_ix ix_list (pv 3) (pv 2) (fun _ _ => rfl)) pa_nil)) (pa_cons pe_bl (pa_cons (pe_tup (pa_cons (pe_ix ix_list (pv 3) (pv 2) (fun _ _ => rfl)) pa_nil)) pa_nil)))))))) pa_nil))) (pg_sub (pv 3) (pv 2) set_list))
      (pss_one (ps_ret (pe_call Gs (hr.mono (by decide)) (by rfl) ds.g ds.F.kp ds.b .nil pass0 (pa_cons (pv 0) (pa_cons (pe_lst (pa_cons (pe_tupleOf (by rfl) T.n_tuple (pv 3)) (pa_cons (pe_tupleOf (by rfl) T.n_tuple (pv 3)) (pa_cons (pe_tupleOf (by rfl) T.n_tuple (pv 3)) (pa_cons (pe_callTy call_list_of (by rfl) N.n_list (by decide +kernel) (pa_cons (pv 1) pa_nil)) (pa_cons (pe_slice sl_tup (pv 1) po_none (po_some pe_int)) (pa_cons (pe_op op_catT (pv 1) (pe_tup (pa_cons pe_int pa_nil))) (pa_cons (pe_tup (pa_cons (pe_ix ix_tup (pv 1) pe_int (fun _ _ => rfl)) (pa_cons (pe_ix ix_tup (pv 1) pe_int (fun _ _ => rfl)) (pa_cons (pe_ix ix_tup (pv 1) pe_int (fun _ _ => rfl)) pa_nil)))) (pa_cons (pv 1) pa_nil))))))))) pa_nil)))))))), ?_⟩
    refine ⟨_, rfl, u, 3, rfl, hu, by decide, by decide +kernel, fun v H1 v0 v1 u1 k1 => ?_⟩
    obtain ⟨k, rfl⟩ : ∃ k : Nat, v = (k : Int) := ⟨v.toNat, by omega⟩
    have k3 : k < 3 := by omega
    have cu : c ≠ u := fun z => by
      obtain ⟨a, b, e, h⟩ := hu
      rw [z, h] at hc
      cases hc
    have hc1 := (k1 c cu).trans hc
    have o1 := Old.of_but k1
    refine ⟨_, rfl, c, triV t, rfl, .inr (.inl (.inl hc1)), fun B nB => ?_⟩
    have s2 := sub_same (o := .lst (triV t)) nB
    have hB : upd H1 B (.lst (triV t)) B = some (.lst (triV t)) := upd_same
    have Bu : B ≠ u := urn_ne u1 nB
    have hB0 : H B = none := by
      cases e : H B with
      | none => rfl
      | some o =>
        have z := (k1 B Bu).trans e
        rw [nB] at z
        cases z
    have u2 := u1.same s2
    have o2 := o1.trans (.of_same s2)
    have hc2 := s2 _ _ hc1
    revert hB u2 o2 hc2
    clear s2
    generalize upd H1 B (.lst (triV t)) = H2
    intro hB u2 o2 hc2
    clear hc1 o1 k1 u1
    have lt : (triV t)[k]? = some (.int ((triI t).getD k 0)) := by
      rcases (show k = 0 ∨ k = 1 ∨ k = 2 by omega) with rfl | rfl | rfl <;> rfl
    have ik : ixN 3 (k : Int) = some k := by
      rcases (show k = 0 ∨ k = 1 ∨ k = 2 by omega) with rfl | rfl | rfl <;> rfl
    have mb : 0 ≤ (triI t).getD k 0 ∧ (triI t).getD k 0 < 8 := by
      rcases (show k = 0 ∨ k = 1 ∨ k = 2 by omega) with rfl | rfl | rfl
      · exact ht _ (by simp [triI])
      · exact ht _ (by simp [triI])
      · exact ht _ (by simp [triI])
    generalize (triI t).getD k 0 = m at lt mb
    have pw59 : CPowW 10 59 := ⟨by decide, by decide +kernel⟩
    refine ⟨_, rfl, lay_lstJ (J := fun Z => Urn Z u ∧ Z B = some (.lst (triV t))) (u := u) (ds := [.int (m + 1), .int (m - 1), .int (m + 10 ^ 59), .none, .str (toString m), .bool true, .tuple [.int m]]) ?_ (show 7 ≤ 100 by decide) ⟨u2, hB⟩ fun xs H3 b s3 nb dl => ?_⟩
    · have st : ∀ {H H' : Hp}, Same H H' → Urn H u ∧ H B = some (.lst (triV t)) → Urn H' u ∧ H' B = some (.lst (triV t)) := fun s h => ⟨h.1.same s, s _ _ h.2⟩
      have am : ∀ {Z : Hp}, Z B = some (.lst (triV t)) → SqL K Z B (triV t) := fun h => .inl (.inl h)
      have ai : atI (triV t) (k : Int) = some (.int m) := atI_nat lt
      have nr : ∀ {x : V}, (∀ a, x ≠ .ref a) → x ≠ .ref u := fun h => h u
      refine LJA.cons st (fun Z Q j q => ⟨_, rfl, _, rfl, B, _, _, _, rfl, rfl, am j.2, ai, _, _, rfl, rfl, q _ _ (Same.refl Z) (.tv (.int _)) (nr fun a z => by cases z)⟩) ?_
      refine LJA.cons st (fun Z Q j q => ⟨_, rfl, _, rfl, B, _, _, _, rfl, rfl, am j.2, ai, _, _, rfl, rfl, q _ _ (Same.refl Z) (.tv (.int _)) (nr fun a z => by cases z)⟩) ?_
      refine LJA.cons st (fun Z Q j q => ⟨_, rfl, _, rfl, B, _, _, _, rfl, rfl, am j.2, ai, _, _, rfl, rfl, pw59, _, _, rfl, rfl, q _ _ (Same.refl Z) (.tv (.int _)) (nr fun a z => by cases z)⟩) ?_
      refine LJA.cons st (fun Z Q j q => q _ _ (Same.refl Z) (.tv .non) (nr fun a z => by cases z)) ?_
      refine LJA.cons st (fun Z Q j q => ⟨_, rfl, _, rfl, B, _, _, _, rfl, rfl, am j.2, ai, _, rfl, ?_, q _ _ (Same.refl Z) (.tv (.str _)) (nr fun a z => by cases z)⟩) ?_
      · exact Nat.lt_of_le_of_lt (Nat.log2_le_self _) (show m.natAbs < 1920 by omega)
      refine LJA.cons st (fun Z Q j q => q _ _ (Same.refl Z) (.tv (.bl _)) (nr fun a z => by cases z)) ?_
      refine LJA.cons st (fun Z Q j q => ⟨_, rfl, _, rfl, B, _, _, _, rfl, rfl, am j.2, ai, (by show 1 ≤ sizeLine; decide), fun p np => q _ _ (sub_same np) (.tv (.tup upd_same (.cons (.int _) .nil))) (fun z => urn_ne j.1 np (V.ref.inj z))⟩) LJA.nil
    have u3 := u2.same s3
    have sb := sub_same (o := .lst xs) nb
    have ln := dl.d.len
    refine ⟨u, b, xs, rfl, u3.same sb, upd_same, urn_ne u3 nb, (fun z => by rw [z] at ln; cases ln), by rw [ln]; show 7 ≤ 1000; decide, fun i x H4 hx u4 k4 => ?_⟩
    obtain ⟨d0, e0, w0⟩ := dl.d.at hx
    have nx := dl.n x (List.mem_of_getElem? hx)
    have s4 : Old u H2 H4 := ((Old.of_same s3).trans (.of_same sb)).trans (.of_but k4)
    have w4 := (w0.same sb).oldR (u3.same sb) (.of_but k4) nx
    have hB4 := s4 _ _ Bu hB
    have hc4 := s4 _ _ cu hc2
    have stOk : ∀ j : Nat, j < 8 → PyData.strOk (Str.ofString (toString ((j : Nat) : Int))) = true := by decide +kernel
    have prt : Prt d0 := by
      have z := List.mem_of_getElem? e0
      have tvO : ∀ {d : PyData}, tyN d ≠ "list" → tyN d ≠ "dict" → ∀ H x, Dw H x d → Tv H x d := fun h1 h2 H x w => by
        cases w with
        | tv t => exact t
        | lst _ => exact absurd rfl h1
        | dic _ => exact absurd rfl h2
      simp only [List.mem_cons, List.not_mem_nil, or_false] at z
      rcases z with rfl | rfl | rfl | rfl | rfl | rfl | rfl
      · exact ⟨rfl, by show 0 ≤ 1; decide, tvO (by show "int" ≠ "list"; decide) (by show "int" ≠ "dict"; decide)⟩
      · exact ⟨rfl, by show 0 ≤ 1; decide, tvO (by show "int" ≠ "list"; decide) (by show "int" ≠ "dict"; decide)⟩
      · exact ⟨rfl, by show 0 ≤ 1; decide, tvO (by show "int" ≠ "list"; decide) (by show "int" ≠ "dict"; decide)⟩
      · exact ⟨rfl, by show 0 ≤ 1; decide, tvO (by show "NoneType" ≠ "list"; decide) (by show "NoneType" ≠ "dict"; decide)⟩
      · refine ⟨?_, by show 0 ≤ 1; decide, tvO (by show "str" ≠ "list"; decide) (by show "str" ≠ "dict"; decide)⟩
        have y := stOk m.toNat (by omega)
        rw [show ((m.toNat : Nat) : Int) = m by omega] at y
        exact y
      · exact ⟨rfl, by show 0 ≤ 1; decide, tvO (by show "bool" ≠ "list"; decide) (by show "bool" ≠ "dict"; decide)⟩
      · exact ⟨rfl, by show max 0 0 + 1 ≤ 1; decide, tvO (by show "tuple" ≠ "list"; decide) (by show "tuple" ≠ "dict"; decide)⟩
    have t4 := prt.2.2 _ _ w4
    clear w0 e0 hx dl s3 sb hB hc2 w4
    refine ⟨.ref B, rfl, _, rfl, B, _, _, k, rfl, rfl, hB4, ik, ?_⟩
    have h5 : upd H4 B (.lst ((triV t).set k x)) B = some (.lst ((triV t).set k x)) := upd_same
    have o5 : Old u H (upd H4 B (.lst ((triV t).set k x))) := fun b' o nb' hb => by
      rw [upd_ne (ne_of_none hb hB0)]
      exact (o2.trans s4) b' o nb' hb
    have u5 : Urn (upd H4 B (.lst ((triV t).set k x))) u := by
      obtain ⟨g, m, c, e⟩ := u4
      exact ⟨g, m, c, (upd_ne (Ne.symm Bu)).trans e⟩
    have tri4 : TvL H4 (triV t) ((triI t).map .int) := .cons (.int _) (.cons (.int _) (.cons (.int _) .nil))
    have t5 : TvL (upd H4 B (.lst ((triV t).set k x))) ((triV t).set k x) (((triI t).map .int).set k d0) := (tri4.set k t4).put hB4
    have cB : c ≠ B := fun z => by
      rw [z, hB4] at hc4
      cases hc4
    have hc5 := (upd_ne (o := .lst ((triV t).set k x)) cB).trans hc4
    revert h5 o5 u5 t5 hc5
    generalize upd H4 B (.lst ((triV t).set k x)) = H5
    intro h5 o5 u5 t5 hc5
    clear hB4 hc4 tri4 t4 u4 s4 o2 u2 nx
    have l5 : (((triI t).map PyData.int).set k d0).length = 3 := by rw [List.length_set]; rfl
    have fit5 : PyData.canLayAll0 (((triI t).map PyData.int).set k d0) = true ∧ PyData.depthAll (((triI t).map PyData.int).set k d0) ≤ 2 := by
      obtain ⟨p1, p2, _⟩ := prt
      rcases (show k = 0 ∨ k = 1 ∨ k = 2 by omega) with rfl | rfl | rfl
      · refine ⟨?_, ?_⟩
        · show (PyData.canLay0 d0 && (true && (true && true))) = true
          rw [p1]
          rfl
        · show max (PyData.depth d0) (max 0 (max 0 0)) ≤ 2
          omega
      · refine ⟨?_, ?_⟩
        · show (true && (PyData.canLay0 d0 && (true && true))) = true
          rw [p1]
          rfl
        · show max 0 (max (PyData.depth d0) (max 0 0)) ≤ 2
          omega
      · refine ⟨?_, ?_⟩
        · show (true && (true && (PyData.canLay0 d0 && true))) = true
          rw [p1]
          rfl
        · show max 0 (max 0 (max (PyData.depth d0) 0)) ≤ 2
          omega
    generalize ((triI t).map PyData.int).set k d0 = es at t5 l5 fit5
    generalize (triV t).set k x = bs at h5 t5
    have wT : ∀ {Z : Hp} {p : Addr} {xs : List V} {ds : List PyData}, Z p = some (.tup xs) → TvL Z xs ds → Dw Z (.ref p) (.tuple ds) := fun e l => .tv (.tup e l)
    let J : Hp → Prop := fun Z => Urn Z u ∧ Z B = some (.lst bs) ∧ TvL Z bs es ∧ Z c = some (.tup (triV t))
    have st : ∀ {H H' : Hp}, Same H H' → J H → J H' := fun s h => ⟨h.1.same s, s _ _ h.2.1, h.2.2.1.same s, s _ _ h.2.2.2⟩
    have tri : ∀ {Z : Hp}, TvL Z (triV t) ((triI t).map .int) := .cons (.int _) (.cons (.int _) (.cons (.int _) .nil))
    have nu : ∀ {Z : Hp} {p : Addr}, J Z → Z p = none → V.ref p ≠ V.ref u := fun j np z => urn_ne j.1 np (V.ref.inj z)
    refine ⟨_, rfl, lay_lstJ (J := J) (u := u) (ds := [.tuple es, .tuple es, .tuple es, .list ((triI t).map .int), .tuple [.int t.1, .int t.2.1], .tuple [.int t.1, .int t.2.1, .int t.2.2, .int 0], .tuple [.int t.1, .int t.2.2, .int t.2.1], triD t]) ?_ (show 8 ≤ 100 by decide) ⟨u5, h5, t5, hc5⟩ fun xs H6 b s6 nb dl => ?_⟩
    · refine LJA.cons st (fun Z Q j q => ⟨_, rfl, .inl ⟨B, bs, rfl, .inl (.inl j.2.1), fun p np => q _ _ (sub_same np) (wT upd_same (j.2.2.1.same (sub_same np))) (nu j np)⟩⟩) ?_
      refine LJA.cons st (fun Z Q j q => ⟨_, rfl, .inl ⟨B, bs, rfl, .inl (.inl j.2.1), fun p np => q _ _ (sub_same np) (wT upd_same (j.2.2.1.same (sub_same np))) (nu j np)⟩⟩) ?_
      refine LJA.cons st (fun Z Q j q => ⟨_, rfl, .inl ⟨B, bs, rfl, .inl (.inl j.2.1), fun p np => q _ _ (sub_same np) (wT upd_same (j.2.2.1.same (sub_same np))) (nu j np)⟩⟩) ?_
      refine LJA.cons st (fun Z Q j q => ⟨_, rfl, c, triV t, rfl, .inr (.inl (.inl j.2.2.2)), fun p np => q _ _ (sub_same np) (.lst (ns := triI t) upd_same) (nu j np)⟩) ?_
      refine LJA.cons st (fun Z Q j q => ⟨_, rfl, _, rfl, c, triV t, rfl, .inl (.inl j.2.2.2), (by show ¬ (HT.sIx 3 0 none = 0 ∧ HT.sIx 3 3 (some 2) = 3); decide +kernel), fun p np => q _ _ (sub_same np) (wT upd_same (.cons (.int _) (.cons (.int _) .nil))) (nu j np)⟩) ?_
      refine LJA.cons st (fun Z Q j q => ⟨_, rfl, (by show 1 ≤ sizeLine; decide), fun p np => ⟨c, p, triV t, [.int 0], rfl, rfl, .inl (.inl (sub_same np _ _ j.2.2.2)), .inl (.inl upd_same), (fun z => nomatch z), (by show 4 ≤ sizeLine; decide), (fun z => nomatch z), fun _ r nr => q _ _ ((sub_same np).trans (sub_same nr)) (wT upd_same (.cons (.int _) (.cons (.int _) (.cons (.int _) (.cons (.int _) .nil))))) (nu (st (sub_same np) j) nr)⟩⟩) ?_
      refine LJA.cons st (fun Z Q j q => ⟨_, rfl, c, triV t, 0, .int t.1, rfl, rfl, .inl (.inl j.2.2.2), atI_nat (j := 0) rfl, _, rfl, c, triV t, 2, .int t.2.2, rfl, rfl, .inl (.inl j.2.2.2), atI_nat (j := 2) rfl, _, rfl, c, triV t, 1, .int t.2.1, rfl, rfl, .inl (.inl j.2.2.2), atI_nat (j := 1) rfl, (by show 3 ≤ sizeLine; decide), fun p np => q _ _ (sub_same np) (wT upd_same (.cons (.int _) (.cons (.int _) (.cons (.int _) .nil)))) (nu j np)⟩) ?_
      exact LJA.cons st (fun Z Q j q => ⟨_, rfl, q _ _ (Same.refl Z) (wT j.2.2.2 tri) (fun z => cu (V.ref.inj z))⟩) LJA.nil
    have u6 := u5.same s6
    have sb := sub_same (o := .lst xs) nb
    have ln := dl.d.len
    refine ⟨u, b, xs, rfl, u6.same sb, upd_same, urn_ne u6 nb, (fun z => by rw [z] at ln; cases ln), by rw [ln]; show 8 ≤ 1000; decide, fun i y H7 hy u7 k7 => ?_⟩
    obtain ⟨d1, e1, w1⟩ := dl.d.at hy
    have ny := dl.n y (List.mem_of_getElem? hy)
    refine g y d1 H7 u7 (((o5.trans (.of_same s6)).trans (.of_same sb)).trans (.of_but k7)) ((w1.same sb).oldR (u6.same sb) (.of_but k7) ny) ?_
    have z := List.mem_of_getElem? e1
    have fitE : Fit (.tuple es) := fun ds e => by
      cases e
      exact ⟨fit5.1, fit5.2, by omega⟩
    have fitI : ∀ ms : List Int, ms.length ≤ 10 → Fit (.tuple (ms.map .int)) := fun ms l ds e => by
      cases e
      refine ⟨?_, by rw [dep_ints]; decide, by rw [List.length_map]; exact l⟩
      clear l
      induction ms with
      | nil => rfl
      | cons m r ih =>
        show (true && PyData.canLayAll0 (r.map .int)) = true
        rw [ih]
        rfl
    simp only [List.mem_cons, List.not_mem_nil, or_false] at z
    rcases z with rfl | rfl | rfl | rfl | rfl | rfl | rfl | rfl
    · exact fitE
    · exact fitE
    · exact fitE
    · exact fun ds e => by cases e
    · exact fitI [t.1, t.2.1] (show 2 ≤ 10 by decide)
    · exact fitI [t.1, t.2.1, t.2.2, 0] (show 4 ≤ 10 by decide)
    · exact fitI [t.1, t.2.2, t.2.1] (show 3 ≤ 10 by decide)
    · exact fitI [t.1, t.2.1, t.2.2] (show 3 ≤ 10 by decide)
end
end K04

/-! # dict comprehensions whose keys are tuples -/
namespace K04
open PySem PySem.Spec PyProof.Rows L2
variable {X : Cx}
theorem dset_tup {pins : List (Addr × Obj)} {σ : L2.St} {H : Hp} {s : Shared} {E : Value → Shared → Prop} {D b : Addr} {ps : List (List L2.Key × V)} {k : List L2.Key} {v : V} {r : Value} {Q : Unit → Shared → Prop} (hu : X.A.units + 1 < cLine) (I : Inv X pins σ H s) (eD : H D = some (.dT ps))
    (eb : H b = some (.tup (k.map kV))) (l : ps.length < sizeLine) (rv : RelV v r) (q : ∀ s', Inv X pins σ (upd H D (.dT (putK ps k v))) s' → Q () s') : wpAny (model X.prog X.w) X.A (dictSet D (.ref b) r) Q E s := by
  obtain ⟨z, sm, xs, pr, dd⟩ := dt_of I.hok eD
  have zx : xs.length ≤ sizeLine := by rw [← Paired.length pr]; exact z
  refine wpAny_dictSet_heap (by show X.A.units < cLine; omega) (key_of I.hok eb) dd (fun h' new sb => ?_) zx
  obtain ⟨o, es, ep, n1, n2, n3, n4, n5, n6⟩ := new
  have zl := length_putK ps k v
  have pk : KT (upd H D (.dT (putK ps k v))) (putK ps k v) _ := (pr.put k eb rv).keeps fun c ys ec => by
    rw [upd_ne (fun e => by rw [e, eD] at ec; cases ec)]
    exact ec
  exact q _ (d_write I (by rw [eD]; trivial) sb ⟨o, n1⟩ ⟨by omega, sm, _, pk, o, es, ep, n1, n2, n3, n4, n6⟩)
/-- {k: v for target in iter if ..}, the keys tuples: D the new dict -/
def tDcT (wi : TI) (g : TG) (tt : TT) (tk tv : TE) (vs : List Nat) : TE := fun σ H Q => wi σ H fun J H1 => ∀ D, H1 D = none → ∃ W : Nat → Nat → Hp → Prop, (∃ m, W 0 m (upd H1 D (.dT []))) ∧ ∀ i m G, W i m G →
  (J.stop i G ∧ Q (.ref D) G) ∨ (J.go i G ∧ ∃ Nx : Hp → Prop, (∀ G', Nx G' → ∃ m', m' < m ∧ W (i + 1) m' G') ∧ ∀ x G', J.yld i G x G' → g x (wipe σ vs) G' fun σ2 G2 => wipe σ2 vs = wipe σ vs ∧ tt σ2 G2 fun c G3 =>
    if c = true then tk σ2 G3 fun y G4 => tv σ2 G4 fun z G5 => ∃ ps k b, y = .ref b ∧ G5 b = some (.tup (k.map kV)) ∧ G5 D = some (.dT ps) ∧ ps.length < sizeLine ∧ Nx (upd G5 D (.dT (putK ps k z))) else Nx G3)
theorem pe_dcT {kx vx tg l : Expr} {ifs : List Expr} {scope : Scope} {own : List (Str × Nat)} {pos : Pos} {wi : TI} {g : TG} {tt : TT} {tk tv : TE} (calm : X.calm = true) (un : X.A.units + 1 < cLine) (nd : X.N.Nodup) (src : PI X tg l wi) (bo : BlkOk X.N X.env.scope scope own)
    (tgt : ∀ (s : Shared) (H : Hp) (C : Addr) (cl : List (Str × Addr)) (fp : List Addr), PG (X.blk s H scope (compEnvC scope cl C X.env) fp) tg g)
    (tst : ∀ (s : Shared) (H : Hp) (C : Addr) (cl : List (Str × Addr)) (fp : List Addr), PTs (X.blk s H scope (compEnvC scope cl C X.env) fp) ifs tt)
    (key : ∀ (s : Shared) (H : Hp) (C : Addr) (cl : List (Str × Addr)) (fp : List Addr), PE (X.blk s H scope (compEnvC scope cl C X.env) fp) kx tk)
    (itm : ∀ (s : Shared) (H : Hp) (C : Addr) (cl : List (Str × Addr)) (fp : List Addr), PE (X.blk s H scope (compEnvC scope cl C X.env) fp) vx tv) (fs : ∀ x, foldedSetIterable l X.env x = pure x := by intro _; rfl) :
    PE X (.DictComp kx vx [⟨tg, l, ifs, 0⟩] scope pos) (tDcT wi g tt tk tv (own.map (·.2))) := by
  constructor
  intro pins s σ H Q I h
  rw [arm_eval_DictComp]
  have clo : ∀ y ∈ scope.names, y.2 = .free → ∃ c, X.env.cells.lookup y.1 = some c := fun y m e => (bo.free y m e).elim (fun k => I.ok.has _ (.inl k)) fun k => I.ok.has _ (.inr k)
  refine wpAny_comprehension_free (use := none) rfl fs (closure_ok clo) bo.kind (fun y m e => by rw [bo.uniq y m, e]) ?_
  refine thn (src.run pins s σ H _ I h) fun v1 s1 hv => thn hv fun v2 s2 w2 => ?_
  obtain ⟨it, fp, tn, J, H1, rfl, I2, T, ton, off, more⟩ := w2
  -- the new dict
  generalize hD : s2.heap.objs.size = D
  have freeD : H1 D = none := I2.hok.fresh (Nat.le_of_eq hD)
  obtain ⟨W, ⟨m0, w0⟩, turn⟩ := more D freeD
  have J0 : Inv X pins σ (upd H1 D (.dT [])) { s2 with heap := s2.heap.push { cls := .type "dict", data := .dict #[] } } :=
    I2.laid (t' := s2.toks) (fun b o e => Heap.get?_push_of_some _ e) (Nat.le_of_eq hD) (by rw [← hD]; exact dt_empty s2.heap I2.big)
  have low : ∀ b ∈ fp, b < s2.heap.objs.size := fun b m => by
    obtain ⟨_, e, _⟩ := T.obj _ _ ton b m
    exact Heap.lt_size e
  have ton0 : tn 0 ({ s2 with heap := s2.heap.push { cls := .type "dict", data := .dict #[] } } : Shared).heap := T.keep _ _ _ ton fun b _ o e => Heap.get?_push_of_some _ e
  have okB : ∀ b ∈ fp, FpOk X pins (upd H1 D (.dT [])) b ∧ b < ({ s2 with heap := s2.heap.push { cls := .type "dict", data := .dict #[] } } : Shared).heap.objs.size := fun b m =>
    ⟨⟨(upd_ne (by rw [← hD]; exact Nat.ne_of_lt (low b m))).trans (off b m).1, (off b m).2⟩, Nat.lt_of_lt_of_le (low b m) (by show _ ≤ (s2.heap.push _).objs.size; rw [Heap.size_push]; exact Nat.le_succ _)⟩
  refine wpAny_newObj_type (newEnv_comp ?_)
  rw [hD]
  generalize hs3 : ({ s2 with heap := s2.heap.push { cls := .type "dict", data := .dict #[] } } : Shared) = s3 at J0 ton0 okB
  have B0 := block_start J0 bo nd okB
  have gT := tgt s3 (upd H1 D (.dT [])) s3.heap.objs.size (cellsFrom (s3.heap.objs.size + 1) scope.names (cloFrom X.env.cells scope.names [])) fp
  have gC := tst s3 (upd H1 D (.dT [])) s3.heap.objs.size (cellsFrom (s3.heap.objs.size + 1) scope.names (cloFrom X.env.cells scope.names [])) fp
  have gK := key s3 (upd H1 D (.dT [])) s3.heap.objs.size (cellsFrom (s3.heap.objs.size + 1) scope.names (cloFrom X.env.cells scope.names [])) fp
  have gI := itm s3 (upd H1 D (.dT [])) s3.heap.objs.size (cellsFrom (s3.heap.objs.size + 1) scope.names (cloFrom X.env.cells scope.names [])) fp
  change codeAny _ _ (.compStart (.DictComp kx vx [⟨tg, l, ifs, 0⟩] scope pos) 0 (.ref it) (.ref D) (compEnvC scope (cellsFrom (s3.heap.objs.size + 1) scope.names (cloFrom X.env.cells scope.names [])) s3.heap.objs.size X.env)) (compPost (model X.prog X.w) X.A X.xe none (EP X pins σ Q) (.ref D) s3.heap.objs.size) { s3 with heap := pushCells (s3.heap.push { cls := .type "dict", data := .dict #[] }) scope.names }
  have loc0 : (compEnvC scope (cellsFrom (s3.heap.objs.size + 1) scope.names (cloFrom X.env.cells scope.names [])) s3.heap.objs.size X.env).locals = s3.heap.objs.size := rfl
  generalize compEnvC scope (cellsFrom (s3.heap.objs.size + 1) scope.names (cloFrom X.env.cells scope.names [])) s3.heap.objs.size X.env = ce at B0 gT gC gK gI loc0 ⊢
  have ton4 : tn 0 (pushCells (s3.heap.push { cls := .type "dict", data := .dict #[] }) scope.names) := T.keep _ _ _ ton0 fun b _ o e => pushCells_keeps _ _ _ _ (Heap.get?_push_of_some _ e)
  generalize hs4 : ({ s3 with heap := pushCells (s3.heap.push { cls := .type "dict", data := .dict #[] }) scope.names } : Shared) = s4 at B0 ⊢
  have ton4' : tn 0 s4.heap := by rw [← hs4]; exact ton4
  have out : ∀ b ∈ fp, upd H1 D (.dT []) b = none := fun b m => (okB b m).1.1
  generalize upd H1 D (.dT []) = H3 at *
  have stays : ∀ {τ : L2.St} {G : Hp} {t : Shared}, Inv (X.blk s3 H3 scope ce fp) [] τ G t → (∀ b ∈ fp, G b = none) → ∀ b ∈ fp, FpOk (X.blk s3 H3 scope ce fp) [] G b := fun {τ G t} J e b m =>
    ⟨e b m, (J.ok.exf b m).1, J.ok.exfs b m, .inl m, (J.ok.exf b m).2, fun p hp => by cases hp⟩
  have loop : codeAny (model X.prog X.w) X.A (.compLoop (.DictComp kx vx [⟨tg, l, ifs, 0⟩] scope pos) 0 (.ref it) (.ref D) ce) (compPost (model X.prog X.w) X.A X.xe none (EP X pins σ Q) (.ref D) s3.heap.objs.size) s4 := by
    refine compLoop_anyD (fun n t => ∃ i G, Inv (X.blk s3 H3 scope ce fp) [] (wipe σ (own.map (·.2))) G t ∧ tn i t.heap ∧ (∀ b ∈ fp, G b = none) ∧ W i n G) ?_ m0 ⟨0, H3, B0, ton4', out, w0⟩
    rintro n t ⟨i, G, K, kt, kn, kw⟩
    rcases turn i n G kw with ⟨stop, done⟩ | ⟨go, Nx, nx, step⟩
    · refine thnF (T.done (X.blk s3 H3 scope ce fp) rfl rfl rfl calm i [] t _ G (fun _ _ => False) K (stays K kn) kt stop) fun r t1 ⟨er, K1⟩ => ?_
      subst er
      have J2 : Inv X pins σ G t1 := J0.call' (ch := fp) K1.os K1.base K1.hok K1.bare fun b m => by
        obtain ⟨⟨_, o1, o2, o3, o4, o5⟩, _⟩ := okB b m
        exact ⟨o3, o1, o4, o5⟩
      have nC : G s3.heap.objs.size = none := by
        rw [← loc0]
        exact K1.free
      obtain ⟨mm, ns, _⟩ := K1.loc
      refine ⟨mm, by rw [← loc0]; exact ns, fun h2 sb => ?_⟩
      obtain ⟨d0, d1, d2, d3, d4, d5⟩ := J0.fpOk (Nat.le_refl _) nC
      exact ⟨.ref D, G, J2.turned (t' := t1.toks) (fun b o ne e => (sb.2 b ne).trans e) d0 d1 d3 d4 d5, rfl, done⟩
    · refine thnF (T.item (X.blk s3 H3 scope ce fp) rfl rfl rfl calm i [] t _ G (fun _ _ => False) K (stays K kn) kt go) fun r t1 ⟨u, er, w1⟩ => ?_
      subst er
      refine thnF w1 fun _ t2 ⟨x, G2, K2, ru, yl, kt2, kn2⟩ => ?_
      have st := step x G2 yl
      refine thnF (gT.run _ t2 _ G2 x u _ (K2.pinned (stays K2 kn2) (T.obj _ _ kt2)) ru st) fun _ t3 ⟨σ3, G3, K3, hw, q3⟩ => ?_
      refine thnF (gC.run _ t3 σ3 G3 _ K3 q3) fun c t4 ⟨G4, K4, q4⟩ => ?_
      have again : ∀ {r : Shared} {G' : Hp}, Inv (X.blk s3 H3 scope ce fp) ([] ++ pinsAt fp t2.heap) σ3 G' r → Nx G' → ∃ m, m < n ∧ ∃ i G, Inv (X.blk s3 H3 scope ce fp) [] (wipe σ (own.map (·.2))) G r ∧ tn i r.heap ∧ (∀ b ∈ fp, G b = none) ∧ W i m G := fun {r G'} R x => by
        obtain ⟨m', lt, w'⟩ := nx G' x
        have pi : ∀ b ∈ fp, ∀ o, t2.heap.get? b = some o → r.heap.get? b = some o ∧ G' b = none := fun b m o e => by
          have y := R.pin (b, o) (List.mem_append_right _ (List.mem_append_right _ (mem_pinsAt m e)))
          exact ⟨y.1, y.2.1⟩
        have same : (wipe σ (own.map (·.2))).length = σ3.length := by rw [← hw, wipe_length]
        refine ⟨m', lt, i + 1, G', (R.unpinned (pins := [])).weak same (fun j v e => ?_), T.keep _ _ _ kt2 fun b m o e => (pi b m o e).1, fun b m => ?_, w'⟩
        · rw [← hw] at e
          exact (wipe_some e).1
        · obtain ⟨o, e, _⟩ := T.obj _ _ kt2 b m
          exact (pi b m o e).2
      cases c with
      | false =>
        rw [if_neg (by decide)] at q4 ⊢
        exact again K4 q4
      | true =>
        rw [if_pos rfl] at q4 ⊢
        refine thnF (gK.run _ t4 σ3 G4 _ K4 q4) fun y t5 ⟨yk, G5, K5, rk, q5⟩ => ?_
        refine thnF (gI.run _ t5 σ3 G5 _ K5 q5) fun z t6 ⟨zv, G6, K6, rz, ps, k, b, a1, a2, a3, a4, a5⟩ => ?_
        subst a1
        obtain rfl : y = Value.ref b := rk
        exact dset_tup (X := X.blk s3 H3 scope ce fp) un K6 a3 a2 a4 rz fun t7 K7 => again K7 a5
  exact codeAny_compStart_dict loop (T.self X.A 0 _ _ _ ton4' loop)
end K04

/-! # the pairs of a dict whose keys are tuples -/
namespace K04
open PySem PySem.Spec PyProof.Rows L2
variable {X : Cx} {pins : List (Addr × Obj)} {σ : L2.St} {H : Hp} {s : Shared}
theorem frz_pairs {d : Addr} {o : Obj} {ps : List (List L2.Key × V)} (I : Inv X pins σ H s) (e : H d = some (.frz o (.dT ps))) :
    (d == sysModules) = false ∧ s.heap.get? d = some o ∧ o.ExactDict ∧ ∃ (es : Array DictEntry) (ep : Nat), o.data = .dict es ep ∧ es.size = ps.length ∧
      ∀ (i : Nat) (k : List L2.Key) (v : V) (li : i < es.size), ps[i]? = some (k, v) → ∃ q : Addr, es[i].key = .ref q ∧ H q = some (.tup (k.map kV)) ∧ RelV v es[i].val := by
  obtain ⟨ob, z, sm, xs, pr, o2, es, ep, h1, h2, h3, h4, _⟩ := I.hok d _ e
  obtain rfl : o2 = o := Option.some.inj (h1.symm.trans ob)
  have n1 : es.size = xs.length := size_of_entries h4
  have n2 : ps.length = xs.length := Paired.length pr
  refine ⟨sm, ob, h2, es, ep, h3, by omega, fun i k v li ek => ?_⟩
  obtain ⟨b, hb, e1, e2, e3⟩ := paired_get pr ek
  have y := entry_at h4 i
  rw [hb, Array.getElem?_eq_getElem li] at y
  have w := Option.some.inj y
  exact ⟨b.2.1, by rw [w]; rfl, e2, by rw [w]; exact e3⟩
/-- the pairs, each a new tuple -/
def ItiT (d : Addr) (o : Obj) (ps : List (List L2.Key × V)) : It :=
  ⟨fun i H => H d = some (.frz o (.dT ps)) ∧ i < ps.length, fun i H x H' => ∃ (T q : Addr) (k : List L2.Key) (v : V), ps[i]? = some (k, v) ∧ H q = some (.tup (k.map kV)) ∧ x = .ref T ∧ H T = none ∧ H' = upd H T (.tup [.ref q, v]), fun i H => H d = some (.frz o (.dT ps)) ∧ ps.length ≤ i⟩
theorem turn_itemsT {P : Program} {w : World} {K : PySem.W.Frag} {ps : List (List L2.Key × V)} {elts : List Expr} {kk : Nat} {tpos : Pos} {d : Addr} {o : Obj} {es : Array DictEntry} {ep : Nat} (it : Addr) (od : o.data = .dict es ep) :
    Turn P w K (.Tuple elts kk tpos) (ItiT d o ps) [it] it (fun i h => ∃ a b, IsItemIter h it d i ps.length ep a b) where
  mem := List.mem_singleton.mpr rfl
  obj := fun i h st b m => by
    rw [List.mem_singleton.mp m]
    obtain ⟨_, _, e⟩ := st
    exact ⟨_, e, fun v z => nomatch z⟩
  keep := fun i h h' st k => by
    obtain ⟨a, b, e⟩ := st
    exact ⟨a, b, k it (List.mem_singleton.mpr rfl) _ e⟩
  item := by
    intro X e1 e2 e3 hc i pins s σ H E I hf st go
    subst e1 e2 e3
    obtain ⟨hd, li⟩ := go
    obtain ⟨sm, ob, ox, es2, ep2, dat, n, all⟩ := frz_pairs I hd
    obtain ⟨rfl, rfl⟩ := dict_ep od dat
    obtain ⟨a, b, hi⟩ := st
    rw [← n] at hi li
    obtain ⟨⟨k, v⟩, ek⟩ : ∃ p, ps[i]? = some p := ⟨ps[i], List.getElem?_eq_getElem (by omega)⟩
    obtain ⟨q, k1, k2, k3⟩ := all i k v li ek
    have low : it < s.heap.objs.size := Heap.lt_size hi
    refine DT.nextI hi ⟨o, ob, ox, od⟩ li fun h' out hT _ hk => ?_
    refine ⟨_, rfl, wpAny_letOwnedTupleGo_items (s := { s with heap := h' }) out fun h2 in2 sb => ?_⟩
    have T2 : h2.get? s.heap.objs.size = some { cls := .type "tuple", data := .seq #[es2[i].key, es2[i].val] } := (sb.2 _ (Nat.ne_of_gt low)).trans hT
    have new : ObjOk X.prog X.w (upd H s.heap.objs.size (.tup [.ref q, v])) h2 s.heap.objs.size (.tup [.ref q, v]) :=
      ⟨by show 2 ≤ sizeLine; decide, [es2[i].key, es2[i].val], .cons k1 (.cons k3 .nil), ⟨_, T2, rfl, _, rfl⟩⟩
    have J : Inv X pins σ (upd H s.heap.objs.size (.tup [.ref q, v])) { s with heap := h2 } :=
      I.turnedNew (t' := s.toks) (ch := [it]) (fun c ob hb e => (sb.2 c (fun z => hb (by rw [z]; exact List.mem_singleton.mpr rfl))).trans (hk c ob (fun z => hb (by rw [z]; exact List.mem_singleton.mpr rfl)) e)) hf (Nat.le_refl _) new
    refine ⟨.ref s.heap.objs.size, _, J, rfl, ⟨_, q, k, v, ek, k2, rfl, I.hok.fresh (Nat.le_refl _), rfl⟩, ⟨es2[i].key, es2[i].val, ?_⟩, fun c m => ?_⟩
    · rw [← n]; exact in2
    · rw [List.mem_singleton.mp m, upd_ne (Nat.ne_of_lt low)]
      exact (hf it (List.mem_singleton.mpr rfl)).1
  done := by
    intro X e1 e2 e3 hc i pins s σ H E I hf st go
    subst e1 e2 e3
    obtain ⟨hd, li⟩ := go
    obtain ⟨sm, ob, ox, es2, ep2, dat, n, _⟩ := frz_pairs I hd
    obtain ⟨rfl, rfl⟩ := dict_ep od dat
    obtain ⟨f0, f1, f2, f3, f4, f5⟩ := hf it (List.mem_singleton.mpr rfl)
    obtain ⟨a, b, hi⟩ := st
    rw [← n] at hi li
    exact DT.endI (I.ok.hd hc) hi ⟨o, ob, ox, od⟩ li fun h' eb => ⟨rfl, I.turned (t' := s.toks) (fun c o2 ne e => eb c o2 ne e) f0 f1 f3 f4 f5⟩
  self := fun A i s Q E st h => by
    obtain ⟨_, _, e⟩ := st
    exact PySem.W.kcp_self e h
/-- d.items(), d locked -/
def iItemsT (td : TE) : TI := fun σ H R => td σ H fun x H1 => ∃ d o ps, x = .ref d ∧ H1 d = some (.frz o (.dT ps)) ∧ R (ItiT d o ps) H1
theorem pi_itemsT {e : Expr} {td : TE} {apos cpos tpos : Pos} {elts : List Expr} {kk : Nat} (src : PE X e td) (base : attributeBase e "items" X.env (eval e X.env) = eval e X.env := by rfl) (line : (apos.endLine == cpos.line) = true := by rfl) :
    PI X (.Tuple elts kk tpos) (.Call (.Attribute e "items" apos) [] [] cpos) (iItemsT td) := by
  constructor
  intro pins s σ H R I h
  refine wpAny_Call_method (T := "dict") (id := "dict.items") base rfl line F.plainAttrs_dict F.slot_dict_items F.type_dict_items (thn (src.run pins s σ H _ I h) fun u s1 w1 => ?_)
  obtain ⟨x, H1, I1, rx, d, o, ps, rfl, hd, q⟩ := w1
  obtain rfl : u = Value.ref d := rx
  obtain ⟨sm, ob, ox, es, ep, dat, n, _⟩ := frz_pairs I1 hd
  have raw : DT.Raw s1.heap d es ep := ⟨o, ob, ox, dat⟩
  refine ⟨raw.typeIs, fun b z => ?_, ?_⟩
  · cases z
    exact ⟨o, ob, ox.2.1⟩
  · have I2 : Inv X pins σ H1 { s1 with heap := s1.heap.push { cls := .type "dict_items", data := .fields #[.ref d] } } := I1.kept (t' := s1.toks) fun b ob q => Heap.get?_push_of_some _ q
    show wpAny _ _ (callWith cpos (.builtin "dict.items") [.ref d] [] []) _ X.xe s1
    refine method_meetsIn F.slot_dict_items F.entry_dict_items rfl (PySem.evalArgs_none ⟨rfl, raw.typeIs, F.args_dict_items_1 _, _, DT.meetsItems (es := es) (ep := ep) sm, raw, ?_⟩)
    refine DT.iterI (d := d) (es := es) (ep := ep) ⟨_, Heap.get?_push_size _ rfl, rfl, rfl⟩ (raw.push _) (pi_one (tk := s1.toks) I2 _ (turn_itemsT _ dat) ⟨.none, .none, ?_⟩ q)
    rw [← n]
    exact Heap.get?_push_size _ rfl
/-- all of them -/
theorem walk_itemsT {K : PySem.W.Frag} {d : Addr} {o : Obj} {ps : List (List L2.Key × V)} {J : Nat → Hp → Prop} {i : Nat} {H : Hp} (e : H d = some (.frz o (.dT ps))) (l : i < ps.length) : (ItiT d o ps).go i H := ⟨e, l⟩
end K04

/-! # dict(pairs), the keys tuples -/
namespace K04
open PySem PySem.Spec PyProof.Rows L2
def putAll (acc : List (List L2.Key × V)) (ps : List (List L2.Key × V)) : List (List L2.Key × V) := ps.foldl (fun a p => putK a p.1 p.2) acc
theorem putAll_len : ∀ (ps acc : List (List L2.Key × V)), (putAll acc ps).length ≤ acc.length + ps.length
  | [], acc => Nat.le_refl _
  | p :: ps, acc => by
    have h1 := putAll_len ps (putK acc p.1 p.2)
    have h2 := length_putK acc p.1 p.2
    show (putAll (putK acc p.1 p.2) ps).length ≤ acc.length + (ps.length + 1)
    omega
theorem putAll_new : ∀ (ps acc : List (List L2.Key × V)), ((acc ++ ps).map (·.1)).Nodup → putAll acc ps = acc ++ ps
  | [], acc, _ => (List.append_nil acc).symm
  | p :: ps, acc, n => by
    have e : valV acc p.1 = none := by
      cases q : valV acc p.1 with
      | none => rfl
      | some v =>
        exfalso
        have m : p.1 ∈ acc.map (·.1) := by
          have y := valV_any p.1 acc
          rw [q] at y
          obtain ⟨z, z1, z2⟩ := List.any_eq_true.mp y
          exact List.mem_map.mpr ⟨z, z1, of_decide_eq_true z2⟩
        rw [List.map_append, List.nodup_append] at n
        exact n.2.2 p.1 m p.1 (List.mem_map.mpr ⟨p, List.mem_cons_self, rfl⟩) rfl
    have r : acc ++ p :: ps = (acc ++ [(p.1, p.2)]) ++ ps := by rw [List.append_assoc]; rfl
    show putAll (putK acc p.1 p.2) ps = _
    rw [putK_new p.2 e, r]
    exact putAll_new ps _ (by rw [← r]; exact n)
theorem kt_all {H : Hp} : ∀ {ps : List (List L2.Key × V)} {zs : List (List L2.Key × Addr × Value)} {acc : List (List L2.Key × V)} {ys : List (List L2.Key × Addr × Value)}, KT H ps zs → KT H acc ys → KT H (putAll acc ps) (storedAllH ys zs)
  | _, _, _, _, .nil, k => k
  | _, _, _, _, .cons (a := p) (b := z) h t, k => by
    obtain ⟨h1, h2, h3⟩ := h
    refine kt_all t (acc := putK _ p.1 p.2) (ys := storedH _ z.1 z.2.1 z.2.2) ?_
    rw [← h1]
    exact k.put p.1 h2 h3
section
variable {X : Cx} {pins : List (Addr × Obj)} {σ : L2.St} {H : Hp} {s : Shared}
/-- the pair at t: a key's tuple and a value -/
def PrT (H : Hp) (t : Addr) (p : List L2.Key × V) : Prop := ∃ q, H t = some (.tup [.ref q, p.2]) ∧ H q = some (.tup (p.1.map kV))
theorem pairs_tup (I : Inv X pins σ H s) : ∀ {ts : List Addr} {ps : List (List L2.Key × V)}, Paired (PrT H) ts ps → ∃ zs : List (List L2.Key × Addr × Value), KT H ps zs ∧ ts.length = zs.length ∧
    ∀ (j : Nat) (z : List L2.Key × Addr × Value), zs[j]? = some z → ∃ t, ts[j]? = some t ∧ s.heap.IsTuple t #[.ref z.2.1, z.2.2]
  | _, _, .nil => ⟨[], .nil, rfl, fun j z e => by simp at e⟩
  | _, _, .cons (a := t) (b := p) h r => by
    obtain ⟨zs, k, n, all⟩ := pairs_tup I r
    obtain ⟨q, h1, h2⟩ := h
    obtain ⟨its, rv, p', _⟩ := I.tuple (.inl (.inl h1))
    obtain ⟨u1, u2, rfl, r1, r2⟩ := vals2 rv
    obtain rfl : u1 = Value.ref q := r1
    refine ⟨(p.1, q, u2) :: zs, .cons ⟨rfl, h2, r2⟩ k, by simp [n], fun j z e => ?_⟩
    cases j with
    | zero =>
      obtain rfl := Option.some.inj e
      exact ⟨t, rfl, p'⟩
    | succ j => exact all j z e
def rDictT (K : PySem.W.Frag) : List V → Hp → VK → Prop := fun vs H Q => ∃ (a : Addr) (ts : List Addr) (ps : List (List L2.Key × V)), vs = [.ref a] ∧ SqL K H a (ts.map V.ref) ∧ Paired (PrT H) ts ps ∧
  ∀ p, H p = none → Q (.ref p) (upd H p (.dT (putAll [] ps)))
theorem call_dictTup (calm : X.calm = true) (un : X.A.units + 2 < cLine) : CallR X (.type "dict") (rDictT X.K) := by
  intro pins s σ H xs us Q I r h
  obtain ⟨a, ts, ps, rfl, hq, pr, q⟩ := h
  obtain ⟨u, rfl, rx⟩ := vals1 r
  cases rx
  obtain ⟨its, rv, pl, hz⟩ := I.list hq
  obtain rfl := refs_at rv
  obtain ⟨zs, k, n, all⟩ := pairs_tup I pr
  obtain ⟨o, c, ho, hc, hd, dat⟩ := pl
  rw [List.length_map] at hz
  have PA := PairArg.list (prog := X.prog) (w := X.w) a (ts.map Value.ref).toArray (fun j => (ts[j]?).getD 0) (zs.map fun z => (Value.ref z.2.1, z.2.2))
  have lp : ps.length = zs.length := Paired.length k
  refine call_dict_pairsH (knd := tupleKind (mixKind X.prog X.w)) (ps := zs) PA (I.ok.hd calm) (by show X.A.units + 2 < cLine; exact un) ⟨⟨o, c, ho, hc, hd, dat⟩, by simp [n], fun j kv v e => ?_⟩ ⟨by simp, fun i kv v e => ?_⟩ (fun h' ke z m => ?_) (by simp; omega) fun h' tk hd' ke => ?_
  · rw [List.getElem?_map] at e
    obtain ⟨z, e1, e2⟩ := Option.map_eq_some_iff.mp e
    obtain ⟨t, t1, t2⟩ := all j z e1
    cases e2
    exact ⟨by simp [t1], .inl (by show s.heap.IsTuple ((ts[j]?).getD 0) _; rw [t1]; exact t2)⟩
  · have e' : (zs.map fun z => (Value.ref z.2.1, z.2.2))[i]? = some (kv, v) := e
    rw [List.getElem?_map] at e'
    obtain ⟨z, e1, e2⟩ := Option.map_eq_some_iff.mp e'
    cases e2
    exact ⟨z.1, z.2.1, e1, rfl⟩
  · obtain ⟨j, e⟩ := List.mem_iff_getElem?.mp m
    obtain ⟨p, _, p1, p2, _⟩ := L2.DX.pget k e
    have ky := key_of I.hok p2
    rw [p1] at ky
    obtain ⟨ob, iv, nv, g1, g2, g3, g4⟩ := ky
    exact ⟨ob, iv, nv, ke _ _ (Nat.ne_of_lt (Heap.lt_size g1)) (by simp) g1, g2, g3, g4⟩
  · have sm : (s.heap.objs.size == sysModules) = false := beq_eq_false_iff_ne.mpr (Nat.ne_of_gt I.big)
    have le := putAll_len ps []
    have free : H s.heap.objs.size = none := I.hok.fresh (Nat.le_refl _)
    obtain ⟨od, es, ep, g1, g2, g3, g4, g5, g6⟩ := hd'
    refine ⟨.ref s.heap.objs.size, upd H s.heap.objs.size (.dT (putAll [] ps)), I.laid (t' := tk) (fun b o e => ke b o (by simp) e) (Nat.le_refl _) ⟨by simp at le; omega, sm, _, (kt_all k .nil).keeps fun c ys ec => ?_, od, es, ep, g1, g2, g3, g4, g6⟩, rfl, q _ free⟩
    rw [upd_ne (ne_of_none ec free)]
    exact ec
end
end K04

/-! # plans -/
namespace K04
open PySem PySem.Spec PyProof.Rows L2
/-- a dict comprehension over a walk -/
theorem dcT_it {J : It} {n : Nat} {G : Hp → Prop} {Y : Nat → Hp → V → Hp → Prop} (w : Walk J n G Y) {g : TG} {tt : TT} {tk tv : TE} {vs : List Nat} {σ : L2.St} {H1 : Hp} {D : Addr} {Qd : Hp → Prop} (Pv : Nat → Hp → Prop) (h0 : Pv 0 (upd H1 D (.dT []))) (hG : ∀ i Z, i ≤ n → Pv i Z → G Z)
    (hs : ∀ i x Z Z', i < n → Pv i Z → Y i Z x Z' → g x (wipe σ vs) Z' fun σ2 G2 => wipe σ2 vs = wipe σ vs ∧ tt σ2 G2 fun c G3 =>
      if c = true then tk σ2 G3 fun y G4 => tv σ2 G4 fun z G5 => ∃ ps k b, y = .ref b ∧ G5 b = some (.tup (k.map kV)) ∧ G5 D = some (.dT ps) ∧ ps.length < sizeLine ∧ Pv (i + 1) (upd G5 D (.dT (putK ps k z))) else Pv (i + 1) G3) (hd : ∀ Z, Pv n Z → Qd Z) :
    ∃ W : Nat → Nat → Hp → Prop, (∃ m, W 0 m (upd H1 D (.dT []))) ∧ ∀ i m Z, W i m Z →
      (J.stop i Z ∧ Qd Z) ∨ (J.go i Z ∧ ∃ Nx : Hp → Prop, (∀ Z', Nx Z' → ∃ m', m' < m ∧ W (i + 1) m' Z') ∧ ∀ x Z', J.yld i Z x Z' → g x (wipe σ vs) Z' fun σ2 G2 => wipe σ2 vs = wipe σ vs ∧ tt σ2 G2 fun c G3 =>
        if c = true then tk σ2 G3 fun y G4 => tv σ2 G4 fun z G5 => ∃ ps k b, y = .ref b ∧ G5 b = some (.tup (k.map kV)) ∧ G5 D = some (.dT ps) ∧ ps.length < sizeLine ∧ Nx (upd G5 D (.dT (putK ps k z))) else Nx G3) := by
  refine ⟨fun i m Z => m + i = n ∧ Pv i Z, ⟨n, rfl, h0⟩, ?_⟩
  intro i m Z ⟨e, p⟩
  have q := hG i Z (by omega) p
  by_cases l : i < n
  · exact .inr ⟨w.goes i Z l q, Pv (i + 1), fun Z' p' => ⟨m - 1, by omega, by omega, p'⟩, fun x Z' y => hs i x Z Z' l p (w.yields i Z x Z' l q y)⟩
  · obtain rfl : i = n := by omega
    exact .inl ⟨w.stops Z q, hd Z p⟩
theorem yesT {σ : L2.St} {H : Hp} {A B : Hp → Prop} (h : A H) : tYes σ H (fun b Z => if b = true then A Z else B Z) := by
  show if true = true then A H else B H
  rw [if_pos rfl]
  exact h
/-- a call that raises nothing -/
theorem passF {P : Program} {w : World} {X : Cx} : Passes (L2.CX P w) X (fun _ _ _ => False) := fun _ _ _ _ _ _ _ h => by
  obtain ⟨_, _, _, _, _, _, _, _, _, _, _, _, h⟩ := h
  exact h.elim
def triK (t : Tri) : List L2.Key := [.inl t.1, .inl t.2.1, .inl t.2.2]
theorem triK_v (t : Tri) : (triK t).map kV = triV t := rfl
theorem triK_inj {t u : Tri} (h : triK t = triK u) : t = u := by
  obtain ⟨a, b, c⟩ := t
  obtain ⟨d, e, f⟩ := u
  injection h with h1 h2
  injection h2 with h2 h3
  injection h3 with h3 _
  injection h1 with h1
  injection h2 with h2
  injection h3 with h3
  have h1 : a = d := h1
  have h2 : b = e := h2
  have h3 : c = f := h3
  rw [h1, h2, h3]
/-- two rules, the written part by name -/
theorem pe_tupleOfK {X : Cx} {K : PySem.W.Frag} {a : Expr} {ta : TE} {p pos : Pos} (h : X.K = K) (hg : Gl X "tuple") (hm : X.mg "tuple" = none) (ha : PE X a ta) (na : starEach [a] X.env = (false, eval a X.env) :: starEach [] X.env := by rfl) : PE X (.Call (.Name "tuple" p) [a] [] pos) (tThen ta (kTup K)) := by
  rw [← h]
  exact pe_tupleOf hg hm ha na
theorem ix_tupK {X : Cx} {K : PySem.W.Frag} (h : X.K = K) : IxR X (rIxT K) := by
  rw [← h]
  exact ix_tup
theorem tables3 : ∀ ns ∈ shapesL, (pl ns).Nodup ∧ (pl ns).length ≤ 30 ∧ ∀ t ∈ pl ns, (0 ≤ t.1 ∧ t.1.toNat < ns.length) ∧ (0 ≤ t.2.1 ∧ t.2.1 < t.2.2 ∧ t.2.2 < 6) ∧ ns.getD t.1.toNat 0 ≤ 6 ∧
    ((List.range 6).all fun j => !decide ((j : Int) < ns.getD t.1.toNat 0 - (t.2.2 + 1)) || (decide ((t.1, t.2.1, t.2.2 + 1 + (j : Int)) ∈ pl ns) && decide ((t.1, t.2.2, t.2.2 + 1 + (j : Int)) ∈ pl ns))) = true := by decide +kernel
theorem ints_inj : ∀ {ns ms : List Int}, ns.map PyData.int = ms.map PyData.int → ns = ms
  | [], [], _ => rfl
  | [], _ :: _, h => nomatch h
  | _ :: _, [], h => nomatch h
  | n :: ns, m :: ms, h => by
    rw [List.map_cons, List.map_cons] at h
    injection h with h1 h2
    rw [PyData.int.inj h1, ints_inj h2]
theorem TvL.tri {H : Hp} : ∀ {xs : List V} {ts : List Tri} {i : Nat} {x : V}, TvL H xs (ts.map triD) → xs[i]? = some x → ∃ t c, ts[i]? = some t ∧ x = .ref c ∧ H c = some (.tup (triV t)) := by
  intro xs ts i x l e
  obtain ⟨d, ed, t⟩ := l.get e
  rw [List.getElem?_map] at ed
  obtain ⟨t0, e1, rfl⟩ := Option.map_eq_some_iff.mp ed
  generalize hd : triD t0 = d at t
  cases t with
  | tup e2 l2 =>
    injection hd with hd
    subst hd
    have y := TvL.ints (ns := triI t0) l2
    exact ⟨t0, _, e1, rfl, by rw [e2, y]; rfl⟩
  | _ => cases hd
section
variable {P : Program} {w : World} {K : PySem.W.Frag} {mg : Str → Option Value} {base : Heap} {CS : Addr}
abbrev s_plan : Stmt := topS 25
theorem sc_plan : FnScope ["shape", "order", "at", "index", "place", "b", "i", "k", "j"] ["shape"] (defScope s_plan) := ⟨rfl, rfl, rfl, by decide +kernel, rfl, by decide +kernel, by decide +kernel⟩
def spPlan : Sp := fun vs H Q _ => ∃ (a : Addr) (ns : List Int), vs = [.ref a] ∧ H a = some (.tup (ns.map V.int)) ∧ Shp ns ∧ ∀ H' y, Same H H' → Q y H'
theorem ok_plan {f f1 : Addr} {fd fd1 : FuncData} (T : Txt mg) (N : Nam mg) (d : D K mg "plan_of" s_plan ["shape"] f fd) (d1 : D K mg "places" s_places ["shape"] f1 fd1) (G1 : FnOk P w K mg base (L2.CX P w) 5 f1 fd1 ["shape"] (spPlaces CS)) : FnOk P w K mg base (L2.CX P w) 6 f fd ["shape"] spPlan := by
  refine d.F.okX sc_plan (fun vs H Q E h => ?_) (fun cdv A outer s H vs Q E hr h => ?_)
  · obtain ⟨a, ns, rfl, _⟩ := h
    rfl
  · obtain ⟨a, ns, rfl, e, S, q⟩ := h
    have un : (A.deeper (envOfC "plan_of" (defScope s_plan) s.heap.objs.size f cdv)).units + 1 < cLine := by have := hr.un; omega
    refine ⟨_, (pss_cons (ps_set (i := 1) sc_plan.nd rfl (.inl rfl) (pe_call (E := E) G1 (hr.mono (by decide)) (by rfl) d1.g d1.F.kp d1.b .nil (passes_call (takes_of rfl rfl rfl rfl) (fun _ _ _ _ h => h)) (pa_cons (pv 0) pa_nil)))
      (pss_cons (ps_set (i := 2) sc_plan.nd rfl (.inr rfl) (pe_dcT (own := [("index", 3), ("place", 4)]) (g := gTup K 2 (gCons (gName 3) (gCons (gName 4) gNil))) (tt := tYes) rfl un sc_plan.nd (pi_enumT (by rfl) N.n_enumerate (pa_cons (pv 1) pa_nil)) (blkOk_by (own := [("index", 3), ("place", 4)]) (N := ["shape", "order", "at", "index", "place", "b", "i", "k", "j"]) (sc := defScope s_plan) (by decide +kernel))
            (fun _ _ _ _ _ => (pg_tup rfl (pgs_cons (pg_name (i := 3) sc_plan.nd rfl (Or.inl rfl)) (pgs_cons (pg_name (i := 4) sc_plan.nd rfl (Or.inl rfl)) pgs_nil)))) (fun _ _ _ _ _ => pts_nil) (fun _ _ _ _ _ => (pv 4)) (fun _ _ _ _ _ => (pv 3))))
      (pss_one (ps_ret (pe_tupleOf (by rfl) T.n_tuple (pe_lc (own := [("b", 5), ("i", 6), ("k", 7)]) (g := gTup K 3 (gCons (gName 5) (gCons (gName 6) (gCons (gName 7) gNil)))) (tt := tYes) rfl sc_plan.nd (pi_tup (pv 1)) (blkOk_by (own := [("b", 5), ("i", 6), ("k", 7)]) (N := ["shape", "order", "at", "index", "place", "b", "i", "k", "j"]) (sc := defScope s_plan) (by decide +kernel))
            (fun _ _ _ _ _ => (pg_tup rfl (pgs_cons (pg_name (i := 5) sc_plan.nd rfl (Or.inr rfl)) (pgs_cons (pg_name (i := 6) sc_plan.nd rfl (Or.inr rfl)) (pgs_cons (pg_name (i := 7) sc_plan.nd rfl (Or.inr rfl)) pgs_nil))))) (fun _ _ _ _ _ => pts_nil) (fun _ _ _ _ _ => (pe_tupleOfK (K := K) rfl (by rfl) T.n_tuple (pe_lc (own := [("j", 8)]) (g := gName 8) (tt := tYes) rfl sc_plan.nd (pi_range2 (by rfl) T.n_range (pa_cons (pe_op op_add (pv 7) pe_int) (pa_cons (pe_ix (ix_tupK (K := K) rfl) (pv 0) (pv 5) (fun _ _ => rfl)) pa_nil))) (blkOk_by (own := [("j", 8)]) (N := ["shape", "order", "at", "index", "place", "b", "i", "k", "j"]) (sc := relS _ (defScope s_plan)) (by decide +kernel))
            (fun _ _ _ _ _ => (pg_name (i := 8) sc_plan.nd rfl (Or.inl rfl))) (fun _ _ _ _ _ => pts_nil) (fun _ _ _ _ _ => (pe_tup (pa_cons (pe_dget un (pv 2) (pe_tup (pa_cons (pv 5) (pa_cons (pv 6) (pa_cons (pv 8) pa_nil)))) (fun _ _ => rfl)) (pa_cons (pe_dget un (pv 2) (pe_tup (pa_cons (pv 5) (pa_cons (pv 7) (pa_cons (pv 8) pa_nil)))) (fun _ _ => rfl)) pa_nil))))))))))))), ?_⟩
    refine ⟨_, rfl, _, .tuple (ns.map .int), rfl, .tv (.tup e (tvl_ints ns)), fun ns' en S' H1 y s1 t1 => ?_, fun z => absurd (shp_is S) (by rw [z]; decide)⟩
    obtain rfl : ns' = ns := by
      have z := PyData.tuple.inj en
      exact (ints_inj z).symm
    obtain ⟨o, xs, rfl, eo, tl⟩ : ∃ o xs, y = .ref o ∧ H1 o = some (.tup xs) ∧ TvL H1 xs ((pl ns').map triD) := by
      cases t1 with
      | tup e l => exact ⟨_, _, rfl, e, l⟩
    have e1 := s1 _ _ e
    have M := tables3 ns' (shp_mem S)
    have lx : xs.length = (pl ns').length := by rw [tl.len, List.length_map]
    have q' : ∀ Z y, Same H1 Z → Q y Z := fun Z y z => q Z y (s1.trans z)
    clear q e s1 en S' t1
    refine ⟨_, rfl, o, xs, rfl, .inl (.inl eo), fun D nD => ?_⟩
    refine dcT_it (walk_enumT (K := K) (a := o) (xs := xs)) (fun i Z => Same H1 Z ∧ ∃ kvs, Z D = some (.dT kvs) ∧ kvs.length ≤ i ∧ ∀ t ∈ (pl ns').take i, (valV kvs (triK t)).isSome = true) ⟨sub_same nD, [], upd_same, Nat.le_refl _, fun t m => by simp at m⟩ (fun i Z _ h => .inl (.inl (h.1 _ _ eo))) ?_ ?_
    · rintro i v Z Z' hi ⟨sm, kvs, hk, lk, all⟩ ⟨Tp, x0, y0, rfl, nT, rfl, ex, ey⟩
      obtain rfl := Option.some.inj ex
      obtain ⟨t, c, et, rfl, ec⟩ := tl.tri ey
      have s2 := sub_same (o := .tup [V.int (i : Nat), V.ref c]) nT
      have hk2 := s2 _ _ hk
      have ec2 := s2 _ _ (sm _ _ ec)
      have sm2 := sm.trans s2
      have hT : upd Z Tp (.tup [V.int (i : Nat), V.ref c]) Tp = some (.tup [V.int (i : Nat), V.ref c]) := upd_same
      revert hk2 ec2 sm2 hT
      generalize upd Z Tp (.tup [V.int (i : Nat), V.ref c]) = Z2
      intro hk2 ec2 sm2 hT
      refine ⟨Tp, _, rfl, .inl (.inl hT), rfl, _, _, rfl, _, _, rfl, rfl, rfl, ?_⟩
      refine yesT ?_
      refine ⟨_, rfl, _, rfl, kvs, triK t, c, rfl, ec2, hk2, ?_, fun b ob eb => ?_, _, upd_same, ?_, fun u m => ?_⟩
      · rw [lx] at hi
        have := M.2.1
        rw [sizeLine_eq]
        omega
      · rw [upd_ne (fun z => by rw [z, nD] at eb; cases eb)]
        exact sm2 _ _ eb
      · have := length_putK kvs (triK t) (.int (i : Nat))
        omega
      · rw [valV_put]
        by_cases z : triK u = triK t
        · rw [if_pos z]; rfl
        · rw [if_neg z]
          refine all u ?_
          rw [List.take_succ, et] at m
          rcases List.mem_append.mp m with m | m
          · exact m
          · exact absurd (by rw [show u = t by simpa using m]) z
    · rintro Z ⟨sm, kvs, hk, lk, all⟩
      rw [lx, List.take_length] at all
      have eo2 := sm _ _ eo
      have ea2 := sm _ _ e1
      have tl2 := tl.same sm
      have q2 : ∀ Y y, Same Z Y → Q y Y := fun Y y z => q' Y y (sm.trans z)
      clear q' tl
      refine ⟨_, rfl, o, rfl, ⟨xs, .inl (.inl eo2)⟩, fun L nL => ?_⟩
      refine lc_tup (K := K) (a := o) (xs := xs) (fun i Y => Same Z Y ∧ ∃ acc, Y L = some (.lst acc) ∧ acc.length = i) ⟨sub_same nL, [], upd_same, rfl⟩ (fun i Y _ h => .inl (.inl (h.1 _ _ eo2))) ?_ ?_
      · rintro i x Y hx ⟨sy, acc, ha, la⟩
        obtain ⟨⟨tb, ti, tk⟩, c, et, rfl, ec⟩ := tl2.tri hx
        have mt : (tb, ti, tk) ∈ pl ns' := List.mem_of_getElem? et
        obtain ⟨⟨b0, b1⟩, ⟨i0, i1, i2⟩, b6, far⟩ := M.2.2 _ mt
        have b0 : 0 ≤ tb := b0
        obtain ⟨bn, rfl⟩ : ∃ n : Nat, tb = (n : Int) := ⟨tb.toNat, by omega⟩
        have b1 : bn < ns'.length := b1
        have i0 : 0 ≤ ti := i0
        have i1 : ti < tk := i1
        have i2 : tk < 6 := i2
        have gd : ns'.getD bn 0 = ns'[bn] := by rw [List.getD_eq_getElem?_getD, List.getElem?_eq_getElem b1]; rfl
        have b6 : ns'.getD bn 0 ≤ 6 := b6
        rw [gd] at b6
        refine ⟨c, triV ((bn : Int), ti, tk), rfl, .inl (.inl (sy _ _ ec)), rfl, _, _, rfl, _, _, rfl, _, _, rfl, rfl, rfl, ?_⟩
        refine yesT ?_
        have b2 := (S.2.1 _ (List.getElem_mem b1)).1
        refine ⟨_, rfl, _, _, rfl, rfl, _, rfl, _, rfl, a, _, bn, .int ns'[bn], rfl, rfl, .inl (.inl (sy _ _ ea2)), atI_nat (by rw [List.getElem?_map, List.getElem?_eq_getElem b1]; rfl), tk + 1, ns'[bn], rfl, ⟨by omega, by omega, by omega, by omega⟩, fun L2 nL2 => ?_⟩
        have lL : L ≠ L2 := fun z => by rw [z, nL2] at ha; cases ha
        refine lc_range (lo := tk + 1) (n := (ns'[bn] - (tk + 1)).toNat) (fun j U => Same Y U ∧ ∃ acc, U L2 = some (.lst acc) ∧ acc.length = j) ⟨sub_same nL2, [], upd_same, rfl⟩ ?_ ?_
        · rintro j U hj ⟨su, acc2, ha2, la2⟩
          have mem : ((bn : Int), ti, tk + 1 + (j : Int)) ∈ pl ns' ∧ ((bn : Int), tk, tk + 1 + (j : Int)) ∈ pl ns' := by
            have f := List.all_eq_true.mp far j (List.mem_range.mpr (by omega))
            have f2 : (!decide ((j : Int) < ns'.getD bn 0 - (tk + 1)) || (decide (((bn : Int), ti, tk + 1 + (j : Int)) ∈ pl ns') && decide (((bn : Int), tk, tk + 1 + (j : Int)) ∈ pl ns'))) = true := f
            rw [decide_eq_true (show (j : Int) < ns'.getD bn 0 - (tk + 1) by rw [gd]; omega)] at f2
            simp only [Bool.not_true, Bool.false_or, Bool.and_eq_true] at f2
            exact ⟨of_decide_eq_true f2.1, of_decide_eq_true f2.2⟩
          refine ⟨rfl, ?_⟩
          refine yesT ?_
          obtain ⟨v1, hv1⟩ := Option.isSome_iff_exists.mp (all _ mem.1)
          obtain ⟨v2, hv2⟩ := Option.isSome_iff_exists.mp (all _ mem.2)
          have hkU := su _ _ (sy _ _ hk)
          refine ⟨_, rfl, _, rfl, _, rfl, _, rfl, (by show 3 ≤ sizeLine; decide), fun p1 n1 => ⟨D, v1, rfl, ?_, ?_⟩⟩
          · rw [← hv1]
            exact DGet.t (sub_same n1 _ _ hkU) upd_same
          have s5 := su.trans (sub_same (o := .tup [V.int (bn : Int), V.int ti, V.int (tk + 1 + (j : Int))]) n1)
          have ha5 := sub_same (o := .tup [V.int (bn : Int), V.int ti, V.int (tk + 1 + (j : Int))]) n1 _ _ ha2
          refine ⟨_, rfl, _, rfl, _, rfl, _, rfl, (by show 3 ≤ sizeLine; decide), fun p2 n2 => ⟨D, v2, rfl, ?_, ?_⟩⟩
          · rw [← hv2]
            exact DGet.t (sub_same n2 _ _ (sub_same n1 _ _ hkU)) upd_same
          refine ⟨(by show 2 ≤ sizeLine; decide), fun p3 n3 => ?_⟩
          have s6 := (s5.trans (sub_same (o := .tup [V.int (bn : Int), V.int tk, V.int (tk + 1 + (j : Int))]) n2)).trans (sub_same (o := .tup [v1, v2]) n3)
          refine ⟨acc2, sub_same n3 _ _ (sub_same n2 _ _ ha5), ?_, fun b ob eb => ?_, _, upd_same, by rw [List.length_append, la2]; rfl⟩
          · rw [sizeLine_eq]
            omega
          · rw [upd_ne (fun z => by rw [z, nL2] at eb; cases eb)]
            exact s6 _ _ eb
        · rintro U ⟨su, acc2, ha2, la2⟩
          refine .inl ⟨L2, acc2, rfl, .inl (.inl ha2), fun p np => ?_⟩
          have s4 := su.trans (sub_same (o := .tup acc2) np)
          refine ⟨acc, s4 _ _ ha, ?_, fun b ob eb => ?_, _, upd_same, by rw [List.length_append, la]; rfl⟩
          · have z := (List.getElem?_eq_some_iff.mp hx).1
            have := M.2.1
            rw [sizeLine_eq]
            omega
          · rw [upd_ne (fun z => by rw [z, nL] at eb; cases eb)]
            exact s4 _ _ (sy _ _ eb)
      · rintro Y ⟨sy, acc, ha, la⟩
        exact .inl ⟨L, acc, rfl, .inl (.inl ha), fun p np => q2 _ _ (sy.trans (sub_same np))⟩
end
end K04

/-! # leads; what are entries -/
namespace K04
open PySem PySem.Spec PyProof.Rows L2
/-- the first number that is not 0, counted from i -/
def firstNZ : Nat → List Int → Option Nat
  | _, [] => none
  | i, n :: r => if n = 0 then firstNZ (i + 1) r else some i
def optV : Option Nat → V
  | none => .non
  | some i => .int (i : Nat)
section
variable {P : Program} {w : World} {K : PySem.W.Frag} {mg : Str → Option Value} {base : Heap} {CS : Addr}
abbrev s_lead : Stmt := topS 27
theorem sc_lead : FnScope ["numbers", "at", "number"] ["numbers"] (defScope s_lead) := ⟨rfl, rfl, rfl, by decide +kernel, rfl, by decide +kernel, by decide +kernel⟩
def spLead : Sp := fun vs H Q _ => ∃ (a : Addr) (ns : List Int), vs = [.ref a] ∧ H a = some (.tup (ns.map V.int)) ∧ ∀ H', Same H H' → Q (optV (firstNZ 0 ns)) H'
theorem firstNZ_take {ns : List Int} : ∀ {i : Nat}, (∀ n ∈ ns.take i, n = 0) → firstNZ 0 ns = firstNZ i (ns.drop i) := by
  intro i
  induction i with
  | zero => intro _; rfl
  | succ i ih =>
    intro h
    rw [ih fun n m => h n (List.take_subset_take_left ns (Nat.le_succ i) m)]
    by_cases l : i < ns.length
    · rw [List.drop_eq_getElem_cons l]
      have z : ns[i] = 0 := h _ (by rw [List.mem_take_iff_getElem]; exact ⟨i, by omega, rfl⟩)
      show (if ns[i] = 0 then firstNZ (i + 1) (ns.drop (i + 1)) else some i) = _
      rw [if_pos z]
    · rw [List.drop_eq_nil_of_le (by omega), List.drop_eq_nil_of_le (by omega)]
      rfl
theorem ok_lead {f : Addr} {fd : FuncData} {k : Nat} (T : Txt mg) (N : Nam mg) (d : D K mg "lead_at" s_lead ["numbers"] f fd) : FnOk P w K mg base CX0 (k + 1) f fd ["numbers"] spLead := by
  refine d.F.ok sc_lead (fun vs H Q E h => ?_) (fun cdv A outer s H vs Q E hr h => ?_)
  · obtain ⟨a, ns, rfl, _⟩ := h
    rfl
  · obtain ⟨a, ns, rfl, e, q⟩ := h
    refine ⟨_, (pss_cons (ps_for PassesOwn.never rfl (pi_enumT (by rfl) N.n_enumerate (pa_cons (pv 0) pa_nil)) (pg_tup rfl (pgs_cons (pg_name (i := 1) sc_lead.nd rfl (.inl rfl)) (pgs_cons (pg_name (i := 2) sc_lead.nd rfl (.inl rfl)) pgs_nil)))
        (pss_one (ps_if (pt_truth (pv 2) (fun _ => rfl)) (pss_one (ps_ret (pv 1))) pss_nil)))
      (pss_one (ps_ret pe_non))), ?_⟩
    refine ⟨_, rfl, a, _, rfl, .inl (.inl e), ?_⟩
    refine for_it (walk_enumT (K := K) (a := a) (xs := ns.map V.int)) (fun i σ Z => (∃ y1 y2, σ = [some (.ref a), y1, y2]) ∧ Same H Z ∧ ∀ n ∈ ns.take i, n = 0) ⟨⟨_, _, rfl⟩, Same.refl H, fun n m => by simp at m⟩ (fun i σ Z _ h => .inl (.inl (h.2.1 _ _ e))) ?_ ?_
    · rintro i v σ Z Z' hi ⟨⟨y1, y2, rfl⟩, sm, z⟩ ⟨Tp, x0, y0, rfl, nT, rfl, ex, ey⟩
      obtain rfl := Option.some.inj ex
      obtain ⟨n, en, rfl⟩ := int_at ey
      have s2 := sm.trans (sub_same (o := .tup [V.int (i : Nat), V.int n]) nT)
      have hT : upd Z Tp (.tup [V.int (i : Nat), V.int n]) Tp = some (.tup [V.int (i : Nat), V.int n]) := upd_same
      revert s2 hT
      generalize upd Z Tp (.tup [V.int (i : Nat), V.int n]) = Z2
      intro s2 hT
      refine ⟨Tp, _, rfl, .inl (.inl hT), rfl, _, _, rfl, _, _, rfl, rfl, ?_⟩
      refine ⟨_, rfl, _, rfl, ?_⟩
      by_cases n0 : n = 0
      · rw [n0]
        refine ite2 (fun z => absurd z (by decide)) (fun _ => ⟨⟨_, _, rfl⟩, s2, fun m hm => ?_⟩)
        rw [List.take_succ, en] at hm
        rcases List.mem_append.mp hm with hm | hm
        · exact z m hm
        · rw [show m = n by simpa using hm, n0]
      · refine ite2 (fun _ => ?_) (fun y => absurd (by simpa using n0) y)
        have l : i < ns.length := (List.getElem?_eq_some_iff.mp en).1
        have f : firstNZ 0 ns = some i := by
          rw [firstNZ_take z, List.drop_eq_getElem_cons l]
          show (if ns[i] = 0 then firstNZ (i + 1) (ns.drop (i + 1)) else some i) = _
          rw [if_neg (by rw [(List.getElem?_eq_some_iff.mp en).2]; exact n0)]
        have q' := q Z2 s2
        rw [f] at q'
        exact ⟨_, rfl, q'⟩
    · rintro σ Z ⟨⟨y1, y2, rfl⟩, sm, z⟩
      have q' := q Z sm
      rw [List.length_map] at z
      rw [firstNZ_take z, List.drop_length] at q'
      exact q'
theorem abs_lt {n L : Int} (h : -L < n) (h2 : n < L) : (if n < 0 then -n else n) < L := by
  split <;> omega
/-- an integer that is not too long -/
def spInt : Sp := fun vs H Q _ => ∃ n : Int, vs = [.int n] ∧ -1000 < n ∧ n < 1000 ∧ Q (.bl true) H
theorem ok_integer {f f1 : Addr} {fd fd1 : FuncData} {k : Nat} (T : Txt mg) (N : Nam mg) (d : D K mg "is_integer" s_is_integer ["value"] f fd) (d1 : D K mg "is_whole" s_is_whole ["value"] f1 fd1) : FnOk P w K mg base CX0 (k + 2) f fd ["value"] spInt := by
  have G1 : FnOk P w K mg base CX0 (k + 1) f1 fd1 ["value"] spWhole := ok_whole T d1
  obtain ⟨tI, cI⟩ := N.cI
  refine d.F.ok sc_is_integer (fun vs H Q E h => ?_) (fun cdv A outer s H vs Q E hr h => ?_)
  · obtain ⟨n, rfl, _⟩ := h
    rfl
  · obtain ⟨n, rfl, n0, n1, q⟩ := h
    refine ⟨_, (pss_one (ps_ret (pe_and (pe_call G1 hr (by rfl) d1.g d1.F.kp d1.b .nil pass0 (pa_cons (pv 0) pa_nil)) (pe_one (pe_cmpR op_lt (pe_callB call_abs (by rfl) T.n_abs (by decide +kernel) (pa_cons (pv 0) pa_nil)) (pe_glob (v := .int (10 ^ 60)) rfl cI ⟨_, rfl⟩) (nomark _)))))), ?_⟩
    refine ⟨_, rfl, _, .int n, rfl, .tv (.int n), true, rfl, iteT ⟨_, rfl, _, rfl, _, _, rfl, rfl, ?_⟩⟩
    show Q (.bl (decide ((if n < 0 then -n else n) < (10 ^ 60 : Int)))) H
    rw [decide_eq_true (abs_lt (by omega) (by omega))]
    exact q
theorem same_unlock {H H' : Hp} {D : Addr} {x y : HO} (e : H D = some y) (s : Same (upd H D x) H') : Same H (upd H' D y) := fun b o h => by
  by_cases z : b = D
  · rw [z, upd_same, ← e, ← z]
    exact h
  · rw [upd_ne z]
    exact s b o (by rw [upd_ne z]; exact h)
abbrev s_ents : Stmt := topS 37
theorem sc_ents : FnScope ["shape", "value", "place", "number"] ["shape", "value"] (defScope s_ents) := ⟨rfl, rfl, rfl, by decide +kernel, rfl, by decide +kernel, by decide +kernel⟩
/-- what a dict of entries holds -/
def Ent (ns : List Int) (ps : List (List L2.Key × V)) : Prop := ps.length ≤ 100 ∧ ∀ p ∈ ps, ∃ t ∈ pl ns, p.1 = triK t ∧ ∃ n : Int, p.2 = .int n ∧ -1000 < n ∧ n < 1000
def spEnts : Sp := fun vs H Q _ => ∃ (a D : Addr) (ns : List Int) (ps : List (List L2.Key × V)), vs = [.ref a, .ref D] ∧ H a = some (.tup (ns.map V.int)) ∧ Shp ns ∧ H D = some (.dT ps) ∧ Ent ns ps ∧ ∀ H', Same H H' → Q (.bl true) H'
theorem kit_dict {K : PySem.W.Frag} : kit K (.type "dict") (.type "dict") true := by rfl
theorem ok_ents {f f1 f2 : Addr} {fd fd1 fd2 : FuncData} (T : Txt mg) (N : Nam mg) (d : D K mg "are_entries" s_ents ["shape", "value"] f fd) (d1 : D K mg "is_place" s_place ["shape", "value"] f1 fd1) (d2 : D K mg "is_integer" s_is_integer ["value"] f2 fd2)
    (G1 : FnOk P w K mg base (L2.CX P w) 5 f1 fd1 ["shape", "value"] (spPlace CS)) (G2 : FnOk P w K mg base CX0 2 f2 fd2 ["value"] spInt) : FnOk P w K mg base (L2.CX P w) 6 f fd ["shape", "value"] spEnts := by
  refine d.F.okX sc_ents (fun vs H Q E h => ?_) (fun cdv A outer s H vs Q E hr h => ?_)
  · obtain ⟨a, D, ns, ps, rfl, _⟩ := h
    rfl
  · obtain ⟨a, D, ns, ps, rfl, e, S, eD, ⟨lp, all⟩, q⟩ := h
    refine ⟨_, (pss_cons (ps_if (pt_not (pt_val (pe_callB call_isi (by rfl) T.n_isinstance (by decide +kernel) (pa_cons (pv 1) (pa_cons (pe_bltn (v := .ty "dict") (by rfl) N.n_dict (by decide +kernel) rfl) pa_nil))))) (pss_one (ps_ret pe_bl)) pss_nil)
      (pss_one (ps_ret (pe_callB (cr_all rfl) (by rfl) N.n_all (by decide +kernel) (pa_cons (pe_lock (pe_lc (own := [("place", 2), ("number", 3)]) (g := gTup K 2 (gCons (gName 2) (gCons (gName 3) gNil))) (tt := tYes) rfl sc_ents.nd (pi_itemsT (pv 1)) (blkOk_by (own := [("place", 2), ("number", 3)]) (N := ["shape", "value", "place", "number"]) (sc := defScope s_ents) (by decide +kernel))
            (fun _ _ _ _ _ => (pg_tup rfl (pgs_cons (pg_name (i := 2) sc_ents.nd rfl (Or.inl rfl)) (pgs_cons (pg_name (i := 3) sc_ents.nd rfl (Or.inl rfl)) pgs_nil)))) (fun _ _ _ _ _ => pts_nil) (fun _ _ _ _ _ => (pe_and (pe_call (E := fun _ _ _ => False) G1 (hr.mono (by decide)) (by rfl) d1.g d1.F.kp d1.b .nil passF (pa_cons (pv 0) (pa_cons (pv 2) pa_nil))) (pe_one (pe_call G2 (hr.mono (by decide)) (by rfl) d2.g d2.F.kp d2.b .nil pass0 (pa_cons (pv 3) pa_nil))))))) pa_nil))))), ?_⟩
    refine ⟨_, rfl, _, _, _, _, _, rfl, .ty _, .base (.dT eD), kit_dict, _, rfl, ite2 (fun z => absurd z Bool.false_ne_true) (fun _ => ?_)⟩
    refine ⟨D, _, eD, True.intro, fun od => ?_⟩
    have aD : a ≠ D := fun z => by rw [z, eD] at e; cases e
    have unl : ∀ {Z : Hp}, Same (upd H D (.frz od (.dT ps))) Z → Same H (upd Z D (.dT ps)) := fun sz => same_unlock eD sz
    have e2 : upd H D (.frz od (.dT ps)) a = some (.tup (ns.map V.int)) := by rw [upd_ne aD]; exact e
    have f2 : upd H D (.frz od (.dT ps)) D = some (.frz od (.dT ps)) := upd_same
    revert unl e2 f2
    generalize upd H D (.frz od (.dT ps)) = HL
    intro unl e2 f2
    refine ⟨_, rfl, D, od, ps, rfl, f2, fun L nL => ?_⟩
    have wk : Walk (ItiT D od ps) ps.length (fun Z => Z D = some (.frz od (.dT ps))) (ItiT D od ps).yld := ⟨fun i Z l h => ⟨h, l⟩, fun Z h => ⟨h, Nat.le_refl _⟩, fun i Z x Z' l h y => y⟩
    refine lc_it wk (fun i Z => Same HL Z ∧ Z L = some (.lst ((List.replicate i true).map V.bl))) ⟨sub_same nL, upd_same⟩ (fun i Z _ h => h.1 _ _ f2) ?_ ?_
    · rintro i x Z Z' hi ⟨sm, hl⟩ ⟨Tp, qa, k, v, ek, eq, rfl, nT, rfl⟩
      obtain ⟨t, mt, ek2, n, ev, n0, n1⟩ := all (k, v) (List.mem_of_getElem? ek)
      have ek2 : k = triK t := ek2
      have ev : v = .int n := ev
      subst ek2 ev
      have s2 := sub_same (o := .tup [V.ref qa, V.int n]) nT
      have hl2 := s2 _ _ hl
      have eq2 := s2 _ _ eq
      have sm2 := sm.trans s2
      have hT : upd Z Tp (.tup [V.ref qa, V.int n]) Tp = some (.tup [V.ref qa, V.int n]) := upd_same
      revert hl2 eq2 sm2 hT
      generalize upd Z Tp (.tup [V.ref qa, V.int n]) = Z2
      intro hl2 eq2 sm2 hT
      refine ⟨Tp, _, rfl, .inl (.inl hT), rfl, _, _, rfl, _, _, rfl, rfl, rfl, yesT ?_⟩
      refine ⟨_, rfl, _, rfl, _, _, .tuple (ns.map .int), triD t, rfl, .tv (.tup (sm2 _ _ e2) (tvl_ints ns)), .tv (.tup eq2 (tvl_ints (triI t))), fun ns' en S' Z3 s3 => ?_, fun z => absurd (shp_is S) (by rw [z]; decide)⟩
      obtain rfl : ns' = ns := (ints_inj (PyData.tuple.inj en)).symm
      rw [(tables2 ns' (shp_mem S)).2.1 t mt]
      refine ⟨true, rfl, iteT ⟨_, rfl, n, rfl, n0, n1, ?_⟩⟩
      refine ⟨_, s3 _ _ hl2, ?_, fun b ob eb => ?_, ?_⟩
      · rw [List.length_map, List.length_replicate, sizeLine_eq]
        omega
      · rw [upd_ne (fun z => by rw [z, nL] at eb; cases eb)]
        exact s3 _ _ (sm2 _ _ eb)
      · rw [upd_same, List.replicate_succ', List.map_append]
        rfl
    · rintro Z ⟨sm, hl⟩
      refine ⟨sm _ _ f2, L, List.replicate ps.length true, rfl, .inl (.inl ?_), ?_⟩
      · rw [upd_ne (fun z => by rw [z, f2] at nL; cases nL)]
        exact hl
      · have z : (List.replicate ps.length true).all id = true := List.all_eq_true.mpr fun b m => (List.mem_replicate.mp m).2
        rw [z]
        exact q _ (unl sm)
end
end K04

/-! # bool(x), len(x) of an own class; a class called by a local name -/
namespace K04W
open PySem PySem.Spec PyProof.Rows PySem.W PySem.Calls
section
variable {prog : Program} {w : World} {A : Around} {E : PySem.Value → Shared → Prop} {s : Shared} {K : Frag} {x C f : Addr} {ox : Obj} {od : Option Obj}
theorem bool_own {Q : PySem.Value → Shared → Prop} (X : K.In s.heap) (I : InstAt s.heap x ox C od) (hs : findIn K (.ref C) "__bool__" = some (some (.ref f))) (hf : isFn K (.ref f) = true)
    (h : wpAny (model prog w) A.in1.in1 (call (.ref f) [.ref x]) (fun v s' => ∃ k, v = .bool k ∧ Q (.bool k) s') E s) : wpAny (model prog w) A (call (.type "bool") [.ref x]) Q E s := by
  refine callType_codes (T := "bool") (Bi := Builtin.«object.__init__») (Q₁ := fun r s₁ => ∃ k, r = PySem.Value.bool k ∧ Q r s₁) PySem.F.called_bool (PySem.F.typeCall_bool_1 _) PySem.F.entry_object_init ?_ ?_
  · refine codeAny_of_tree ?_
    show wpAny _ A.in1.in1 (do checkBuiltinCall "bool.__new__" ⟨[.type "bool", .ref x], []⟩; again (.builtin "bool.__new__" ⟨[.type "bool", .ref x], []⟩)) _ _ s
    refine wpAny_bind (wpAny_of_eq (PySem.F.newCall_bool_1 _) (wpAny_pure ⟨plainId_quiet (by decide +kernel) _, codeAny_builtin PySem.F.entry_bool_new ?_⟩))
    rw [Around.under_plainId (by decide +kernel) _]
    unfold Builtin.«bool.__new__»
    have tr : ∀ {Q' : Bool → Shared → Prop}, (∀ k s', Q (.bool k) s' → Q' k s') → wpAny (model prog w) A.in1.in1 (truthy (.ref x)) Q' E s := fun {Q'} g => by
      unfold truthy
      refine wpAny_bind (m := callSpecial? (.ref x) (Str.ofString "__bool__")) (special_fn X I hs (beq_iff_eq.mp hf) (wpAny_mono h (fun r s' ⟨k, e, z⟩ => ?_) fun _ _ y => y))
      subst e
      exact wpAny_pure (g k s' z)
    repeat (first | (refine wpAny_bind (m := truthy (.ref x)) (tr fun k s' z => ?_)) | wp_step)
    all_goals first | exact ⟨_, rfl, z⟩ | exact wpAny_pure ⟨_, rfl, z⟩ | skip
  · rintro obj s₁ ⟨k, rfl, hq⟩
    exact ⟨PySem.typeIs_bool _ _, PySem.F.args_object_init_2 _ _, object_init_meets PySem.F.called_bool.init.lookup PySem.F.called_bool.made (by decide) prog w A.in1 _ s₁ ⟨PySem.typeIs_bool _ _, rfl, hq⟩⟩
theorem len_mine {Q : PySem.Value → Shared → Prop} (X : K.In s.heap) (I : InstAt s.heap x ox C od) (hs : findIn K (.ref C) "__len__" = some (some (.ref f))) (hf : isFn K (.ref f) = true)
    (h : wpAny (model prog w) A.in1 (call (.ref f) [.ref x]) (fun v s' => ∃ n u, v = .int n u ∧ 0 ≤ n ∧ n < 2 ^ 63 ∧ ∀ tk, Q (.int n tk) { s' with toks := tk + 1 }) E s) : wpAny (model prog w) A (call (.builtin "len") [.ref x]) Q E s := by
  refine Calls.call_function_entry PySem.kind_len PySem.plain_len PySem.entry_len (PySem.args_len1 _) ?_
  unfold Builtin.«len»
  refine wpAny_bind (m := oneArg "len" _) (wpAny_pure ?_)
  refine wpAny_bind (m := callSpecial? (.ref x) (Str.ofString "__len__")) (special_fn X I hs (beq_iff_eq.mp hf) (wpAny_mono h (fun v s' ⟨n, u, e, n0, n1, z⟩ => ?_) fun _ _ y => y))
  subst e
  refine wpAny_bind (wpAny_holding (wpAny_pure (wpAny_bind (wpAny_letGo ?_))))
  have a1 : ¬ n < 0 := by omega
  have a2 : ¬ n ≥ 2 ^ 63 := by omega
  show wpAny _ _ (if n < 0 then _ else _) _ _ _
  rw [if_neg a1]
  show wpAny _ _ (if n ≥ 2 ^ 63 then _ else _) _ _ _
  rw [if_neg a2]
  exact wpAny_bind (wpAny_mkInt (wpAny_pure ⟨_, rfl, z _⟩))
end
end K04W
namespace K04
open PySem PySem.Spec PyProof.Rows L2
def Ins (H : Hp) (a C : Addr) : Prop := ∃ dx fs, H a = some (.ins C dx fs)
section
variable {X : Cx} {C g : Addr} {n : Nat} {fd : FuncData} {ps : List Str} {sp : Sp} {pins : List (Addr × Obj)} {σ : L2.St} {H : Hp} {s : Shared} {a : Addr}
theorem ins_look (I : Inv X pins σ H s) (h : Ins H a C) : ∃ (ox od : Obj), PySem.W.InstAt s.heap a ox C (some od) := by
  obtain ⟨dx, fs, e⟩ := h
  obtain ⟨mA, O, _⟩ := ins_get I.hok e
  obtain ⟨od, J, _⟩ := O.look
  exact ⟨_, od, J⟩
theorem run_below {A : Around} {Q : VK} {us : List Value} {vs : List V} {E' : Value → Shared → Prop} (F : FnOk X.prog X.w X.K X.mg X.base CX0 n g fd ps sp) (hr : Room n A) (e0 : Env0 X.prog X.w X.K X.mg X.base A X.stack s H) (hb : Binds X.K fd ps [])
    (I : Inv X pins σ H s) (r : Vals vs us) (h : sp vs H Q E0) : wpAny (model X.prog X.w) A (call (.ref g) us) (EP X pins σ Q) E' s := by
  have hl : (us ++ []).length = ps.length := by
    rw [List.append_nil, ← r.length]
    exact F.len _ _ _ _ h
  have b := hb s us I.kIn hl
  rw [List.append_nil] at b
  refine wpAny_call (codeAny_mono (F.run A X.stack s H ⟨us, []⟩ us vs Q E0 hr e0 b r h) fun r s' hq => ?_)
  cases r with
  | error e => exact False.elim hq
  | ok fl =>
    cases fl with
    | ret u => exact I.after hq
    | next => exact False.elim hq
    | brk => exact False.elim hq
    | cont => exact False.elim hq
/-- bool(x) -/
theorem call_boolMine (hs : PySem.W.findIn X.K (.ref C) "__bool__" = some (some (.ref g))) (hf : PySem.W.isFn X.K (.ref g) = true) (F : FnOk X.prog X.w X.K X.mg X.base CX0 n g fd ps sp) (hr : Room (n + 2) X.A) (hb : Binds X.K fd ps []) :
    CallR X (.type "bool") (fun xs H Q => ∃ a, xs = [.ref a] ∧ Ins H a C ∧ sp xs H (fun v H' => ∃ k, v = .bl k ∧ Q v H') E0) := by
  intro pins s σ H xs us Q I r h
  obtain ⟨a, rfl, ha, q⟩ := h
  obtain ⟨u, rfl, ru⟩ := r.one
  cases (show u = Value.ref a from ru)
  obtain ⟨ox, od, J⟩ := ins_look I ha
  have hr2 : Room n X.A.in1.in1 := (show Room (n + 1) X.A.in1 from Room.in1 hr).in1
  refine K04W.bool_own I.kIn J hs hf (wpAny_mono (run_below (us := [.ref a]) (vs := [.ref a]) F hr2 I.env0.in1.in1 hb I (.cons rfl .nil) q) (fun w s' z => ?_) fun _ _ x => x)
  obtain ⟨z', H', I', rz, k, ek, qz⟩ := z
  subst ek
  cases (show w = Value.bool k from rz)
  exact ⟨k, rfl, .bl k, H', I', rfl, qz⟩
/-- len(x) -/
theorem call_lenMine (hs : PySem.W.findIn X.K (.ref C) "__len__" = some (some (.ref g))) (hf : PySem.W.isFn X.K (.ref g) = true) (F : FnOk X.prog X.w X.K X.mg X.base CX0 n g fd ps sp) (hr : Room (n + 2) X.A) (hb : Binds X.K fd ps []) :
    CallR X (.builtin "len") (fun xs H Q => ∃ a, xs = [.ref a] ∧ Ins H a C ∧ sp xs H (fun v H' => ∃ k : Nat, v = .int k ∧ k < 1000 ∧ Q v H') E0) := by
  intro pins s σ H xs us Q I r h
  obtain ⟨a, rfl, ha, q⟩ := h
  obtain ⟨u, rfl, ru⟩ := r.one
  cases (show u = Value.ref a from ru)
  obtain ⟨ox, od, J⟩ := ins_look I ha
  have hr1 : Room n X.A.in1 := Room.in1 (show Room (n + 1) X.A from hr.mono (by omega))
  refine K04W.len_mine I.kIn J hs hf (wpAny_mono (run_below (us := [.ref a]) (vs := [.ref a]) F hr1 I.env0.in1 hb I (.cons rfl .nil) q) (fun w s' z => ?_) fun _ _ x => x)
  obtain ⟨z', H', I', rz, k, ek, kl, qz⟩ := z
  subst ek
  obtain ⟨t, rfl⟩ := (show ∃ t, w = Value.int (k : Int) t from rz)
  exact ⟨_, _, rfl, by omega, by omega, fun tk => ⟨.int (k : Int), H', I'.tok _, ⟨_, rfl⟩, qz⟩⟩
end
section
variable {X : Cx} {CX : CXT} {k : Nat} {f C : Addr} {fd : FuncData} {ps : List Str} {sp : Sp} {dvs : List V} {ds : List Value} {E : XK} {x : Str} {np pos : Pos} {e : Expr} {es : List Expr} {tf : TE} {t : TA}
/-- c(e, ..), c a name whose value is the class -/
theorem pe_makeL (M : Mk X.K C f) (F : FnOk X.prog X.w X.K X.mg X.base CX k f fd ps sp) (hr : Room (k + 1) X.A) (hb : Binds X.K fd ps ds) (hd : Vals dvs ds) (hx : Passes CX X E) (nm : PE X (.Name x np) tf)
    (ha : PA X (e :: es) t) (he : starEach (e :: es) X.env = (false, eval e X.env) :: starEach es X.env := by rfl) (hpl : (backTo pos (starEach es X.env)).any (·.1) = false := by rfl) :
    PE X (.Call (.Name x np) (e :: es) [] pos) (fun σ H Q => tf σ H fun c H1 => c = .ref C ∧ tMake C sp dvs E t σ H1 Q) := by
  constructor
  intro pins s σ H Q I h
  refine wpAny_Call_Name_kw (thn (nm.run pins s σ H _ I h) fun u s1 w1 => ?_)
  obtain ⟨c, H1, I1, rc, rfl, q1⟩ := w1
  obtain rfl : u = Value.ref C := rc
  refine PySem.W.callWith_K (h₀ := X.base) I.ok.mod.kin M.kp (thn (ha.run pos pins s1 σ H1 _ I1 q1) fun us s2 w2 => ?_) he hpl
  obtain ⟨vs, H2, I2, r, q⟩ := w2
  exact ⟨I2.kIn, run_make M F hr hb hd hx I2 r q⟩
end
end K04

/-! # the class Stair -/
namespace K04
open PySem PySem.Spec PyProof.Rows L2
section
variable {X : Cx}
theorem plain_ints : ∀ ns : List Int, PyData.plainAll (ns.map PyData.int) = true
  | [] => rfl
  | n :: r => by
    show (true && PyData.plainAll (r.map PyData.int)) = true
    rw [plain_ints r]
    rfl
theorem cr_anyT (hc : X.calm = true) : CallR X (.builtin "any") (fun vs H Q => ∃ (a : Addr) (ns : List Int), vs = [V.ref a] ∧ SqT X.K H a (ns.map V.int) ∧ Q (.bl (ns.any fun n => n != 0)) H) := by
  intro pins s σ H vs us Q I r h
  obtain ⟨a, ns, rfl, hs, q⟩ := h
  obtain ⟨its, rv, hl, _⟩ := I.tuple hs
  rw [Vals.ref1 r]
  obtain ⟨as, ra⟩ := Dp.readsAll I (ns.map PyData.int) _ its (dp_ints X.K H ns) rv
  refine PySem.W.any_tuple_data (I.ok.hd hc) (show s.heap.IsTuple a its.toArray from hl) (show ReadsAll s.heap its.toArray.toList _ _ from ra) (plain_ints ns) (fun x m => ?_) fun h' tk hk => ?_
  · obtain ⟨n, _, rfl⟩ := List.mem_map.mp m
    exact True.intro
  · refine ⟨.bl _, H, I.kept hk, ?_, q⟩
    show Value.bool _ = Value.bool _
    rw [List.any_map]
    rfl
end
/-! ### its fields -/
def stF (s p n : V) : List (Str × V) := putF "_numbers" n (putF "_plan" p (putF "_shape" s []))
theorem sp_ : ¬ (("_shape" : Str) = "_plan") := by decide +kernel
theorem sn_ : ¬ (("_shape" : Str) = "_numbers") := by decide +kernel
theorem pn_ : ¬ (("_plan" : Str) = "_numbers") := by decide +kernel
theorem stF_shape (s p n : V) : (stF s p n).lookup ("_shape" : Str) = some s := by
  unfold stF
  rw [lookup_putF, if_neg sn_, lookup_putF, if_neg sp_, lookup_putF, if_pos rfl]
theorem stF_numbers (s p n : V) : (stF s p n).lookup ("_numbers" : Str) = some n := by
  unfold stF
  rw [lookup_putF, if_pos rfl]
/-- a method of the class -/
structure M (K : PySem.W.Frag) (x q : Str) (st : Stmt) (ps : List Str) (f : Addr) (fd : FuncData) : Prop where
  F : Fun K x q st f fd
  b : Binds K fd ps []
structure SC (K : PySem.W.Frag) (mg : Str → Option Value) (C : Addr) : Prop where
  cl : Cls K C
  nS : NoAttr K C "_shape"
  nP : NoAttr K C "_plan"
  nN : NoAttr K C "_numbers"
  mC : mg "Stair" = some (.ref C)
/-- a stair: its shape's tuple, its numbers -/
def StairO (H : Hp) (a C : Addr) (ns ms : List Int) : Prop := ∃ dx sh pln nm, H a = some (.ins C dx (stF (.ref sh) pln (.ref nm))) ∧ H sh = some (.tup (ns.map V.int)) ∧ H nm = some (.tup (ms.map V.int))
theorem StairO.same {H H' : Hp} {a C : Addr} {ns ms : List Int} (h : StairO H a C ns ms) (s : Same H H') : StairO H' a C ns ms := let ⟨dx, sh, pln, nm, e1, e2, e3⟩ := h; ⟨dx, sh, pln, nm, s _ _ e1, s _ _ e2, s _ _ e3⟩
theorem dead {X : Cx} {b : List Stmt} : PSs X b (fun _ _ _ => False) := ⟨fun _ _ _ _ _ _ h => h.elim⟩
section
variable {P : Program} {w : World} {K : PySem.W.Frag} {mg : Str → Option Value} {base : Heap} {C CS : Addr}
abbrev s_init : Stmt := inClass (topS 33) 0
theorem sc_init : FnScope ["self", "shape", "entries", "place"] ["self", "shape", "entries"] (defScope s_init) := ⟨rfl, rfl, rfl, by decide +kernel, rfl, by decide +kernel, by decide +kernel⟩
abbrev s_nums : Stmt := inClass (topS 33) 7
theorem sc_nums : FnScope ["self"] ["self"] (defScope s_nums) := ⟨rfl, rfl, rfl, by decide +kernel, rfl, by decide +kernel, by decide +kernel⟩
abbrev s_slead : Stmt := inClass (topS 33) 9
theorem sc_slead : FnScope ["self", "at"] ["self"] (defScope s_slead) := ⟨rfl, rfl, rfl, by decide +kernel, rfl, by decide +kernel, by decide +kernel⟩
abbrev s_sbool : Stmt := inClass (topS 33) 18
theorem sc_sbool : FnScope ["self"] ["self"] (defScope s_sbool) := ⟨rfl, rfl, rfl, by decide +kernel, rfl, by decide +kernel, by decide +kernel⟩
abbrev s_slen : Stmt := inClass (topS 33) 19
theorem sc_slen : FnScope ["self"] ["self"] (defScope s_slen) := ⟨rfl, rfl, rfl, by decide +kernel, rfl, by decide +kernel, by decide +kernel⟩
/-! ### what asks it -/
def spNums (C : Addr) : Sp := fun vs H Q _ => ∃ a ns ms, vs = [.ref a] ∧ StairO H a C ns ms ∧ ∀ nm, H nm = some (.tup (ms.map V.int)) → Q (.ref nm) H
theorem ok_nums {f : Addr} {fd : FuncData} {k : Nat} (R : SC K mg C) (d : M K "numbers" "Stair.numbers" s_nums ["self"] f fd) : FnOk P w K mg base CX0 (k + 1) f fd ["self"] (spNums C) := by
  refine d.F.ok sc_nums (fun vs H Q E h => ?_) (fun cdv A outer s H vs Q E hr h => ?_)
  · obtain ⟨a, ns, ms, rfl, _⟩ := h
    rfl
  · obtain ⟨a, ns, ms, rfl, ⟨dx, sh, pln, nm, e1, e2, e3⟩, g⟩ := h
    exact ⟨_, pss_one (ps_ret (pe_fld (pv 0) rfl)), _, rfl, a, C, dx, _, _, rfl, e1, R.cl, R.nN, stF_numbers _ _ _, g nm e3⟩
def spLen (C : Addr) : Sp := fun vs H Q _ => ∃ a ns ms, vs = [.ref a] ∧ StairO H a C ns ms ∧ Q (.int (ms.length : Nat)) H
theorem ok_slen {f : Addr} {fd : FuncData} {k : Nat} (T : Txt mg) (R : SC K mg C) (d : M K "__len__" "Stair.__len__" s_slen ["self"] f fd) : FnOk P w K mg base CX0 (k + 1) f fd ["self"] (spLen C) := by
  refine d.F.ok sc_slen (fun vs H Q E h => ?_) (fun cdv A outer s H vs Q E hr h => ?_)
  · obtain ⟨a, ns, ms, rfl, _⟩ := h
    rfl
  · obtain ⟨a, ns, ms, rfl, ⟨dx, sh, pln, nm, e1, e2, e3⟩, g⟩ := h
    refine ⟨_, (pss_one (ps_ret (pe_callB call_len_seq (by rfl) T.n_len PySem.boot_len (pa_cons (pe_fld (pv 0) rfl) pa_nil)))), ?_⟩
    refine ⟨_, rfl, a, C, dx, _, _, rfl, e1, R.cl, R.nN, stF_numbers _ _ _, nm, _, rfl, .inr (.inl (.inl e3)), ?_⟩
    rw [List.length_map]
    exact g
def spSBool (C : Addr) : Sp := fun vs H Q _ => ∃ a ns ms, vs = [.ref a] ∧ StairO H a C ns ms ∧ Q (.bl (ms.any fun n => n != 0)) H
theorem ok_sbool {f : Addr} {fd : FuncData} {k : Nat} (N : Nam mg) (R : SC K mg C) (d : M K "__bool__" "Stair.__bool__" s_sbool ["self"] f fd) : FnOk P w K mg base CX0 (k + 1) f fd ["self"] (spSBool C) := by
  refine d.F.ok sc_sbool (fun vs H Q E h => ?_) (fun cdv A outer s H vs Q E hr h => ?_)
  · obtain ⟨a, ns, ms, rfl, _⟩ := h
    rfl
  · obtain ⟨a, ns, ms, rfl, ⟨dx, sh, pln, nm, e1, e2, e3⟩, g⟩ := h
    refine ⟨_, (pss_one (ps_ret (pe_callB (cr_anyT rfl) (by rfl) N.n_any (by decide +kernel) (pa_cons (pe_fld (pv 0) rfl) pa_nil)))), ?_⟩
    exact ⟨_, rfl, a, C, dx, _, _, rfl, e1, R.cl, R.nN, stF_numbers _ _ _, nm, _, rfl, .inl (.inl e3), g⟩
/-- the place at which it leads -/
def spSLead (C : Addr) : Sp := fun vs H Q _ => ∃ a ns ms, vs = [.ref a] ∧ StairO H a C ns ms ∧ Shp ns ∧ ms.length = (pl ns).length ∧
  (∀ H', Same H H' → firstNZ 0 ms = none → Q .non H') ∧ (∀ H' i t c, Same H H' → firstNZ 0 ms = some i → (pl ns)[i]? = some t → H' c = some (.tup (triV t)) → Q (.ref c) H')
theorem firstNZ_lt : ∀ {ms : List Int} {k i : Nat}, firstNZ k ms = some i → k ≤ i ∧ i < k + ms.length
  | [], k, i, h => nomatch h
  | m :: r, k, i, h => by
    unfold firstNZ at h
    split at h
    · have z := firstNZ_lt h
      rw [List.length_cons]
      omega
    · obtain rfl := Option.some.inj h
      rw [List.length_cons]
      omega
theorem ok_slead {f f1 f2 : Addr} {fd fd1 fd2 : FuncData} {k : Nat} (R : SC K mg C) (d : M K "lead" "Stair.lead" s_slead ["self"] f fd) (d1 : D K mg "lead_at" s_lead ["numbers"] f1 fd1) (d2 : D K mg "places" s_places ["shape"] f2 fd2)
    (G1 : FnOk P w K mg base CX0 1 f1 fd1 ["numbers"] spLead) (G2 : FnOk P w K mg base (L2.CX P w) 5 f2 fd2 ["shape"] (spPlaces CS)) : FnOk P w K mg base CX0 6 f fd ["self"] (spSLead C) := by
  refine d.F.ok sc_slead (fun vs H Q E h => ?_) (fun cdv A outer s H vs Q E hr h => ?_)
  · obtain ⟨a, ns, ms, rfl, _⟩ := h
    rfl
  · obtain ⟨a, ns, ms, rfl, ⟨dx, sh, pln, nm, e1, e2, e3⟩, S, lm, g1, g2⟩ := h
    refine ⟨_, (pss_cons (ps_set (i := 1) sc_slead.nd rfl (.inl rfl) (pe_call G1 (hr.mono (by decide)) (by rfl) d1.g d1.F.kp d1.b .nil pass0 (pa_cons (pe_fld (pv 0) rfl) pa_nil)))
      (pss_one (ps_ret (pe_ifExp (pt_cmpR op_isN (pv 1) pe_non (nomark _)) pe_non (pe_ix ix_tup (pe_call (E := fun _ _ _ => False) G2 (hr.mono (by decide)) (by rfl) d2.g d2.F.kp d2.b .nil passF (pa_cons (pe_fld (pv 0) rfl) pa_nil)) (pv 1) (fun _ _ => rfl)))))), ?_⟩
    refine ⟨_, rfl, a, C, dx, _, _, rfl, e1, R.cl, R.nN, stF_numbers _ _ _, nm, ms, rfl, e3, fun H1 s1 => ?_⟩
    cases z : firstNZ 0 ms with
    | none => exact ⟨_, rfl, rfl, _, rfl, ite2 (fun _ => g1 H1 s1 z) (fun y => absurd (decide_eq_true rfl) y)⟩
    | some i =>
      refine ⟨_, rfl, rfl, _, rfl, ite2 (fun y => absurd (of_decide_eq_true y) (by intro z; cases z)) (fun _ => ?_)⟩
      refine ⟨_, rfl, a, C, dx, _, _, rfl, s1 _ _ e1, R.cl, R.nS, stF_shape _ _ _, _, .tuple (ns.map .int), rfl, .tv (.tup (s1 _ _ e2) (tvl_ints ns)), fun ns' en S' H2 y s2 ty => ?_, fun z => absurd (shp_is S) (by rw [z]; decide)⟩
      obtain rfl : ns' = ns := (ints_inj (PyData.tuple.inj en)).symm
      obtain ⟨o, xs, rfl, eo, tl⟩ : ∃ o xs, y = .ref o ∧ H2 o = some (.tup xs) ∧ TvL H2 xs ((pl ns').map triD) := by
        cases ty with
        | tup e l => exact ⟨_, _, rfl, e, l⟩
      have il := firstNZ_lt z
      have lx : xs.length = (pl ns').length := by rw [tl.len, List.length_map]
      have ix : i < xs.length := by omega
      obtain ⟨t, c, et, ex, ec⟩ := tl.tri (List.getElem?_eq_getElem ix)
      exact ⟨_, rfl, o, xs, i, .ref c, rfl, rfl, .inl (.inl eo), atI_nat (by rw [List.getElem?_eq_getElem ix, ex]), g2 H2 i t c (s1.trans s2) z et ec⟩
end
end K04

/-! # stairs made -/
namespace K04
open PySem PySem.Spec PyProof.Rows L2
/-- the number at a place -/
def numAt (ps : List (List L2.Key × V)) (t : Tri) : Int := match valV ps (triK t) with
  | some (.int n) => n
  | _ => 0
theorem numAt_v {ns : List Int} {ps : List (List L2.Key × V)} (E : Ent ns ps) (t : Tri) : (valV ps (triK t)).getD (.int 0) = .int (numAt ps t) := by
  unfold numAt
  cases e : valV ps (triK t) with
  | none => rfl
  | some v =>
    obtain ⟨p, m, rfl⟩ : ∃ p, p ∈ ps ∧ p.2 = v := by
      clear E
      induction ps with
      | nil => cases e
      | cons q r ih =>
        by_cases z : q.1 = triK t
        · have y : valV (q :: r) (triK t) = some q.2 := by
            unfold valV
            rw [List.find?_cons_of_pos (by simpa using z)]
            rfl
          rw [y] at e
          exact ⟨q, List.mem_cons_self, Option.some.inj e⟩
        · have y : valV (q :: r) (triK t) = valV r (triK t) := by
            unfold valV
            rw [List.find?_cons_of_neg (by simpa using z)]
          rw [y] at e
          obtain ⟨p, m, h⟩ := ih e
          exact ⟨p, List.mem_cons_of_mem _ m, h⟩
    obtain ⟨_, _, _, n, en, _, _⟩ := E.2 p m
    rw [en]
    rfl
section
variable {P : Program} {w : World} {K : PySem.W.Frag} {mg : Str → Option Value} {base : Heap} {C CS : Addr}
/-- the instance at a is filled -/
def spInit (C : Addr) : Sp := fun vs H Q _ => ∃ (a sh D dx : Addr) (ns : List Int) (ps : List (List L2.Key × V)), vs = [.ref a, .ref sh, .ref D] ∧ H a = some (.ins C dx []) ∧ H sh = some (.tup (ns.map V.int)) ∧ Shp ns ∧ H D = some (.dT ps) ∧ Ent ns ps ∧
  ∀ H', Old a H H' → StairO H' a C ns ((pl ns).map (numAt ps)) → Q .non H'
theorem ok_init {f f1 f2 f3 f4 : Addr} {fd fd1 fd2 fd3 fd4 : FuncData} (T : Txt mg) (N : Nam mg) (R : SC K mg C) (d : M K "__init__" "Stair.__init__" s_init ["self", "shape", "entries"] f fd)
    (d1 : D K mg "check_shape" s_check ["shape"] f1 fd1) (d2 : D K mg "are_entries" s_ents ["shape", "value"] f2 fd2) (d3 : D K mg "plan_of" s_plan ["shape"] f3 fd3) (d4 : D K mg "places" s_places ["shape"] f4 fd4)
    (G1 : FnOk P w K mg base (L2.CX P w) 4 f1 fd1 ["shape"] (spCheck CS)) (G2 : FnOk P w K mg base (L2.CX P w) 6 f2 fd2 ["shape", "value"] spEnts) (G3 : FnOk P w K mg base (L2.CX P w) 6 f3 fd3 ["shape"] spPlan) (G4 : FnOk P w K mg base (L2.CX P w) 5 f4 fd4 ["shape"] (spPlaces CS)) :
    FnOk P w K mg base CX0 7 f fd ["self", "shape", "entries"] (spInit C) := by
  refine d.F.ok sc_init (fun vs H Q E h => ?_) (fun cdv A outer s H vs Q E hr h => ?_)
  · obtain ⟨a, sh, D, dx, ns, ps, rfl, _⟩ := h
    rfl
  · obtain ⟨a, sh, D, dx, ns, ps, rfl, ea, es, S, eD, EN, q⟩ := h
    have un : (A.deeper (envOfC "Stair.__init__" (defScope s_init) s.heap.objs.size f cdv)).units + 1 < cLine := by have := hr.un; omega
    refine ⟨_, (pss_cons (ps_expr (pe_call (E := fun _ _ _ => False) G1 (hr.mono (by decide)) (by rfl) d1.g d1.F.kp d1.b .nil passF (pa_cons (pv 1) pa_nil)))
      (pss_cons (ps_if (pt_not (pt_val (pe_call (E := fun _ _ _ => False) G2 (hr.mono (by decide)) (by rfl) d2.g d2.F.kp d2.b .nil passF (pa_cons (pv 1) (pa_cons (pv 2) pa_nil))))) dead pss_nil)
      (pss_cons (ps_fld (pv 0) (pv 1) rfl)
      (pss_cons (ps_fld (pv 0) (pe_call (E := fun _ _ _ => False) G3 (hr.mono (by decide)) (by rfl) d3.g d3.F.kp d3.b .nil passF (pa_cons (pv 1) pa_nil)) rfl)
      (pss_one (ps_fld (pv 0) (pe_tupleOf (by rfl) T.n_tuple (pe_lc (own := [("place", 3)]) (g := gName 3) (tt := tYes) rfl sc_init.nd (pi_tup (pe_call (E := fun _ _ _ => False) G4 (hr.mono (by decide)) (by rfl) d4.g d4.F.kp d4.b .nil passF (pa_cons (pv 1) pa_nil))) (blkOk_by (own := [("place", 3)]) (N := ["self", "shape", "entries", "place"]) (sc := defScope s_init) (by decide +kernel))
            (fun _ _ _ _ _ => (pg_name (i := 3) sc_init.nd rfl (Or.inl rfl))) (fun _ _ _ _ _ => pts_nil) (fun _ _ _ _ _ => (pe_dget2 un (pv 2) (pv 3) pe_int ⟨rfl, rfl, rfl, rfl⟩)))) rfl)))))), ?_⟩
    refine ⟨_, rfl, _, .tuple (ns.map .int), rfl, .tv (.tup es (tvl_ints ns)), fun _ H1 s1 => ?_, fun z => absurd (shp_is S) (by rw [z]; decide)⟩
    refine ⟨_, rfl, _, rfl, sh, D, ns, ps, rfl, s1 _ _ es, S, s1 _ _ eD, EN, fun H2 s2 => ⟨true, rfl, ite2 (fun z => absurd z Bool.false_ne_true) (fun _ => ?_)⟩⟩
    have s12 := s1.trans s2
    have ea2 := s12 _ _ ea
    have es2 := s12 _ _ es
    have eD2 := s12 _ _ eD
    have sa : sh ≠ a := fun z => by rw [z, ea] at es; cases es
    have Da : D ≠ a := fun z => by rw [z, ea] at eD; cases eD
    refine ⟨_, rfl, _, rfl, a, C, dx, [], rfl, ea2, R.cl, R.nS, (by show 0 < 1000; decide), ?_⟩
    have o3 : Old a H (upd H2 a (.ins C dx (putF "_shape" (.ref sh) []))) := fun b o n e => by rw [upd_ne n]; exact s12 _ _ e
    have ea3 : upd H2 a (.ins C dx (putF "_shape" (.ref sh) [])) a = some (.ins C dx (putF "_shape" (.ref sh) [])) := upd_same
    have es3 := o3 _ _ sa es
    have eD3 := o3 _ _ Da eD
    revert o3 ea3 es3 eD3
    generalize upd H2 a (.ins C dx (putF "_shape" (.ref sh) [])) = H3
    intro o3 ea3 es3 eD3
    refine ⟨_, rfl, sh, ns, rfl, es3, S, fun H4 pln s4 => ?_⟩
    refine ⟨_, rfl, a, C, dx, _, rfl, s4 _ _ ea3, R.cl, R.nP, (by show 1 < 1000; decide), ?_⟩
    have o5 : Old a H (upd H4 a (.ins C dx (putF "_plan" pln (putF "_shape" (.ref sh) [])))) := fun b o n e => by rw [upd_ne n]; exact s4 _ _ (o3 _ _ n e)
    have ea5 : upd H4 a (.ins C dx (putF "_plan" pln (putF "_shape" (.ref sh) []))) a = some (.ins C dx (putF "_plan" pln (putF "_shape" (.ref sh) []))) := upd_same
    have es5 := o5 _ _ sa es
    have eD5 := o5 _ _ Da eD
    revert o5 ea5 es5 eD5
    generalize upd H4 a (.ins C dx (putF "_plan" pln (putF "_shape" (.ref sh) []))) = H5
    intro o5 ea5 es5 eD5
    refine ⟨_, rfl, _, .tuple (ns.map .int), rfl, .tv (.tup es5 (tvl_ints ns)), fun ns' en S' H6 y s6 ty => ?_, fun z => absurd (shp_is S) (by rw [z]; decide)⟩
    obtain rfl : ns' = ns := (ints_inj (PyData.tuple.inj en)).symm
    obtain ⟨o, xs, rfl, eo, tl⟩ : ∃ o xs, y = .ref o ∧ H6 o = some (.tup xs) ∧ TvL H6 xs ((pl ns').map triD) := by
      cases ty with
      | tup e l => exact ⟨_, _, rfl, e, l⟩
    have lx : xs.length = (pl ns').length := by rw [tl.len, List.length_map]
    have lz := (tables3 ns' (shp_mem S)).2.1
    have o6 : Old a H H6 := fun b ob n e => s6 _ _ (o5 _ _ n e)
    refine ⟨o, rfl, ⟨xs, .inl (.inl eo)⟩, fun L nL => ?_⟩
    refine lc_tup (K := K) (a := o) (xs := xs) (fun i Z => Same H6 Z ∧ Z L = some (.lst ((((pl ns').take i).map (numAt ps)).map V.int))) ⟨sub_same nL, upd_same⟩ (fun i Z _ h => .inl (.inl (h.1 _ _ eo))) ?_ ?_
    · rintro i x Z hx ⟨sm, hl⟩
      obtain ⟨t, c, et, rfl, ec⟩ := tl.tri hx
      refine ⟨rfl, yesT ⟨_, rfl, D, rfl, .inr ⟨ps, .inl (sm _ _ (s6 _ _ eD5))⟩, _, rfl, _, DGet.t (k := triK t) (sm _ _ (s6 _ _ eD5)) (sm _ _ ec), ?_⟩⟩
      have il := (List.getElem?_eq_some_iff.mp et).1
      refine ⟨_, hl, ?_, fun b ob eb => ?_, ?_⟩
      · rw [List.length_map, List.length_map, List.length_take, sizeLine_eq]
        omega
      · rw [upd_ne (fun z => by rw [z, nL] at eb; cases eb)]
        exact sm _ _ eb
      · rw [upd_same, numAt_v EN t, List.take_succ, et, List.map_append, List.map_append]
        rfl
    · rintro Z ⟨sm, hl⟩
      rw [lx, List.take_length] at hl
      refine .inl ⟨L, _, rfl, .inl (.inl hl), fun nm nn => ?_⟩
      have s7 := sub_same (o := .tup (((pl ns').map (numAt ps)).map V.int)) nn
      have ea7 := s7 _ _ (sm _ _ (s6 _ _ ea5))
      have na : nm ≠ a := fun z => by rw [z, sm _ _ (s6 _ _ ea5)] at nn; cases nn
      refine ⟨_, rfl, a, C, dx, _, rfl, ea7, R.cl, R.nN, (by show 2 < 1000; decide), ?_⟩
      refine q _ (fun b ob n e => ?_) ⟨dx, sh, pln, nm, upd_same, ?_, ?_⟩
      · rw [upd_ne n]
        exact s7 _ _ (sm _ _ (o6 _ _ n e))
      · rw [upd_ne sa]
        exact s7 _ _ (sm _ _ (o6 _ _ sa es))
      · rw [upd_ne na]
        exact upd_same
/-- none is made of what is no shape -/
def spInitX (CS : Addr) : Sp := fun vs H Q E => ∃ (a x y : V) (d : PyData), vs = [a, x, y] ∧ Dw H x d ∧ isSh d = false ∧ ∀ H', Same H H' → E (.ref CS) none H'
theorem ok_initX {f f1 : Addr} {fd fd1 : FuncData} (T : Txt mg) (d : M K "__init__" "Stair.__init__" s_init ["self", "shape", "entries"] f fd)
    (d1 : D K mg "check_shape" s_check ["shape"] f1 fd1) (G1 : FnOk P w K mg base (L2.CX P w) 4 f1 fd1 ["shape"] (spCheck CS)) : FnOk P w K mg base (L2.CX P w) 5 f fd ["self", "shape", "entries"] (spInitX CS) := by
  refine d.F.okX sc_init (fun vs H Q E h => ?_) (fun cdv A outer s H vs Q E hr h => ?_)
  · obtain ⟨a, x, y, d, rfl, _⟩ := h
    rfl
  · obtain ⟨a, x, y, d, rfl, dx, ns, q⟩ := h
    refine ⟨_, pss_cons (ps_expr (pe_call (E := E) G1 (hr.mono (by decide)) (by rfl) d1.g d1.F.kp d1.b .nil (passes_call (takes_of rfl rfl rfl rfl) (fun _ _ _ _ h => h)) (pa_cons (pv 1) pa_nil))) dead, ?_⟩
    exact ⟨_, rfl, x, d, rfl, dx, (fun z => by rw [ns] at z; cases z), fun _ H' s => q H' s⟩
abbrev s_one1 : Stmt := inClass (topS 33) 1
theorem sc_one1 : FnScope ["cls", "shape"] ["cls", "shape"] (defScope s_one1) := ⟨rfl, rfl, rfl, by decide +kernel, rfl, by decide +kernel, by decide +kernel⟩
def spOne1 (C CS : Addr) : Sp := fun vs H Q E => ∃ (x : V) (d : PyData), vs = [.ref C, x] ∧ Dw H x d ∧ isSh d = false ∧ ∀ H', Same H H' → E (.ref CS) none H'
theorem ok_one1 {f fI : Addr} {fd fdI : FuncData} (mk : Mk K C fI) (bI : Binds K fdI ["self", "shape", "entries"] []) (d : M K "one" "Stair.one" s_one1 ["cls", "shape"] f fd)
    (GI : FnOk P w K mg base (L2.CX P w) 5 fI fdI ["self", "shape", "entries"] (spInitX CS)) : FnOk P w K mg base (L2.CX P w) 7 f fd ["cls", "shape"] (spOne1 C CS) := by
  refine d.F.okX sc_one1 (fun vs H Q E h => ?_) (fun cdv A outer s H vs Q E hr h => ?_)
  · obtain ⟨x, d, rfl, _⟩ := h
    rfl
  · obtain ⟨x, d, rfl, dx, ns, q⟩ := h
    refine ⟨_, (pss_one (ps_ret (pe_makeL mk GI hr bI .nil (passes_call (takes_of rfl rfl rfl rfl) (fun _ _ _ _ h => h)) (pv 0) (pa_cons (pv 1) (pa_cons pe_dnewT pa_nil))))), ?_⟩
    refine ⟨_, rfl, rfl, _, rfl, fun D nD a dd na nd ne => ?_⟩
    have s1 := sub_same (o := .dT []) nD
    have s2 : Same H (upd (upd (upd H D (.dT [])) dd (.own a)) a (.ins C dd [])) := s1.trans ((sub_same nd).trans (sub_same (by rw [upd_ne (Ne.symm ne)]; exact na)))
    exact ⟨_, x, _, d, rfl, dx.same s2, ns, fun H' s3 => q H' (s2.trans s3)⟩
end
end K04

/-! # leads_right -/
namespace K04
open PySem PySem.Spec PyProof.Rows L2
theorem valV_mem {ps : List (List L2.Key × V)} {k : List L2.Key} {v : V} (e : valV ps k = some v) : ∃ p ∈ ps, p.1 = k ∧ p.2 = v := by
  induction ps with
  | nil => cases e
  | cons q r ih =>
    by_cases z : q.1 = k
    · have y : valV (q :: r) k = some q.2 := by
        unfold valV
        rw [List.find?_cons_of_pos (by simpa using z)]
        rfl
      rw [y] at e
      exact ⟨q, List.mem_cons_self, z, Option.some.inj e⟩
    · have y : valV (q :: r) k = valV r k := by
        unfold valV
        rw [List.find?_cons_of_neg (by simpa using z)]
      rw [y] at e
      obtain ⟨p, m, h⟩ := ih e
      exact ⟨p, List.mem_cons_of_mem _ m, h⟩
theorem cut_from (xs : List V) (i : Nat) : cutV xs (some (i : Int)) none = xs.drop i := by
  have e1 : HT.sIx xs.length 0 (some (i : Int)) = min i xs.length := HT.sIx_nat _ _ _
  have e2 : HT.sIx xs.length xs.length none = xs.length := rfl
  unfold cutV
  rw [e1, e2]
  by_cases l : i ≤ xs.length
  · rw [Nat.min_eq_left l, List.take_of_length_le (by rw [List.length_drop]; omega)]
  · rw [Nat.min_eq_right (by omega), List.drop_length, List.drop_eq_nil_of_le (by omega), List.take_nil]
theorem back_get {α : Type} (l : List α) (i j : Nat) (h : j < l.length - i) : ((l.drop i).reverse)[j]? = l[l.length - 1 - j]? := by
  rw [List.getElem?_reverse (by rw [List.length_drop]; exact h), List.getElem?_drop, List.length_drop]
  congr 1
  omega
theorem PrT.old {H H' : Hp} {u t : Addr} {p : List L2.Key × V} (hu : Urn H u) (o : Old u H H') (h : PrT H t p) : PrT H' t p := by
  obtain ⟨g, m, c, e⟩ := hu
  obtain ⟨q, h1, h2⟩ := h
  exact ⟨q, o _ _ (fun z => by rw [z, e] at h1; cases h1) h1, o _ _ (fun z => by rw [z, e] at h2; cases h2) h2⟩
theorem PrT.same {H H' : Hp} {t : Addr} {p : List L2.Key × V} (s : Same H H') (h : PrT H t p) : PrT H' t p := by
  obtain ⟨q, h1, h2⟩ := h
  exact ⟨q, s _ _ h1, s _ _ h2⟩
theorem PrT.put {H : Hp} {L t : Addr} {xs ys : List V} {p : List L2.Key × V} (e : H L = some (.lst xs)) (h : PrT H t p) : PrT (upd H L (.lst ys)) t p := by
  obtain ⟨q, h1, h2⟩ := h
  exact ⟨q, by rw [upd_ne (fun z => by rw [z, e] at h1; cases h1)]; exact h1, by rw [upd_ne (fun z => by rw [z, e] at h2; cases h2)]; exact h2⟩
theorem shaped_ints (ns : List Int) : SeqAt.shaped (.tuple (ns.map .int)) = true := by
  have c : ∀ l : List Int, PyData.canLayAll0 (l.map .int) = true := fun l => by
    induction l with
    | nil => rfl
    | cons n r ih =>
      show (true && PyData.canLayAll0 (r.map .int)) = true
      rw [ih]
      rfl
  show (PyData.canLayAll0 (ns.map .int) && decide (PyData.depthAll (ns.map .int) + 1 ≤ 64)) = true
  rw [c, dep_ints]
  rfl
/-- the entries that are drawn: those from the place i on, from behind -/
structure Drn (ns : List Int) (i : Nat) (ps : List (List L2.Key × V)) : Prop where
  keys : ps.map (·.1) = (((pl ns).drop i).reverse).map triK
  vals : ∀ p ∈ ps, ∃ n : Int, p.2 = .int n ∧ 1 ≤ n ∧ n ≤ 5
theorem Drn.key {ns : List Int} {i : Nat} {ps : List (List L2.Key × V)} (D : Drn ns i ps) {p : List L2.Key × V} (m : p ∈ ps) : ∃ t, t ∈ (pl ns).drop i ∧ p.1 = triK t := by
  have z : p.1 ∈ ps.map (·.1) := List.mem_map.mpr ⟨p, m, rfl⟩
  rw [D.keys] at z
  obtain ⟨t, mt, e⟩ := List.mem_map.mp z
  exact ⟨t, List.mem_reverse.mp mt, e.symm⟩
theorem Drn.ent {ns : List Int} {i : Nat} {ps : List (List L2.Key × V)} (S : Shp ns) (D : Drn ns i ps) : Ent ns ps := by
  refine ⟨?_, fun p m => ?_⟩
  · have z := congrArg List.length D.keys
    rw [List.length_map, List.length_map, List.length_reverse, List.length_drop] at z
    have y := (tables3 ns (shp_mem S)).2.1
    omega
  · obtain ⟨t, mt, e⟩ := D.key m
    obtain ⟨n, en, n1, n2⟩ := D.vals p m
    exact ⟨t, List.mem_of_mem_drop mt, e, n, en, by omega, by omega⟩
theorem Drn.hit {ns : List Int} {i : Nat} {ps : List (List L2.Key × V)} (D : Drn ns i ps) {t : Tri} (m : t ∈ (pl ns).drop i) : numAt ps t ≠ 0 := by
  unfold numAt
  cases e : valV ps (triK t) with
  | none =>
    have a := valV_any (triK t) ps
    rw [e] at a
    have k : triK t ∈ ps.map (·.1) := by
      rw [D.keys]
      exact List.mem_map.mpr ⟨t, List.mem_reverse.mpr m, rfl⟩
    obtain ⟨p, mp, ep⟩ := List.mem_map.mp k
    have y : (ps.any fun kv => decide (kv.1 = triK t)) = true := List.any_eq_true.mpr ⟨p, mp, decide_eq_true ep⟩
    rw [y] at a
    cases a
  | some v =>
    obtain ⟨p, mp, _, rfl⟩ := valV_mem e
    obtain ⟨n, en, n1, n2⟩ := D.vals p mp
    rw [en]
    show n ≠ 0
    omega
theorem Drn.miss {ns : List Int} {i : Nat} {ps : List (List L2.Key × V)} (S : Shp ns) (D : Drn ns i ps) {t : Tri} (m : t ∈ (pl ns).take i) : numAt ps t = 0 := by
  unfold numAt
  cases e : valV ps (triK t) with
  | none => rfl
  | some v =>
    exfalso
    obtain ⟨p, mp, ek, rfl⟩ := valV_mem e
    obtain ⟨u, mu, eu⟩ := D.key mp
    have tu : t = u := triK_inj (ek.symm.trans eu)
    have nd := (tables3 ns (shp_mem S)).1
    rw [← List.take_append_drop i (pl ns), List.nodup_append] at nd
    exact nd.2.2 t m u mu tu
theorem Drn.first {ns : List Int} {i : Nat} {ps : List (List L2.Key × V)} (S : Shp ns) (D : Drn ns i ps) : firstNZ 0 ((pl ns).map (numAt ps)) = if i < (pl ns).length then some i else none := by
  have z : ∀ n ∈ ((pl ns).map (numAt ps)).take i, n = 0 := fun n m => by
    rw [← List.map_take] at m
    obtain ⟨t, mt, rfl⟩ := List.mem_map.mp m
    exact D.miss S mt
  rw [firstNZ_take z, ← List.map_drop]
  split
  · rename_i l
    have h := D.hit (t := (pl ns)[i]) (by rw [List.drop_eq_getElem_cons l]; exact List.mem_cons_self)
    rw [List.drop_eq_getElem_cons l, List.map_cons]
    show (if numAt ps (pl ns)[i] = 0 then _ else some i) = _
    rw [if_neg h]
  · rename_i l
    rw [List.drop_eq_nil_of_le (by omega)]
    rfl
theorem Drn.any {ns : List Int} {i : Nat} {ps : List (List L2.Key × V)} (S : Shp ns) (D : Drn ns i ps) : (((pl ns).map (numAt ps)).any fun n => n != 0) = decide (i < (pl ns).length) := by
  by_cases l : i < (pl ns).length
  · rw [decide_eq_true l, List.any_eq_true]
    have m : (pl ns)[i] ∈ (pl ns).drop i := by rw [List.drop_eq_getElem_cons l]; exact List.mem_cons_self
    exact ⟨_, List.mem_map.mpr ⟨_, List.getElem_mem l, rfl⟩, by simpa using D.hit m⟩
  · rw [decide_eq_false l, List.any_eq_false]
    intro n m
    obtain ⟨t, mt, rfl⟩ := List.mem_map.mp m
    have y := D.miss S (t := t) (by rw [List.take_of_length_le (by omega)]; exact mt)
    simp [y]
section
variable {P : Program} {w : World} {K : PySem.W.Frag} {mg : Str → Option Value} {base : Heap} {C CS : Addr}
abbrev s_leads : Stmt := topS 56
theorem sc_leads : FnScope ["_law_pot_here", "_law_shape", "_law_row", "_law_at", "_law_entries", "_law_stair", "_law_place"] ["_law_pot_here", "_law_shape"] (defScope s_leads) := ⟨rfl, rfl, rfl, by decide +kernel, rfl, by decide +kernel, by decide +kernel⟩
def spLeads : Sp := fun vs H Q _ => ∃ (u a : Addr) (ns : List Int), vs = [.ref u, .ref a] ∧ Urn H u ∧ H a = some (.tup (ns.map V.int)) ∧ Shp ns ∧ ∀ H', Urn H' u → Old u H H' → Q (.bl true) H'
/-- the class's methods -/
structure Mets (P : Program) (w : World) (K : PySem.W.Frag) (mg : Str → Option Value) (base : Heap) (C fI pL gL pN gN gZ gB : Addr) (fdI fdL fdN fdZ fdB : FuncData) : Prop where
  km : Mk K C fI
  GI : FnOk P w K mg base CX0 7 fI fdI ["self", "shape", "entries"] (spInit C)
  bI : Binds K fdI ["self", "shape", "entries"] []
  pL : PropOf K C "lead" pL gL
  GL : FnOk P w K mg base CX0 6 gL fdL ["self"] (spSLead C)
  bL : Binds K fdL ["self"] []
  pN : PropOf K C "numbers" pN gN
  GN : FnOk P w K mg base CX0 1 gN fdN ["self"] (spNums C)
  bN : Binds K fdN ["self"] []
  hsZ : PySem.W.findIn K (.ref C) "__len__" = some (some (.ref gZ))
  hfZ : PySem.W.isFn K (.ref gZ) = true
  GZ : FnOk P w K mg base CX0 1 gZ fdZ ["self"] (spLen C)
  bZ : Binds K fdZ ["self"] []
  hsB : PySem.W.findIn K (.ref C) "__bool__" = some (some (.ref gB))
  hfB : PySem.W.isFn K (.ref gB) = true
  GB : FnOk P w K mg base CX0 1 gB fdB ["self"] (spSBool C)
  bB : Binds K fdB ["self"] []
theorem ok_leads {f f1 ft fI qL gL qN gN gZ gB : Addr} {fd fd1 fdt fdI fdL fdN fdZ fdB : FuncData} (T : Txt mg) (N : Nam mg) (R : SC K mg C) (d : D K mg "_law_leads_right" s_leads ["_law_pot_here", "_law_shape"] f fd)
    (d1 : D K mg "_law_places" s_lplaces ["_law_shape"] f1 fd1) (dt : D K mg "_law_dip" s_dip ["_law_pot_here", "_law_total"] ft fdt) (G1 : FnOk P w K mg base CX0 1 f1 fd1 ["_law_shape"] spLPlaces) (Gt : FnOk P w K mg base CX0 1 ft fdt ["_law_pot_here", "_law_total"] spTake)
    (MS : Mets P w K mg base C fI qL gL qN gN gZ gB fdI fdL fdN fdZ fdB) : FnOk P w K mg base CX0 10 f fd ["_law_pot_here", "_law_shape"] spLeads := by
  obtain ⟨mk, GI, bI, pL, GL, bL, pN, GN, bN, hsZ, hfZ, GZ, bZ, hsB, hfB, GB, bB⟩ := MS
  refine d.F.ok sc_leads (fun vs H Q E h => ?_) (fun cdv A outer s H vs Q E hr h => ?_)
  · obtain ⟨u, a, ns, rfl, _⟩ := h
    rfl
  · obtain ⟨u, a, ns, rfl, uu, ea, S, q⟩ := h
    have un : (A.deeper (envOfC "_law_leads_right" (defScope s_leads) s.heap.objs.size f cdv)).units + 64 < cLine := by have := hr.un; omega
    have un2 : (A.deeper (envOfC "_law_leads_right" (defScope s_leads) s.heap.objs.size f cdv)).units + 2 < cLine := by omega
    have un1 : (A.deeper (envOfC "_law_leads_right" (defScope s_leads) s.heap.objs.size f cdv)).units + 1 < cLine := by omega
    refine ⟨_, (pss_cons (ps_set (i := 2) sc_leads.nd rfl (.inl rfl) (pe_call G1 (hr.mono (by decide)) (by rfl) d1.g d1.F.kp d1.b .nil pass0 (pa_cons (pv 1) pa_nil)))
      (pss_cons (ps_set (i := 3) sc_leads.nd rfl (.inl rfl) (pe_call Gt (hr.mono (by decide)) (by rfl) dt.g dt.F.kp dt.b .nil pass0 (pa_cons (pv 0) (pa_cons (pe_op op_add (pe_callB call_len_seq (by rfl) T.n_len PySem.boot_len (pa_cons (pv 2) pa_nil)) pe_int) pa_nil))))
      (pss_cons (ps_set (i := 4) sc_leads.nd rfl (.inr rfl) (pe_callTy (call_dictTup rfl un2) (by rfl) N.n_dict (by decide +kernel) (pa_cons (pe_lc (own := [("_law_place", 6)]) (g := gName 6) (tt := tYes) rfl sc_leads.nd (pi_list (pe_revL (pe_slice sl_list (pv 2) (po_some (pv 3)) po_none))) (blkOk_by (own := [("_law_place", 6)]) (N := ["_law_pot_here", "_law_shape", "_law_row", "_law_at", "_law_entries", "_law_stair", "_law_place"]) (sc := defScope s_leads) (by decide +kernel))
            (fun _ _ _ _ _ => (pg_name (i := 6) sc_leads.nd rfl (Or.inl rfl))) (fun _ _ _ _ _ => pts_nil) (fun _ _ _ _ _ => (pe_tup (pa_cons (pv 6) (pa_cons (pe_op op_add pe_int (pe_call Gt (hr.mono (by decide)) (by rfl) dt.g dt.F.kp dt.b .nil pass0 (pa_cons (pv 0) (pa_cons pe_int pa_nil)))) pa_nil))))) pa_nil)))
      (pss_cons (ps_set (i := 5) sc_leads.nd rfl (.inl rfl) (pe_make mk GI (hr.mono (by decide)) (by rfl) R.mC bI .nil pass0 (pa_cons (pv 1) (pa_cons (pv 4) pa_nil))))
      (pss_cons (ps_if (PW.pt (pw_or (pt_cmpR (op_neD un) (pe_prop (pv 5) R.cl pL GL (hr.mono (by decide)) bL .nil pass0 (by rfl)) (pe_ifExp (pt_cmpR op_lt (pv 3) (pe_callB call_len_seq (by rfl) T.n_len PySem.boot_len (pa_cons (pv 2) pa_nil)) (nomark _)) (pe_ix ix_list (pv 2) (pv 3) (fun _ _ => rfl)) pe_non) (nomark _)) (pw_or (pt_cmpR op_ne (pe_callB (call_lenMine hsZ hfZ GZ (hr.mono (by decide)) bZ) (by rfl) T.n_len PySem.boot_len (pa_cons (pv 5) pa_nil)) (pe_callB call_len_seq (by rfl) T.n_len PySem.boot_len (pa_cons (pv 2) pa_nil)) (nomark _)) (pw_or1 (pt_cmpR op_ne (pe_callTy (call_boolMine hsB hfB GB (hr.mono (by decide)) bB) (by rfl) T.n_bool (by decide +kernel) (pa_cons (pv 5) pa_nil)) (pe_cmpR op_lt (pv 3) (pe_callB call_len_seq (by rfl) T.n_len PySem.boot_len (pa_cons (pv 2) pa_nil)) (nomark _)) (nomark _)))))) (pss_one (ps_ret pe_bl)) pss_nil)
      (pss_one (ps_ret (pe_cmpR (op_eqD un) (pe_prop (pv 5) R.cl pN GN (hr.mono (by decide)) bN .nil pass0 (by rfl)) (pe_tupleOf (by rfl) T.n_tuple (pe_lc (own := [("_law_place", 6)]) (g := gName 6) (tt := tYes) rfl sc_leads.nd (pi_list (pv 2)) (blkOk_by (own := [("_law_place", 6)]) (N := ["_law_pot_here", "_law_shape", "_law_row", "_law_at", "_law_entries", "_law_stair", "_law_place"]) (sc := defScope s_leads) (by decide +kernel))
            (fun _ _ _ _ _ => (pg_name (i := 6) sc_leads.nd rfl (Or.inl rfl))) (fun _ _ _ _ _ => pts_nil) (fun _ _ _ _ _ => (pe_dget2 un1 (pv 4) (pv 6) pe_int ⟨rfl, rfl, rfl, rfl⟩)))) (nomark _))))))))), ?_⟩
    refine ⟨_, rfl, a, ns, rfl, ea, S, fun H1 p xs s1 np hp tl => ?_⟩
    have S3 := tables3 ns (shp_mem S)
    have ll : xs.length = (pl ns).length := by rw [tl.len, List.length_map]
    have l30 : xs.length ≤ 30 := by omega
    have pu : p ≠ u := urn_ne uu np
    have au : a ≠ u := fun z => by
      obtain ⟨g, m, c, e⟩ := uu
      rw [z, e] at ea
      cases ea
    refine ⟨_, rfl, _, rfl, p, xs, rfl, .inl (.inl (.inl hp)), _, _, rfl, rfl, u, _, rfl, uu.same s1, by omega, ?_, fun z H2 z0 z1 u2 b2 => ?_⟩
    · refine Nat.lt_of_le_of_lt (Nat.log2_le_self _) ?_
      omega
    obtain ⟨i, rfl⟩ : ∃ i : Nat, z = (i : Int) := ⟨z.toNat, by omega⟩
    have il : i ≤ xs.length := by omega
    have hp2 : H2 p = some (.lst xs) := (b2 p pu).trans hp
    have o2 : Old u H H2 := (Old.of_same s1).trans (Old.of_but b2)
    have tl2 : TvL H2 xs ((pl ns).map triD) := tl.old (uu.same s1) (Old.of_but b2)
    have ea2 := o2 _ _ au ea
    clear s1 hp tl z0 z1 b2
    refine ⟨_, rfl, _, rfl, _, rfl, p, xs, rfl, .inl (.inl hp2), fun b nb => ⟨b, _, rfl, .inl (.inl upd_same), fun r nr => ?_⟩⟩
    rw [cut_from] at nr ⊢
    have s5 : Same H2 (upd (upd H2 b (.lst (xs.drop i))) r (.lst (xs.drop i).reverse)) := (sub_same nb).trans (sub_same nr)
    have hr5 : upd (upd H2 b (.lst (xs.drop i))) r (.lst (xs.drop i).reverse) r = some (.lst (xs.drop i).reverse) := upd_same
    have nr2 : H2 r = none := by
      cases e : H2 r with
      | none => rfl
      | some o =>
        rw [sub_same nb _ _ e] at nr
        cases nr
    revert s5 hr5
    generalize upd (upd H2 b (.lst (xs.drop i))) r (.lst (xs.drop i).reverse) = H5
    intro s5 hr5
    refine ⟨r, rfl, ⟨_, .inl (.inl hr5)⟩, fun L nL => ?_⟩
    have ru : r ≠ u := urn_ne u2 nr2
    have u5 := u2.same s5
    have Lu : L ≠ u := urn_ne u5 nL
    have lr : (xs.drop i).reverse.length = xs.length - i := by rw [List.length_reverse, List.length_drop]
    have tl5 := tl2.same s5
    refine lc_list (K := K) (a := r) (xs := (xs.drop i).reverse) (fun j Z => Urn Z u ∧ Old u H5 Z ∧ ∃ (ts : List Addr) (ps : List (List L2.Key × V)), Z L = some (.lst (ts.map V.ref)) ∧ Paired (PrT Z) ts ps ∧ ts.length = j ∧ ps.map (·.1) = ((((pl ns).drop i).reverse).take j).map triK ∧ ∀ p ∈ ps, ∃ n : Int, p.2 = .int n ∧ 1 ≤ n ∧ n ≤ 5)
      ⟨u5.same (sub_same nL), .of_same (sub_same nL), [], [], upd_same, .nil, rfl, rfl, fun p m => by cases m⟩ (fun j Z _ h => .inl (.inl (h.2.1 _ _ ru hr5))) ?_ ?_
    · rintro j x Z hx ⟨uz, oz, ts, ps, hl, pr, lt, ks, vs⟩
      have jl : j < xs.length - i := by
        have z := (List.getElem?_eq_some_iff.mp hx).1
        omega
      rw [back_get xs i j jl] at hx
      obtain ⟨t, c, et, rfl, ec⟩ := tl5.tri hx
      have et2 : (((pl ns).drop i).reverse)[j]? = some t := by
        rw [back_get (pl ns) i j (by omega), ← ll]
        exact et
      have cu : c ≠ u := fun z => by
        obtain ⟨g, m, c2, e⟩ := u5
        rw [z, e] at ec
        cases ec
      refine ⟨rfl, yesT ?_⟩
      refine ⟨_, rfl, _, rfl, u, 5, rfl, uz, by decide, by decide, fun v Z2 v0 v1 uz2 b2 => ⟨_, _, rfl, rfl, (by show 2 ≤ sizeLine; decide), fun Tp nT => ?_⟩⟩
      have o2 : Old u Z Z2 := .of_but b2
      have hl2 : Z2 L = some (.lst (ts.map V.ref)) := (b2 L Lu).trans hl
      have sT := sub_same (o := .tup [V.ref c, V.int (1 + v)]) nT
      have hl3 := sT _ _ hl2
      have ec3 := sT _ _ (o2 _ _ cu (oz _ _ cu ec))
      have oT : Old u H5 (upd Z2 Tp (.tup [V.ref c, V.int (1 + v)])) := (oz.trans o2).trans (.of_same sT)
      have uT := uz2.same sT
      have pT : Paired (PrT (upd Z2 Tp (.tup [V.ref c, V.int (1 + v)]))) ts ps := Paired.mapP pr fun _ _ h => (h.old uz o2).same sT
      have hT : upd Z2 Tp (.tup [V.ref c, V.int (1 + v)]) Tp = some (.tup [V.ref c, V.int (1 + v)]) := upd_same
      revert hl3 ec3 oT uT pT hT
      generalize upd Z2 Tp (.tup [V.ref c, V.int (1 + v)]) = Z3
      intro hl3 ec3 oT uT pT hT
      refine ⟨_, hl3, ?_, ?_, ?_, ts ++ [Tp], ps ++ [(triK t, .int (1 + v))], ?_, ?_, ?_, ?_, ?_⟩
      · rw [List.length_map, lt, sizeLine_eq]
        omega
      · obtain ⟨g, m, c2, e⟩ := uT
        exact ⟨g, m, c2, by rw [upd_ne (Ne.symm Lu)]; exact e⟩
      · exact fun k o n e => by
          rw [upd_ne (fun z => by rw [z, nL] at e; cases e)]
          exact oT k o n e
      · rw [upd_same, List.map_append]
        rfl
      · exact Paired.snoc (Paired.mapP pT fun _ _ h => h.put hl3) (PrT.put hl3 ⟨c, hT, ec3⟩)
      · rw [List.length_append, lt]
        rfl
      · rw [List.map_append, ks, List.take_succ, et2, List.map_append]
        rfl
      · intro q m
        rcases List.mem_append.mp m with m | m
        · exact vs q m
        · obtain rfl : q = _ := List.mem_singleton.mp m
          exact ⟨_, rfl, by omega, by omega⟩
    · rintro Z ⟨uz, oz, ts, ps, hl, pr, lt, ks, vs⟩
      have D : Drn ns i ps := ⟨by rw [ks, List.take_of_length_le (by rw [List.length_reverse, List.length_drop]; omega)], vs⟩
      have nk : (ps.map (·.1)).Nodup := by
        rw [D.keys]
        refine List.Pairwise.map (R := fun x y => x ≠ y) triK (fun x y h z => h (triK_inj z)) ?_
        exact List.pairwise_reverse.mpr ((List.Nodup.sublist (List.drop_sublist i (pl ns)) S3.1).imp fun h => Ne.symm h)
      refine ⟨L, ts, ps, rfl, .inl (.inl hl), pr, fun De nDe => ?_⟩
      rw [show putAll [] ps = ps from putAll_new ps [] nk]
      have hp5 := s5 _ _ hp2
      have oz2 : Old u H2 Z := (Old.of_same s5).trans oz
      have sD := sub_same (o := .dT ps) nDe
      have uD := uz.same sD
      have eD : upd Z De (.dT ps) De = some (.dT ps) := upd_same
      have oD : Old u H (upd Z De (.dT ps)) := (o2.trans oz2).trans (.of_same sD)
      have pD := sD _ _ (oz _ _ pu hp5)
      have aD := sD _ _ (oz2 _ _ au ea2)
      have tD := (tl2.old u2 oz2).same sD
      revert uD eD oD pD aD tD
      generalize upd Z De (.dT ps) = H6
      intro uD eD oD pD aD tD
      refine ⟨_, rfl, _, rfl, fun x dx nx ndx nex => ?_⟩
      have s7 : Same H6 (upd (upd H6 dx (.own x)) x (.ins C dx [])) := (sub_same ndx).trans (sub_same (by rw [upd_ne (Ne.symm nex)]; exact nx))
      refine ⟨x, a, De, dx, ns, ps, rfl, upd_same, s7 _ _ aD, S, s7 _ _ eD, D.ent S, fun H7 o7 st => ⟨rfl, ?_⟩⟩
      have sF : Same H6 H7 := fun b o e => o7 _ _ (ne_of_none e nx) (s7 _ _ e)
      have u7 := uD.same sF
      have e7 := sF _ _ eD
      have oF : Old u H H7 := oD.trans (.of_same sF)
      have p7 := sF _ _ pD
      have t7 := tD.same sF
      have lm : ((pl ns).map (numAt ps)).length = (pl ns).length := List.length_map ..
      clear o7 s7 sF uD eD oD pD aD tD sD
      have stE := st
      obtain ⟨dx7, sh7, pl7, nm7, ex7, _, _⟩ := stE
      have hB : (!decide (V.int ((((pl ns).map (numAt ps)).length : Nat) : Int) = V.int ((xs.length : Nat) : Int))) = false := by
        rw [lm, ll]
        simp
      have hC : (!decide (V.bl (((pl ns).map (numAt ps)).any fun n => n != 0) = V.bl (decide ((i : Int) < (xs.length : Int))))) = false := by
        rw [D.any S, ll]
        simp
      have first := D.first S
      refine ⟨_, rfl, x, dx7, _, rfl, ex7, x, ns, _, rfl, st, S, lm, fun H8 s8 z => ?_, fun H8 k t c s8 z et ec => ?_⟩
      case' refine_1 =>
        have li : ¬ i < (pl ns).length := fun y => by
          rw [first, if_pos y] at z
          cases z
        have p8 := s8 _ _ p7
        refine ⟨_, rfl, _, rfl, p, xs, rfl, .inl (.inl (.inl p8)), _, _, rfl, rfl, _, rfl, iteQ (by rw [ll]; omega) ⟨.none, .none, .non, .non, rfl, rfl, _, rfl, ite2 (fun y => absurd y (by decide)) (fun _ => ?_)⟩⟩
      case' refine_2 =>
        have li : i < (pl ns).length := by
          cases Nat.lt_or_ge i (pl ns).length with
          | inl y => exact y
          | inr y =>
            rw [first, if_neg (by omega)] at z
            cases z
        have ki : i = k := by
          rw [first, if_pos li] at z
          exact Option.some.inj z
        subst ki
        have p8 := s8 _ _ p7
        obtain ⟨t2, c2, et2, ex2, ec2⟩ := (t7.same s8).tri (List.getElem?_eq_getElem (show i < xs.length by omega))
        obtain rfl : t2 = t := Option.some.inj (et2.symm.trans et)
        have dt3 : ∀ {Y : Hp} {o : Addr}, Y o = some (.tup (triV t2)) → Dp K Y (.ref o) (triD t2) := fun {Y o} e => .tup (.inl (.inl e)) (dp_ints K Y (triI t2))
        have ev : PyData.eqv (triD t2) (triD t2) = true := by
          show PyData.eqvAll ((triI t2).map .int) ((triI t2).map .int) = true
          rw [eqv_ints]
          exact decide_eq_true rfl
        refine ⟨_, rfl, _, rfl, p, xs, rfl, .inl (.inl (.inl p8)), _, _, rfl, rfl, _, rfl, iteP (by rw [ll]; omega) ⟨_, rfl, _, rfl, p, xs, i, .ref c2, rfl, rfl, .inl (.inl p8), atI_nat (by rw [List.getElem?_eq_getElem (show i < xs.length by omega), ex2]), triD t2, triD t2, dt3 ec, dt3 ec2, rfl, rfl, _, rfl, ite2 (fun y => absurd y (by rw [ev]; decide)) (fun _ => ?_)⟩⟩
      all_goals
        refine ⟨_, rfl, x, rfl, ⟨_, _, s8 _ _ ex7⟩, x, ns, _, rfl, st.same s8, _, rfl, by rw [lm]; omega, ?_⟩
        refine ⟨_, rfl, p, xs, rfl, .inl (.inl (.inl p8)), rfl, _, rfl, ite2 (fun y => absurd (hB.symm.trans y) Bool.false_ne_true) (fun _ => ?_)⟩
        refine ⟨_, rfl, x, rfl, ⟨_, _, s8 _ _ ex7⟩, x, ns, _, rfl, st.same s8, _, rfl, ?_⟩
        refine ⟨_, rfl, _, rfl, p, xs, rfl, .inl (.inl (.inl p8)), _, _, rfl, rfl, rfl, _, rfl, ite2 (fun y => absurd (hC.symm.trans y) Bool.false_ne_true) (fun _ => ?_)⟩
        refine ⟨_, rfl, x, dx7, _, rfl, s8 _ _ ex7, x, ns, _, rfl, st.same s8, fun nm en => ?_⟩
        have t8 := t7.same s8
        have e8 := s8 _ _ e7
        refine ⟨_, rfl, p, rfl, ⟨_, .inl (.inl p8)⟩, fun L2 nL2 => ?_⟩
        refine lc_list (K := K) (a := p) (xs := xs) (fun j Z => Same H8 Z ∧ Z L2 = some (.lst ((((pl ns).take j).map (numAt ps)).map V.int))) ⟨sub_same nL2, upd_same⟩ (fun j Z _ h => .inl (.inl (h.1 _ _ p8))) ?_ ?_
        · rintro j y Z2 hx ⟨sm, hl2⟩
          obtain ⟨t, c, et, rfl, ec⟩ := t8.tri hx
          refine ⟨rfl, yesT ⟨_, rfl, De, rfl, .inr ⟨ps, .inl (sm _ _ e8)⟩, _, rfl, _, DGet.t (k := triK t) (sm _ _ e8) (sm _ _ ec), ?_⟩⟩
          refine ⟨_, hl2, ?_, fun b ob eb => ?_, ?_⟩
          · rw [List.length_map, List.length_map, List.length_take, sizeLine_eq]
            omega
          · rw [upd_ne (fun z => by rw [z, nL2] at eb; cases eb)]
            exact sm _ _ eb
          · rw [upd_same, numAt_v (D.ent S) t, List.take_succ, et, List.map_append, List.map_append]
            rfl
        · rintro Z2 ⟨sm, hl2⟩
          rw [ll, List.take_length] at hl2
          refine .inl ⟨L2, _, rfl, .inl (.inl hl2), fun t nt => ?_⟩
          have sT := sub_same (o := .tup (((pl ns).map (numAt ps)).map V.int)) nt
          have dpI : ∀ {Y : Hp} {o : Addr}, Y o = some (.tup (((pl ns).map (numAt ps)).map V.int)) → Dp K Y (.ref o) (.tuple (((pl ns).map (numAt ps)).map .int)) := fun {Y o} e => .tup (.inl (.inl e)) (dp_ints K Y _)
          refine ⟨_, _, dpI (sT _ _ (sm _ _ en)), dpI upd_same, shaped_ints _, shaped_ints _, ?_⟩
          rw [show PyData.eqv (.tuple (((pl ns).map (numAt ps)).map .int)) (.tuple (((pl ns).map (numAt ps)).map .int)) = true from by
            show PyData.eqvAll _ _ = true
            rw [eqv_ints]
            exact decide_eq_true rfl]
          have sE := s8.trans (sm.trans sT)
          exact q _ (u7.same sE) (oF.trans (.of_same sE))
end
end K04

/-! # what is refused; a def with a code table -/
namespace K04
open PySem PySem.Spec PyProof.Rows L2 LamX
theorem call_repr_bool {X : Cx} : CallR X (.builtin "repr") (fun xs H Q => ∃ b : Bool, xs = [.bl b] ∧ Q (.str (if b then "True" else "False")) H) := by
  intro pins s σ H xs us Q I r h
  obtain ⟨b, rfl, q⟩ := h
  obtain ⟨u, rfl, ru⟩ := vals1 r
  obtain rfl : u = Value.bool b := ru
  exact PySem.P.repr_of_bool ⟨.str _, H, I.tok _, ⟨_, rfl⟩, q⟩
abbrev s_refused : Stmt := topS 55
theorem sc_refused : FnScope ["_law_call"] ["_law_call"] (defScope s_refused) := ⟨rfl, rfl, rfl, by decide +kernel, rfl, by decide +kernel, by decide +kernel⟩
/-- what is told of a lambda: whether the error came -/
def TRef (CS : Addr) : (XK → Hp → VK → Prop) → Hp → VK → Prop := fun tl H Q => tl (fun cls _ H' => cls = .ref CS ∧ Q (.bl true) H') H (fun _ H' => Q (.bl false) H')
theorem refused_gives {X : Cx} {g CS : Addr} {cdg : Value} {q : Str} (hme : X.mg "InvalidShape" = some (.ref CS)) (own : PySem.W.exmOne X.K (.ref CS) (.ref CS) = some true) :
    GivesTo X ["_law_call"] "_law_is_refused" (defScope s_refused) g cdg (defBody s_refused) "_law_call" q (TRef CS) := by
  intro f c' s H Q tl act hc h
  have hgl : Gl (cxOf C8.CX0 X.prog X.w X.K X.mg X.base ["_law_call"] "_law_is_refused" (defScope s_refused) g cdg X.A X.stack s H C8.E0).nox "InvalidShape" := by rfl
  refine ⟨_, pss_cons (ps_try_only (X := (cxOf C8.CX0 X.prog X.w X.K X.mg X.base ["_law_call"] "_law_is_refused" (defScope s_refused) g cdg X.A X.stack s H C8.E0).nox) (c := .ref CS)
      (tb := fun W D σ H => ∃ Ech : XK, (∀ cls d σ' H', Ech cls d H' → W cls d σ' H') ∧ σ[0]? = some (some (.ref f)) ∧ H c' = some (CodeO c' q) ∧ tl Ech H (fun _ H' => D.nx σ H'))
      rfl rfl ⟨hgl, by decide, .inl hme⟩ L2.takes0 (fun W pn xe tk _ => ?_) (fun a oe cls d pn _ _ => pss_one (ps_ret pe_bl))) (pss_one (ps_ret pe_bl)), ?_⟩
  · refine ⟨fun pins s' σ H' D I h' => ?_⟩
    obtain ⟨Ech, hW, h1, h2, h3⟩ := h'
    exact (pss_one (ps_expr (act W pn xe Ech _ _ tk hW))).run pins s' σ H' D I ⟨h1, h2, h3⟩
  · exact ⟨fun cls _ H' => cls = .ref CS ∧ Q (.bl true) H', fun cls d σ' H' ⟨e, qq⟩ => ⟨true, by rw [e]; exact own, fun _ a _ => qq, fun z => by cases z⟩, rfl, hc, h⟩
/-- a def whose code object is at c -/
structure FunC (K : PySem.W.Frag) (x : Str) (st : Stmt) (f c : Addr) (fd : FuncData) : Prop where
  ex : ∃ (oc : Value) (od : Option Addr) (kV doc pm : Value) (an : Option Addr) (ct : Value) (osl : Array (Option Value)),
    fd = PySem.W.fnOf x x (defArgs st) (defBody st) (defScope st) .none kV doc pm an (.ref c) ct ∧ K.lookup f = some ⟨oc, od, .func fd, osl⟩ ∧ PySem.W.codeIn K (.ref c) x = true
  kp : PySem.W.keepIn K (.ref f) = true
section
variable {P : Program} {w : World} {K : PySem.W.Frag} {mg : Str → Option Value} {base : Heap}
theorem FunC.ok {x : Str} {st : Stmt} {f c : Addr} {fd : FuncData} {N ps : List Str} {k : Nat} {sp : Sp} (F : FunC K x st f c fd) (S : FnScope N ps (defScope st)) (len : ∀ vs H Q E, sp vs H Q E → vs.length = ps.length)
    (body : ∀ (A : Around) (outer : List Env) (s : Shared) (H : Hp) (vs : List V) (Q : VK) (E : XK), Room k (A.deeper (envOfC x (defScope st) s.heap.objs.size f (.ref c))) → sp vs H Q E →
      ∃ t, PSs (cxOf CX0 P w K mg base N x (defScope st) f (.ref c) A outer s H E).nox (defBody st) t ∧ t { nx := fun _ H' => Q .non H', rt := Q } (L2.start N vs) H) : FnOk P w K mg base CX0 (k + 1) f fd ps sp := by
  obtain ⟨oc, od, kV, doc, pm, an, ct, osl, rfl, lk, hcd⟩ := F.ex
  refine fn_of lk hcd S len fun A outer s H vs Q E hr hsp => ?_
  obtain ⟨t, h, q⟩ := body A outer s H vs Q E hr hsp
  exact ⟨t, h.nox, q⟩
end
end K04

/-! # right -/
namespace K04
open PySem PySem.Spec PyProof.Rows L2 LamX
mutual
theorem Tv.ext {H H' : Hp} (o : ExtN H H') : ∀ {x : V} {d : PyData}, Tv H x d → Tv H' x d
  | _, _, .int n => .int n
  | _, _, .bl b => .bl b
  | _, _, .non => .non
  | _, _, .str z => .str z
  | _, _, .tup e l => .tup (o _ _ e (fun _ z => by cases z)) (TvL.ext o l)
theorem TvL.ext {H H' : Hp} (o : ExtN H H') : ∀ {xs : List V} {ds : List PyData}, TvL H xs ds → TvL H' xs ds
  | _, _, .nil => .nil
  | _, _, .cons a l => .cons (Tv.ext o a) (TvL.ext o l)
end
theorem Dw.ext {H H' : Hp} (o : ExtN H H') {x : V} {d : PyData} (h : Dw H x d) : Dw H' x d := by
  cases h with
  | tv t => exact .tv (t.ext o)
  | lst e => exact .lst (o _ _ e (fun _ z => by cases z))
  | dic e => exact .dic (o _ _ e (fun _ z => by cases z))
theorem Urn.ext {H H' : Hp} {u : Addr} (h : Urn H u) (o : ExtN H H') : Urn H' u := by
  obtain ⟨g, m, c, e⟩ := h
  exact ⟨g, m, c, o _ _ e (fun _ z => by cases z)⟩
/-- all but the pot and the tables stays -/
def Fwd (u : Addr) (H H' : Hp) : Prop := ∀ b o, b ≠ u → (∀ ps, o ≠ .tbl ps) → H b = some o → H' b = some o
theorem Fwd.ext {u : Addr} {H H1 H2 : Hp} (f : Fwd u H H1) (o : ExtN H1 H2) : Fwd u H H2 := fun b ob n t e => o _ _ (f b ob n t e) t
theorem Fwd.old {u : Addr} {H H1 H2 : Hp} (f : Fwd u H H1) (o : Old u H1 H2) : Fwd u H H2 := fun b ob n t e => o _ _ n (f b ob n t e)
theorem Fwd.same {u : Addr} {H H1 H2 : Hp} (f : Fwd u H H1) (o : Same H1 H2) : Fwd u H H2 := fun b ob n t e => o _ _ (f b ob n t e)
theorem tabs_old {T : List (Addr × Str)} {H H' : Hp} {u : Addr} (hu : Urn H u) (t : Tabs T H) (o : Old u H H') : Tabs T H' := fun p m => by
  obtain ⟨g, mm, c, e⟩ := hu
  obtain ⟨ps, h1, h2, h3⟩ := t p m
  refine ⟨ps, o _ _ (fun z => by rw [z, e] at h1; cases h1) h1, h2, fun pos cv hc => ?_⟩
  obtain ⟨k, e1, e2⟩ := h3 pos cv hc
  exact ⟨k, e1, o _ _ (fun z => by rw [z, e] at e2; cases e2) e2⟩
theorem tabs_same {T : List (Addr × Str)} {H H' : Hp} (t : Tabs T H) (s : Same H H') : Tabs T H' := t.ext s
/-- what a turn keeps -/
structure Kp (u : Addr) (x : V) (d : PyData) (T : List (Addr × Str)) (H Z : Hp) : Prop where
  uu : Urn Z u
  dw : Dw Z x d
  tb : Tabs T Z
  fw : Fwd u H Z
theorem Kp.ext {u : Addr} {x : V} {d : PyData} {T : List (Addr × Str)} {H Z Z' : Hp} (k : Kp u x d T H Z) (o : ExtN Z Z') (t : Tabs T Z') : Kp u x d T H Z' := ⟨k.uu.ext o, k.dw.ext o, t, k.fw.ext o⟩
theorem Kp.same {u : Addr} {x : V} {d : PyData} {T : List (Addr × Str)} {H Z Z' : Hp} (k : Kp u x d T H Z) (s : Same Z Z') : Kp u x d T H Z' := ⟨k.uu.same s, k.dw.same s, tabs_same k.tb s, k.fw.same s⟩
theorem Dw.new {H : Hp} {L : Addr} {x : V} {d : PyData} (h : Dw H x d) (n : H L = none) : x ≠ .ref L := fun z => by
  cases h with
  | tv t =>
    cases t with
    | tup e l =>
      cases z
      rw [n] at e
      cases e
    | _ => cases z
  | lst e =>
    cases z
    rw [n] at e
    cases e
  | dic e =>
    cases z
    rw [n] at e
    cases e
theorem Dw.put {H : Hp} {L : Addr} {xs ys : List V} {x : V} {d : PyData} (h : Dw H x d) (e : H L = some (.lst xs)) (n : x ≠ .ref L) : Dw (upd H L (.lst ys)) x d := by
  cases h with
  | tv t => exact .tv (t.put e)
  | lst e2 => exact .lst (by rw [upd_ne (fun z => n (by rw [z]))]; exact e2)
  | dic e2 => exact .dic (by rw [upd_ne (fun z => n (by rw [z]))]; exact e2)
theorem Kp.put {u L : Addr} {x : V} {d : PyData} {T : List (Addr × Str)} {H Z0 Z : Hp} {xs ys : List V} (k0 : Kp u x d T H Z0) (n : Z0 L = none) (k : Kp u x d T H Z) (e : Z L = some (.lst xs)) : Kp u x d T H (upd Z L (.lst ys)) := by
  have Lu : L ≠ u := urn_ne k0.uu n
  refine ⟨?_, k.dw.put e (k0.dw.new n), fun p m => ?_, fun b o nb t h => ?_⟩
  · obtain ⟨g, m, c, eu⟩ := k.uu
    exact ⟨g, m, c, by rw [upd_ne (Ne.symm Lu)]; exact eu⟩
  · obtain ⟨ps, h1, h2, h3⟩ := k.tb p m
    refine ⟨ps, by rw [upd_ne (fun z => by rw [z, e] at h1; cases h1)]; exact h1, h2, fun pos cv hc => ?_⟩
    obtain ⟨c, e1, e2⟩ := h3 pos cv hc
    exact ⟨c, e1, by rw [upd_ne (fun z => by rw [z, e] at e2; cases e2)]; exact e2⟩
  · by_cases z : b = L
    · rw [z] at h nb
      have y := k0.fw L o Lu t h
      rw [n] at y
      cases y
    · rw [upd_ne z]
      exact k.fw b o nb t h
def qlam : Str := ("_law_right" : Str) ++ ".<locals>." ++ "<lambda>"
theorem tables4 : ∀ ns ∈ shapesL, SeqAt.shaped (.tuple ((pl ns).map triD)) = true ∧ (∀ t ∈ pl ns, ∀ m ∈ triI t, 0 ≤ m ∧ m < 8) ∧ pl ns ≠ [] ∧ PyData.eqv (.tuple ((pl ns).map triD)) (.tuple ((pl ns).map triD)) = true := by decide +kernel
section
variable {P : Program} {w : World} {K : PySem.W.Frag} {mg : Str → Option Value} {base : Heap} {C CS : Addr}
abbrev s_right : Stmt := topS 57
theorem sc_right : FnScope ["_law_pot_here", "_law_turn", "_law_value", "_law_told", "_law_row", "_law_again", "_law_near_here"] ["_law_pot_here"] (defScope s_right) := ⟨rfl, rfl, rfl, by decide +kernel, rfl, by decide +kernel, by decide +kernel⟩
def spRight (Pt : Addr) : Sp := fun vs H Q _ => ∃ u : Addr, vs = [.ref u] ∧ Urn H u ∧ Tabs [(Pt, qlam)] H ∧ ∀ H', Urn H' u → Tabs [(Pt, qlam)] H' → Fwd u H H' → Q (.bl true) H'
theorem ok_right {f c Pt gR fI p10 g10 f1 f2 f3 f4 f5 f6 f7 f8 f9 fs : Addr} {mc : Value} {fd fdR fdI fd10 fd1 fd2 fd3 fd4 fd5 fd6 fd7 fd8 fd9 fds : FuncData} (T : Txt mg) (N : Nam mg) (R : SC K mg C) (d : FunC K "_law_right" s_right f c fd)
    (TB : TabB base mg c Pt) (dR : D K mg "_law_is_refused" s_refused ["_law_call"] gR fdR) (gX : mg "InvalidShape" = some (.ref CS)) (own : PySem.W.exmOne K (.ref CS) (.ref CS) = some true)
    (d1 : D K mg "is_shape" s_is_shape ["value"] f1 fd1) (G1 : FnOk P w K mg base CX0 3 f1 fd1 ["value"] spShape)
    (d2 : D K mg "_law_sizes" s_sizes ["_law_pot_here"] f2 fd2) (G2 : FnOk P w K mg base CX0 3 f2 fd2 ["_law_pot_here"] spSizes)
    (d3 : D K mg "_law_is_right" s_right_of ["_law_value"] f3 fd3) (G3 : FnOk P w K mg base CX0 1 f3 fd3 ["_law_value"] spRightOf)
    (d4 : D K mg "places" s_places ["shape"] f4 fd4) (G4 : FnOk P w K mg base (L2.CX P w) 5 f4 fd4 ["shape"] (spPlaces CS))
    (d5 : D K mg "is_place" s_place ["shape", "value"] f5 fd5) (G5 : FnOk P w K mg base (L2.CX P w) 5 f5 fd5 ["shape", "value"] (spPlace CS))
    (d6 : D K mg "_law_leads_right" s_leads ["_law_pot_here", "_law_shape"] f6 fd6) (G6 : FnOk P w K mg base CX0 10 f6 fd6 ["_law_pot_here", "_law_shape"] spLeads)
    (d7 : D K mg "_law_near" s_near ["_law_pot_here", "_law_place"] f7 fd7) (G7 : FnOk P w K mg base CX0 3 f7 fd7 ["_law_pot_here", "_law_place"] spNear)
    (d8 : D K mg "_law_is_one" s_one ["_law_shape", "_law_value"] f8 fd8) (G8 : FnOk P w K mg base CX0 2 f8 fd8 ["_law_shape", "_law_value"] spOne)
    (d9 : D K mg "_law_places" s_lplaces ["_law_shape"] f9 fd9) (G9 : FnOk P w K mg base CX0 1 f9 fd9 ["_law_shape"] spLPlaces)
    (ds : D K mg "_law_pick" s_pick ["_law_pot_here", "_law_items"] fs fds) (Gs : FnOk P w K mg base CX0 2 fs fds ["_law_pot_here", "_law_items"] spSome)
    (mk : Mk K C fI) (GIX : FnOk P w K mg base (L2.CX P w) 5 fI fdI ["self", "shape", "entries"] (spInitX CS)) (bI : Binds K fdI ["self", "shape", "entries"] [])
    (rd : ClX.CRead K C mc) (cm : ClX.CMet K C mc "one" p10 g10) (G10 : FnOk P w K mg base (L2.CX P w) 7 g10 fd10 ["cls", "shape"] (spOne1 C CS)) (b10 : Binds K fd10 ["cls", "shape"] []) :
    FnOk P w K mg base CX0 11 f fd ["_law_pot_here"] (spRight Pt) := by
  obtain ⟨⟨⟨ocR, odR, kVR, docR, pmR, anR, cdvR, ctR, oslR, rfl, lkR, hcR⟩, kR⟩, gRm, bR⟩ := dR
  have gR := gRm
  refine d.ok sc_right (fun vs H Q E h => ?_) (fun A outer s H vs Q E hr h => ?_)
  · obtain ⟨u, rfl, _⟩ := h
    rfl
  · obtain ⟨u, rfl, uu, tb, q⟩ := h
    have un : (A.deeper (envOfC "_law_right" (defScope s_right) s.heap.objs.size f (.ref c))).units + 64 < cLine := by have := hr.un; omega
    refine ⟨_, (pss_cons (ps_for PassesOwn.never rfl (pi_range1 (by rfl) T.n_range (pa_cons pe_int pa_nil)) (pg_name (i := 1) sc_right.nd rfl (.inl rfl))
        (pss_cons (ps_set (i := 2) sc_right.nd rfl (.inr rfl) (pe_call G2 (hr.mono (by decide)) (by rfl) d2.g d2.F.kp d2.b .nil pass0 (pa_cons (pv 0) pa_nil)))
      (pss_cons (ps_if (pt_cmpR op_ne (pe_callB call_repr_bool (by rfl) T.n_repr (by decide +kernel) (pa_cons (pe_call G1 (hr.mono (by decide)) (by rfl) d1.g d1.F.kp d1.b .nil pass0 (pa_cons (pv 2) pa_nil)) pa_nil)) (pe_callB call_repr_bool (by rfl) T.n_repr (by decide +kernel) (pa_cons (pe_call G3 (hr.mono (by decide)) (by rfl) d3.g d3.F.kp d3.b .nil pass0 (pa_cons (pv 2) pa_nil)) pa_nil)) (nomark _)) (pss_one (ps_ret pe_bl)) pss_nil)
      (pss_cons (ps_if (pt_not (pt_val (pe_call G3 (hr.mono (by decide)) (by rfl) d3.g d3.F.kp d3.b .nil pass0 (pa_cons (pv 2) pa_nil)))) (pss_cons (ps_set (i := 3) sc_right.nd rfl (.inl rfl) (pe_lst (pa_cons (pe_lamcall (k := 8) (T := [(Pt, qlam)]) (by rfl) gR kR lkR hcR bR sc_refused rfl (.inl rfl) (refused_gives gX own) TB rfl (List.mem_singleton.mpr rfl) (fun p m _ => by rw [List.mem_singleton.mp m]; rfl) (hr.mono (by decide)) (lamS_by (sc := defScope s_right) (by decide +kernel)) rfl (fun _ _ _ _ _ => rfl) (fun _ _ _ _ E2 _ _ hr2 => pe_call (E := E2) G4 (hr2.mono (by decide)) (by rfl) d4.g d4.F.kp d4.b .nil (passes_call (takes_of rfl rfl rfl rfl) (fun _ _ _ _ h => h)) (pa_cons (pv 2) pa_nil))) pa_nil)))
      (pss_cons (ps_expr (pe_bm PySem.F.plainAttrs_list PySem.F.slot_list_append PySem.F.type_list_append mt_append (pv 3) (pa_cons (pe_lamcall (k := 8) (T := [(Pt, qlam)]) (by rfl) gR kR lkR hcR bR sc_refused rfl (.inl rfl) (refused_gives gX own) TB rfl (List.mem_singleton.mpr rfl) (fun p m _ => by rw [List.mem_singleton.mp m]; rfl) (hr.mono (by decide)) (lamS_by (sc := defScope s_right) (by decide +kernel)) rfl (fun _ _ _ _ _ => rfl) (fun _ _ _ _ E2 _ _ hr2 => pe_call (E := E2) G5 (hr2.mono (by decide)) (by rfl) d5.g d5.F.kp d5.b .nil (passes_call (takes_of rfl rfl rfl rfl) (fun _ _ _ _ h => h)) (pa_cons (pv 2) (pa_cons (pe_tup (pa_cons pe_int (pa_cons pe_int (pa_cons pe_int pa_nil)))) pa_nil)))) pa_nil)))
      (pss_cons (ps_expr (pe_bm PySem.F.plainAttrs_list PySem.F.slot_list_append PySem.F.type_list_append mt_append (pv 3) (pa_cons (pe_lamcall (k := 8) (T := [(Pt, qlam)]) (by rfl) gR kR lkR hcR bR sc_refused rfl (.inl rfl) (refused_gives gX own) TB rfl (List.mem_singleton.mpr rfl) (fun p m _ => by rw [List.mem_singleton.mp m]; rfl) (hr.mono (by decide)) (lamS_by (sc := defScope s_right) (by decide +kernel)) rfl (fun _ _ _ _ _ => rfl) (fun _ _ _ _ E2 _ _ hr2 => pe_make (E := E2) mk GIX (hr2.mono (by decide)) (by rfl) R.mC bI .nil (passes_call (takes_of rfl rfl rfl rfl) (fun _ _ _ _ h => h)) (pa_cons (pv 2) (pa_cons pe_non pa_nil)))) pa_nil)))
      (pss_cons (ps_expr (pe_bm PySem.F.plainAttrs_list PySem.F.slot_list_append PySem.F.type_list_append mt_append (pv 3) (pa_cons (pe_lamcall (k := 8) (T := [(Pt, qlam)]) (by rfl) gR kR lkR hcR bR sc_refused rfl (.inl rfl) (refused_gives gX own) TB rfl (List.mem_singleton.mpr rfl) (fun p m _ => by rw [List.mem_singleton.mp m]; rfl) (hr.mono (by decide)) (lamS_by (sc := defScope s_right) (by decide +kernel)) rfl (fun _ _ _ _ _ => rfl) (fun _ _ _ _ E2 _ _ hr2 => ClX.pe_cmeth (E := E2) (pe_glob (v := .ref C) rfl R.mC rfl) rd cm (G10.raw b10 .nil) (hr2.mono (by decide)) (passes_call (takes_of rfl rfl rfl rfl) (fun _ _ _ _ h => h)) (pa_cons (pv 2) pa_nil))) pa_nil)))
      (pss_cons (ps_if (pt_cmpR (op_neD un) (pv 3) (pe_op op_rep (pe_lst (pa_cons pe_bl pa_nil)) pe_int) (nomark _)) (pss_one (ps_ret pe_bl)) pss_nil)
      (pss_one ps_continue)))))) pss_nil)
      (pss_cons (ps_set (i := 4) sc_right.nd rfl (.inl rfl) (pe_call G9 (hr.mono (by decide)) (by rfl) d9.g d9.F.kp d9.b .nil pass0 (pa_cons (pv 2) pa_nil)))
      (pss_cons (ps_if (PW.pt (pw_or (pt_cmpR (op_neD un) (pe_call (E := fun _ _ _ => False) G4 (hr.mono (by decide)) (by rfl) d4.g d4.F.kp d4.b .nil passF (pa_cons (pv 2) pa_nil)) (pe_tupleOf (by rfl) T.n_tuple (pv 4)) (nomark _)) (pw_or1 (pt_not (pt_val (pe_call G6 (hr.mono (by decide)) (by rfl) d6.g d6.F.kp d6.b .nil pass0 (pa_cons (pv 0) (pa_cons (pv 2) pa_nil)))))))) (pss_one (ps_ret pe_bl)) pss_nil)
      (pss_one (ps_for PassesOwn.never rfl (pi_range1 (by rfl) T.n_range (pa_cons pe_int pa_nil)) (pg_name (i := 5) sc_right.nd rfl (.inl rfl))
        (pss_cons (ps_set (i := 6) sc_right.nd rfl (.inl rfl) (pe_call G7 (hr.mono (by decide)) (by rfl) d7.g d7.F.kp d7.b .nil pass0 (pa_cons (pv 0) (pa_cons (pe_call Gs (hr.mono (by decide)) (by rfl) ds.g ds.F.kp ds.b .nil pass0 (pa_cons (pv 0) (pa_cons (pv 4) pa_nil))) pa_nil))))
      (pss_one (ps_if (pt_cmpR op_ne (pe_callB call_repr_bool (by rfl) T.n_repr (by decide +kernel) (pa_cons (pe_call (E := fun _ _ _ => False) G5 (hr.mono (by decide)) (by rfl) d5.g d5.F.kp d5.b .nil passF (pa_cons (pv 2) (pa_cons (pv 6) pa_nil))) pa_nil)) (pe_callB call_repr_bool (by rfl) T.n_repr (by decide +kernel) (pa_cons (pe_call G8 (hr.mono (by decide)) (by rfl) d8.g d8.F.kp d8.b .nil pass0 (pa_cons (pv 2) (pa_cons (pv 6) pa_nil))) pa_nil)) (nomark _)) (pss_one (ps_ret pe_bl)) pss_nil)))))))))))
      (pss_one (ps_ret pe_bl))), ?_⟩
    refine ⟨6, rfl, by decide, by decide, ?_⟩
    refine for_range (lo := 0) (n := 6) (fun i σ Z => (∃ y1 y2 y3 y4 y5 y6, σ = [some (.ref u), y1, y2, y3, y4, y5, y6]) ∧ Urn Z u ∧ Tabs [(Pt, qlam)] Z ∧ Fwd u H Z) ⟨⟨_, _, _, _, _, _, rfl⟩, uu, tb, fun _ _ _ _ e => e⟩ ?_ ?_
    · rintro i σ Z hi ⟨⟨y1, y2, y3, y4, y5, y6, rfl⟩, uz, tz, fz⟩
      refine ⟨_, rfl, u, rfl, uz, fun x d H1 u1 o1 hd => ?_⟩
      have k1 : Kp u x d [(Pt, qlam)] H H1 := ⟨u1, hd, tabs_old uz tz o1, fz.old o1⟩
      clear u1 o1 hd uz tz fz
      refine ⟨_, rfl, x, d, rfl, k1.dw, fun H2 s2 => ⟨_, rfl, ?_⟩⟩
      have k2 := k1.same s2
      refine ⟨_, rfl, x, d, rfl, k2.dw, _, rfl, rfl, _, rfl, ite2 (fun z => absurd z (by simp)) (fun _ => ?_)⟩
      refine ⟨_, rfl, x, d, rfl, k2.dw, _, rfl, ?_⟩
      cases sh : isSh d with
      | false =>
        refine ite2 (fun _ => ?_) (fun z => absurd rfl z)
        have no : ∀ ns : List Int, d = .tuple (ns.map .int) → Shp ns → False := fun ns e S => by
          rw [e, shp_is S] at sh
          cases sh
        refine ⟨k2.tb, fun H3 e3 t3 => ?_⟩
        have k3 := k2.ext e3 t3
        refine ⟨_, rfl, x, d, rfl, k3.dw, fun ns e S => (no ns e S).elim, fun _ H4 s4 => ⟨rfl, ?_⟩⟩
        have k4 := k3.same s4
        refine ⟨(by show 1 ≤ sizeLine; decide), fun L nL => ?_⟩
        have k5 := k4.same (sub_same (o := .lst [.bl true]) nL)
        have hL5 : upd H4 L (.lst [.bl true]) L = some (.lst [.bl true]) := upd_same
        revert k5 hL5
        generalize upd H4 L (.lst [.bl true]) = H5
        intro k5 hL5
        refine ⟨_, rfl, .inl ⟨rfl, _, .inl (.inl hL5)⟩, k5.tb, fun H6 e6 t6 => ?_⟩
        have k6 := k5.ext e6 t6
        have hL6 := e6 _ _ hL5 (fun _ z => by cases z)
        refine ⟨_, rfl, (by show 3 ≤ sizeLine; decide), fun tp ntp => ?_⟩
        have k6' := k6.same (sub_same (o := .tup [.int 0, .int 0, .int 1]) ntp)
        refine ⟨x, .ref tp, d, triD (0, 0, 1), rfl, k6'.dw, .tv (.tup upd_same (tvl_ints [0, 0, 1])), fun ns e S => (no ns e S).elim, fun _ H7 s7 => ⟨rfl, ?_⟩⟩
        have k7 := k6'.same s7
        have hL7 := s7 _ _ (sub_same (o := .tup [.int 0, .int 0, .int 1]) ntp _ _ hL6)
        refine ⟨L, _, _, rfl, rfl, hL7, (by show 1 < sizeLine; decide), ?_⟩
        have k8 : Kp u x d [(Pt, qlam)] H (upd H7 L (.lst ([.bl true] ++ [.bl true]))) := Kp.put k4 nL k7 hL7
        have hL8 : upd H7 L (.lst ([.bl true] ++ [.bl true])) L = some (.lst ([.bl true] ++ [.bl true])) := upd_same
        revert k8 hL8
        generalize upd H7 L (.lst ([.bl true] ++ [.bl true])) = H8
        intro k8 hL8
        refine ⟨_, rfl, .inl ⟨rfl, _, .inl (.inl hL8)⟩, k8.tb, fun H9 e9 t9 => ?_⟩
        have k9 := k8.ext e9 t9
        have hL9 := e9 _ _ hL8 (fun _ z => by cases z)
        refine ⟨_, rfl, fun b db nb ndb neb => ?_⟩
        have s10 : Same H9 (upd (upd H9 db (.own b)) b (.ins C db [])) := (sub_same ndb).trans (sub_same (by rw [upd_ne (Ne.symm neb)]; exact nb))
        refine ⟨_, x, _, d, rfl, k9.dw.same s10, sh, fun H11 s11 => ⟨rfl, ?_⟩⟩
        have k11 := k9.same (s10.trans s11)
        have hL11 := s11 _ _ (s10 _ _ hL9)
        refine ⟨L, _, _, rfl, rfl, hL11, (by show 2 < sizeLine; decide), ?_⟩
        have k12 : Kp u x d [(Pt, qlam)] H (upd H11 L (.lst ([.bl true] ++ [.bl true] ++ [.bl true]))) := Kp.put k4 nL k11 hL11
        have hL12 : upd H11 L (.lst ([.bl true] ++ [.bl true] ++ [.bl true])) L = some (.lst ([.bl true] ++ [.bl true] ++ [.bl true])) := upd_same
        revert k12 hL12
        generalize upd H11 L (.lst ([.bl true] ++ [.bl true] ++ [.bl true])) = H12
        intro k12 hL12
        refine ⟨_, rfl, .inl ⟨rfl, _, .inl (.inl hL12)⟩, k12.tb, fun H13 e13 t13 => ?_⟩
        have k13 := k12.ext e13 t13
        have hL13 := e13 _ _ hL12 (fun _ z => by cases z)
        refine ⟨rfl, _, rfl, x, d, rfl, k13.dw, sh, fun H14 s14 => ⟨rfl, ?_⟩⟩
        have k14 := k13.same s14
        have hL14 := s14 _ _ hL13
        refine ⟨L, _, _, rfl, rfl, hL14, (by show 3 < sizeLine; decide), ?_⟩
        have k15 : Kp u x d [(Pt, qlam)] H (upd H14 L (.lst ([.bl true] ++ [.bl true] ++ [.bl true] ++ [.bl true]))) := Kp.put k4 nL k14 hL14
        have hL15 : upd H14 L (.lst ([.bl true] ++ [.bl true] ++ [.bl true] ++ [.bl true])) L = some (.lst [.bl true, .bl true, .bl true, .bl true]) := upd_same
        revert k15 hL15
        generalize upd H14 L (.lst ([.bl true] ++ [.bl true] ++ [.bl true] ++ [.bl true])) = H15
        intro k15 hL15
        refine ⟨_, rfl, (by show 1 ≤ sizeLine; decide), fun p1 n1 => ⟨p1, 4, [.bl true], rfl, rfl, upd_same, by decide, by decide, (by show 4 ≤ sizeLine; decide), fun p2 n2 => ?_⟩⟩
        have s16 : Same H15 (upd (upd H15 p1 (.lst [.bl true])) p2 (.lst (List.replicate (4 : Int).toNat [V.bl true]).flatten)) := (sub_same n1).trans (sub_same n2)
        have hp16 : upd (upd H15 p1 (.lst [.bl true])) p2 (.lst (List.replicate (4 : Int).toNat [V.bl true]).flatten) p2 = some (.lst [.bl true, .bl true, .bl true, .bl true]) := upd_same
        revert s16 hp16
        generalize upd (upd H15 p1 (.lst [.bl true])) p2 (.lst (List.replicate (4 : Int).toNat [V.bl true]).flatten) = H16
        intro s16 hp16
        have k16 := k15.same s16
        have four : ∀ {b : Addr}, H16 b = some (.lst [.bl true, .bl true, .bl true, .bl true]) → Dp K H16 (.ref b) (.list [.bool true, .bool true, .bool true, .bool true]) := fun {b} e =>
          .lst (.inl (.inl e)) (TvL.dp K (.cons (.bl true) (.cons (.bl true) (.cons (.bl true) (.cons (.bl true) .nil)))))
        refine ⟨_, _, four (s16 _ _ hL15), four hp16, rfl, rfl, _, rfl, ite2 (fun z => absurd z (by decide)) (fun _ => ?_)⟩
        exact ⟨⟨_, _, _, _, _, _, rfl⟩, k16.uu, k16.tb, k16.fw⟩
      | true =>
        refine ite2 (fun z => absurd z Bool.false_ne_true) (fun _ => ?_)
        obtain ⟨ns, rfl, S⟩ := shp_of sh
        obtain ⟨a, rfl, ea⟩ : ∃ a, x = .ref a ∧ H2 a = some (.tup (ns.map V.int)) := by
          cases k2.dw with
          | tv t =>
            cases t with
            | tup e l =>
              rw [l.ints] at e
              exact ⟨_, rfl, e⟩
        have au : a ≠ u := fun z => by
          obtain ⟨g, m, c2, e⟩ := k2.uu
          rw [z, e] at ea
          cases ea
        obtain ⟨sh1, bnd, ne0, ev⟩ := tables4 ns (shp_mem S)
        have l30 := (tables3 ns (shp_mem S)).2.1
        refine ⟨_, rfl, a, ns, rfl, ea, S, fun H3 p xs s3 np hp tl => ?_⟩
        have k3 := k2.same s3
        have ea3 := s3 _ _ ea
        have pu : p ≠ u := urn_ne k2.uu np
        have ll : xs.length = (pl ns).length := by rw [tl.len, List.length_map]
        refine ⟨_, rfl, .ref a, .tuple (ns.map .int), rfl, k3.dw, fun ns' en S' H4 y s4 ty => ?_, fun z => absurd sh (by rw [z]; decide)⟩
        obtain rfl : ns' = ns := (ints_inj (PyData.tuple.inj en)).symm
        have hp4 := s4 _ _ hp
        refine ⟨_, rfl, .inl ⟨p, xs, rfl, .inl (.inl hp4), fun t nt => ?_⟩⟩
        have s5 := sub_same (o := .tup xs) nt
        refine ⟨.tuple ((pl ns').map triD), .tuple ((pl ns').map triD), (ty.same s5).dp K, (Tv.tup upd_same ((tl.same s4).same s5)).dp K, sh1, sh1, _, rfl, ite2 (fun z => absurd z (by rw [ev]; decide)) (fun _ => ?_)⟩
        have k5 := (k3.same s4).same s5
        have ea5 := s5 _ _ (s4 _ _ ea3)
        have hp5 := s5 _ _ hp4
        have tl5 := (tl.same s4).same s5
        revert k5 ea5 hp5 tl5
        generalize upd H4 t (.tup xs) = H5
        intro k5 ea5 hp5 tl5
        refine ⟨_, rfl, _, rfl, u, a, ns', rfl, k5.uu, ea5, S, fun H6 u6 o6 => ⟨true, rfl, ite2 (fun z => absurd z Bool.false_ne_true) (fun _ => ?_)⟩⟩
        have ea6 := o6 _ _ au ea5
        have hp6 := o6 _ _ pu hp5
        have tl6 : TvL H6 xs ((pl ns').map triD) := tl5.old k5.uu o6
        have tb6 := tabs_old k5.uu k5.tb o6
        have fw6 := k5.fw.old o6
        refine ⟨6, rfl, by decide, by decide, ?_⟩
        refine for_range (lo := 0) (n := 6) (fun j σ Z => (∃ y3 y5 y6, σ = [some (.ref u), some (.int (0 + (i : Int))), some (.ref a), y3, some (.ref p), y5, y6]) ∧ Urn Z u ∧ Old u H6 Z) ⟨⟨_, _, _, rfl⟩, u6, fun _ _ _ e => e⟩ ?_ ?_
        · rintro j σ Z hj ⟨⟨y3, y5, y6, rfl⟩, uz, oz⟩
          have lx : xs ≠ [] := fun z => by
            rw [z] at ll
            exact ne0 (List.length_eq_zero_iff.mp ll.symm)
          refine ⟨_, rfl, _, rfl, _, rfl, u, p, xs, rfl, uz, oz _ _ pu hp6, pu, lx, by omega, fun m v H7 ev7 u7 b7 => ?_⟩
          have o7 : Old u Z H7 := .of_but b7
          obtain ⟨t, c2, et, rfl, ec⟩ := (tl6.old u6 (oz.trans o7)).tri ev7
          refine ⟨u, c2, t, rfl, u7, ec, bnd t (List.mem_of_getElem? et), fun y e H8 u8 o8 hd8 fit => ?_⟩
          have o68 : Old u H6 H8 := (oz.trans o7).trans o8
          have ea8 := o68 _ _ au ea6
          refine ⟨_, rfl, _, rfl, .ref a, y, .tuple (ns'.map .int), e, rfl, .tv (.tup ea8 (tvl_ints ns')), hd8, fun ns2 en2 S2 H9 s9 => ?_, fun z => absurd sh (by rw [z]; decide)⟩
          obtain rfl : ns2 = ns' := (ints_inj (PyData.tuple.inj en2)).symm
          refine ⟨_, rfl, _, rfl, _, rfl, a, ns2, y, e, rfl, s9 _ _ ea8, S, hd8.same s9, fit, fun H10 s10 => ?_⟩
          refine ⟨_, rfl, rfl, _, rfl, ite2 (fun z => absurd z (by simp)) (fun _ => ?_)⟩
          have s810 := s9.trans s10
          exact ⟨⟨_, _, _, rfl⟩, u8.same s810, o68.trans (.of_same s810)⟩
        · rintro σ Z ⟨⟨y3, y5, y6, rfl⟩, uz, oz⟩
          exact ⟨⟨_, _, _, _, _, _, rfl⟩, uz, tabs_old u6 tb6 oz, fw6.old oz⟩
    · rintro σ Z ⟨⟨y1, y2, y3, y4, y5, y6, rfl⟩, uz, tz, fz⟩
      exact q Z uz tz fz
end
end K04

/-! # the law -/
namespace K04
open PySem PySem.Spec PyProof.Rows L2 LamX
theorem call_len_seqK {X : Cx} {K : PySem.W.Frag} (h : X.K = K) : CallR X (.builtin "len") (fun vs H Q => ∃ (a : Addr) (xs : List V), vs = [V.ref a] ∧ (SqL K H a xs ∨ SqT K H a xs) ∧ Q (.int (xs.length : Nat)) H) := by
  rw [← h]
  exact call_len_seq
theorem seq_fwd {K : PySem.W.Frag} {Z Z1 Z2 : Hp} {a u : Addr} {xs : List V} (h : SqL K Z a xs) (n : Z u = none) (s : Same Z Z1) (f : Fwd u Z1 Z2) : SqL K Z2 a xs := by
  rcases h with (e | ⟨od, e⟩) | h
  · exact .inl (.inl (f _ _ (ne_of_none e n) (fun _ z => by cases z) (s _ _ e)))
  · exact .inl (.inr ⟨od, f _ _ (ne_of_none e n) (fun _ z => by cases z) (s _ _ e)⟩)
  · exact .inr h
def five : List (List Int) := [[2], [6], [2, 6], [4, 4], [3, 3, 2]]
def cnt : List Int := [1, 15, 16, 12, 7]
theorem five_ok : ∀ i ∈ List.range 5, cnt[i]? = some ((pl (five.getD i [])).length : Int) ∧ isSh (.tuple ((five.getD i []).map .int)) = true := by decide +kernel
def fst5 : List Tri := [(0, 0, 1), (1, 0, 1), (1, 1, 2), (2, 0, 1), (1, 0, 2)]
theorem fst_ok : pl [2, 3, 2] = fst5 ∧ isSh (.tuple ([2, 3, 2].map .int)) = true ∧ isSh (.tuple ([4, 5].map .int)) = false ∧ PyData.eqv (.tuple (fst5.map triD)) (.tuple (fst5.map triD)) = true ∧ SeqAt.shaped (.tuple (fst5.map triD)) = true ∧ PyData.eqv (.list (cnt.map .int)) (.list (cnt.map .int)) = true ∧ SeqAt.shaped (.list (cnt.map .int)) = true := by decide +kernel
theorem turns (z : Int) : -(2 ^ 62) ≤ (if (if z < 6 then z else 6) > 1 then (if z < 6 then z else 6) else 1) ∧ (if (if z < 6 then z else 6) > 1 then (if z < 6 then z else 6) else 1) < 2 ^ 62 ∧ (if (if z < 6 then z else 6) > 1 then (if z < 6 then z else 6) else 1) ≤ 6 := by
  split <;> split <;> omega
section
variable {P : Program} {w : World} {K : PySem.W.Frag} {mg : Str → Option Value} {base : Heap} {C CS : Addr}
abbrev s_law : Stmt := topS 58
theorem sc_law : FnScope ["_law_script", "_law_at", "_law_told", "_law_first", "_law_shape"] ["_law_script"] (defScope s_law) := ⟨rfl, rfl, rfl, by decide +kernel, rfl, by decide +kernel, by decide +kernel⟩
def spLaw (K : PySem.W.Frag) (Pt : Addr) : Sp := fun vs H Q _ => ∃ (a : Addr) (ns : List Int), vs = [.ref a] ∧ SqL K H a (ns.map V.int) ∧ ns.length ≤ 63 ∧ Tabs [(Pt, qlam)] H ∧ ∀ H', Q (.bl true) H'
theorem ok_law {f f1 f2 f3 f4 Pt : Addr} {fd fd1 fd2 fd3 fd4 : FuncData} (T : Txt mg) (N : Nam mg) (d : D K mg "law" s_law ["_law_script"] f fd)
    (d1 : D K mg "_law_right" s_right ["_law_pot_here"] f1 fd1) (G1 : FnOk P w K mg base CX0 11 f1 fd1 ["_law_pot_here"] (spRight Pt))
    (d2 : D K mg "_law_pot" s_pot ["_law_script", "_law_at"] f2 fd2) (G2 : FnOk P w K mg base CX0 1 f2 fd2 ["_law_script", "_law_at"] (spUrn K))
    (d3 : D K mg "places" s_places ["shape"] f3 fd3) (G3 : FnOk P w K mg base (L2.CX P w) 5 f3 fd3 ["shape"] (spPlaces CS))
    (d4 : D K mg "is_shape" s_is_shape ["value"] f4 fd4) (G4 : FnOk P w K mg base CX0 3 f4 fd4 ["value"] spShape) : FnOk P w K mg base CX0 12 f fd ["_law_script"] (spLaw K Pt) := by
  refine d.F.ok sc_law (fun vs H Q E h => ?_) (fun cdv A outer s H vs Q E hr h => ?_)
  · obtain ⟨a, ns, rfl, _⟩ := h
    rfl
  · obtain ⟨a, ns, rfl, hS, hl, tb, q⟩ := h
    have un : (A.deeper (envOfC "law" (defScope s_law) s.heap.objs.size f cdv)).units + 64 < cLine := by have := hr.un; omega
    refine ⟨_, (pss_cons (ps_for PassesOwn.never rfl (pi_range1 (by rfl) T.n_range (pa_cons (pe_callB (call_max2 rfl) (by rfl) T.n_max (by decide +kernel) (pa_cons pe_int (pa_cons (pe_callB (call_min2 rfl) (by rfl) T.n_min (by decide +kernel) (pa_cons pe_int (pa_cons (pe_callB call_len_seq (by rfl) T.n_len PySem.boot_len (pa_cons (pv 0) pa_nil)) pa_nil))) pa_nil))) pa_nil)) (pg_name (i := 1) sc_law.nd rfl (.inl rfl))
        (pss_one (ps_if (pt_not (pt_val (pe_call G1 (hr.mono (by decide)) (by rfl) d1.g d1.F.kp d1.b .nil pass0 (pa_cons (pe_call G2 (hr.mono (by decide)) (by rfl) d2.g d2.F.kp d2.b .nil pass0 (pa_cons (pv 0) (pa_cons (pv 1) pa_nil))) pa_nil)))) (pss_one (ps_ret pe_bl)) pss_nil)))
      (pss_cons (ps_setLc (i := 2) (own := [("_law_shape", 4)]) (g := gName 4) (tt := tYes) rfl sc_law.nd rfl rfl rfl (pi_tup (pe_tup (pa_cons (pe_tup (pa_cons pe_int pa_nil)) (pa_cons (pe_tup (pa_cons pe_int pa_nil)) (pa_cons (pe_tup (pa_cons pe_int (pa_cons pe_int pa_nil))) (pa_cons (pe_tup (pa_cons pe_int (pa_cons pe_int pa_nil))) (pa_cons (pe_tup (pa_cons pe_int (pa_cons pe_int (pa_cons pe_int pa_nil)))) pa_nil))))))) (blkOk_by (own := [("_law_shape", 4)]) (N := ["_law_script", "_law_at", "_law_told", "_law_first", "_law_shape"]) (sc := defScope s_law) (by decide +kernel))
            (fun _ _ _ _ _ => (pg_name (i := 4) sc_law.nd rfl (Or.inl rfl))) (fun _ _ _ _ _ => pts_nil) (fun _ _ _ _ _ => (pe_callB (call_len_seqK (K := K) rfl) (by rfl) T.n_len PySem.boot_len (pa_cons (pe_call (E := fun _ _ _ => False) G3 (hr.mono (by decide)) (by rfl) d3.g d3.F.kp d3.b .nil passF (pa_cons (pv 4) pa_nil)) pa_nil))))
      (pss_cons (ps_set (i := 3) sc_law.nd rfl (.inl rfl) (pe_tup (pa_cons (pe_tup (pa_cons pe_int (pa_cons pe_int (pa_cons pe_int pa_nil)))) (pa_cons (pe_tup (pa_cons pe_int (pa_cons pe_int (pa_cons pe_int pa_nil)))) (pa_cons (pe_tup (pa_cons pe_int (pa_cons pe_int (pa_cons pe_int pa_nil)))) (pa_cons (pe_tup (pa_cons pe_int (pa_cons pe_int (pa_cons pe_int pa_nil)))) (pa_cons (pe_tup (pa_cons pe_int (pa_cons pe_int (pa_cons pe_int pa_nil)))) pa_nil)))))))
      (pss_one (ps_ret (pe_and (pe_cmpR (op_eqD un) (pv 2) (pe_lst (pa_cons pe_int (pa_cons pe_int (pa_cons pe_int (pa_cons pe_int (pa_cons pe_int pa_nil)))))) (nomark _)) (pe_and (pe_cmpR (op_eqD un) (pe_call (E := fun _ _ _ => False) G3 (hr.mono (by decide)) (by rfl) d3.g d3.F.kp d3.b .nil passF (pa_cons (pe_tup (pa_cons pe_int (pa_cons pe_int (pa_cons pe_int pa_nil)))) pa_nil)) (pv 3) (nomark _)) (pe_one (pe_not (pe_call G4 (hr.mono (by decide)) (by rfl) d4.g d4.F.kp d4.b .nil pass0 (pa_cons (pe_tup (pa_cons pe_int (pa_cons pe_int pa_nil))) pa_nil))))))))))), ?_⟩
    obtain ⟨j0, j1, j2⟩ := turns (((ns.map V.int).length : Nat) : Int)
    refine ⟨.ref a, rfl, a, _, rfl, .inl hS, _, _, rfl, _, _, rfl, _, rfl, j0, j1, ?_⟩
    refine for_range (fun i σ Z => (∃ y1 y2 y3 y4, σ = [some (.ref a), y1, y2, y3, y4]) ∧ SqL K Z a (ns.map V.int) ∧ Tabs [(Pt, qlam)] Z) ⟨⟨_, _, _, _, rfl⟩, hS, tb⟩ ?_ ?_
    · rintro i σ Z hi ⟨⟨y1, y2, y3, y4, rfl⟩, sz, tz⟩
      refine ⟨_, rfl, _, rfl, a, i, ns, (by simp), sz, by omega, fun H1 u s1 n1 u1 => ?_⟩
      refine ⟨u, rfl, u1, tabs_same tz s1, fun H2 u2 t2 f2 => ⟨true, rfl, ite2 (fun z => absurd z Bool.false_ne_true) (fun _ => ?_)⟩⟩
      exact ⟨⟨_, _, _, _, rfl⟩, seq_fwd sz n1 s1 f2, t2⟩
    · rintro σ Z ⟨⟨y1, y2, y3, y4, rfl⟩, sz, tz⟩
      obtain ⟨fst1, fst2, fst3, fst4, fst5', fst6, fst7⟩ := fst_ok
      have lay : ∀ l : List Int, l.length ≤ 100 → ∀ {σ : L2.St}, LaysA σ (l.foldr (fun n t => tCons (tC (.int n)) t) tNil) (l.map .int) := fun l hl σ => by
        clear hl
        induction l with
        | nil => exact LaysA.nil
        | cons n r ih => exact LaysA.cons (Lays.int n) ih
      dsimp only [tSeq, tAsg, tLc, iTup]
      refine (Lays.tup (ds := five.map fun l => .tuple (l.map .int)) (LaysA.cons (Lays.tup (lay [2] (by decide)) (by decide)) (LaysA.cons (Lays.tup (lay [6] (by decide)) (by decide)) (LaysA.cons (Lays.tup (lay [2, 6] (by decide)) (by decide)) (LaysA.cons (Lays.tup (lay [4, 4] (by decide)) (by decide)) (LaysA.cons (Lays.tup (lay [3, 3, 2] (by decide)) (by decide)) LaysA.nil))))) (by decide)) Z _ fun x H1 s1 t1 => ?_
      obtain ⟨o, xs, rfl, eo, tl⟩ : ∃ o xs, x = .ref o ∧ H1 o = some (.tup xs) ∧ TvL H1 xs (five.map fun l => .tuple (l.map .int)) := by
        cases t1 with
        | tup e l => exact ⟨_, _, rfl, e, l⟩
      have lx : xs.length = 5 := by rw [tl.len]; rfl
      refine ⟨o, rfl, ⟨xs, .inl (.inl eo)⟩, fun L nL => ?_⟩
      refine lc_tup (K := K) (a := o) (xs := xs) (fun i Y => Same H1 Y ∧ Y L = some (.lst ((cnt.take i).map V.int))) ⟨sub_same nL, upd_same⟩ (fun i Y _ h => .inl (.inl (h.1 _ _ eo))) ?_ ?_
      · rintro i x Y hx ⟨sm, hl2⟩
        have il : i < 5 := by
          have z := (List.getElem?_eq_some_iff.mp hx).1
          omega
        obtain ⟨d, ed, td⟩ := tl.get hx
        obtain ⟨c1, c2⟩ := five_ok i (List.mem_range.mpr il)
        obtain rfl : d = .tuple ((five.getD i []).map .int) := by
          rw [List.getElem?_map] at ed
          rw [List.getD_eq_getElem?_getD]
          cases e : five[i]? with
          | none => rw [e] at ed; cases ed
          | some l =>
            rw [e] at ed
            exact (Option.some.inj ed).symm
        refine ⟨rfl, yesT ⟨_, rfl, x, _, rfl, .tv (td.same sm), fun ns' en S' Y2 y s2 ty => ?_, fun z => absurd c2 (by rw [z]; decide)⟩⟩
        obtain en : five.getD i [] = ns' := ints_inj (PyData.tuple.inj en)
        rw [en] at c1
        obtain ⟨o2, ys, rfl, eo2, tl2⟩ : ∃ o ys, y = .ref o ∧ Y2 o = some (.tup ys) ∧ TvL Y2 ys ((pl ns').map triD) := by
          cases ty with
          | tup e l => exact ⟨_, _, rfl, e, l⟩
        refine ⟨o2, ys, rfl, .inr (.inl (.inl eo2)), _, s2 _ _ hl2, ?_, fun b ob eb => ?_, ?_⟩
        · rw [List.length_map, List.length_take, sizeLine_eq]
          omega
        · rw [upd_ne (fun z => by rw [z, nL] at eb; cases eb)]
          exact s2 _ _ (sm _ _ eb)
        · rw [upd_same, List.take_succ, c1, List.map_append, tl2.len, List.length_map]
          rfl
      · rintro Y ⟨sm, hl2⟩
        rw [lx] at hl2
        have hl3 : Y L = some (.lst (cnt.map V.int)) := hl2
        dsimp only [gName, tSeq, tAsg]
        have tri : ∀ (i j k : Int) {σ : L2.St}, Lays σ (tTup (tCons (tC (.int i)) (tCons (tC (.int j)) (tCons (tC (.int k)) tNil)))) (triD (i, j, k)) := fun i j k σ => Lays.tup (LaysA.cons (Lays.int i) (LaysA.cons (Lays.int j) (LaysA.cons (Lays.int k) LaysA.nil))) (by show 3 ≤ 100; decide)
        refine (Lays.tup (ds := fst5.map triD) (LaysA.cons (tri 0 0 1) (LaysA.cons (tri 1 0 1) (LaysA.cons (tri 1 1 2) (LaysA.cons (tri 2 0 1) (LaysA.cons (tri 1 0 2) LaysA.nil))))) (by decide)) Y _ fun x1 Y1 s3 t3 => ?_
        have hl4 := s3 _ _ hl3
        refine ⟨_, rfl, (by show 5 ≤ sizeLine; decide), fun p1 n1 => ?_⟩
        have s4 := sub_same (o := .lst (cnt.map V.int)) n1
        have dl : ∀ {G : Hp} {b : Addr}, G b = some (.lst (cnt.map V.int)) → Dp K G (.ref b) (.list (cnt.map .int)) := fun {G b} e => .lst (.inl (.inl e)) (dp_ints K G cnt)
        refine ⟨_, _, dl (s4 _ _ hl4), dl (show upd Y1 p1 (.lst (cnt.map V.int)) p1 = _ from upd_same), fst7, fst7, _, rfl, ite2 (fun _ => ?_) (fun z => absurd fst6 z)⟩
        have t4 := t3.same s4
        refine ⟨(by show 3 ≤ sizeLine; decide), fun p2 n2 => ?_⟩
        have s5 := sub_same (o := .tup ([2, 3, 2].map V.int)) n2
        refine ⟨_, .tuple ([2, 3, 2].map .int), rfl, .tv (.tup (xs := [2, 3, 2].map V.int) upd_same (tvl_ints [2, 3, 2])), fun ns' en S' Y3 y s6 ty => ?_, fun z => absurd fst2 (by rw [z]; decide)⟩
        obtain rfl : [2, 3, 2] = ns' := ints_inj (PyData.tuple.inj en)
        rw [fst1] at ty
        refine ⟨_, rfl, _, _, ty.dp K, ((t4.same s5).same s6).dp K, fst5', fst5', _, rfl, ite2 (fun _ => ?_) (fun z => absurd fst4 z)⟩
        refine ⟨(by show 2 ≤ sizeLine; decide), fun p3 n3 => ?_⟩
        have e6 : upd Y3 p3 (.tup ([4, 5].map V.int)) p3 = some (.tup ([4, 5].map V.int)) := upd_same
        refine ⟨_, .tuple ([4, 5].map .int), rfl, .tv (.tup e6 (tvl_ints [4, 5])), fun Y4 s7 => ?_⟩
        rw [fst3]
        exact ⟨false, rfl, q _⟩
end
end K04

namespace K04
open PySem PySem.Spec PyProof.Rows L2 LamX
abbrev cx0 : World → CXT := fun _ => CX0
theorem all_of {l : PySem.W.OpenLaw} {w : World} {K : PySem.W.Frag} {h : Heap} {mg : Str → Option Value} {fa : Addr} (X : K.In h) (G : h.Ns mainGlobals mg) (hfa : mg "law" = some (.ref fa))
    {C CS fI gO gL gN gZ gB pO qL qN : Addr} {rO rL rN : List Value}
    (aC : PySem.W.nsIn K mainGlobals "Stair" = some (some (.ref C)))
    (pg : PySem.W.plainGet K C Str.empty = true) (hd : PySem.W.hasDictIn K C = true) (po : PySem.W.plainOver K C = true) (sa : PySem.W.findIn K (.ref C) "__setattr__" = some (some (.builtin "object.__setattr__")))
    (nS : PySem.W.findIn K (.ref C) "_shape" = some none) (nP : PySem.W.findIn K (.ref C) "_plan" = some none) (nN : PySem.W.findIn K (.ref C) "_numbers" = some none)
    (mks : PySem.W.makesIn K C = true) (ini : PySem.W.findIn K (.ref C) "__init__" = some (some (.ref fI))) (ifn : PySem.W.isFn K (.ref fI) = true) (kpC : PySem.W.keepIn K (.ref C) = true)
    (eZ : PySem.W.findIn K (.ref C) "__len__" = some (some (.ref gZ))) (iZ : PySem.W.isFn K (.ref gZ) = true)
    (eB : PySem.W.findIn K (.ref C) "__bool__" = some (some (.ref gB))) (iB : PySem.W.isFn K (.ref gB) = true)
    (pLa : PySem.W.findIn K (.ref C) "lead" = some (some (.ref qL))) (pLg : PySem.W.specialIn K (.ref qL) "__get__" = some (some (.builtin "property.__get__"))) (pLt : PySem.W.takesIn K (.ref qL) = some true) (pLr : PySem.W.recIn K qL "property" = some (.ref gL :: rL))
    (pNa : PySem.W.findIn K (.ref C) "numbers" = some (some (.ref qN))) (pNg : PySem.W.specialIn K (.ref qN) "__get__" = some (some (.builtin "property.__get__"))) (pNt : PySem.W.takesIn K (.ref qN) = some true) (pNr : PySem.W.recIn K qN "property" = some (.ref gN :: rN))
    (rd : PySem.W.readsIn K C (.type "type") = true) (rga : PySem.W.specialIn K (.ref C) "__getattribute__" = some (some (.builtin "type.__getattribute__")))
    (cmA : PySem.W.findCls K (.ref C) (.type "type") "one" = some (.get (.builtin "classmethod.__get__") (.ref pO) .none (.ref C))) (cmR : PySem.W.recIn K pO "classmethod" = some (.ref gO :: rO)) (cmF : PySem.W.fnIn K gO = true)
    (aX : PySem.W.nsIn K mainGlobals "InvalidShape" = some (some (.ref CS))) (xX : PySem.W.excIn K CS [.type "ValueError", .type "Exception", .type "BaseException", .type "object"] "ValueError.__new__" = true) (kX : PySem.W.keepIn K (.ref CS) = true) (bX : PySem.W.subIn K (.ref CS) (.type "BaseException") = some true) (tX : PySem.W.typeIn K (.ref CS) = some (.type "type")) (hdX : PySem.W.hasDictIn K CS = true) (sbX : PySem.W.subIn K (.ref CS) (.ref CS) = some true)
    {t0 : Tok} (cst0 : PySem.W.nsIn K mainGlobals "_MOST_BLOCKS" = some (some (.int 3 t0)))
    {t1 : Tok} (cst1 : PySem.W.nsIn K mainGlobals "_LEAST_SIZE" = some (some (.int 2 t1)))
    {t2 : Tok} (cst2 : PySem.W.nsIn K mainGlobals "_MOST_SIZE" = some (some (.int 6 t2)))
    {t3 : Tok} (cst3 : PySem.W.nsIn K mainGlobals "MAX_BOXES" = some (some (.int 8 t3)))
    {t4 : Tok} (cst4 : PySem.W.nsIn K mainGlobals "_LIMIT" = some (some (.int (10 ^ 60) t4)))
    (n_len : PySem.W.nsIn K mainGlobals "len" = some none)
    (n_abs : PySem.W.nsIn K mainGlobals "abs" = some none)
    (n_int : PySem.W.nsIn K mainGlobals "int" = some none)
    (n_bool : PySem.W.nsIn K mainGlobals "bool" = some none)
    (n_max : PySem.W.nsIn K mainGlobals "max" = some none)
    (n_min : PySem.W.nsIn K mainGlobals "min" = some none)
    (n_sum : PySem.W.nsIn K mainGlobals "sum" = some none)
    (n_tuple : PySem.W.nsIn K mainGlobals "tuple" = some none)
    (n_range : PySem.W.nsIn K mainGlobals "range" = some none)
    (n_repr : PySem.W.nsIn K mainGlobals "repr" = some none)
    (n_isinstance : PySem.W.nsIn K mainGlobals "isinstance" = some none)
    (n_reversed : PySem.W.nsIn K mainGlobals "reversed" = some none)
    (n_all : PySem.W.nsIn K mainGlobals "all" = some none)
    (n_any : PySem.W.nsIn K mainGlobals "any" = some none)
    (n_list : PySem.W.nsIn K mainGlobals "list" = some none)
    (n_dict : PySem.W.nsIn K mainGlobals "dict" = some none)
    (n_enumerate : PySem.W.nsIn K mainGlobals "enumerate" = some none)
    (n_sorted : PySem.W.nsIn K mainGlobals "sorted" = some none)
    (n_str : PySem.W.nsIn K mainGlobals "str" = some none)
    {od_I an_I : Option Addr} {sl_I : Array (Option Value)} {oc_I kV_I dc_I pm_I cd_I ct_I : Value} (l_I : K.lookup fI = some ⟨oc_I, od_I, .func (PySem.W.fnOf "__init__" "Stair.__init__" (defArgs s_init) (defBody s_init) (defScope s_init) .none kV_I dc_I pm_I an_I cd_I ct_I), sl_I⟩) (c_I : PySem.W.codeIn K cd_I "Stair.__init__" = true) (k_I : PySem.W.keepIn K (.ref fI) = true)
    {od_O an_O : Option Addr} {sl_O : Array (Option Value)} {oc_O kV_O dc_O pm_O cd_O ct_O : Value} (l_O : K.lookup gO = some ⟨oc_O, od_O, .func (PySem.W.fnOf "one" "Stair.one" (defArgs s_one1) (defBody s_one1) (defScope s_one1) .none kV_O dc_O pm_O an_O cd_O ct_O), sl_O⟩) (c_O : PySem.W.codeIn K cd_O "Stair.one" = true) (k_O : PySem.W.keepIn K (.ref gO) = true)
    {od_L an_L : Option Addr} {sl_L : Array (Option Value)} {oc_L kV_L dc_L pm_L cd_L ct_L : Value} (l_L : K.lookup gL = some ⟨oc_L, od_L, .func (PySem.W.fnOf "lead" "Stair.lead" (defArgs s_slead) (defBody s_slead) (defScope s_slead) .none kV_L dc_L pm_L an_L cd_L ct_L), sl_L⟩) (c_L : PySem.W.codeIn K cd_L "Stair.lead" = true) (k_L : PySem.W.keepIn K (.ref gL) = true)
    {od_N an_N : Option Addr} {sl_N : Array (Option Value)} {oc_N kV_N dc_N pm_N cd_N ct_N : Value} (l_N : K.lookup gN = some ⟨oc_N, od_N, .func (PySem.W.fnOf "numbers" "Stair.numbers" (defArgs s_nums) (defBody s_nums) (defScope s_nums) .none kV_N dc_N pm_N an_N cd_N ct_N), sl_N⟩) (c_N : PySem.W.codeIn K cd_N "Stair.numbers" = true) (k_N : PySem.W.keepIn K (.ref gN) = true)
    {od_Z an_Z : Option Addr} {sl_Z : Array (Option Value)} {oc_Z kV_Z dc_Z pm_Z cd_Z ct_Z : Value} (l_Z : K.lookup gZ = some ⟨oc_Z, od_Z, .func (PySem.W.fnOf "__len__" "Stair.__len__" (defArgs s_slen) (defBody s_slen) (defScope s_slen) .none kV_Z dc_Z pm_Z an_Z cd_Z ct_Z), sl_Z⟩) (c_Z : PySem.W.codeIn K cd_Z "Stair.__len__" = true) (k_Z : PySem.W.keepIn K (.ref gZ) = true)
    {od_B an_B : Option Addr} {sl_B : Array (Option Value)} {oc_B kV_B dc_B pm_B cd_B ct_B : Value} (l_B : K.lookup gB = some ⟨oc_B, od_B, .func (PySem.W.fnOf "__bool__" "Stair.__bool__" (defArgs s_sbool) (defBody s_sbool) (defScope s_sbool) .none kV_B dc_B pm_B an_B cd_B ct_B), sl_B⟩) (c_B : PySem.W.codeIn K cd_B "Stair.__bool__" = true) (k_B : PySem.W.keepIn K (.ref gB) = true)
    {f0 : Addr} {od0 an0 : Option Addr} {sl0 : Array (Option Value)} {oc0 kV0 dc0 pm0 cd0 ct0 : Value} (a0 : PySem.W.nsIn K mainGlobals "is_whole" = some (some (.ref f0))) (l0 : K.lookup f0 = some ⟨oc0, od0, .func (PySem.W.fnOf "is_whole" "is_whole" (defArgs s_is_whole) (defBody s_is_whole) (defScope s_is_whole) .none kV0 dc0 pm0 an0 cd0 ct0), sl0⟩) (c0 : PySem.W.codeIn K cd0 "is_whole" = true) (k0 : PySem.W.keepIn K (.ref f0) = true)
    {f1 : Addr} {od1 an1 : Option Addr} {sl1 : Array (Option Value)} {oc1 kV1 dc1 pm1 cd1 ct1 : Value} (a1 : PySem.W.nsIn K mainGlobals "is_integer" = some (some (.ref f1))) (l1 : K.lookup f1 = some ⟨oc1, od1, .func (PySem.W.fnOf "is_integer" "is_integer" (defArgs s_is_integer) (defBody s_is_integer) (defScope s_is_integer) .none kV1 dc1 pm1 an1 cd1 ct1), sl1⟩) (c1 : PySem.W.codeIn K cd1 "is_integer" = true) (k1 : PySem.W.keepIn K (.ref f1) = true)
    {f2 : Addr} {od2 an2 : Option Addr} {sl2 : Array (Option Value)} {oc2 kV2 dc2 pm2 cd2 ct2 : Value} (a2 : PySem.W.nsIn K mainGlobals "is_between" = some (some (.ref f2))) (l2 : K.lookup f2 = some ⟨oc2, od2, .func (PySem.W.fnOf "is_between" "is_between" (defArgs s_is_between) (defBody s_is_between) (defScope s_is_between) .none kV2 dc2 pm2 an2 cd2 ct2), sl2⟩) (c2 : PySem.W.codeIn K cd2 "is_between" = true) (k2 : PySem.W.keepIn K (.ref f2) = true)
    {f3 : Addr} {od3 an3 : Option Addr} {sl3 : Array (Option Value)} {oc3 kV3 dc3 pm3 cd3 ct3 : Value} (a3 : PySem.W.nsIn K mainGlobals "is_index" = some (some (.ref f3))) (l3 : K.lookup f3 = some ⟨oc3, od3, .func (PySem.W.fnOf "is_index" "is_index" (defArgs s_is_index) (defBody s_is_index) (defScope s_is_index) .none kV3 dc3 pm3 an3 cd3 ct3), sl3⟩) (c3 : PySem.W.codeIn K cd3 "is_index" = true) (k3 : PySem.W.keepIn K (.ref f3) = true)
    {f4 : Addr} {od4 an4 : Option Addr} {sl4 : Array (Option Value)} {oc4 kV4 dc4 pm4 cd4 ct4 : Value} (a4 : PySem.W.nsIn K mainGlobals "is_shape" = some (some (.ref f4))) (l4 : K.lookup f4 = some ⟨oc4, od4, .func (PySem.W.fnOf "is_shape" "is_shape" (defArgs s_is_shape) (defBody s_is_shape) (defScope s_is_shape) .none kV4 dc4 pm4 an4 cd4 ct4), sl4⟩) (c4 : PySem.W.codeIn K cd4 "is_shape" = true) (k4 : PySem.W.keepIn K (.ref f4) = true)
    {f5 : Addr} {od5 an5 : Option Addr} {sl5 : Array (Option Value)} {oc5 kV5 dc5 pm5 cd5 ct5 : Value} (a5 : PySem.W.nsIn K mainGlobals "check_shape" = some (some (.ref f5))) (l5 : K.lookup f5 = some ⟨oc5, od5, .func (PySem.W.fnOf "check_shape" "check_shape" (defArgs s_check) (defBody s_check) (defScope s_check) .none kV5 dc5 pm5 an5 cd5 ct5), sl5⟩) (c5 : PySem.W.codeIn K cd5 "check_shape" = true) (k5 : PySem.W.keepIn K (.ref f5) = true)
    {f6 : Addr} {od6 an6 : Option Addr} {sl6 : Array (Option Value)} {oc6 kV6 dc6 pm6 cd6 ct6 : Value} (a6 : PySem.W.nsIn K mainGlobals "places" = some (some (.ref f6))) (l6 : K.lookup f6 = some ⟨oc6, od6, .func (PySem.W.fnOf "places" "places" (defArgs s_places) (defBody s_places) (defScope s_places) .none kV6 dc6 pm6 an6 cd6 ct6), sl6⟩) (c6 : PySem.W.codeIn K cd6 "places" = true) (k6 : PySem.W.keepIn K (.ref f6) = true)
    {f7 : Addr} {od7 an7 : Option Addr} {sl7 : Array (Option Value)} {oc7 kV7 dc7 pm7 cd7 ct7 : Value} (a7 : PySem.W.nsIn K mainGlobals "is_place" = some (some (.ref f7))) (l7 : K.lookup f7 = some ⟨oc7, od7, .func (PySem.W.fnOf "is_place" "is_place" (defArgs s_place) (defBody s_place) (defScope s_place) .none kV7 dc7 pm7 an7 cd7 ct7), sl7⟩) (c7 : PySem.W.codeIn K cd7 "is_place" = true) (k7 : PySem.W.keepIn K (.ref f7) = true)
    {f8 : Addr} {od8 an8 : Option Addr} {sl8 : Array (Option Value)} {oc8 kV8 dc8 pm8 cd8 ct8 : Value} (a8 : PySem.W.nsIn K mainGlobals "plan_of" = some (some (.ref f8))) (l8 : K.lookup f8 = some ⟨oc8, od8, .func (PySem.W.fnOf "plan_of" "plan_of" (defArgs s_plan) (defBody s_plan) (defScope s_plan) .none kV8 dc8 pm8 an8 cd8 ct8), sl8⟩) (c8 : PySem.W.codeIn K cd8 "plan_of" = true) (k8 : PySem.W.keepIn K (.ref f8) = true)
    {f9 : Addr} {od9 an9 : Option Addr} {sl9 : Array (Option Value)} {oc9 kV9 dc9 pm9 cd9 ct9 : Value} (a9 : PySem.W.nsIn K mainGlobals "lead_at" = some (some (.ref f9))) (l9 : K.lookup f9 = some ⟨oc9, od9, .func (PySem.W.fnOf "lead_at" "lead_at" (defArgs s_lead) (defBody s_lead) (defScope s_lead) .none kV9 dc9 pm9 an9 cd9 ct9), sl9⟩) (c9 : PySem.W.codeIn K cd9 "lead_at" = true) (k9 : PySem.W.keepIn K (.ref f9) = true)
    {f10 : Addr} {od10 an10 : Option Addr} {sl10 : Array (Option Value)} {oc10 kV10 dc10 pm10 cd10 ct10 : Value} (a10 : PySem.W.nsIn K mainGlobals "are_entries" = some (some (.ref f10))) (l10 : K.lookup f10 = some ⟨oc10, od10, .func (PySem.W.fnOf "are_entries" "are_entries" (defArgs s_ents) (defBody s_ents) (defScope s_ents) .none kV10 dc10 pm10 an10 cd10 ct10), sl10⟩) (c10 : PySem.W.codeIn K cd10 "are_entries" = true) (k10 : PySem.W.keepIn K (.ref f10) = true)
    {f11 : Addr} {od11 an11 : Option Addr} {sl11 : Array (Option Value)} {oc11 kV11 dc11 pm11 cd11 ct11 : Value} (a11 : PySem.W.nsIn K mainGlobals "_law_pot" = some (some (.ref f11))) (l11 : K.lookup f11 = some ⟨oc11, od11, .func (PySem.W.fnOf "_law_pot" "_law_pot" (defArgs s_pot) (defBody s_pot) (defScope s_pot) .none kV11 dc11 pm11 an11 cd11 ct11), sl11⟩) (c11 : PySem.W.codeIn K cd11 "_law_pot" = true) (k11 : PySem.W.keepIn K (.ref f11) = true)
    {f12 : Addr} {od12 an12 : Option Addr} {sl12 : Array (Option Value)} {oc12 kV12 dc12 pm12 cd12 ct12 : Value} (a12 : PySem.W.nsIn K mainGlobals "_law_dip" = some (some (.ref f12))) (l12 : K.lookup f12 = some ⟨oc12, od12, .func (PySem.W.fnOf "_law_dip" "_law_dip" (defArgs s_dip) (defBody s_dip) (defScope s_dip) .none kV12 dc12 pm12 an12 cd12 ct12), sl12⟩) (c12 : PySem.W.codeIn K cd12 "_law_dip" = true) (k12 : PySem.W.keepIn K (.ref f12) = true)
    {f13 : Addr} {od13 an13 : Option Addr} {sl13 : Array (Option Value)} {oc13 kV13 dc13 pm13 cd13 ct13 : Value} (a13 : PySem.W.nsIn K mainGlobals "_law_pick" = some (some (.ref f13))) (l13 : K.lookup f13 = some ⟨oc13, od13, .func (PySem.W.fnOf "_law_pick" "_law_pick" (defArgs s_pick) (defBody s_pick) (defScope s_pick) .none kV13 dc13 pm13 an13 cd13 ct13), sl13⟩) (c13 : PySem.W.codeIn K cd13 "_law_pick" = true) (k13 : PySem.W.keepIn K (.ref f13) = true)
    {f14 : Addr} {od14 an14 : Option Addr} {sl14 : Array (Option Value)} {oc14 kV14 dc14 pm14 cd14 ct14 : Value} (a14 : PySem.W.nsIn K mainGlobals "_law_sizes" = some (some (.ref f14))) (l14 : K.lookup f14 = some ⟨oc14, od14, .func (PySem.W.fnOf "_law_sizes" "_law_sizes" (defArgs s_sizes) (defBody s_sizes) (defScope s_sizes) .none kV14 dc14 pm14 an14 cd14 ct14), sl14⟩) (c14 : PySem.W.codeIn K cd14 "_law_sizes" = true) (k14 : PySem.W.keepIn K (.ref f14) = true)
    {f15 : Addr} {od15 an15 : Option Addr} {sl15 : Array (Option Value)} {oc15 kV15 dc15 pm15 cd15 ct15 : Value} (a15 : PySem.W.nsIn K mainGlobals "_law_is_right" = some (some (.ref f15))) (l15 : K.lookup f15 = some ⟨oc15, od15, .func (PySem.W.fnOf "_law_is_right" "_law_is_right" (defArgs s_right_of) (defBody s_right_of) (defScope s_right_of) .none kV15 dc15 pm15 an15 cd15 ct15), sl15⟩) (c15 : PySem.W.codeIn K cd15 "_law_is_right" = true) (k15 : PySem.W.keepIn K (.ref f15) = true)
    {f16 : Addr} {od16 an16 : Option Addr} {sl16 : Array (Option Value)} {oc16 kV16 dc16 pm16 cd16 ct16 : Value} (a16 : PySem.W.nsIn K mainGlobals "_law_places" = some (some (.ref f16))) (l16 : K.lookup f16 = some ⟨oc16, od16, .func (PySem.W.fnOf "_law_places" "_law_places" (defArgs s_lplaces) (defBody s_lplaces) (defScope s_lplaces) .none kV16 dc16 pm16 an16 cd16 ct16), sl16⟩) (c16 : PySem.W.codeIn K cd16 "_law_places" = true) (k16 : PySem.W.keepIn K (.ref f16) = true)
    {f17 : Addr} {od17 an17 : Option Addr} {sl17 : Array (Option Value)} {oc17 kV17 dc17 pm17 cd17 ct17 : Value} (a17 : PySem.W.nsIn K mainGlobals "_law_near" = some (some (.ref f17))) (l17 : K.lookup f17 = some ⟨oc17, od17, .func (PySem.W.fnOf "_law_near" "_law_near" (defArgs s_near) (defBody s_near) (defScope s_near) .none kV17 dc17 pm17 an17 cd17 ct17), sl17⟩) (c17 : PySem.W.codeIn K cd17 "_law_near" = true) (k17 : PySem.W.keepIn K (.ref f17) = true)
    {f18 : Addr} {od18 an18 : Option Addr} {sl18 : Array (Option Value)} {oc18 kV18 dc18 pm18 cd18 ct18 : Value} (a18 : PySem.W.nsIn K mainGlobals "_law_is_one" = some (some (.ref f18))) (l18 : K.lookup f18 = some ⟨oc18, od18, .func (PySem.W.fnOf "_law_is_one" "_law_is_one" (defArgs s_one) (defBody s_one) (defScope s_one) .none kV18 dc18 pm18 an18 cd18 ct18), sl18⟩) (c18 : PySem.W.codeIn K cd18 "_law_is_one" = true) (k18 : PySem.W.keepIn K (.ref f18) = true)
    {f19 : Addr} {od19 an19 : Option Addr} {sl19 : Array (Option Value)} {oc19 kV19 dc19 pm19 cd19 ct19 : Value} (a19 : PySem.W.nsIn K mainGlobals "_law_is_refused" = some (some (.ref f19))) (l19 : K.lookup f19 = some ⟨oc19, od19, .func (PySem.W.fnOf "_law_is_refused" "_law_is_refused" (defArgs s_refused) (defBody s_refused) (defScope s_refused) .none kV19 dc19 pm19 an19 cd19 ct19), sl19⟩) (c19 : PySem.W.codeIn K cd19 "_law_is_refused" = true) (k19 : PySem.W.keepIn K (.ref f19) = true)
    {f20 : Addr} {od20 an20 : Option Addr} {sl20 : Array (Option Value)} {oc20 kV20 dc20 pm20 cd20 ct20 : Value} (a20 : PySem.W.nsIn K mainGlobals "_law_leads_right" = some (some (.ref f20))) (l20 : K.lookup f20 = some ⟨oc20, od20, .func (PySem.W.fnOf "_law_leads_right" "_law_leads_right" (defArgs s_leads) (defBody s_leads) (defScope s_leads) .none kV20 dc20 pm20 an20 cd20 ct20), sl20⟩) (c20 : PySem.W.codeIn K cd20 "_law_leads_right" = true) (k20 : PySem.W.keepIn K (.ref f20) = true)
    {f21 : Addr} {od21 an21 : Option Addr} {sl21 : Array (Option Value)} {oc21 kV21 dc21 pm21 cd21 ct21 : Value} (a21 : PySem.W.nsIn K mainGlobals "law" = some (some (.ref f21))) (l21 : K.lookup f21 = some ⟨oc21, od21, .func (PySem.W.fnOf "law" "law" (defArgs s_law) (defBody s_law) (defScope s_law) .none kV21 dc21 pm21 an21 cd21 ct21), sl21⟩) (c21 : PySem.W.codeIn K cd21 "law" = true) (k21 : PySem.W.keepIn K (.ref f21) = true)
    {fR cc Pt : Addr} {odR anR : Option Addr} {slR : Array (Option Value)} {ocR kVR dcR pmR ctR : Value} (aR : PySem.W.nsIn K mainGlobals "_law_right" = some (some (.ref fR))) (lR : K.lookup fR = some ⟨ocR, odR, .func (PySem.W.fnOf "_law_right" "_law_right" (defArgs s_right) (defBody s_right) (defScope s_right) .none kVR dcR pmR anR (.ref cc) ctR), slR⟩) (cR : PySem.W.codeIn K (.ref cc) "_law_right" = true) (kR : PySem.W.keepIn K (.ref fR) = true)
    {ocC : Value} {odC : Option Addr} {vsC : Array Value} {slC : Array (Option Value)} (lC : K.lookup cc = some ⟨ocC, odC, .fields vsC, slC⟩) (vC : (vsC[11]? : Option Value) = some (.ref Pt)) (nT : K.lookup Pt = none)
    (cHd : PySem.W.codeHdIn K cc Pt = true) (emp : h.get? Pt = some { cls := .none, data := .fields #[] }) :
    LawAtS l w K CX0 12 63 "_law_script" mg fa h := by
  have e := hfa.symm.trans (PySem.W.mg_of X G a21)
  cases e
  have hd_ := PySem.W.codeHd_of_K X cHd
  have cls : Cls K C := ⟨pg, hd, po, sa⟩
  have R : SC K mg C := ⟨cls, nS, nP, nN, PySem.W.mg_of X G aC⟩
  have mk : Mk K C fI := ⟨mks, ini, ifn, kpC⟩
  have O : OpX K mg "InvalidShape" CS := ⟨xX, PySem.W.mg_of X G aX, kX, bX, tX⟩
  have own : PySem.W.exmOne K (.ref CS) (.ref CS) = some true := PySem.W.exm_ref bX hdX tX sbX
  have T : Txt mg := ⟨PySem.W.mg_none_of X G n_len, PySem.W.mg_none_of X G n_abs, PySem.W.mg_none_of X G n_int, PySem.W.mg_none_of X G n_bool, PySem.W.mg_none_of X G n_max, PySem.W.mg_none_of X G n_min, PySem.W.mg_none_of X G n_sum, PySem.W.mg_none_of X G n_tuple, PySem.W.mg_none_of X G n_range, PySem.W.mg_none_of X G n_repr, PySem.W.mg_none_of X G n_isinstance, PySem.W.mg_none_of X G n_reversed⟩
  have N : Nam mg := ⟨PySem.W.mg_none_of X G n_all, PySem.W.mg_none_of X G n_any, PySem.W.mg_none_of X G n_list, PySem.W.mg_none_of X G n_dict, PySem.W.mg_none_of X G n_enumerate, PySem.W.mg_none_of X G n_sorted, PySem.W.mg_none_of X G n_str, ⟨_, PySem.W.mg_of X G cst0⟩, ⟨_, PySem.W.mg_of X G cst1⟩, ⟨_, PySem.W.mg_of X G cst2⟩, ⟨_, PySem.W.mg_of X G cst3⟩, ⟨_, PySem.W.mg_of X G cst4⟩⟩
  have F_I := fun_mk (st := s_init) l_I c_I k_I
  have M_I : M K "__init__" "Stair.__init__" s_init ["self", "shape", "entries"] fI _ := ⟨F_I, F_I.binds (ps := ["self", "shape", "entries"]) fun _ _ _ _ _ _ us hl => match us, hl with | [_, _, _], _ => rfl⟩
  have F_O := fun_mk (st := s_one1) l_O c_O k_O
  have M_O : M K "one" "Stair.one" s_one1 ["cls", "shape"] gO _ := ⟨F_O, F_O.binds (ps := ["cls", "shape"]) fun _ _ _ _ _ _ us hl => match us, hl with | [_, _], _ => rfl⟩
  have F_L := fun_mk (st := s_slead) l_L c_L k_L
  have M_L : M K "lead" "Stair.lead" s_slead ["self"] gL _ := ⟨F_L, F_L.binds (ps := ["self"]) fun _ _ _ _ _ _ us hl => match us, hl with | [_], _ => rfl⟩
  have F_N := fun_mk (st := s_nums) l_N c_N k_N
  have M_N : M K "numbers" "Stair.numbers" s_nums ["self"] gN _ := ⟨F_N, F_N.binds (ps := ["self"]) fun _ _ _ _ _ _ us hl => match us, hl with | [_], _ => rfl⟩
  have F_Z := fun_mk (st := s_slen) l_Z c_Z k_Z
  have M_Z : M K "__len__" "Stair.__len__" s_slen ["self"] gZ _ := ⟨F_Z, F_Z.binds (ps := ["self"]) fun _ _ _ _ _ _ us hl => match us, hl with | [_], _ => rfl⟩
  have F_B := fun_mk (st := s_sbool) l_B c_B k_B
  have M_B : M K "__bool__" "Stair.__bool__" s_sbool ["self"] gB _ := ⟨F_B, F_B.binds (ps := ["self"]) fun _ _ _ _ _ _ us hl => match us, hl with | [_], _ => rfl⟩
  have F0 := fun_mk (st := s_is_whole) l0 c0 k0
  have d_is_whole : D K mg "is_whole" s_is_whole ["value"] _ _ := ⟨F0, PySem.W.mg_of X G a0, F0.binds (ps := ["value"]) fun _ _ _ _ _ _ us hl => match us, hl with | [_], _ => rfl⟩
  have F1 := fun_mk (st := s_is_integer) l1 c1 k1
  have d_is_integer : D K mg "is_integer" s_is_integer ["value"] _ _ := ⟨F1, PySem.W.mg_of X G a1, F1.binds (ps := ["value"]) fun _ _ _ _ _ _ us hl => match us, hl with | [_], _ => rfl⟩
  have F2 := fun_mk (st := s_is_between) l2 c2 k2
  have d_is_between : D K mg "is_between" s_is_between ["value", "least", "most"] _ _ := ⟨F2, PySem.W.mg_of X G a2, F2.binds (ps := ["value", "least", "most"]) fun _ _ _ _ _ _ us hl => match us, hl with | [_, _, _], _ => rfl⟩
  have F3 := fun_mk (st := s_is_index) l3 c3 k3
  have d_is_index : D K mg "is_index" s_is_index ["value", "many"] _ _ := ⟨F3, PySem.W.mg_of X G a3, F3.binds (ps := ["value", "many"]) fun _ _ _ _ _ _ us hl => match us, hl with | [_, _], _ => rfl⟩
  have F4 := fun_mk (st := s_is_shape) l4 c4 k4
  have d_is_shape : D K mg "is_shape" s_is_shape ["value"] _ _ := ⟨F4, PySem.W.mg_of X G a4, F4.binds (ps := ["value"]) fun _ _ _ _ _ _ us hl => match us, hl with | [_], _ => rfl⟩
  have F5 := fun_mk (st := s_check) l5 c5 k5
  have d_check_shape : D K mg "check_shape" s_check ["shape"] _ _ := ⟨F5, PySem.W.mg_of X G a5, F5.binds (ps := ["shape"]) fun _ _ _ _ _ _ us hl => match us, hl with | [_], _ => rfl⟩
  have F6 := fun_mk (st := s_places) l6 c6 k6
  have d_places : D K mg "places" s_places ["shape"] _ _ := ⟨F6, PySem.W.mg_of X G a6, F6.binds (ps := ["shape"]) fun _ _ _ _ _ _ us hl => match us, hl with | [_], _ => rfl⟩
  have F7 := fun_mk (st := s_place) l7 c7 k7
  have d_is_place : D K mg "is_place" s_place ["shape", "value"] _ _ := ⟨F7, PySem.W.mg_of X G a7, F7.binds (ps := ["shape", "value"]) fun _ _ _ _ _ _ us hl => match us, hl with | [_, _], _ => rfl⟩
  have F8 := fun_mk (st := s_plan) l8 c8 k8
  have d_plan_of : D K mg "plan_of" s_plan ["shape"] _ _ := ⟨F8, PySem.W.mg_of X G a8, F8.binds (ps := ["shape"]) fun _ _ _ _ _ _ us hl => match us, hl with | [_], _ => rfl⟩
  have F9 := fun_mk (st := s_lead) l9 c9 k9
  have d_lead_at : D K mg "lead_at" s_lead ["numbers"] _ _ := ⟨F9, PySem.W.mg_of X G a9, F9.binds (ps := ["numbers"]) fun _ _ _ _ _ _ us hl => match us, hl with | [_], _ => rfl⟩
  have F10 := fun_mk (st := s_ents) l10 c10 k10
  have d_are_entries : D K mg "are_entries" s_ents ["shape", "value"] _ _ := ⟨F10, PySem.W.mg_of X G a10, F10.binds (ps := ["shape", "value"]) fun _ _ _ _ _ _ us hl => match us, hl with | [_, _], _ => rfl⟩
  have F11 := fun_mk (st := s_pot) l11 c11 k11
  have d_law_pot : D K mg "_law_pot" s_pot ["_law_script", "_law_at"] _ _ := ⟨F11, PySem.W.mg_of X G a11, F11.binds (ps := ["_law_script", "_law_at"]) fun _ _ _ _ _ _ us hl => match us, hl with | [_, _], _ => rfl⟩
  have F12 := fun_mk (st := s_dip) l12 c12 k12
  have d_law_dip : D K mg "_law_dip" s_dip ["_law_pot_here", "_law_total"] _ _ := ⟨F12, PySem.W.mg_of X G a12, F12.binds (ps := ["_law_pot_here", "_law_total"]) fun _ _ _ _ _ _ us hl => match us, hl with | [_, _], _ => rfl⟩
  have F13 := fun_mk (st := s_pick) l13 c13 k13
  have d_law_pick : D K mg "_law_pick" s_pick ["_law_pot_here", "_law_items"] _ _ := ⟨F13, PySem.W.mg_of X G a13, F13.binds (ps := ["_law_pot_here", "_law_items"]) fun _ _ _ _ _ _ us hl => match us, hl with | [_, _], _ => rfl⟩
  have F14 := fun_mk (st := s_sizes) l14 c14 k14
  have d_law_sizes : D K mg "_law_sizes" s_sizes ["_law_pot_here"] _ _ := ⟨F14, PySem.W.mg_of X G a14, F14.binds (ps := ["_law_pot_here"]) fun _ _ _ _ _ _ us hl => match us, hl with | [_], _ => rfl⟩
  have F15 := fun_mk (st := s_right_of) l15 c15 k15
  have d_law_is_right : D K mg "_law_is_right" s_right_of ["_law_value"] _ _ := ⟨F15, PySem.W.mg_of X G a15, F15.binds (ps := ["_law_value"]) fun _ _ _ _ _ _ us hl => match us, hl with | [_], _ => rfl⟩
  have F16 := fun_mk (st := s_lplaces) l16 c16 k16
  have d_law_places : D K mg "_law_places" s_lplaces ["_law_shape"] _ _ := ⟨F16, PySem.W.mg_of X G a16, F16.binds (ps := ["_law_shape"]) fun _ _ _ _ _ _ us hl => match us, hl with | [_], _ => rfl⟩
  have F17 := fun_mk (st := s_near) l17 c17 k17
  have d_law_near : D K mg "_law_near" s_near ["_law_pot_here", "_law_place"] _ _ := ⟨F17, PySem.W.mg_of X G a17, F17.binds (ps := ["_law_pot_here", "_law_place"]) fun _ _ _ _ _ _ us hl => match us, hl with | [_, _], _ => rfl⟩
  have F18 := fun_mk (st := s_one) l18 c18 k18
  have d_law_is_one : D K mg "_law_is_one" s_one ["_law_shape", "_law_value"] _ _ := ⟨F18, PySem.W.mg_of X G a18, F18.binds (ps := ["_law_shape", "_law_value"]) fun _ _ _ _ _ _ us hl => match us, hl with | [_, _], _ => rfl⟩
  have F19 := fun_mk (st := s_refused) l19 c19 k19
  have d_law_is_refused : D K mg "_law_is_refused" s_refused ["_law_call"] _ _ := ⟨F19, PySem.W.mg_of X G a19, F19.binds (ps := ["_law_call"]) fun _ _ _ _ _ _ us hl => match us, hl with | [_], _ => rfl⟩
  have F20 := fun_mk (st := s_leads) l20 c20 k20
  have d_law_leads_right : D K mg "_law_leads_right" s_leads ["_law_pot_here", "_law_shape"] _ _ := ⟨F20, PySem.W.mg_of X G a20, F20.binds (ps := ["_law_pot_here", "_law_shape"]) fun _ _ _ _ _ _ us hl => match us, hl with | [_, _], _ => rfl⟩
  have F21 := fun_mk (st := s_law) l21 c21 k21
  have d_law : D K mg "law" s_law ["_law_script"] _ _ := ⟨F21, PySem.W.mg_of X G a21, F21.binds (ps := ["_law_script"]) fun _ _ _ _ _ _ us hl => match us, hl with | [_], _ => rfl⟩
  have FR := fun_mk (st := s_right) lR cR kR
  have dR : D K mg "_law_right" s_right ["_law_pot_here"] _ _ := ⟨FR, PySem.W.mg_of X G aR, FR.binds (ps := ["_law_pot_here"]) fun _ _ _ _ _ _ us hl => match us, hl with | [_], _ => rfl⟩
  have FC : FunC K "_law_right" s_right fR cc _ := ⟨⟨_, _, _, _, _, _, _, _, rfl, lR, cR⟩, kR⟩
  refine ⟨PySem.W.fnOf "law" "law" (defArgs s_law) (defBody s_law) (defScope s_law) .none kV21 dc21 pm21 an21 cd21 ct21, [(cc, Pt)], spLaw K Pt, fun p m => ?_, fun p m => ?_, fun p m => ?_, fun s u => .of_eq rfl, fun H a ns hl _ hT hS => ?_, fun base _ _ TB => ?_⟩
  · rw [List.mem_singleton.mp m]
    exact emp
  · rw [List.mem_singleton.mp m]
    exact nT
  · rw [List.mem_singleton.mp m]
    exact hd_
  · refine ⟨a, ns, rfl, hS, hl, fun p m => ?_, fun _ => rfl⟩
    rw [List.mem_singleton.mp m]
    exact TabS.nil (hT (cc, Pt) (List.mem_singleton.mpr rfl))
  have Tb := TB (cc, Pt) (List.mem_singleton.mpr rfl)
  have Gsh : FnOk l.prog w K mg base CX0 3 _ _ ["value"] spShape := ok_shape (k := 0) T N d_is_shape d_is_between d_is_whole
  have Gck := ok_check (k := 0) (base := base) (P := l.prog) (w := w) T O d_check_shape d_is_shape Gsh
  have Gpl := ok_places T N d_places d_check_shape Gck
  have Gix : FnOk l.prog w K mg base CX0 3 _ _ ["value", "many"] spIdx := ok_index (k := 0) T d_is_index d_is_between d_is_whole
  have Gip := ok_place T d_is_place d_check_shape d_is_index Gck Gix
  have Gin : FnOk l.prog w K mg base CX0 2 _ _ ["value"] spInt := ok_integer (k := 0) T N d_is_integer d_is_whole
  have Gen := ok_ents T N d_are_entries d_is_place d_is_integer Gip Gin
  have Gpn := ok_plan T N d_plan_of d_places Gpl
  have Gld : FnOk l.prog w K mg base CX0 1 _ _ ["numbers"] spLead := ok_lead (k := 0) T N d_lead_at
  have GI := ok_init T N R M_I d_check_shape d_are_entries d_plan_of d_places Gck Gen Gpn Gpl
  have GX := ok_initX T M_I d_check_shape Gck
  have GO := ok_one1 mk M_I.b M_O GX
  have GL := ok_slead (k := 0) R M_L d_lead_at d_places Gld Gpl
  have GN : FnOk l.prog w K mg base CX0 1 gN _ ["self"] (spNums C) := ok_nums (k := 0) R M_N
  have GZ : FnOk l.prog w K mg base CX0 1 gZ _ ["self"] (spLen C) := ok_slen (k := 0) T R M_Z
  have GB : FnOk l.prog w K mg base CX0 1 gB _ ["self"] (spSBool C) := ok_sbool (k := 0) N R M_B
  have MS : Mets l.prog w K mg base C fI qL gL qN gN gZ gB _ _ _ _ _ := ⟨mk, GI, M_I.b, ⟨pLa, pLg, pLt, ⟨_, pLr⟩⟩, GL, M_L.b, ⟨pNa, pNg, pNt, ⟨_, pNr⟩⟩, GN, M_N.b, eZ, iZ, GZ, M_Z.b, eB, iB, GB, M_B.b⟩
  have Glp : FnOk l.prog w K mg base CX0 1 _ _ ["_law_shape"] spLPlaces := ok_lplaces (k := 0) T N d_law_places
  have Gtk : FnOk l.prog w K mg base CX0 1 _ _ ["_law_pot_here", "_law_total"] spTake := ok_take (k := 0) T d_law_dip
  have Gsm : FnOk l.prog w K mg base CX0 2 _ _ ["_law_pot_here", "_law_items"] spSome := ok_some (k := 0) T d_law_pick d_law_dip
  have Gle := ok_leads T N R d_law_leads_right d_law_places d_law_dip Glp Gtk MS
  have Gri : FnOk l.prog w K mg base CX0 11 fR _ ["_law_pot_here"] (spRight Pt) := ok_right T N R FC Tb d_law_is_refused (PySem.W.mg_of X G aX) own d_is_shape Gsh d_law_sizes (ok_sizes T d_law_sizes d_law_pick d_law_dip) d_law_is_right (ok_right_of (k := 0) T d_law_is_right) d_places Gpl d_is_place Gip d_law_leads_right Gle
    d_law_near (ok_near T N d_law_near d_law_pick d_law_dip) d_law_is_one (ok_one T N d_law_is_one d_law_places Glp) d_law_places Glp d_law_pick Gsm mk GX M_I.b ⟨rd, rga⟩ ⟨cmA, ⟨_, cmR⟩, cmF⟩ GO M_O.b
  exact ok_law T N d_law dR Gri d_law_pot (ok_urn (k := 0) T d_law_pot) d_places Gpl d_is_shape Gsh
end K04

open PySem PySem.W PyProof.Rows
set_option maxRecDepth 100000 in
set_option maxHeartbeats 0 in
theorem PySem.Challenge.cw_stairlots_k04_whole_shapes_and_places_holds : PySem.Challenge.rw_stairlots_k04_whole_shapes_and_places.Holds := by
  w_on; o_law; k_head; (case hw => w_witness2)
  k_fill
  refine LamX.walk_ofTs (l := PySem.Challenge.rw_stairlots_k04_whole_shapes_and_places) (n := 63) (k := 12) (x := "_law_script") (CX := K04.cx0) rfl (by decide) rfl ⟨rfl, by decide, by decide⟩ (fun w h Y => PySem.W.km_in_of Y) ?F (fun _ _ _ _ _ z => z.elim)
  case F =>
    intro w mg fa h Y KX G hmg
    refine' K04.all_of KX G hmg ?aC ?pg ?hd ?po ?sa ?nS ?nP ?nN ?mks ?ini ?ifn ?kpC ?eZ ?iZ ?eB ?iB ?pLa ?pLg ?pLt ?pLr ?pNa ?pNg ?pNt ?pNr ?rd ?rga ?cmA ?cmR ?cmF ?aX ?xX ?kX ?bX ?tX ?hdX ?sbX ?cst0 ?cst1 ?cst2 ?cst3 ?cst4 ?n_len ?n_abs ?n_int ?n_bool ?n_max ?n_min ?n_sum ?n_tuple ?n_range ?n_repr ?n_isinstance ?n_reversed ?n_all ?n_any ?n_list ?n_dict ?n_enumerate ?n_sorted ?n_str ?l_I ?c_I ?k_I ?l_O ?c_O ?k_O ?l_L ?c_L ?k_L ?l_N ?c_N ?k_N ?l_Z ?c_Z ?k_Z ?l_B ?c_B ?k_B ?a0 ?l0 ?c0 ?k0 ?a1 ?l1 ?c1 ?k1 ?a2 ?l2 ?c2 ?k2 ?a3 ?l3 ?c3 ?k3 ?a4 ?l4 ?c4 ?k4 ?a5 ?l5 ?c5 ?k5 ?a6 ?l6 ?c6 ?k6 ?a7 ?l7 ?c7 ?k7 ?a8 ?l8 ?c8 ?k8 ?a9 ?l9 ?c9 ?k9 ?a10 ?l10 ?c10 ?k10 ?a11 ?l11 ?c11 ?k11 ?a12 ?l12 ?c12 ?k12 ?a13 ?l13 ?c13 ?k13 ?a14 ?l14 ?c14 ?k14 ?a15 ?l15 ?c15 ?k15 ?a16 ?l16 ?c16 ?k16 ?a17 ?l17 ?c17 ?k17 ?a18 ?l18 ?c18 ?k18 ?a19 ?l19 ?c19 ?k19 ?a20 ?l20 ?c20 ?k20 ?a21 ?l21 ?c21 ?k21 ?aR ?lR ?cR ?kR ?lC ?vC ?nT ?cHd ?emp
    (case aC => k_is)
    (case pg => k_is)
    (case hd => k_is)
    (case po => k_is)
    (case sa => k_is)
    (case nS => k_is)
    (case nP => k_is)
    (case nN => k_is)
    (case mks => k_is)
    (case ini => k_is)
    (case ifn => k_is)
    (case kpC => k_is)
    (case eZ => k_is)
    (case iZ => k_is)
    (case eB => k_is)
    (case iB => k_is)
    (case pLa => k_is)
    (case pLg => k_is)
    (case pLt => k_is)
    (case pLr => k_is)
    (case pNa => k_is)
    (case pNg => k_is)
    (case pNt => k_is)
    (case pNr => k_is)
    (case rd => k_is)
    (case rga => k_is)
    (case cmA => k_is)
    (case cmR => k_is)
    (case cmF => k_is)
    (case aX => k_is)
    (case xX => first | k_exc | k_is)
    (case kX => k_is)
    (case bX => k_is)
    (case tX => k_is)
    (case hdX => k_is)
    (case sbX => first | rfl | k_is)
    (case cst0 => k_is)
    (case cst1 => k_is)
    (case cst2 => k_is)
    (case cst3 => k_is)
    (case cst4 => k_is)
    (case n_len => k_is)
    (case n_abs => k_is)
    (case n_int => k_is)
    (case n_bool => k_is)
    (case n_max => k_is)
    (case n_min => k_is)
    (case n_sum => k_is)
    (case n_tuple => k_is)
    (case n_range => k_is)
    (case n_repr => k_is)
    (case n_isinstance => k_is)
    (case n_reversed => k_is)
    (case n_all => k_is)
    (case n_any => k_is)
    (case n_list => k_is)
    (case n_dict => k_is)
    (case n_enumerate => k_is)
    (case n_sorted => k_is)
    (case n_str => k_is)
    (case l_I => k_is)
    (case c_I => k_is)
    (case k_I => k_is)
    (case l_O => k_is)
    (case c_O => k_is)
    (case k_O => k_is)
    (case l_L => k_is)
    (case c_L => k_is)
    (case k_L => k_is)
    (case l_N => k_is)
    (case c_N => k_is)
    (case k_N => k_is)
    (case l_Z => k_is)
    (case c_Z => k_is)
    (case k_Z => k_is)
    (case l_B => k_is)
    (case c_B => k_is)
    (case k_B => k_is)
    (case a0 => k_is)
    (case l0 => k_is)
    (case c0 => k_is)
    (case k0 => k_is)
    (case a1 => k_is)
    (case l1 => k_is)
    (case c1 => k_is)
    (case k1 => k_is)
    (case a2 => k_is)
    (case l2 => k_is)
    (case c2 => k_is)
    (case k2 => k_is)
    (case a3 => k_is)
    (case l3 => k_is)
    (case c3 => k_is)
    (case k3 => k_is)
    (case a4 => k_is)
    (case l4 => k_is)
    (case c4 => k_is)
    (case k4 => k_is)
    (case a5 => k_is)
    (case l5 => k_is)
    (case c5 => k_is)
    (case k5 => k_is)
    (case a6 => k_is)
    (case l6 => k_is)
    (case c6 => k_is)
    (case k6 => k_is)
    (case a7 => k_is)
    (case l7 => k_is)
    (case c7 => k_is)
    (case k7 => k_is)
    (case a8 => k_is)
    (case l8 => k_is)
    (case c8 => k_is)
    (case k8 => k_is)
    (case a9 => k_is)
    (case l9 => k_is)
    (case c9 => k_is)
    (case k9 => k_is)
    (case a10 => k_is)
    (case l10 => k_is)
    (case c10 => k_is)
    (case k10 => k_is)
    (case a11 => k_is)
    (case l11 => k_is)
    (case c11 => k_is)
    (case k11 => k_is)
    (case a12 => k_is)
    (case l12 => k_is)
    (case c12 => k_is)
    (case k12 => k_is)
    (case a13 => k_is)
    (case l13 => k_is)
    (case c13 => k_is)
    (case k13 => k_is)
    (case a14 => k_is)
    (case l14 => k_is)
    (case c14 => k_is)
    (case k14 => k_is)
    (case a15 => k_is)
    (case l15 => k_is)
    (case c15 => k_is)
    (case k15 => k_is)
    (case a16 => k_is)
    (case l16 => k_is)
    (case c16 => k_is)
    (case k16 => k_is)
    (case a17 => k_is)
    (case l17 => k_is)
    (case c17 => k_is)
    (case k17 => k_is)
    (case a18 => k_is)
    (case l18 => k_is)
    (case c18 => k_is)
    (case k18 => k_is)
    (case a19 => k_is)
    (case l19 => k_is)
    (case c19 => k_is)
    (case k19 => k_is)
    (case a20 => k_is)
    (case l20 => k_is)
    (case c20 => k_is)
    (case k20 => k_is)
    (case a21 => k_is)
    (case l21 => k_is)
    (case c21 => k_is)
    (case k21 => k_is)
    (case aR => k_is)
    (case lR => k_is)
    (case cR => k_is)
    (case kR => k_is)
    (case lC => k_is)
    (case vC => first | rfl | k_is)
    (case nT => first | rfl | k_is | decide +kernel)
    (case cHd => first | rfl | k_is | decide +kernel)
    (case emp => exact PySem.W.km_tabs_of Y _ (List.mem_singleton.mpr rfl))

