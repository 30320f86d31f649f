import PyProof.Rows.All
import Wide.All
import OpenK.AllK
import Wide.FinOn
import PySem.Challenge.RW_stairlots_k18_whole_worths_of_steps
import HandS.ForMost
import HandS.Exc
import HandS.TryOnly
import HandS.ExcOwn
import HandS.WordsExc
import HandS.Wide
import HandS.WideMore
import HandS.IsInst
import HandS.Property
import HandS.SlotsOwn
import HandS.Codes
import HandS.Walk
import HandS.Style
import HandS.Comp
import HandS.More
import HandS.Conv
import HandS.Lambda
import HandS.EndTab
import KE.IntTextText
import KE.GoesEnum
import KE.KTupSum
import KE.DataMinMax
import HandS.TupSets
import HandS.Deep
import HandS.DictComp
import HandS.DictTup
import HandS.Iter
import KE.KDictPairs
import KE.KOpsOwn
import KE.KCallOwn
import KE.DataAny
import HandS.Zip
import KE.KDictZip
import KE.GoesMore
import HandS.Zip0
import KE.KDictWalk
import KE.KDictSum
import PyProof.Rows.TupDisplay
import KE.KExcInit
import HandS.Small
import KE.KDictCopyH
import HandS.DictEq
import KE.KFmtOwn
import PyProof.ListNew
import HandS.ListItems
import HandS.TupLen
import HandS.TupMul
import HandS.ClsMeth
import HandS.Defaults
import HandS.ExcIs
import KE.KExcLine
set_option Elab.async false
set_option linter.all false
set_option maxRecDepth 100000
set_option maxHeartbeats 8000000
set_option exponentiation.threshold 2000
/-! # the pot -/
namespace K18
open PySem PySem.Spec PyProof.Rows L2
def topS (i : Nat) : Stmt := PySem.Challenge.pw_stairlots_k18_whole_worths_of_steps.main.body.getD i (.Pass ⟨0, 0, 0, 0⟩)
/-! ### rules of my own -/
/-- ** of a base of any size, the result below 2 ^ 27 bits -/
def CPowW (i j : Int) : Prop := 0 ≤ j ∧ (Builtin.Int.intBits i : Int) * j ≤ 2 ^ 27
theorem op_powW {X : Cx} : OpR X (binaryOp .Pow) (rI CPowW fun i j => .int (i ^ j.toNat)) := opI fun _ _ _ _ _ _ _ hc q => pow_int hc.1 hc.2 q
theorem sub_same {H : Hp} {p : Addr} {o : HO} (h : H p = none) : Same H (upd H p o) := fun b x e => by
  rw [upd_ne (ne_of_none e h)]
  exact e
/-- all but one address as before -/
def But (a : Addr) (H H' : Hp) : Prop := ∀ b, b ≠ a → H' b = H b
theorem But.refl (a : Addr) (H : Hp) : But a H H := fun _ _ => rfl
theorem But.trans {a : Addr} {H H1 H2 : Hp} (x : But a H H1) (y : But a H1 H2) : But a H H2 := fun b hb => (y b hb).trans (x b hb)
theorem but_upd (a : Addr) (H : Hp) (o : HO) : But a H (upd H a o) := fun b hb => upd_ne hb
/-! ### the urn: a list of three ints -/
def Urn (H : Hp) (a : Addr) : Prop := ∃ g m c : Int, H a = some (.lst [.int g, .int m, .int c])
theorem Urn.seq {K : PySem.W.Frag} {H : Hp} {a : Addr} {xs : List V} (h : H a = some (.lst xs)) : SqL K H a xs := .inl (.inl h)
section
variable {P : Program} {w : World} {K : PySem.W.Frag} {mg : Str → Option Value} {base : Heap}
structure Txt (mg : Str → Option Value) : Prop where
  n_len : mg "len" = none
  n_abs : mg "abs" = none
  n_int : mg "int" = none
  n_bool : mg "bool" = none
  n_max : mg "max" = none
  n_min : mg "min" = none
  n_sum : mg "sum" = none
  n_tuple : mg "tuple" = none
  n_range : mg "range" = none
  n_repr : mg "repr" = none
  n_isinstance : mg "isinstance" = none
  n_reversed : mg "reversed" = none
structure D (K : PySem.W.Frag) (mg : Str → Option Value) (x : Str) (st : Stmt) (ps : List Str) (f : Addr) (fd : FuncData) : Prop where
  F : Fun K x x st f fd
  g : mg x = some (.ref f)
  b : Binds K fd ps []
end
end K18
/-! # enumerate(tuple) -/
namespace K18W
open PySem PySem.Spec PyProof.Rows
set_option maxHeartbeats 1000000 in
theorem meets_enumerate_new1 {v : Value} {o : Obj} {H : Heap → Prop} (B : Begins v o H) :
    Meets (Builtin.«enumerate.__new__» ⟨[.type "enumerate", v], []⟩) (fun _ R s => H s.heap ∧
      R (.ok (.ret (.ref (s.heap.push o).objs.size))) { s with heap := (s.heap.push o).push { cls := .type "enumerate", data := .fields #[.none, .bool false, .ref s.heap.objs.size, rawInt 0, .none, .none] } }) :=
  .of_wp fun prog w A R s h => by
    obtain ⟨hp, g, d, tk, os⟩ := s; obtain ⟨h1, h⟩ := h
    have hsub := sub_enumerate
    have q1 : ∀ {A' : Around} {E : Value → Shared → Prop} {Q : Value → Shared → Prop}, Q (.ref hp.objs.size) ⟨hp.push o, g, d, tk, os⟩ → wpAny (model prog w) A' (pyIter v) Q E ⟨hp, g, d, tk, os⟩ :=
      fun q => B.iter prog w _ _ ⟨hp, g, d, tk, os⟩ _ h1 q
    wp_walk using q1
    refine wpAny_stack_any fun st => wpAny_pure ?_
    split
    · rename_i c _ _ _ _ _
      cases (c == Value.type "enumerate")
      · wp_walk using q1
        exact ⟨_, rfl, h⟩
      · wp_walk using q1
        exact ⟨_, rfl, h⟩
    · wp_walk using q1
      exact ⟨_, rfl, h⟩
section
variable {prog : Program} {w : World} {A : Around} {E : Value → Shared → Prop} {s : Shared}
theorem enum_begins1 {v : Value} {o : Obj} {H : Heap → Prop} {Q : Value → Shared → Prop} (B : Begins v o H) (h1 : H s.heap)
    (h : ∀ h', IsEnum h' (s.heap.objs.size + 1) s.heap.objs.size 0 .none → h'.get? s.heap.objs.size = some o → h'.objs.size = s.heap.objs.size + 2 →
      (∀ b o, s.heap.get? b = some o → h'.get? b = some o) → Q (.ref (s.heap.objs.size + 1)) { s with heap := h' }) :
    wpAny (model prog w) A (call (.type "enumerate") [v]) Q E s := by
  refine callType_new F.called_enumerate (by decide) (F.typeCall_enumerate_1 _) (F.newCall_enumerate_1 _) (fun obj => F.args_object_init_2 obj _) F.entry_enumerate_new
    (meets_enumerate_new1 B) ⟨h1, ?_⟩
  have hz : (s.heap.push o).objs.size = s.heap.objs.size + 1 := Heap.size_push ..
  show _ ∧ _
  rw [hz]
  have he : IsEnum ((s.heap.push o).push { cls := .type "enumerate", data := .fields #[.none, .bool false, .ref s.heap.objs.size, rawInt 0, .none, .none] }) (s.heap.objs.size + 1) s.heap.objs.size 0 .none := by
    have := Heap.get?_push_size (s.heap.push o) (o := { cls := .type "enumerate", data := .fields #[.none, .bool false, .ref s.heap.objs.size, rawInt 0, .none, .none] }) rfl
    rw [hz] at this; exact this
  refine ⟨⟨_, he, rfl⟩, h _ he (Heap.get?_push_of_some _ (Heap.get?_push_size _ B.free)) (by rw [Heap.size_push, hz]) fun b o x => Heap.get?_push_of_some _ (Heap.get?_push_of_some _ x)⟩
theorem enum_end_tuple {e it a : Addr} {i : Nat} {items : Array Value} {c : Int} {old : Value} {Q : Option Value → Shared → Prop} (hh : A.handled = none)
    (he : IsEnum s.heap e it c old) (hit : s.heap.IsTupleIter it a i) (ht : s.heap.IsTuple a items) (hx : items[i]? = none)
    (hQ : ∀ h', Heap.ExtBut it s.heap h' → Q none { s with heap := h' }) : wpAny (model prog w) A (pyNext (.ref e)) Q E s := by
  have hT : s.TypeIs (.ref e) "enumerate" := ⟨_, he, rfl⟩
  unfold pyNext
  refine wpAny_bind (wpAny_attempt (wpAny_callSpecial?_slot (name := Str.ofString "__next__") hT F.slot_enumerate_next
    (wpAny_call_entry F.slot_enumerate_next hT F.entry_enumerate_next ?_ (F.args_enumerate_next_1 _))))
  show wpAny _ _ (field (.ref e) 2 >>= _) _ _ _
  refine wpAny_bind (wpAny_field he rfl (x := .ref it) rfl ?_)
  refine wpAny_bind (wpAny_nextOf_tuple_end (A := A.in1) hh hit ht hx fun h' x he' hx' => ?_)
  obtain ⟨o, ho, hc⟩ := hx'
  refine wpAny_bind (wpAny_isInstance (T := "StopIteration") (b := true) ⟨o, ho, hc⟩ isSubtype_stop ?_)
  exact wpAny_pure (hQ _ he')
end
end K18W
namespace K18
open PySem PySem.Spec PyProof.Rows L2
/-- the tuple at a, each item in a new pair -/
def IteT (K : PySem.W.Frag) (a : Addr) : It :=
  ⟨fun i H => ∃ (xs : List V) (x : V), SqT K H a xs ∧ xs[i]? = some x, fun i H v H' => ∃ T x, v = .ref T ∧ H T = none ∧ H' = upd H T (.tup [.int (i : Nat), x]) ∧ ∀ xs, SqT K H a xs → xs[i]? = some x, fun i H => ∃ xs : List V, SqT K H a xs ∧ xs.length ≤ i⟩
theorem turn_enumT {P : Program} {w : World} {K : PySem.W.Frag} {elts : List Expr} {kk : Nat} {tpos : Pos} (a e it : Addr) :
    Turn P w K (.Tuple elts kk tpos) (IteT K a) [e, it] e (fun i h => (∃ old, IsEnum h e it ((i : Nat) : Int) old) ∧ h.IsTupleIter it a i ∧ e ≠ it) where
  mem := by simp
  obj := fun i h st b hb => by
    obtain ⟨⟨old, he⟩, ⟨o, ho, hc, hd⟩, _⟩ := st
    have e' : b = e ∨ b = it := by simpa using hb
    rcases e' with z | z
    · rw [z]; exact ⟨_, he, fun v q => nomatch q⟩
    · rw [z]; exact ⟨o, ho, fun v q => by rw [hd] at q; cases q⟩
  keep := fun i h h' st k => let ⟨⟨old, he⟩, hi, hne⟩ := st; ⟨⟨old, k e (by simp) _ he⟩, hi.at fun o q => k it (by simp) o q, hne⟩
  item := by
    intro X hP hw hK hc i pins s σ H E I hf st hg
    subst hP hw hK
    obtain ⟨⟨old, he⟩, hit, hne⟩ := st
    obtain ⟨xs, x, hq, hx⟩ := hg
    obtain ⟨its, rv, p, hz⟩ := I.tuple hq
    obtain ⟨u, hu, ru⟩ := rv.get hx
    have p' : s.heap.IsTuple a its.toArray := p
    have ai : a ≠ it := fun z => by
      obtain ⟨o, ho, ho2, _⟩ := id hit
      obtain ⟨o', ho', hc', _⟩ := id p'
      rw [z, ho] at ho'
      rw [Option.some.inj ho', hc'] at ho2
      exact absurd ho2 (by decide)
    have ae : a ≠ e := fun z => by
      obtain ⟨o', ho', hc', _⟩ := id p'
      rw [z, he] at ho'
      rw [← Option.some.inj ho'] at hc'
      exact absurd (show Value.type "enumerate" = Value.type "tuple" from hc') (by decide)
    have hel : e < s.heap.objs.size := Heap.lt_size he
    have hil : it < s.heap.objs.size := by obtain ⟨_, q, _⟩ := hit; exact Heap.lt_size q
    have il : i < its.toArray.size := by
      have z := (List.getElem?_eq_some_iff.mp hu).1
      simpa using z
    have DD : Draws X.prog X.w X.A.in1 it [it, a] its.toArray.size (fun i v => its.toArray[i]? = some v) (fun i h => h.IsTupleIter it a i ∧ h.IsTuple a its.toArray) := Draws.tuple (A := X.A.in1) (I.ok.hd hc) it a ai its.toArray
    refine wpAny_pyNext_enum_itemC DD he ⟨hit, p'⟩ il hne (fun z => by
      rcases List.mem_cons.mp z with z | z
      · exact hne z
      · exact ae (List.mem_singleton.mp z).symm) fun u' h' tk hP ho hit' hT hsz hk => ?_
    have eu : u' = u := by
      have z : its[i]? = some u' := by simpa using hP
      rw [hu] at z
      exact (Option.some.inj z).symm
    subst eu
    refine ⟨_, rfl, wpAny_letOwnedTupleGo_enum (s := { s with heap := h', toks := tk + 1 }) ho fun h'' he' sb => ?_⟩
    have hT2 : h''.get? s.heap.objs.size = some { cls := .type "tuple", data := .seq #[.int i tk, u'] } := (sb.2 _ (Nat.ne_of_gt hel)).trans hT
    have new : ObjOk X.prog X.w (upd H s.heap.objs.size (.tup [.int (i : Nat), x])) h'' s.heap.objs.size (.tup [.int (i : Nat), x]) :=
      ⟨by show 2 ≤ sizeLine; decide, [.int i tk, u'], .cons ⟨_, rfl⟩ (.cons ru .nil), ⟨_, hT2, rfl, _, rfl⟩⟩
    have I1 : Inv X pins σ (upd H s.heap.objs.size (.tup [.int (i : Nat), x])) { s with heap := h'', toks := tk + 1 } :=
      I.turnedNew (ch := [e, it]) (fun b ob hb q => (sb.2 b (fun z => hb (by simp [z]))).trans (hk b ob (fun z => hb (by simp [z])) (fun z => hb (by simp [z])) q)) hf (Nat.le_refl _) new
    refine ⟨.ref s.heap.objs.size, _, I1, rfl, ⟨_, x, rfl, I.hok.fresh (Nat.le_refl _), rfl, fun ys hy => by rw [I.tuple_inj hy hq]; exact hx⟩, ⟨⟨u', ?_⟩, hit'.1.at fun o q => (sb.2 it (Ne.symm hne)).trans q, hne⟩, fun b hb => ?_⟩
    · have e1 : ((i + 1 : Nat) : Int) = (i : Int) + 1 := by omega
      rw [e1]; exact he'
    · have hb' : b < s.heap.objs.size := by
        have e' : b = e ∨ b = it := by simpa using hb
        rcases e' with z | z
        · rw [z]; exact hel
        · rw [z]; exact hil
      rw [upd_ne (Nat.ne_of_lt hb')]
      exact (hf b hb).1
  done := by
    intro X hP hw hK hc i pins s σ H E I hf st hg
    subst hP hw hK
    obtain ⟨⟨old, he⟩, hit, hne⟩ := st
    obtain ⟨xs, hq, hx⟩ := hg
    obtain ⟨its, rv, p, hz⟩ := I.tuple hq
    have p' : s.heap.IsTuple a its.toArray := p
    obtain ⟨f0, f1, f2, f3, f4, f5⟩ := hf it (by simp)
    have hl := rv.length
    exact K18W.enum_end_tuple (I.ok.hd hc) he hit p' (by simp; omega) fun h' eb => ⟨rfl, I.turned (t' := s.toks) (fun b o hb e => eb b o hb e) f0 f1 f3 f4 f5⟩
  self := fun A i s Q E st h => let ⟨⟨_, he⟩, _⟩ := st; wpAny_pyIter_enum he h
def iEnumT (K : PySem.W.Frag) (ta : TA) : TI := fun σ H R => ta σ H fun vs H1 => ∃ a xs, vs = [.ref a] ∧ SqT K H1 a xs ∧ R (IteT K a) H1
theorem pi_enumT {X : Cx} {e : Expr} {ta : TA} {p pos tpos : Pos} {elts : List Expr} {kk : Nat} (hg : Gl X "enumerate") (hm : X.mg "enumerate" = none) (ha : PA X [e] ta) (hs : starEach [e] X.env = [(false, eval e X.env)] := by rfl) :
    PI X (.Tuple elts kk tpos) (.Call (.Name "enumerate" p) [e] [] pos) (iEnumT X.K ta) := by
  refine ⟨fun pins s σ H R I h => ?_⟩
  refine Call_ (ld_blt I hg hm boot_enumerate (PyProof.Rows.callWith_type1 (thn (ha.run pos pins s σ H _ I h) fun us s1 ⟨vs, H1, I1, r1, q1⟩ => ?_) hs rfl))
  obtain ⟨a, xs, ex, hq, q⟩ := q1
  subst ex
  cases r1 with
  | cons r rr =>
    cases rr
    cases r
    obtain ⟨its, rv, p', hz⟩ := I1.tuple hq
    refine K18W.enum_begins1 (begins_tuple a its.toArray) (show s1.heap.IsTuple a its.toArray from p') fun h' he hit hsz hk => wpAny_pyIter_enum he ?_
    have I2 : Inv X pins σ H1 { s1 with heap := h' } := I1.kept (t' := s1.toks) hk
    refine ⟨s1.heap.objs.size + 1, [s1.heap.objs.size + 1, s1.heap.objs.size], _, _, H1, rfl, I2, turn_enumT a (s1.heap.objs.size + 1) s1.heap.objs.size, ⟨⟨.none, he⟩, ⟨_, hit, rfl, rfl⟩, Nat.succ_ne_self _⟩, fun b hb => ?_, q⟩
    have e' : b = s1.heap.objs.size + 1 ∨ b = s1.heap.objs.size := by simpa using hb
    have hle : s1.heap.objs.size ≤ b := by
      rcases e' with z | z
      · rw [z]; exact Nat.le_add_right _ _
      · rw [z]; exact Nat.le_refl _
    exact I1.fpOk hle (I1.hok.fresh hle)
end K18
namespace K18
open PySem PySem.Spec PyProof.Rows L2
theorem walk_enumT {K : PySem.W.Frag} {a : Addr} {xs : List V} : Walk (IteT K a) xs.length (fun H => SqT K H a xs) (YPair (fun i => some (.int (i : Nat))) (fun i => xs[i]?)) := by
  refine ⟨fun i _ hi q => ⟨xs, xs[i], q, by simp [hi]⟩, fun _ q => ⟨xs, q, Nat.le_refl _⟩, fun i H v H' _ q y => ?_⟩
  obtain ⟨T, x, h1, h2, h3, h4⟩ := y
  exact ⟨T, .int (i : Nat), x, h1, h2, h3, rfl, h4 xs q⟩
end K18
/-! # sums and greatest of tuples; kinds of values; shapes -/
namespace K18
open PySem PySem.Spec PyProof.Rows L2
section
variable {X : Cx}
theorem cr_sumT (hc : X.calm = true) : CallR X (.builtin "sum") (fun vs H Q => ∃ (a : Addr) (ns : List Int), vs = [V.ref a] ∧ SqT X.K H a (ns.map V.int) ∧ Q (.int ns.sum) H) := by
  intro pins s σ H vs us Q I r h
  obtain ⟨a, ns, rfl, hs, q⟩ := h
  obtain ⟨its, rv, hl, _⟩ := I.tuple hs
  rw [Vals.ref1 r]
  have hi := rv.ints
  obtain ⟨xs, e⟩ := hi.allInts.items
  have hn : numsOf (PySem.intItems xs).toList = ns := by rw [← e]; exact hi.numsOf
  rw [nums_intItems] at hn
  have hl' : s.heap.IsTuple a its.toArray := hl
  rw [e] at hl'
  refine PySem.W.ktm_sumG (I.ok.hd hc) hl' fun h' tk t' hk => ?_
  have z : EP X pins σ Q (.int ns.sum t') { s with heap := h', toks := tk } := ⟨.int _, H, I.kept hk, ⟨_, rfl⟩, q⟩
  rw [preSum_eq, List.take_of_length_le (by simp), hn]
  exact z
theorem alike_int (ns : List Int) : PySem.W.AlikeAll (ns.map PyData.int) := by
  refine ⟨fun x hx y hy => ?_, fun x hx => ?_⟩
  · obtain ⟨i, _, rfl⟩ := List.mem_map.mp hx
    obtain ⟨j, _, rfl⟩ := List.mem_map.mp hy
    rfl
  · obtain ⟨i, _, rfl⟩ := List.mem_map.mp hx
    exact fun z => by cases z
theorem dp_ints (K : PySem.W.Frag) (H : Hp) : ∀ ns : List Int, DpAll K H (ns.map V.int) (ns.map PyData.int)
  | [] => .nil
  | n :: r => .cons (.int n) (dp_ints K H r)
theorem dep_ints : ∀ ns : List Int, PyData.depthAll (ns.map PyData.int) = 0
  | [] => rfl
  | n :: r => by
    show max 0 (PyData.depthAll (r.map PyData.int)) = 0
    rw [dep_ints r]
    rfl
theorem cr_maxT (hc : X.calm = true) (hu : X.A.units + 8 < cLine) : CallR X (.builtin "max") (fun vs H Q => ∃ (a : Addr) (n : Int) (ns : List Int), vs = [V.ref a] ∧ SqT X.K H a ((n :: ns).map V.int) ∧ Q (.int (ns.foldl max n)) H) := by
  intro pins s σ H vs us Q I r h
  obtain ⟨a, n, ns, rfl, hs, q⟩ := h
  obtain ⟨its, rv, hl, _⟩ := I.tuple hs
  rw [Vals.ref1 r]
  obtain ⟨as, ra⟩ := Dp.readsAll I ((n :: ns).map PyData.int) _ its (dp_ints X.K H (n :: ns)) rv
  refine PySem.W.max_tuple_data (x := .int n) (xs := ns.map PyData.int) (I.ok.hd hc) (show s.heap.IsTuple a its.toArray from hl) (show ReadsAll s.heap its.toArray.toList _ _ from ra) (alike_int (n :: ns)) (by rw [show PyData.int n :: ns.map PyData.int = (n :: ns).map PyData.int from rfl, dep_ints]; omega) fun i v h' tk bs _ hr hk => ?_
  rw [PySem.W.maxD_ints] at hr
  obtain ⟨t, rfl⟩ : ∃ t, v = .int (ns.foldl max n) t := by
    cases hr
    exact ⟨_, rfl⟩
  exact ⟨.int _, H, I.kept hk, ⟨_, rfl⟩, q⟩
end
/-! ### kinds of values -/
mutual
/-- a value without lists and dicts -/
inductive Tv (K : PySem.W.Frag) (H : Hp) : V → PyData → Prop
  | non : Tv K H .non .none
  | bl (b : Bool) : Tv K H (.bl b) (.bool b)
  | int (i : Int) : Tv K H (.int i) (.int i)
  | str (z : Str) : Tv K H (.str z) (.str z)
  | tup {a : Addr} {xs : List V} {ds : List PyData} : SqT K H a xs → TvL K H xs ds → Tv K H (.ref a) (.tuple ds)
inductive TvL (K : PySem.W.Frag) (H : Hp) : List V → List PyData → Prop
  | nil : TvL K H [] []
  | cons {x : V} {d : PyData} {xs : List V} {ds : List PyData} : Tv K H x d → TvL K H xs ds → TvL K H (x :: xs) (d :: ds)
end
/-- all objects but the one at a as before, new ones may be there -/
def Old (a : Addr) (H H' : Hp) : Prop := ∀ b o, b ≠ a → H b = some o → H' b = some o
theorem Old.of_same {a : Addr} {H H' : Hp} (s : Same H H') : Old a H H' := fun b o _ h => s b o h
theorem Old.of_but {a : Addr} {H H' : Hp} (s : But a H H') : Old a H H' := fun b o n h => (s b n).trans h
theorem Old.trans {a : Addr} {H H1 H2 : Hp} (x : Old a H H1) (y : Old a H1 H2) : Old a H H2 := fun b o n h => y b o n (x b o n h)
theorem Urn.same {H H' : Hp} {a : Addr} (u : Urn H a) (s : Same H H') : Urn H' a := let ⟨g, m, c, h⟩ := u; ⟨g, m, c, s _ _ h⟩
theorem urn_ne {H : Hp} {a p : Addr} (u : Urn H a) (h : H p = none) : p ≠ a := fun e => by
  obtain ⟨g, m, c, hu⟩ := u
  rw [e, hu] at h
  cases h
theorem sqt_new {K : PySem.W.Frag} {H : Hp} {a : Addr} {xs : List V} (e : H a = some (.tup xs)) : SqT K H a xs := .inl (.inl e)
theorem sqt_same {K : PySem.W.Frag} {H H' : Hp} {a : Addr} {xs : List V} (h : SqT K H a xs) (s : Same H H') : SqT K H' a xs := by
  rcases h with (e | ⟨od, e⟩) | h
  · exact .inl (.inl (s _ _ e))
  · exact .inl (.inr ⟨od, s _ _ e⟩)
  · exact .inr h
theorem sqt_ne {K : PySem.W.Frag} {H H' : Hp} {a : Addr} {xs : List V} (h : SqT K H a xs) (k : ∀ o, H a = some o → (o = .tup xs ∨ ∃ od, o = .frz od (.tup xs)) → H' a = some o) : SqT K H' a xs := by
  rcases h with (e | ⟨od, e⟩) | h
  · exact .inl (.inl (k _ e (.inl rfl)))
  · exact .inl (.inr ⟨od, k _ e (.inr ⟨od, rfl⟩)⟩)
  · exact .inr h
theorem sqt_old {K : PySem.W.Frag} {H H' : Hp} {a u : Addr} {xs : List V} (hu : Urn H u) (o : Old u H H') (h : SqT K H a xs) : SqT K H' a xs := sqt_ne h fun ob e k => o a _ (fun z => by
  obtain ⟨g, m, c, eu⟩ := hu
  rw [z, eu] at e
  cases e
  rcases k with k | ⟨_, k⟩ <;> cases k) e
theorem sqt_upd {K : PySem.W.Frag} {H : Hp} {a b : Addr} {xs : List V} {y : HO} (h : SqT K H a xs) (k : ∀ o, H b = some o → o ≠ .tup xs ∧ ∀ od, o ≠ .frz od (.tup xs)) : SqT K (upd H b y) a xs := sqt_ne h fun ob e w => by
  rw [upd_ne (fun z => by
    rw [z] at e
    rcases w with w | ⟨od, w⟩
    · exact (k _ e).1 w
    · exact (k _ e).2 od w)]
  exact e
mutual
theorem Tv.old {K : PySem.W.Frag} {H H' : Hp} {u : Addr} (hu : Urn H u) (o : Old u H H') : ∀ {x : V} {d : PyData}, Tv K H x d → Tv K H' x d
  | _, _, .non => .non
  | _, _, .bl b => .bl b
  | _, _, .int i => .int i
  | _, _, .str z => .str z
  | _, _, .tup e l => .tup (sqt_old hu o e) (l.old hu o)
theorem TvL.old {K : PySem.W.Frag} {H H' : Hp} {u : Addr} (hu : Urn H u) (o : Old u H H') : ∀ {xs : List V} {ds : List PyData}, TvL K H xs ds → TvL K H' xs ds
  | _, _, .nil => .nil
  | _, _, .cons h t => .cons (h.old hu o) (t.old hu o)
end
mutual
theorem Tv.same {K : PySem.W.Frag} {H H' : Hp} (o : Same H H') : ∀ {x : V} {d : PyData}, Tv K H x d → Tv K H' x d
  | _, _, .non => .non
  | _, _, .bl b => .bl b
  | _, _, .int i => .int i
  | _, _, .str z => .str z
  | _, _, .tup e l => .tup (sqt_same e o) (l.same o)
theorem TvL.same {K : PySem.W.Frag} {H H' : Hp} (o : Same H H') : ∀ {xs : List V} {ds : List PyData}, TvL K H xs ds → TvL K H' xs ds
  | _, _, .nil => .nil
  | _, _, .cons h t => .cons (h.same o) (t.same o)
end
mutual
theorem Tv.put {K : PySem.W.Frag} {H : Hp} {D : Addr} {xs ys : List V} (hd : H D = some (.lst xs)) : ∀ {x : V} {d : PyData}, Tv K H x d → Tv K (upd H D (.lst ys)) x d
  | _, _, .non => .non
  | _, _, .bl b => .bl b
  | _, _, .int i => .int i
  | _, _, .str z => .str z
  | _, _, .tup e l => .tup (sqt_upd e fun o h => by
      rw [hd] at h
      cases h
      exact ⟨fun z => (by cases z), fun _ z => (by cases z)⟩) (l.put hd)
theorem TvL.put {K : PySem.W.Frag} {H : Hp} {D : Addr} {xs ys : List V} (hd : H D = some (.lst xs)) : ∀ {zs : List V} {ds : List PyData}, TvL K H zs ds → TvL K (upd H D (.lst ys)) zs ds
  | _, _, .nil => .nil
  | _, _, .cons h t => .cons (h.put hd) (t.put hd)
end
theorem TvL.snoc {K : PySem.W.Frag} {H : Hp} : ∀ {xs : List V} {ds : List PyData} {x : V} {d : PyData}, TvL K H xs ds → Tv K H x d → TvL K H (xs ++ [x]) (ds ++ [d])
  | _, _, _, _, .nil, h => .cons h .nil
  | _, _, _, _, .cons a t, h => .cons a (t.snoc h)
theorem TvL.len {K : PySem.W.Frag} {H : Hp} : ∀ {xs : List V} {ds : List PyData}, TvL K H xs ds → xs.length = ds.length
  | _, _, .nil => rfl
  | _, _, .cons _ t => congrArg (· + 1) t.len
theorem TvL.get {K : PySem.W.Frag} {H : Hp} : ∀ {xs : List V} {ds : List PyData} {i : Nat} {x : V}, TvL K H xs ds → xs[i]? = some x → ∃ d, ds[i]? = some d ∧ Tv K H x d
  | _, _, _, _, .nil, h => by simp at h
  | _, _, 0, _, .cons a _, h => by
    rw [List.getElem?_cons_zero] at h
    obtain rfl := Option.some.inj h
    exact ⟨_, rfl, a⟩
  | _, _, i + 1, _, .cons _ t, h => by
    rw [List.getElem?_cons_succ] at h
    exact t.get h
/-- such a value, a list of ints, a dict of one int to one int -/
inductive Dw (K : PySem.W.Frag) (H : Hp) : V → PyData → Prop
  | tv {x : V} {d : PyData} : Tv K H x d → Dw K H x d
  | lst {a : Addr} {ns : List Int} : H a = some (.lst (ns.map V.int)) → Dw K H (.ref a) (.list (ns.map .int))
  | dic {a : Addr} {m n : Int} : H a = some (.dK [(.inl m, .int n)]) → Dw K H (.ref a) (.dict [(.int m, .int n)])
theorem Dw.same {K : PySem.W.Frag} {H H' : Hp} (o : Same H H') {x : V} {d : PyData} (h : Dw K H x d) : Dw K H' x d := by
  cases h with
  | tv t => exact .tv (t.same o)
  | lst e => exact .lst (o _ _ e)
  | dic e => exact .dic (o _ _ e)
abbrev kit (K : PySem.W.Frag) (t c : Value) (b : Bool) : Prop := PySem.W.kitOne K t c = some b
/-- the name of the type -/
def tyN : PyData → String
  | .none => "NoneType"
  | .bool _ => "bool"
  | .int _ => "int"
  | .str _ => "str"
  | .list _ => "list"
  | .tuple _ => "tuple"
  | .dict _ => "dict"
theorem Tv.ty {K : PySem.W.Frag} {H : Hp} {x : V} {d : PyData} (h : Tv K H x d) : TyX K H x (.type (tyN d)) := by
  cases h with
  | non => exact .base .non
  | bl b => exact .base (.bl b)
  | int i => exact .base (.int i)
  | str z => exact .base (.str z)
  | tup e _ =>
    rcases e with (e | ⟨od, e⟩) | ⟨o, its, n, e, c, _⟩
    · exact .base (.tup e)
    · exact .fTuple e
    · exact .kTuple e c
theorem Dw.ty {K : PySem.W.Frag} {H : Hp} {x : V} {d : PyData} (h : Dw K H x d) : TyX K H x (.type (tyN d)) := by
  cases h with
  | tv t => exact t.ty
  | lst e => exact .base (.lst e)
  | dic e => exact .base (.dK e)
def isT : PyData → Bool
  | .tuple _ => true
  | _ => false
def isB : PyData → Bool
  | .bool _ => true
  | _ => false
def isI : PyData → Bool
  | .bool _ => true
  | .int _ => true
  | _ => false
theorem kitT {K : PySem.W.Frag} : ∀ d : PyData, kit K (.type (tyN d)) (.type "tuple") (isT d)
  | .none => kit_ty (show kitB "NoneType" "tuple" = some false by decide +kernel)
  | .bool _ => kit_ty (show kitB "bool" "tuple" = some false by decide +kernel)
  | .int _ => kit_ty (show kitB "int" "tuple" = some false by decide +kernel)
  | .str _ => kit_ty (show kitB "str" "tuple" = some false by decide +kernel)
  | .list _ => kit_ty (show kitB "list" "tuple" = some false by decide +kernel)
  | .tuple _ => kit_ty (show kitB "tuple" "tuple" = some true by decide +kernel)
  | .dict _ => kit_ty (show kitB "dict" "tuple" = some false by decide +kernel)
theorem kitB' {K : PySem.W.Frag} : ∀ d : PyData, kit K (.type (tyN d)) (.type "bool") (isB d)
  | .none => kit_ty (show kitB "NoneType" "bool" = some false by decide +kernel)
  | .bool _ => kit_ty (show kitB "bool" "bool" = some true by decide +kernel)
  | .int _ => kit_ty (show kitB "int" "bool" = some false by decide +kernel)
  | .str _ => kit_ty (show kitB "str" "bool" = some false by decide +kernel)
  | .list _ => kit_ty (show kitB "list" "bool" = some false by decide +kernel)
  | .tuple _ => kit_ty (show kitB "tuple" "bool" = some false by decide +kernel)
  | .dict _ => kit_ty (show kitB "dict" "bool" = some false by decide +kernel)
theorem kitI {K : PySem.W.Frag} : ∀ d : PyData, kit K (.type (tyN d)) (.type "int") (isI d)
  | .none => kit_ty (show kitB "NoneType" "int" = some false by decide +kernel)
  | .bool _ => kit_ty (show kitB "bool" "int" = some true by decide +kernel)
  | .int _ => kit_ty (show kitB "int" "int" = some true by decide +kernel)
  | .str _ => kit_ty (show kitB "str" "int" = some false by decide +kernel)
  | .list _ => kit_ty (show kitB "list" "int" = some false by decide +kernel)
  | .tuple _ => kit_ty (show kitB "tuple" "int" = some false by decide +kernel)
  | .dict _ => kit_ty (show kitB "dict" "int" = some false by decide +kernel)
theorem iteP {p A B : Prop} [Decidable p] (h : p) (a : A) : if decide p = true then A else B := by
  rw [if_pos (decide_eq_true h)]
  exact a
theorem iteQ {p A B : Prop} [Decidable p] (h : ¬ p) (b : B) : if decide p = true then A else B := by
  rw [if_neg (fun z => h (of_decide_eq_true z))]
  exact b
/-- an int from lo to hi -/
def btw (d : PyData) (lo hi : Int) : Bool := match d with
  | .int n => decide (lo ≤ n) && decide (n ≤ hi)
  | _ => false
def isW : PyData → Bool
  | .int _ => true
  | _ => false
theorem isW_eq (d : PyData) : (isI d && !isB d) = isW d := by cases d <;> rfl
section
variable {P : Program} {w : World} {K : PySem.W.Frag} {mg : Str → Option Value} {base : Heap}
abbrev s_is_whole : Stmt := topS 12
theorem sc_is_whole : FnScope ["value"] ["value"] (defScope s_is_whole) := ⟨rfl, rfl, rfl, by decide +kernel, rfl, by decide +kernel, by decide +kernel⟩
abbrev s_is_integer : Stmt := topS 13
theorem sc_is_integer : FnScope ["value"] ["value"] (defScope s_is_integer) := ⟨rfl, rfl, rfl, by decide +kernel, rfl, by decide +kernel, by decide +kernel⟩
abbrev s_is_between : Stmt := topS 14
theorem sc_is_between : FnScope ["value", "least", "most"] ["value", "least", "most"] (defScope s_is_between) := ⟨rfl, rfl, rfl, by decide +kernel, rfl, by decide +kernel, by decide +kernel⟩
abbrev s_is_index : Stmt := topS 15
theorem sc_is_index : FnScope ["value", "many"] ["value", "many"] (defScope s_is_index) := ⟨rfl, rfl, rfl, by decide +kernel, rfl, by decide +kernel, by decide +kernel⟩
def spWhole (K : PySem.W.Frag) : Sp := fun vs H Q _ => ∃ (x : V) (d : PyData), vs = [x] ∧ Dw K H x d ∧ Q (.bl (isW d)) H
theorem ok_whole {f : Addr} {fd : FuncData} {k : Nat} (T : Txt mg) (d : D K mg "is_whole" s_is_whole ["value"] f fd) : FnOk P w K mg base CX0 (k + 1) f fd ["value"] (spWhole K) := by
  refine d.F.ok sc_is_whole (fun vs H Q E h => ?_) (fun cdv A outer s H vs Q E hr h => ?_)
  · obtain ⟨x, d, rfl, _⟩ := h
    rfl
  · obtain ⟨x, d, rfl, hd, q⟩ := h
    refine ⟨_, (pss_one (ps_ret (pe_and (pe_callB call_isi (by rfl) T.n_isinstance (by decide +kernel) (pa_cons (pv 0) (pa_cons (pe_bltn (v := .ty "int") (by rfl) T.n_int (by decide +kernel) rfl) pa_nil)))
      (pe_one (pe_not (pe_callB call_isi (by rfl) T.n_isinstance (by decide +kernel) (pa_cons (pv 0) (pa_cons (pe_bltn (v := .ty "bool") (by rfl) T.n_bool (by decide +kernel) rfl) pa_nil)))))))), ?_⟩
    refine ⟨_, rfl, _, _, _, _, _, rfl, .ty _, hd.ty, kitI d, _, rfl, ?_⟩
    rw [← isW_eq] at q
    cases e : isI d with
    | false =>
      rw [e] at q
      exact iteF q
    | true =>
      rw [e] at q
      exact iteT ⟨_, rfl, _, _, _, _, _, rfl, .ty _, hd.ty, kitB' d, _, rfl, q⟩
def spBtw (K : PySem.W.Frag) : Sp := fun vs H Q _ => ∃ (x : V) (d : PyData) (lo hi : Int), vs = [x, .int lo, .int hi] ∧ Dw K H x d ∧ Q (.bl (btw d lo hi)) H
theorem ok_between {f f1 : Addr} {fd fd1 : FuncData} {k : Nat} (T : Txt mg) (d : D K mg "is_between" s_is_between ["value", "least", "most"] f fd) (d1 : D K mg "is_whole" s_is_whole ["value"] f1 fd1) : FnOk P w K mg base CX0 (k + 2) f fd ["value", "least", "most"] (spBtw K) := by
  have G1 : FnOk P w K mg base CX0 (k + 1) f1 fd1 ["value"] (spWhole K) := ok_whole T d1
  refine d.F.ok sc_is_between (fun vs H Q E h => ?_) (fun cdv A outer s H vs Q E hr h => ?_)
  · obtain ⟨x, d, lo, hi, rfl, _⟩ := h
    rfl
  · obtain ⟨x, d, lo, hi, rfl, hd, q⟩ := h
    refine ⟨_, (pss_one (ps_ret (pe_and (pe_call G1 hr (by rfl) d1.g d1.F.kp d1.b .nil pass0 (pa_cons (pv 0) pa_nil)) (pe_one (pe_chain op_le op_le (pv 1) (pv 0) (pv 2)))))), ?_⟩
    refine ⟨_, rfl, x, d, rfl, hd, _, rfl, ?_⟩
    cases d with
    | int n =>
      cases hd with
      | tv t =>
        cases t
        refine iteT ⟨_, rfl, _, rfl, _, _, rfl, rfl, _, rfl, ?_⟩
        show if decide (lo ≤ n) = true then _ else _
        have q' : Q (.bl (decide (lo ≤ n) && decide (n ≤ hi))) H := q
        by_cases l : lo ≤ n
        · rw [decide_eq_true l] at q'
          exact iteP l ⟨_, rfl, _, _, rfl, rfl, q'⟩
        · rw [decide_eq_false l] at q'
          exact iteQ l q'
    | _ => exact iteF q
def spIdx (K : PySem.W.Frag) : Sp := fun vs H Q _ => ∃ (x : V) (d : PyData) (n : Int), vs = [x, .int n] ∧ Dw K H x d ∧ Q (.bl (btw d 0 (n - 1))) H
theorem ok_index {f f1 f2 : Addr} {fd fd1 fd2 : FuncData} {k : Nat} (T : Txt mg) (d : D K mg "is_index" s_is_index ["value", "many"] f fd) (d1 : D K mg "is_between" s_is_between ["value", "least", "most"] f1 fd1) (d2 : D K mg "is_whole" s_is_whole ["value"] f2 fd2) : FnOk P w K mg base CX0 (k + 3) f fd ["value", "many"] (spIdx K) := by
  have G1 : FnOk P w K mg base CX0 (k + 2) f1 fd1 ["value", "least", "most"] (spBtw K) := ok_between T d1 d2
  refine d.F.ok sc_is_index (fun vs H Q E h => ?_) (fun cdv A outer s H vs Q E hr h => ?_)
  · obtain ⟨x, d, n, rfl, _⟩ := h
    rfl
  · obtain ⟨x, d, n, rfl, hd, q⟩ := h
    refine ⟨_, (pss_one (ps_ret (pe_call G1 hr (by rfl) d1.g d1.F.kp d1.b .nil pass0 (pa_cons (pv 0) (pa_cons pe_int (pa_cons (pe_op op_sub (pv 1) pe_int) pa_nil)))))), ?_⟩
    exact ⟨_, rfl, _, rfl, _, _, rfl, rfl, x, d, 0, n - 1, rfl, hd, q⟩
end
end K18
/-! # shapes -/
namespace K18
open PySem PySem.Spec PyProof.Rows L2
/-- names of the module, and its numbers -/
structure Nam (mg : Str → Option Value) : Prop where
  n_all : mg "all" = none
  n_any : mg "any" = none
  n_list : mg "list" = none
  n_dict : mg "dict" = none
  n_enumerate : mg "enumerate" = none
  n_sorted : mg "sorted" = none
  n_str : mg "str" = none
  cB : ∃ t, mg "_MOST_BLOCKS" = some (.int 3 t)
  cL : ∃ t, mg "_LEAST_SIZE" = some (.int 2 t)
  cS : ∃ t, mg "_MOST_SIZE" = some (.int 6 t)
  cM : ∃ t, mg "MAX_BOXES" = some (.int 8 t)
  cI : ∃ t, mg "_LIMIT" = some (.int (10 ^ 60) t)
def sumD : List PyData → Int
  | [] => 0
  | .int n :: r => n + sumD r
  | _ :: r => sumD r
def isSh : PyData → Bool
  | .tuple ds => (decide (1 ≤ (ds.length : Int)) && decide ((ds.length : Int) ≤ 3)) && (ds.all (fun d => btw d 2 6) && decide (sumD ds ≤ 8))
  | _ => false
theorem all_ints : ∀ {ds : List PyData}, ds.all (fun d => btw d 2 6) = true → ∃ ns : List Int, ds = ns.map .int ∧ ∀ n ∈ ns, 2 ≤ n ∧ n ≤ 6
  | [], _ => ⟨[], rfl, fun n h => by cases h⟩
  | d :: r, h => by
    rw [List.all_cons, Bool.and_eq_true] at h
    obtain ⟨ns, e, b⟩ := all_ints h.2
    cases d with
    | int n =>
      have z : (decide (2 ≤ n) && decide (n ≤ 6)) = true := h.1
      rw [Bool.and_eq_true] at z
      refine ⟨n :: ns, by rw [e]; rfl, fun m hm => ?_⟩
      rcases List.mem_cons.mp hm with rfl | hm
      · exact ⟨of_decide_eq_true z.1, of_decide_eq_true z.2⟩
      · exact b m hm
    | _ => exact absurd h.1 Bool.false_ne_true
theorem sum_ints : ∀ ns : List Int, sumD (ns.map .int) = ns.sum
  | [] => rfl
  | n :: r => by
    show n + sumD (r.map .int) = (n :: r).sum
    rw [sum_ints r, List.sum_cons]
theorem TvL.ints {K : PySem.W.Frag} {H : Hp} : ∀ {xs : List V} {ns : List Int}, TvL K H xs (ns.map .int) → xs = ns.map V.int
  | [], [], _ => rfl
  | _ :: _, [], h => by cases h
  | [], _ :: _, h => by cases h
  | x :: xs, n :: ns, h => by
    cases h with
    | cons a t =>
      cases a
      rw [t.ints]
      rfl
/-- a shape -/
def Shp (ns : List Int) : Prop := (1 ≤ ns.length ∧ ns.length ≤ 3) ∧ (∀ n ∈ ns, 2 ≤ n ∧ n ≤ 6) ∧ ns.sum ≤ 8
theorem shp_of {d : PyData} (h : isSh d = true) : ∃ ns, d = .tuple (ns.map .int) ∧ Shp ns := by
  cases d with
  | tuple ds =>
    have z : ((decide (1 ≤ (ds.length : Int)) && decide ((ds.length : Int) ≤ 3)) && (ds.all (fun d => btw d 2 6) && decide (sumD ds ≤ 8))) = true := h
    simp only [Bool.and_eq_true] at z
    obtain ⟨⟨h1, h2⟩, h3, h4⟩ := z
    obtain ⟨ns, e, b⟩ := all_ints h3
    subst e
    have h1 := of_decide_eq_true h1
    have h2 := of_decide_eq_true h2
    have h4 := of_decide_eq_true h4
    rw [List.length_map] at h1 h2
    rw [sum_ints] at h4
    exact ⟨ns, rfl, ⟨by omega, by omega⟩, b, h4⟩
  | _ => exact absurd h Bool.false_ne_true
theorem shp_is {ns : List Int} (h : Shp ns) : isSh (.tuple (ns.map .int)) = true := by
  obtain ⟨⟨h1, h2⟩, b, h4⟩ := h
  show ((decide (1 ≤ ((ns.map PyData.int).length : Int)) && decide (((ns.map PyData.int).length : Int) ≤ 3)) && ((ns.map PyData.int).all (fun d => btw d 2 6) && decide (sumD (ns.map .int) ≤ 8))) = true
  rw [List.length_map, sum_ints, decide_eq_true h4, decide_eq_true (show 1 ≤ (ns.length : Int) by omega), decide_eq_true (show (ns.length : Int) ≤ 3 by omega)]
  have z : (ns.map PyData.int).all (fun d => btw d 2 6) = true := by
    rw [List.all_eq_true]
    intro d hd
    obtain ⟨n, hn, rfl⟩ := List.mem_map.mp hd
    obtain ⟨c1, c2⟩ := b n hn
    show (decide (2 ≤ n) && decide (n ≤ 6)) = true
    rw [decide_eq_true c1, decide_eq_true c2]
    rfl
  rw [z]
  rfl
section
variable {P : Program} {w : World} {K : PySem.W.Frag} {mg : Str → Option Value} {base : Heap}
abbrev s_is_shape : Stmt := topS 22
theorem sc_is_shape : FnScope ["value", "size"] ["value"] (defScope s_is_shape) := ⟨rfl, rfl, rfl, by decide +kernel, rfl, by decide +kernel, by decide +kernel⟩
def spShape (K : PySem.W.Frag) : Sp := fun vs H Q _ => ∃ (x : V) (d : PyData), vs = [x] ∧ Dw K H x d ∧ ∀ H', Same H H' → Q (.bl (isSh d)) H'
theorem ok_shape {f f1 f2 : Addr} {fd fd1 fd2 : FuncData} {k : Nat} (T : Txt mg) (N : Nam mg) (d : D K mg "is_shape" s_is_shape ["value"] f fd) (d1 : D K mg "is_between" s_is_between ["value", "least", "most"] f1 fd1) (d2 : D K mg "is_whole" s_is_whole ["value"] f2 fd2) : FnOk P w K mg base CX0 (k + 3) f fd ["value"] (spShape K) := by
  have G1 : FnOk P w K mg base CX0 (k + 2) f1 fd1 ["value", "least", "most"] (spBtw K) := ok_between T d1 d2
  obtain ⟨tB, cB⟩ := N.cB
  obtain ⟨tL, cL⟩ := N.cL
  obtain ⟨tS, cS⟩ := N.cS
  obtain ⟨tM, cM⟩ := N.cM
  refine d.F.ok sc_is_shape (fun vs H Q E h => ?_) (fun cdv A outer s H vs Q E hr h => ?_)
  · obtain ⟨x, d, rfl, _⟩ := h
    rfl
  · obtain ⟨x, d, rfl, hd, q⟩ := h
    refine ⟨_, (pss_cons (ps_if (PW.pt (pw_or (pt_not (pt_val (pe_callB call_isi (by rfl) T.n_isinstance (by decide +kernel) (pa_cons (pv 0) (pa_cons (pe_bltn (v := .ty "tuple") (by rfl) T.n_tuple (by decide +kernel) rfl) pa_nil)))))
        (pw_or1 (pt_not (pt_chain op_le op_le pe_int (pe_callB call_len_seq (by rfl) T.n_len PySem.boot_len (pa_cons (pv 0) pa_nil)) (pe_glob (v := .int 3) rfl cB ⟨_, rfl⟩)))))) (pss_one (ps_ret pe_bl)) pss_nil)
      (pss_cons (ps_if (pt_not (pt_val (pe_callB (cr_all rfl) (by rfl) N.n_all (by decide +kernel) (pa_cons (pe_lc (own := [("size", 1)]) (g := gName 1) (tt := tYes) rfl sc_is_shape.nd (pi_tup (pv 0)) (blkOk_by (own := [("size", 1)]) (N := ["value", "size"]) (sc := defScope s_is_shape) (by decide +kernel))
            (fun _ _ _ _ _ => pg_name (i := 1) sc_is_shape.nd rfl (Or.inl rfl)) (fun _ _ _ _ _ => pts_nil) (fun _ _ _ _ _ => pe_call G1 hr (by rfl) d1.g d1.F.kp d1.b .nil pass0 (pa_cons (pv 1) (pa_cons (pe_glob (v := .int 2) rfl cL ⟨_, rfl⟩) (pa_cons (pe_glob (v := .int 6) rfl cS ⟨_, rfl⟩) pa_nil))))) pa_nil)))) (pss_one (ps_ret pe_bl)) pss_nil)
      (pss_one (ps_ret (pe_cmpR op_le (pe_callB (cr_sumT rfl) (by rfl) T.n_sum (by decide +kernel) (pa_cons (pv 0) pa_nil)) (pe_glob (v := .int 8) rfl cM ⟨_, rfl⟩) (nomark _)))))), ?_⟩
    refine ⟨_, rfl, _, _, _, _, _, rfl, .ty _, hd.ty, kitT d, _, rfl, ?_⟩
    cases d with
    | tuple ds =>
      obtain ⟨a, xs, rfl, e, l⟩ : ∃ a xs, x = .ref a ∧ SqT K H a xs ∧ TvL K H xs ds := by
        cases hd with
        | tv t =>
          cases t with
          | tup e l => exact ⟨_, _, rfl, e, l⟩
      have ll := l.len
      refine ite2 (fun z => absurd z Bool.false_ne_true) (fun _ => ?_)
      refine ⟨.ref a, rfl, a, xs, rfl, .inr e, _, _, rfl, rfl, _, rfl, ?_⟩
      rw [ll]
      by_cases c1 : 1 ≤ (ds.length : Int)
      · refine iteP c1 ⟨_, _, rfl, rfl, _, rfl, ?_⟩
        by_cases c2 : (ds.length : Int) ≤ 3
        · rw [decide_eq_true c2]
          refine ite2 (fun z => absurd z Bool.false_ne_true) (fun _ => ?_)
          refine ⟨_, rfl, a, rfl, ⟨_, e⟩, fun D hD => ?_⟩
          have off : ∀ {Z : Hp} {o : HO}, Same H Z → Same H (upd Z D o) := fun sz b o h => by
            rw [upd_ne (ne_of_none h hD)]
            exact sz b o h
          refine lc_tup (K := K) (a := a) (xs := xs) (fun i H' => Same H H' ∧ H' D = some (.lst (((ds.take i).map fun d => btw d 2 6).map V.bl))) ⟨off (Same.refl H), upd_same⟩ (fun i H' _ h => sqt_same e h.1) ?_ ?_
          · rintro i x H' hx ⟨sm, hl⟩
            obtain ⟨d0, hd0, tv⟩ := l.get hx
            have il : i < ds.length := (List.getElem?_eq_some_iff.mp hd0).1
            refine ⟨rfl, ?_⟩
            unfold tYes
            refine ite2 (fun _ => ?_) (fun q => absurd rfl q)
            refine ⟨_, rfl, x, d0, 2, 6, rfl, .tv (tv.same sm), ?_⟩
            refine ⟨_, hl, Nat.lt_of_lt_of_le (show _ < 4 by rw [List.length_map, List.length_map, List.length_take]; omega) (by decide), off sm, ?_⟩
            have tk : ds.take (i + 1) = ds.take i ++ [d0] := by rw [List.take_succ, hd0]; rfl
            rw [upd_same, tk, List.map_append, List.map_append]
            rfl
          · rintro H' ⟨sm, hl⟩
            rw [ll, List.take_length] at hl
            refine ⟨D, ds.map fun d => btw d 2 6, rfl, .inl (.inl hl), _, rfl, ?_⟩
            have e1 : (ds.map fun d => btw d 2 6).all id = ds.all fun d => btw d 2 6 := by rw [List.all_map]; rfl
            rw [e1]
            have q' := q H' sm
            have z0 : isSh (.tuple ds) = ((decide (1 ≤ (ds.length : Int)) && decide ((ds.length : Int) ≤ 3)) && (ds.all (fun d => btw d 2 6) && decide (sumD ds ≤ 8))) := rfl
            rw [z0, decide_eq_true c1, decide_eq_true c2, Bool.true_and, Bool.true_and] at q'
            cases c3 : ds.all fun d => btw d 2 6 with
            | false =>
              rw [c3] at q'
              exact ite2 (fun _ => q') (fun z => absurd rfl z)
            | true =>
              rw [c3, Bool.true_and] at q'
              refine ite2 (fun z => absurd z Bool.false_ne_true) (fun _ => ?_)
              obtain ⟨ns, en, _⟩ := all_ints c3
              subst en
              rw [sum_ints] at q'
              have ex := l.ints
              exact ⟨_, rfl, a, ns, rfl, (by rw [← ex]; exact sqt_same e sm), _, _, rfl, rfl, q'⟩
        · rw [decide_eq_false c2]
          refine ite2 (fun _ => ?_) (fun z => absurd rfl z)
          have z : isSh (.tuple ds) = false := by
            show ((decide (1 ≤ (ds.length : Int)) && decide ((ds.length : Int) ≤ 3)) && _) = false
            rw [decide_eq_false c2, Bool.and_false, Bool.false_and]
          have q' := q H (Same.refl H)
          rw [z] at q'
          exact q'
      · refine iteQ c1 ⟨_, rfl, ite2 (fun _ => ?_) (fun z => absurd rfl z)⟩
        have z : isSh (.tuple ds) = false := by
          show ((decide (1 ≤ (ds.length : Int)) && decide ((ds.length : Int) ≤ 3)) && _) = false
          rw [decide_eq_false c1, Bool.false_and, Bool.false_and]
        have q' := q H (Same.refl H)
        rw [z] at q'
        exact q'
    | _ => exact ite2 (fun _ => ite2 (fun _ => q H (Same.refl H)) (fun z => absurd rfl z)) (fun z => absurd rfl z)
end
end K18
/-! # shapes, by the law -/
/-! # a value is drawn -/
namespace K18
open PySem PySem.Spec PyProof.Rows L2
inductive DwL (K : PySem.W.Frag) (H : Hp) : List V → List PyData → Prop
  | nil : DwL K H [] []
  | cons {x : V} {d : PyData} {xs : List V} {ds : List PyData} : Dw K H x d → DwL K H xs ds → DwL K H (x :: xs) (d :: ds)
theorem DwL.same {K : PySem.W.Frag} {H H' : Hp} (o : Same H H') : ∀ {xs : List V} {ds : List PyData}, DwL K H xs ds → DwL K H' xs ds
  | _, _, .nil => .nil
  | _, _, .cons h t => .cons (h.same o) (t.same o)
theorem DwL.get {K : PySem.W.Frag} {H : Hp} : ∀ {xs : List V} {ds : List PyData} {i : Nat} {x : V}, DwL K H xs ds → xs[i]? = some x → ∃ d, d ∈ ds ∧ Dw K H x d
  | _, _, _, _, .nil, h => by simp at h
  | _, _, 0, _, .cons a _, h => by
    rw [List.getElem?_cons_zero] at h
    obtain rfl := Option.some.inj h
    exact ⟨_, List.mem_cons_self .., a⟩
  | _, _, i + 1, _, .cons _ t, h => by
    rw [List.getElem?_cons_succ] at h
    obtain ⟨d, m, z⟩ := t.get h
    exact ⟨d, List.mem_cons_of_mem _ m, z⟩
theorem DwL.len {K : PySem.W.Frag} {H : Hp} : ∀ {xs : List V} {ds : List PyData}, DwL K H xs ds → xs.length = ds.length
  | _, _, .nil => rfl
  | _, _, .cons _ t => congrArg (· + 1) t.len
theorem Dw.old {K : PySem.W.Frag} {H H' : Hp} {u : Addr} {x : V} {d : PyData} (hu : Urn H u) (o : Old u H H') (h : Dw K H x d) (n : ∀ a b c : Int, d ≠ .list ([a, b, c].map .int)) : Dw K H' x d := by
  have off : ∀ {a : Addr} {v : HO}, H a = some v → (∀ g m c : Int, v ≠ .lst [.int g, .int m, .int c]) → a ≠ u := fun e n z => by
    obtain ⟨g, m, c, eu⟩ := hu
    rw [z, eu] at e
    exact n g m c (Option.some.inj e).symm
  cases h with
  | tv t => exact .tv (t.old hu o)
  | @lst a ns e =>
    refine .lst (o _ _ (off e fun g m c z => ?_) e)
    have z2 : ns.map V.int = [g, m, c].map V.int := HO.lst.inj z
    have inj : ∀ {l r : List Int}, l.map V.int = r.map V.int → l = r := fun {l r} h => by
      induction l generalizing r with
      | nil => cases r with
        | nil => rfl
        | cons _ _ => cases h
      | cons x l ih => cases r with
        | nil => cases h
        | cons y r =>
          rw [List.map_cons, List.map_cons] at h
          obtain ⟨h1, h2⟩ := List.cons.inj h
          rw [V.int.inj h1, ih h2]
    exact n g m c (by rw [inj z2])
  | dic e => exact .dic (o _ _ (off e fun g m c z => by cases z) e)
/-! ### what an expression lays -/
def Lays (K : PySem.W.Frag) (σ : L2.St) (t : TE) (d : PyData) : Prop := ∀ (H : Hp) (Q : VK), (∀ x H', Same H H' → Tv K H' x d → Q x H') → t σ H Q
def LaysA (K : PySem.W.Frag) (σ : L2.St) (t : TA) (ds : List PyData) : Prop := ∀ (H : Hp) (Q : List V → Hp → Prop), (∀ xs H', Same H H' → TvL K H' xs ds → Q xs H') → t σ H Q
def LaysD (K : PySem.W.Frag) (σ : L2.St) (t : TE) (d : PyData) : Prop := ∀ (H : Hp) (Q : VK), (∀ x H', Same H H' → Dw K H' x d → Q x H') → t σ H Q
def LaysDA (K : PySem.W.Frag) (σ : L2.St) (t : TA) (ds : List PyData) : Prop := ∀ (H : Hp) (Q : List V → Hp → Prop), (∀ xs H', Same H H' → DwL K H' xs ds → Q xs H') → t σ H Q
section
variable {σ : L2.St}
theorem Lays.int {K : PySem.W.Frag} (n : Int) : Lays K σ (tC (.int n)) (.int n) := fun H Q q => q _ _ (Same.refl H) (.int n)
theorem Lays.str {K : PySem.W.Frag} (z : Str) : Lays K σ (tC (.str z)) (.str z) := fun H Q q => q _ _ (Same.refl H) (.str z)
theorem Lays.bl {K : PySem.W.Frag} (b : Bool) : Lays K σ (tC (.bl b)) (.bool b) := fun H Q q => q _ _ (Same.refl H) (.bl b)
theorem Lays.non {K : PySem.W.Frag} : Lays K σ (tC .non) .none := fun H Q q => q _ _ (Same.refl H) .non
theorem LaysA.nil {K : PySem.W.Frag} : LaysA K σ tNil [] := fun H Q q => q _ _ (Same.refl H) .nil
theorem LaysA.cons {K : PySem.W.Frag} {t : TE} {ts : TA} {d : PyData} {ds : List PyData} (h : Lays K σ t d) (hs : LaysA K σ ts ds) : LaysA K σ (tCons t ts) (d :: ds) := fun H Q q =>
  h H _ fun x H1 s1 t1 => hs H1 _ fun xs H2 s2 t2 => q (x :: xs) H2 (s1.trans s2) (.cons (t1.same s2) t2)
theorem Lays.tup {K : PySem.W.Frag} {ts : TA} {ds : List PyData} (hs : LaysA K σ ts ds) (l : ds.length ≤ 100) : Lays K σ (tTup ts) (.tuple ds) := fun H Q q =>
  hs H _ fun xs H1 s1 t1 => ⟨by rw [t1.len]; exact Nat.le_trans l (by decide), fun p np => q _ _ (s1.trans (sub_same np)) (.tup (sqt_new upd_same) (t1.same (sub_same np)))⟩
theorem Lays.d {K : PySem.W.Frag} {t : TE} {d : PyData} (h : Lays K σ t d) : LaysD K σ t d := fun H Q q => h H Q fun x H' s t => q x H' s (.tv t)
theorem LaysDA.nil {K : PySem.W.Frag} : LaysDA K σ tNil [] := fun H Q q => q _ _ (Same.refl H) .nil
theorem LaysDA.cons {K : PySem.W.Frag} {t : TE} {ts : TA} {d : PyData} {ds : List PyData} (h : LaysD K σ t d) (hs : LaysDA K σ ts ds) : LaysDA K σ (tCons t ts) (d :: ds) := fun H Q q =>
  h H _ fun x H1 s1 t1 => hs H1 _ fun xs H2 s2 t2 => q (x :: xs) H2 (s1.trans s2) (.cons (t1.same s2) t2)
theorem LaysD.lst {K : PySem.W.Frag} {ts : TA} {ns : List Int} (hs : LaysA K σ ts (ns.map .int)) (l : ns.length ≤ 100) : LaysD K σ (tLst ts) (.list (ns.map .int)) := fun H Q q =>
  hs H _ fun xs H1 s1 t1 => ⟨by rw [t1.len, List.length_map]; exact Nat.le_trans l (by decide), fun p np => q _ _ (s1.trans (sub_same np)) (.lst (by rw [upd_same, t1.ints]))⟩
theorem LaysD.dic {K : PySem.W.Frag} (m n : Int) : LaysD K σ (tDisp [(tC (.int m), tC (.int n))]) (.dict [(.int m, .int n)]) := fun H Q q p np => by
  refine ⟨upd_same, [(.inl m, .int n)], rfl, (by decide : 1 ≤ 15), q _ _ (fun b o e => ?_) (.dic upd_same)⟩
  rw [upd_ne (ne_of_none e np), upd_ne (ne_of_none e np)]
  exact e
theorem Lays.pow {K : PySem.W.Frag} (i j : Int) (h : CPowW i j) : Lays K σ (tOp (rI CPowW fun i j => .int (i ^ j.toNat)) (tC (.int i)) (tC (.int j))) (.int (i ^ j.toNat)) := fun H Q q => ⟨_, _, rfl, rfl, h, q _ _ (Same.refl H) (.int _)⟩
theorem lay_lst {K : PySem.W.Frag} {ts : TA} {ds : List PyData} (hs : LaysDA K σ ts ds) (l : ds.length ≤ 100) {H : Hp} {Q : VK} (q : ∀ xs H1 b, Same H H1 → H1 b = none → DwL K H1 xs ds → Q (.ref b) (upd H1 b (.lst xs))) : tLst ts σ H Q :=
  hs H _ fun xs H1 s1 t1 => ⟨by rw [t1.len]; exact Nat.le_trans l (by decide), fun b nb => q xs H1 b s1 nb t1⟩
end
end K18
/-! # places -/
namespace K18
open PySem PySem.Spec PyProof.Rows L2
abbrev Tri := Int × Int × Int
def triV (t : Tri) : List V := [.int t.1, .int t.2.1, .int t.2.2]
def triD (t : Tri) : PyData := .tuple [.int t.1, .int t.2.1, .int t.2.2]
/-- the places of the block b at the distance d, those of the first k rows -/
def rowsP (b d : Int) (k : Nat) : List Tri := (List.range k).map fun (r : Nat) => (b, (r : Int), (r : Int) + d)
/-- those of the first j blocks -/
def blkP (ns : List Int) (d : Int) (j : Nat) : List Tri := (List.range j).flatMap fun (b : Nat) => rowsP b d (ns.getD b 0 - d).toNat
/-- those at the first i distances -/
def disP (ns : List Int) (i : Nat) : List Tri := (List.range i).flatMap fun (e : Nat) => blkP ns (1 + (e : Int)) ns.length
def mx : List Int → Int
  | [] => 0
  | n :: r => r.foldl max n
/-- the places in their order -/
def pl (ns : List Int) : List Tri := disP ns (mx ns - 1).toNat
theorem rowsP_succ (b d : Int) (k : Nat) : rowsP b d (k + 1) = rowsP b d k ++ [(b, (k : Int), (k : Int) + d)] := by
  unfold rowsP
  rw [List.range_succ, List.map_append]
  rfl
theorem blkP_succ (ns : List Int) (d : Int) (j : Nat) : blkP ns d (j + 1) = blkP ns d j ++ rowsP j d (ns.getD j 0 - d).toNat := by
  unfold blkP
  rw [List.range_succ, List.flatMap_append, List.flatMap_singleton]
theorem disP_succ (ns : List Int) (i : Nat) : disP ns (i + 1) = disP ns i ++ blkP ns (1 + (i : Int)) ns.length := by
  unfold disP
  rw [List.range_succ, List.flatMap_append, List.flatMap_singleton]
theorem rowsP_len (b d : Int) (k : Nat) : (rowsP b d k).length = k := by
  unfold rowsP
  rw [List.length_map, List.length_range]
theorem blkP_len {ns : List Int} {d : Int} (b : ∀ n ∈ ns, 2 ≤ n ∧ n ≤ 6) (h : 0 ≤ d) : ∀ j, (blkP ns d j).length ≤ 6 * j
  | 0 => Nat.le_refl _
  | j + 1 => by
    rw [blkP_succ, List.length_append, rowsP_len]
    have z := blkP_len b h j
    have y : (ns.getD j 0 - d).toNat ≤ 6 := by
      have x : ns.getD j 0 ≤ 6 := by
        rw [List.getD_eq_getElem?_getD]
        cases e : ns[j]? with
        | none => show (0 : Int) ≤ 6; decide
        | some n => exact (b n (List.mem_of_getElem? e)).2
      omega
    omega
theorem disP_len {ns : List Int} (h : Shp ns) : ∀ i, (disP ns i).length ≤ 18 * i
  | 0 => Nat.le_refl _
  | i + 1 => by
    rw [disP_succ, List.length_append]
    have z := disP_len h i
    have y := blkP_len (d := 1 + (i : Int)) h.2.1 (by omega) ns.length
    have x := h.1.2
    omega
theorem mx_le {ns : List Int} (h : ∀ n ∈ ns, n ≤ 6) : mx ns ≤ 6 := by
  cases ns with
  | nil => show (0 : Int) ≤ 6; decide
  | cons n r =>
    show r.foldl max n ≤ 6
    have go : ∀ (r : List Int) (n : Int), n ≤ 6 → (∀ m ∈ r, m ≤ 6) → r.foldl max n ≤ 6 := fun r => by
      induction r with
      | nil => exact fun n h _ => h
      | cons m r ih =>
        intro n hn hr
        rw [List.foldl_cons]
        exact ih _ (Int.max_le.mpr ⟨hn, hr m (List.mem_cons_self ..)⟩) fun k hk => hr k (List.mem_cons_of_mem _ hk)
    exact go r n (h n (List.mem_cons_self ..)) fun m hm => h m (List.mem_cons_of_mem _ hm)
theorem fold_ge : ∀ (r : List Int) (n : Int), n ≤ r.foldl max n
  | [], n => Int.le_refl n
  | m :: r, n => Int.le_trans (Int.le_max_left n m) (fold_ge r (max n m))
/-- tracked triples -/
inductive TrL (H : Hp) : List V → List Tri → Prop
  | nil : TrL H [] []
  | cons {c : Addr} {t : Tri} {xs : List V} {ts : List Tri} : H c = some (.tup (triV t)) → TrL H xs ts → TrL H (.ref c :: xs) (t :: ts)
theorem TrL.same {H H' : Hp} (o : Same H H') : ∀ {xs : List V} {ts : List Tri}, TrL H xs ts → TrL H' xs ts
  | _, _, .nil => .nil
  | _, _, .cons e l => .cons (o _ _ e) (l.same o)
theorem TrL.old {H H' : Hp} {u : Addr} (hu : Urn H u) (o : Old u H H') : ∀ {xs : List V} {ts : List Tri}, TrL H xs ts → TrL H' xs ts
  | _, _, .nil => .nil
  | _, _, .cons (c := c) e l => .cons (o c _ (fun z => by
      obtain ⟨g, m, k, eu⟩ := hu
      rw [z, eu] at e
      cases e) e) (l.old hu o)
theorem TrL.put {H : Hp} {D : Addr} {ws ys : List V} (hd : H D = some (.lst ws)) : ∀ {xs : List V} {ts : List Tri}, TrL H xs ts → TrL (upd H D (.lst ys)) xs ts
  | _, _, .nil => .nil
  | _, _, .cons (c := c) e l => .cons ((upd_ne (fun z => by rw [z, hd] at e; cases e)).trans e) (l.put hd)
theorem TrL.snoc {H : Hp} {c : Addr} {t : Tri} (e : H c = some (.tup (triV t))) : ∀ {xs : List V} {ts : List Tri}, TrL H xs ts → TrL H (xs ++ [.ref c]) (ts ++ [t])
  | _, _, .nil => .cons e .nil
  | _, _, .cons a l => .cons a (l.snoc e)
theorem TrL.len {H : Hp} : ∀ {xs : List V} {ts : List Tri}, TrL H xs ts → xs.length = ts.length
  | _, _, .nil => rfl
  | _, _, .cons _ l => congrArg (· + 1) l.len
theorem TrL.tri {H : Hp} : ∀ {xs : List V} {ts : List Tri} {i : Nat} {x : V}, TrL H xs ts → xs[i]? = some x → ∃ t c, ts[i]? = some t ∧ x = .ref c ∧ H c = some (.tup (triV t))
  | _, _, _, _, .nil, h => by simp at h
  | _, _, 0, _, .cons e _, h => by
    rw [List.getElem?_cons_zero] at h
    obtain rfl := Option.some.inj h
    exact ⟨_, _, rfl, rfl, e⟩
  | _, _, i + 1, _, .cons _ l, h => by
    rw [List.getElem?_cons_succ] at h
    exact l.tri h
/-- an error class of the package that keeps nothing -/
structure OpX (K : PySem.W.Frag) (mg : Str → Option Value) (nm : Str) (C : Addr) : Prop where
  x : PySem.W.excIn K C [.type "ValueError", .type "Exception", .type "BaseException", .type "object"] "ValueError.__new__" = true
  g : mg nm = some (.ref C)
  k : PySem.W.keepIn K (.ref C) = true
  b : PySem.W.subIn K (.ref C) (.type "BaseException") = some true
  t : PySem.W.typeIn K (.ref C) = some (.type "type")
theorem tvl_ints {K : PySem.W.Frag} {Z : Hp} : ∀ l : List Int, TvL K Z (l.map V.int) (l.map .int)
  | [] => .nil
  | x :: r => .cons (.int x) (tvl_ints r)
theorem int_at {ns : List Int} {i : Nat} {x : V} (h : (ns.map V.int)[i]? = some x) : ∃ z : Int, ns[i]? = some z ∧ x = .int z := by
  rw [List.getElem?_map] at h
  cases e : ns[i]? with
  | none =>
    rw [e] at h
    cases h
  | some z =>
    rw [e] at h
    exact ⟨z, rfl, (Option.some.inj h).symm⟩
section
variable {P : Program} {w : World} {K : PySem.W.Frag} {mg : Str → Option Value} {base : Heap} {CS : Addr}
abbrev s_check : Stmt := topS 23
theorem sc_check : FnScope ["shape"] ["shape"] (defScope s_check) := ⟨rfl, rfl, rfl, by decide +kernel, rfl, by decide +kernel, by decide +kernel⟩
abbrev s_places : Stmt := topS 24
theorem sc_places : FnScope ["shape", "found", "distance", "block", "size", "row"] ["shape"] (defScope s_places) := ⟨rfl, rfl, rfl, by decide +kernel, rfl, by decide +kernel, by decide +kernel⟩
def spCheck (K : PySem.W.Frag) (CS : Addr) : Sp := fun vs H Q E => ∃ (x : V) (d : PyData), vs = [x] ∧ Dw K H x d ∧ (isSh d = true → ∀ H', Same H H' → Q .non H') ∧ (isSh d = false → ∀ H', Same H H' → E (.ref CS) none H')
theorem ok_check {f f1 : Addr} {fd fd1 : FuncData} {k : Nat} (T : Txt mg) (O : OpX K mg "InvalidShape" CS) (d : D K mg "check_shape" s_check ["shape"] f fd) (d1 : D K mg "is_shape" s_is_shape ["value"] f1 fd1) (G1 : FnOk P w K mg base CX0 3 f1 fd1 ["value"] (spShape K)) : FnOk P w K mg base (L2.CX P w) 4 f fd ["shape"] (spCheck K CS) := by
  refine d.F.okX sc_check (fun vs H Q E h => ?_) (fun cdv A outer s H vs Q E hr h => ?_)
  · obtain ⟨x, d, rfl, _⟩ := h
    rfl
  · obtain ⟨x, d, rfl, hd, q, qe⟩ := h
    refine ⟨_, (pss_one (ps_if (pt_not (pt_val (pe_call G1 (hr.mono (by decide)) (by rfl) d1.g d1.F.kp d1.b .nil pass0 (pa_cons (pv 0) pa_nil)))) (pss_one (ps_raise rfl (takes_of rfl rfl rfl rfl) (by exact (pmk_own PySem.F.excBase_ValueError O.x O.g O.k (raises_own O.b O.t) rfl)))) pss_nil)), ?_⟩
    refine ⟨_, rfl, x, d, rfl, hd, fun H' sm => ⟨_, rfl, ?_⟩⟩
    cases e : isSh d with
    | true => exact ite2 (fun z => absurd z Bool.false_ne_true) (fun _ => q e H' sm)
    | false => exact ite2 (fun _ => qe e H' sm) (fun z => absurd rfl z)
/-- the tuple of the places of a shape -/
def spPlaces (K : PySem.W.Frag) (CS : Addr) : Sp := fun vs H Q E => ∃ (x : V) (d : PyData), vs = [x] ∧ Dw K H x d ∧ (∀ ns, d = .tuple (ns.map .int) → Shp ns → ∀ H' y, Same H H' → (∃ o xs, y = .ref o ∧ H' o = some (.tup xs) ∧ TrL H' xs (pl ns)) → Q y H') ∧ (isSh d = false → ∀ H', Same H H' → E (.ref CS) none H')
theorem ok_places {f f1 : Addr} {fd fd1 : FuncData} (T : Txt mg) (N : Nam mg) (d : D K mg "places" s_places ["shape"] f fd) (d1 : D K mg "check_shape" s_check ["shape"] f1 fd1) (G1 : FnOk P w K mg base (L2.CX P w) 4 f1 fd1 ["shape"] (spCheck K CS)) : FnOk P w K mg base (L2.CX P w) 5 f fd ["shape"] (spPlaces K CS) := by
  refine d.F.okX sc_places (fun vs H Q E h => ?_) (fun cdv A outer s H vs Q E hr h => ?_)
  · obtain ⟨x, d, rfl, _⟩ := h
    rfl
  · obtain ⟨x, d, rfl, hd, q, qe⟩ := h
    have un : (A.deeper (envOfC "places" (defScope s_places) s.heap.objs.size f cdv)).units + 8 < cLine := by have := hr.un; omega
    refine ⟨_, (pss_cons (ps_expr (pe_call (E := E) G1 (hr.mono (by decide)) (by rfl) d1.g d1.F.kp d1.b .nil (passes_call (takes_of rfl rfl rfl rfl) (fun _ _ _ _ h => h)) (pa_cons (pv 0) pa_nil)))
      (pss_cons (ps_set (i := 1) sc_places.nd rfl (.inl rfl) (pe_lst pa_nil))
      (pss_cons (ps_for (passes_of rfl) rfl (pi_range2 (by rfl) T.n_range (pa_cons pe_int (pa_cons (pe_callB (cr_maxT rfl un) (by rfl) T.n_max (by decide +kernel) (pa_cons (pv 0) pa_nil)) pa_nil))) (pg_name (i := 2) sc_places.nd rfl (.inl rfl))
        (pss_one (ps_for (passes_of rfl) rfl (pi_enumT (by rfl) N.n_enumerate (pa_cons (pv 0) pa_nil)) (pg_tup rfl (pgs_cons (pg_name (i := 3) sc_places.nd rfl (.inl rfl)) (pgs_cons (pg_name (i := 4) sc_places.nd rfl (.inl rfl)) pgs_nil)))
        (pss_one (ps_for (passes_of rfl) rfl (pi_range1 (by rfl) T.n_range (pa_cons (pe_op op_sub (pv 4) (pv 2)) pa_nil)) (pg_name (i := 5) sc_places.nd rfl (.inl rfl))
        (pss_one (ps_expr (pe_bm PySem.F.plainAttrs_list PySem.F.slot_list_append PySem.F.type_list_append mt_append (pv 1) (pa_cons (pe_tup (pa_cons (pv 3) (pa_cons (pv 5) (pa_cons (pe_op op_add (pv 5) (pv 2)) pa_nil)))) pa_nil)))))))))
      (pss_one (ps_ret (pe_tupleOf (by rfl) T.n_tuple (pv 1))))))), ?_⟩
    refine ⟨_, rfl, x, d, rfl, hd, fun sh H1 s1 => ?_, fun sh H1 s1 => qe sh H1 s1⟩
    obtain ⟨ns, rfl, S⟩ := shp_of sh
    obtain ⟨a, rfl, e⟩ : ∃ a, x = .ref a ∧ SqT K H a (ns.map V.int) := by
      cases hd with
      | tv t =>
        cases t with
        | tup e l =>
          rw [l.ints] at e
          exact ⟨_, rfl, e⟩
    have q' := q ns rfl S
    have e1 := sqt_same e s1
    clear hd q qe e sh d
    refine ⟨(by show 0 ≤ sizeLine; decide), fun D nD => ?_⟩
    have off : ∀ {Z : Hp} {o : HO}, Same H1 Z → Same H1 (upd Z D o) := fun sz b o h => by
      rw [upd_ne (ne_of_none h nD)]
      exact sz b o h
    have sq : ∀ {Z : Hp}, Same H1 Z → SqT K Z a (ns.map V.int) := fun sz => sqt_same e1 sz
    obtain ⟨n0, nr, en⟩ : ∃ n0 nr, ns = n0 :: nr := by
      cases ns with
      | nil => exact absurd S.1.1 (by decide)
      | cons n r => exact ⟨n, r, rfl⟩
    have m6 := mx_le fun n hn => (S.2.1 n hn).2
    have em : mx ns = nr.foldl max n0 := by rw [en]; rfl
    have m2 : 0 ≤ mx ns := by
      have z := fold_ge nr n0
      have y := (S.2.1 n0 (by rw [en]; exact List.mem_cons_self ..)).1
      omega
    refine ⟨_, rfl, a, n0, nr, rfl, by rw [← en]; exact sq (sub_same nD), 1, nr.foldl max n0, rfl, ⟨by decide, by decide, by omega, by omega⟩, ?_⟩
    rw [← em]
    refine for_range (lo := 1) (n := (mx ns - 1).toNat) (fun i σ H' => (∃ y2 y3 y4 y5, σ = [some (.ref a), some (.ref D), y2, y3, y4, y5]) ∧ Same H1 H' ∧ ∃ xs, H' D = some (.lst xs) ∧ TrL H' xs (disP ns i)) ⟨⟨_, _, _, _, rfl⟩, sub_same nD, [], upd_same, .nil⟩ ?_ ?_
    · rintro i σ H2 hi ⟨⟨y2, y3, y4, y5, rfl⟩, s2, xs, hv, tv⟩
      refine ⟨_, rfl, a, _, rfl, sq s2, ?_⟩
      refine for_it (walk_enumT (K := K) (a := a) (xs := ns.map V.int)) (fun j σ H' => (∃ y3 y4 y5, σ = [some (.ref a), some (.ref D), some (.int (1 + (i : Int))), y3, y4, y5]) ∧ Same H1 H' ∧ ∃ xs, H' D = some (.lst xs) ∧ TrL H' xs (disP ns i ++ blkP ns (1 + (i : Int)) j)) ⟨⟨_, _, _, rfl⟩, s2, xs, hv, by rw [show blkP ns (1 + (i : Int)) 0 = [] from rfl, List.append_nil]; exact tv⟩ (fun j σ H' _ h => sq h.2.1) ?_ ?_
      · rintro j v σ H2' H3 hj ⟨⟨y3, y4, y5, rfl⟩, s3, xs, hv, tv⟩ ⟨T, x0, y0, rfl, nT, rfl, ex, ey⟩
        obtain rfl := Option.some.inj ex
        obtain ⟨z, ez, rfl⟩ := int_at ey
        have nTD : D ≠ T := fun z => by rw [← z, hv] at nT; cases nT
        have s4 := s3.trans (sub_same (o := .tup [V.int (j : Nat), V.int z]) nT)
        have hv4 := sub_same (o := .tup [V.int (j : Nat), V.int z]) nT _ _ hv
        have tv4 := tv.same (sub_same (o := .tup [V.int (j : Nat), V.int z]) nT)
        have hT : upd H2' T (.tup [V.int (j : Nat), V.int z]) T = some (.tup [V.int (j : Nat), V.int z]) := upd_same
        revert s4 hv4 tv4 hT
        generalize upd H2' T (.tup [V.int (j : Nat), V.int z]) = H4
        intro s4 hv4 tv4 hT
        have z6 := S.2.1 z (List.mem_of_getElem? ez)
        refine ⟨T, _, rfl, .inl (.inl hT), rfl, _, _, rfl, _, _, rfl, rfl, ?_⟩
        refine ⟨_, rfl, _, rfl, _, _, rfl, rfl, _, rfl, by omega, by omega, ?_⟩
        have ez2 : ns.getD j 0 = z := by rw [List.getD_eq_getElem?_getD, ez]; rfl
        refine for_range (lo := 0) (n := (z - (1 + (i : Int))).toNat) (fun k σ H' => (∃ y5, σ = [some (.ref a), some (.ref D), some (.int (1 + (i : Int))), some (.int (j : Nat)), some (.int z), y5]) ∧ Same H1 H' ∧ ∃ xs, H' D = some (.lst xs) ∧ TrL H' xs (disP ns i ++ blkP ns (1 + (i : Int)) j ++ rowsP (j : Nat) (1 + (i : Int)) k)) ⟨⟨_, rfl⟩, s4, xs, hv4, by rw [show rowsP (j : Nat) (1 + (i : Int)) 0 = [] from rfl, List.append_nil]; exact tv4⟩ ?_ ?_
        · rintro k σ H5 hk ⟨⟨y5, rfl⟩, s5, xs5, hv5, tv5⟩
          have sz : xs5.length < sizeLine := by
            rw [tv5.len, List.length_append, List.length_append, rowsP_len]
            have b1 := disP_len S i
            have b2 := blkP_len (d := 1 + (i : Int)) S.2.1 (by omega) j
            have b3 := S.1.2
            rw [List.length_map] at hj
            exact Nat.lt_of_lt_of_le (show _ < 1000 by omega) (by decide)
          refine ⟨_, rfl, .inl ⟨rfl, _, .inl (.inl hv5)⟩, _, rfl, _, rfl, _, rfl, _, rfl, _, _, rfl, rfl, (by show 3 ≤ sizeLine; decide), fun p np => ?_⟩
          have s6 := sub_same (o := .tup [V.int (j : Nat), V.int (0 + (k : Int)), V.int (0 + (k : Int) + (1 + (i : Int)))]) np
          refine ⟨D, xs5, _, rfl, rfl, s6 _ _ hv5, sz, ⟨_, rfl⟩, off (s5.trans s6), _, upd_same, ?_⟩
          have k0 : (0 : Int) + (k : Int) = k := by omega
          have one : (upd H5 p (.tup [V.int (j : Nat), V.int (0 + (k : Int)), V.int (0 + (k : Int) + (1 + (i : Int)))])) p = some (.tup (triV ((j : Int), (k : Int), (k : Int) + (1 + (i : Int))))) := by
            rw [k0]
            exact upd_same
          rw [rowsP_succ, ← List.append_assoc]
          exact ((tv5.same s6).snoc one).put (s6 _ _ hv5)
        · rintro σ H5 ⟨⟨y5, rfl⟩, s5, xs5, hv5, tv5⟩
          refine ⟨⟨_, _, _, rfl⟩, s5, xs5, hv5, ?_⟩
          rw [blkP_succ, ez2, ← List.append_assoc]
          exact tv5
      · rintro σ H3 ⟨⟨y3, y4, y5, rfl⟩, s3, xs, hv, tv⟩
        rw [List.length_map] at tv
        exact ⟨⟨_, _, _, _, rfl⟩, s3, xs, hv, by rw [disP_succ]; exact tv⟩
    · rintro σ H2 ⟨⟨y2, y3, y4, y5, rfl⟩, s2, xs, hv, tv⟩
      refine ⟨_, rfl, .inl ⟨D, xs, rfl, .inl (.inl hv), fun p np => ?_⟩⟩
      have s3 := sub_same (o := .tup xs) np
      exact q' _ _ (s1.trans (s2.trans s3)) ⟨_, _, rfl, upd_same, tv.same s3⟩
end
end K18
/-! # is_place -/
namespace K18
open PySem PySem.Spec PyProof.Rows L2
/-- whether three things are a place -/
def isP2 (s : Int) (i : PyData) : PyData → Bool
  | .int m => btw (.int m) 0 (s - 1) && btw i 0 (m - 1)
  | _ => false
def isP3 (ns : List Int) (b i j : PyData) : Bool := match b with
  | .int n => btw (.int n) 0 ((ns.length : Int) - 1) && isP2 (ns.getD n.toNat 0) i j
  | _ => false
def isPl (ns : List Int) : PyData → Bool
  | .tuple [b, i, j] => isP3 ns b i j
  | _ => false
theorem isPl_len {ns : List Int} {ds : List PyData} (h : ds.length ≠ 3) : isPl ns (.tuple ds) = false := by
  unfold isPl
  split
  · rename_i e
    cases e
    exact absurd rfl h
  · rfl
theorem btw_int {d : PyData} {lo hi : Int} (h : btw d lo hi = true) : ∃ n, d = .int n ∧ lo ≤ n ∧ n ≤ hi := by
  cases d with
  | int n =>
    have z : (decide (lo ≤ n) && decide (n ≤ hi)) = true := h
    rw [Bool.and_eq_true] at z
    exact ⟨n, rfl, of_decide_eq_true z.1, of_decide_eq_true z.2⟩
  | _ => exact absurd h Bool.false_ne_true
section
variable {P : Program} {w : World} {K : PySem.W.Frag} {mg : Str → Option Value} {base : Heap} {CS : Addr}
abbrev s_place : Stmt := topS 25
theorem sc_place : FnScope ["shape", "value", "block", "row", "column"] ["shape", "value"] (defScope s_place) := ⟨rfl, rfl, rfl, by decide +kernel, rfl, by decide +kernel, by decide +kernel⟩
def spPlace (K : PySem.W.Frag) (CS : Addr) : Sp := fun vs H Q E => ∃ (x y : V) (d e : PyData), vs = [x, y] ∧ Dw K H x d ∧ Dw K H y e ∧ (∀ ns, d = .tuple (ns.map .int) → Shp ns → ∀ H', Same H H' → Q (.bl (isPl ns e)) H') ∧ (isSh d = false → ∀ H', Same H H' → E (.ref CS) none H')
theorem ok_place {f f1 f2 : Addr} {fd fd1 fd2 : FuncData} (T : Txt mg) (d : D K mg "is_place" s_place ["shape", "value"] f fd) (d1 : D K mg "check_shape" s_check ["shape"] f1 fd1) (d2 : D K mg "is_index" s_is_index ["value", "many"] f2 fd2)
    (G1 : FnOk P w K mg base (L2.CX P w) 4 f1 fd1 ["shape"] (spCheck K CS)) (G2 : FnOk P w K mg base CX0 3 f2 fd2 ["value", "many"] (spIdx K)) : FnOk P w K mg base (L2.CX P w) 5 f fd ["shape", "value"] (spPlace K CS) := by
  refine d.F.okX sc_place (fun vs H Q E h => ?_) (fun cdv A outer s H vs Q E hr h => ?_)
  · obtain ⟨x, y, d, e, rfl, _⟩ := h
    rfl
  · obtain ⟨x, y, d, e, rfl, hd, he, q, qe⟩ := h
    refine ⟨_, (pss_cons (ps_expr (pe_call (E := E) G1 (hr.mono (by decide)) (by rfl) d1.g d1.F.kp d1.b .nil (passes_call (takes_of rfl rfl rfl rfl) (fun _ _ _ _ h => h)) (pa_cons (pv 0) pa_nil)))
      (pss_cons (ps_if (PW.pt (pw_or (pt_not (pt_val (pe_callB call_isi (by rfl) T.n_isinstance (by decide +kernel) (pa_cons (pv 1) (pa_cons (pe_bltn (v := .ty "tuple") (by rfl) T.n_tuple (by decide +kernel) rfl) pa_nil))))) (pw_or1 (pt_cmpR op_ne (pe_callB call_len_seq (by rfl) T.n_len PySem.boot_len (pa_cons (pv 1) pa_nil)) pe_int (nomark _))))) (pss_one (ps_ret pe_bl)) pss_nil)
      (pss_cons (ps_asg (pv 1) (pg_tup rfl (pgs_cons (pg_name (i := 2) sc_place.nd rfl (.inl rfl)) (pgs_cons (pg_name (i := 3) sc_place.nd rfl (.inl rfl)) (pgs_cons (pg_name (i := 4) sc_place.nd rfl (.inl rfl)) pgs_nil)))))
      (pss_cons (ps_if (pt_not (pt_val (pe_call G2 (hr.mono (by decide)) (by rfl) d2.g d2.F.kp d2.b .nil pass0 (pa_cons (pv 2) (pa_cons (pe_callB call_len_seq (by rfl) T.n_len PySem.boot_len (pa_cons (pv 0) pa_nil)) pa_nil))))) (pss_one (ps_ret pe_bl)) pss_nil)
      (pss_one (ps_ret (pe_and (pe_call G2 (hr.mono (by decide)) (by rfl) d2.g d2.F.kp d2.b .nil pass0 (pa_cons (pv 4) (pa_cons (pe_ix ix_tup (pv 0) (pv 2) (fun _ _ => rfl)) pa_nil))) (pe_one (pe_call G2 (hr.mono (by decide)) (by rfl) d2.g d2.F.kp d2.b .nil pass0 (pa_cons (pv 3) (pa_cons (pv 4) pa_nil))))))))))), ?_⟩
    refine ⟨_, rfl, x, d, rfl, hd, fun sh H1 s1 => ?_, fun sh H1 s1 => qe sh H1 s1⟩
    obtain ⟨ns, rfl, S⟩ := shp_of sh
    obtain ⟨a, rfl, ea⟩ : ∃ a, x = .ref a ∧ SqT K H a (ns.map V.int) := by
      cases hd with
      | tv t =>
        cases t with
        | tup e l =>
          rw [l.ints] at e
          exact ⟨_, rfl, e⟩
    have q' := q ns rfl S H1 s1
    have e1 := sqt_same ea s1
    have he1 := he.same s1
    clear hd q qe ea sh he
    refine ⟨_, rfl, _, _, _, _, _, rfl, .ty _, he1.ty, kitT e, _, rfl, ?_⟩
    cases e with
    | tuple ds =>
      obtain ⟨c, xs, rfl, ec, l⟩ : ∃ c xs, y = .ref c ∧ SqT K H1 c xs ∧ TvL K H1 xs ds := by
        cases he1 with
        | tv t =>
          cases t with
          | tup e l => exact ⟨_, _, rfl, e, l⟩
      have ll := l.len
      refine ite2 (fun z => absurd z Bool.false_ne_true) (fun _ => ?_)
      refine ⟨_, rfl, c, xs, rfl, .inr ec, rfl, _, rfl, ?_⟩
      by_cases l3 : ds.length = 3
      · have e3 : (!decide (V.int (xs.length : Nat) = V.int 3)) = false := by
          rw [ll, l3]
          rfl
        rw [e3]
        refine ite2 (fun z => absurd z Bool.false_ne_true) (fun _ => ?_)
        obtain ⟨b, i, j, rfl⟩ : ∃ b i j, ds = [b, i, j] := by
          match ds, l3 with
          | [b, i, j], _ => exact ⟨b, i, j, rfl⟩
        obtain ⟨x1, x2, x3, rfl, t1, t2, t3⟩ : ∃ x1 x2 x3, xs = [x1, x2, x3] ∧ Tv K H1 x1 b ∧ Tv K H1 x2 i ∧ Tv K H1 x3 j := by
          cases l with
          | cons a l => cases l with
            | cons b l => cases l with
              | cons c l =>
                cases l
                exact ⟨_, _, _, rfl, a, b, c⟩
        refine ⟨_, rfl, c, _, rfl, ec, rfl, _, _, rfl, _, _, rfl, _, _, rfl, rfl, ?_⟩
        have qf : Q (.bl (isP3 ns b i j)) H1 := q'
        refine ⟨_, rfl, _, rfl, a, _, rfl, .inr e1, x1, b, _, rfl, .tv t1, _, rfl, ?_⟩
        rw [List.length_map]
        cases cb : btw b 0 ((ns.length : Int) - 1) with
        | false =>
          have z : isP3 ns b i j = false := by
            unfold isP3
            cases b with
            | int n =>
              show (btw (.int n) 0 ((ns.length : Int) - 1) && _) = false
              rw [cb, Bool.false_and]
            | _ => rfl
          rw [z] at qf
          exact ite2 (fun _ => qf) (fun z => absurd rfl z)
        | true =>
          refine ite2 (fun z => absurd z Bool.false_ne_true) (fun _ => ?_)
          obtain ⟨n, rfl, n0, n1⟩ := btw_int cb
          cases t1
          obtain ⟨n, rfl⟩ : ∃ k : Nat, n = (k : Int) := ⟨n.toNat, by omega⟩
          have nl : n < ns.length := by omega
          have gd : ns.getD n 0 = ns[n] := by rw [List.getD_eq_getElem?_getD, List.getElem?_eq_getElem nl]; rfl
          have z : isP3 ns (.int (n : Int)) i j = isP2 ns[n] i j := by
            show (btw (.int (n : Int)) 0 ((ns.length : Int) - 1) && isP2 (ns.getD n 0) i j) = _
            rw [cb, Bool.true_and, gd]
          rw [z] at qf
          refine ⟨_, rfl, _, rfl, _, rfl, a, _, n, .int ns[n], rfl, rfl, e1, atI_nat (by rw [List.getElem?_map, List.getElem?_eq_getElem nl]; rfl), x3, j, ns[n], rfl, .tv t3, _, rfl, ?_⟩
          cases cj : btw j 0 (ns[n] - 1) with
          | false =>
            have z2 : isP2 ns[n] i j = false := by
              cases j with
              | int m =>
                show (btw (.int m) 0 (ns[n] - 1) && _) = false
                rw [cj, Bool.false_and]
              | _ => rfl
            rw [z2] at qf
            exact iteF qf
          | true =>
            obtain ⟨m, rfl, m0, m1⟩ := btw_int cj
            cases t3
            have qg : Q (.bl (btw (.int m) 0 (ns[n] - 1) && btw i 0 (m - 1))) H1 := qf
            rw [cj, Bool.true_and] at qg
            exact iteT ⟨_, rfl, _, rfl, x2, i, m, rfl, .tv t2, qg⟩
      · have e3 : (!decide (V.int (xs.length : Nat) = V.int 3)) = true := by
          rw [ll, decide_eq_false (fun z => l3 (by have := V.int.inj z; omega))]
          rfl
        rw [e3]
        rw [isPl_len l3] at q'
        exact ite2 (fun _ => q') (fun z => absurd rfl z)
    | _ => exact ite2 (fun _ => ite2 (fun _ => q') (fun z => absurd rfl z)) (fun z => absurd rfl z)
end
end K18
/-! # places, by the law -/
namespace K18
open PySem PySem.Spec PyProof.Rows L2
/-! ### the thirty shapes -/
def r5 : List Int := [2, 3, 4, 5, 6]
theorem r5_mem {n : Int} (h : 2 ≤ n ∧ n ≤ 6) : n ∈ r5 := by
  have z : n = 2 ∨ n = 3 ∨ n = 4 ∨ n = 5 ∨ n = 6 := by omega
  rcases z with rfl | rfl | rfl | rfl | rfl <;> decide
def shapesL : List (List Int) := ((r5.map fun a => [a]) ++ (r5.flatMap fun a => r5.map fun b => [a, b]) ++ (r5.flatMap fun a => r5.flatMap fun b => r5.map fun c => [a, b, c])).filter fun l => decide (l.sum ≤ 8)
theorem shp_mem {ns : List Int} (S : Shp ns) : ns ∈ shapesL := by
  obtain ⟨⟨h1, h2⟩, b, s⟩ := S
  refine List.mem_filter.mpr ⟨?_, decide_eq_true s⟩
  match ns, h1, h2, b with
  | [a], _, _, b => exact List.mem_append_left _ (List.mem_append_left _ (List.mem_map.mpr ⟨a, r5_mem (b a (by simp)), rfl⟩))
  | [a, c], _, _, b => exact List.mem_append_left _ (List.mem_append_right _ (List.mem_flatMap.mpr ⟨a, r5_mem (b a (by simp)), List.mem_map.mpr ⟨c, r5_mem (b c (by simp)), rfl⟩⟩))
  | [a, c, d], _, _, b => exact List.mem_append_right _ (List.mem_flatMap.mpr ⟨a, r5_mem (b a (by simp)), List.mem_flatMap.mpr ⟨c, r5_mem (b c (by simp)), List.mem_map.mpr ⟨d, r5_mem (b d (by simp)), rfl⟩⟩⟩)
  | _ :: _ :: _ :: _ :: _, _, h2, _ => exact absurd h2 (by simp)
  | [], h1, _, _ => exact absurd h1 (by simp)
theorem uniq {α : Type} (k : α → Int) : ∀ {l r : List α}, l.Perm r → l.Pairwise (fun x y => k x ≤ k y) → r.Pairwise (fun x y => k x ≤ k y) → (∀ x ∈ l, ∀ y ∈ l, k x = k y → x = y) → l = r
  | [], r, h, _, _, _ => (List.Perm.nil_eq h)
  | x :: l, [], h, _, _, _ => absurd h.length_eq (by simp)
  | x :: l, y :: r, h, hl, hr, inj => by
    have mx : x ∈ y :: r := h.mem_iff.mp (List.mem_cons_self ..)
    have my : y ∈ x :: l := h.mem_iff.mpr (List.mem_cons_self ..)
    have a1 : k y ≤ k x := by
      rcases List.mem_cons.mp mx with rfl | m
      · exact Int.le_refl _
      · exact (List.pairwise_cons.mp hr).1 x m
    have a2 : k x ≤ k y := by
      rcases List.mem_cons.mp my with rfl | m
      · exact Int.le_refl _
      · exact (List.pairwise_cons.mp hl).1 y m
    have e := inj x (List.mem_cons_self ..) y my (by omega)
    subst e
    rw [uniq k (List.Perm.cons_inv h) (List.pairwise_cons.mp hl).2 (List.pairwise_cons.mp hr).2 fun p hp q hq => inj p (List.mem_cons_of_mem _ hp) q (List.mem_cons_of_mem _ hq)]
theorem TvL.perm {K : PySem.W.Frag} {H : Hp} {α : Type} (f : α → PyData) {xs ys : List V} (h : xs.Perm ys) : ∀ {ts : List α}, TvL K H xs (ts.map f) → ∃ qs : List α, qs.Perm ts ∧ TvL K H ys (qs.map f) := by
  induction h with
  | nil =>
    intro ts t
    cases ts with
    | nil => exact ⟨[], .nil, .nil⟩
    | cons _ _ => cases t
  | cons x _ ih =>
    intro ts t
    cases ts with
    | nil => cases t
    | cons q ts =>
      cases t with
      | cons a t =>
        obtain ⟨qs, p, z⟩ := ih t
        exact ⟨q :: qs, p.cons q, .cons a z⟩
  | swap x y l =>
    intro ts t
    match ts, t with
    | [], t => cases t
    | [_], t =>
      cases t with
      | cons _ t => cases t
    | p :: q :: ts, t =>
      cases t with
      | cons a t => cases t with
        | cons b t => exact ⟨q :: p :: ts, .swap _ _ _, .cons b (.cons a t)⟩
  | trans _ _ ih1 ih2 =>
    intro ts t
    obtain ⟨qs, p, z⟩ := ih1 t
    obtain ⟨rs, p2, z2⟩ := ih2 z
    exact ⟨rs, p2.trans p, z2⟩
end K18
/-! # whether a value is a place, by the law -/
namespace K18
open PySem PySem.Spec PyProof.Rows L2
mutual
theorem Tv.dp (K : PySem.W.Frag) {H : Hp} : ∀ {x : V} {d : PyData}, Tv K H x d → Dp K H x d
  | _, _, .non => .non
  | _, _, .bl b => .bl b
  | _, _, .int i => .int i
  | _, _, .str z => .str z
  | _, _, .tup e l => .tup e (l.dp K)
theorem TvL.dp (K : PySem.W.Frag) {H : Hp} : ∀ {xs : List V} {ds : List PyData}, TvL K H xs ds → DpAll K H xs ds
  | _, _, .nil => .nil
  | _, _, .cons h t => .cons (h.dp K) (t.dp K)
end
theorem tables2 : ∀ ns ∈ shapesL, SeqAt.shaped (.list ((pl ns).map triD)) = true ∧ (∀ t ∈ pl ns, isPl ns (triD t) = true) ∧ ((List.range 3).all fun b => (List.range 6).all fun i => (List.range 6).all fun j => !isPl ns (triD ((b : Nat), (i : Nat), (j : Nat))) || decide ((((b : Nat) : Int), ((i : Nat) : Int), ((j : Nat) : Int)) ∈ pl ns)) = true := by decide +kernel
theorem isP3_ints {ns : List Int} {b i j : PyData} (h : isP3 ns b i j = true) : ∃ n k m : Int, b = .int n ∧ i = .int k ∧ j = .int m ∧ 0 ≤ n ∧ n < ns.length ∧ 0 ≤ k ∧ k < m ∧ 0 ≤ m ∧ m < ns.getD n.toNat 0 := by
  cases b with
  | int n =>
    have z : (btw (.int n) 0 ((ns.length : Int) - 1) && isP2 (ns.getD n.toNat 0) i j) = true := h
    rw [Bool.and_eq_true] at z
    obtain ⟨_, e, n0, n1⟩ := btw_int z.1
    cases e
    cases j with
    | int m =>
      have y : (btw (.int m) 0 (ns.getD n.toNat 0 - 1) && btw i 0 (m - 1)) = true := z.2
      rw [Bool.and_eq_true] at y
      obtain ⟨_, e, m0, m1⟩ := btw_int y.1
      cases e
      obtain ⟨k, rfl, k0, k1⟩ := btw_int y.2
      exact ⟨n, k, m, rfl, rfl, rfl, n0, by omega, k0, by omega, m0, by omega⟩
    | _ => exact absurd z.2 Bool.false_ne_true
  | _ => exact absurd h Bool.false_ne_true
theorem eqv_ints : ∀ {ms ks : List Int}, PyData.eqvAll (ms.map .int) (ks.map .int) = decide (ms = ks)
  | [], [] => rfl
  | [], _ :: _ => rfl
  | _ :: _, [] => rfl
  | m :: ms, k :: ks => by
    show ((m == k) && PyData.eqvAll (ms.map .int) (ks.map .int)) = decide (m :: ms = k :: ks)
    rw [eqv_ints, Bool.eq_iff_iff]
    simp
def triI (t : Tri) : List Int := [t.1, t.2.1, t.2.2]
end K18
/-! # a value near a place -/
namespace K18
open PySem PySem.Spec PyProof.Rows L2
/-! ### what an expression lays where J stands -/
structure DnL (K : PySem.W.Frag) (u : Addr) (H : Hp) (xs : List V) (ds : List PyData) : Prop where
  d : DwL K H xs ds
  n : ∀ x ∈ xs, x ≠ .ref u
def LJ (K : PySem.W.Frag) (J : Hp → Prop) (u : Addr) (σ : L2.St) (t : TE) (d : PyData) : Prop := ∀ (H : Hp) (Q : VK), J H → (∀ x H', Same H H' → Dw K H' x d → x ≠ .ref u → Q x H') → t σ H Q
def LJA (K : PySem.W.Frag) (J : Hp → Prop) (u : Addr) (σ : L2.St) (t : TA) (ds : List PyData) : Prop := ∀ (H : Hp) (Q : List V → Hp → Prop), J H → (∀ xs H', Same H H' → DnL K u H' xs ds → Q xs H') → t σ H Q
theorem LJA.nil {K : PySem.W.Frag} {J : Hp → Prop} {u : Addr} {σ : L2.St} : LJA K J u σ tNil [] := fun H Q _ q => q _ _ (Same.refl H) ⟨.nil, fun x h => by cases h⟩
theorem LJA.cons {K : PySem.W.Frag} {J : Hp → Prop} (st : ∀ {H H' : Hp}, Same H H' → J H → J H') {u : Addr} {σ : L2.St} {t : TE} {ts : TA} {d : PyData} {ds : List PyData} (h : LJ K J u σ t d) (hs : LJA K J u σ ts ds) : LJA K J u σ (tCons t ts) (d :: ds) := fun H Q j q =>
  h H _ j fun x H1 s1 t1 n1 => hs H1 _ (st s1 j) fun xs H2 s2 t2 => q (x :: xs) H2 (s1.trans s2) ⟨.cons (t1.same s2) t2.d, fun y hy => (List.mem_cons.mp hy).elim (fun e => by rw [e]; exact n1) (t2.n y)⟩
theorem DwL.at {K : PySem.W.Frag} {H : Hp} : ∀ {xs : List V} {ds : List PyData} {i : Nat} {x : V}, DwL K H xs ds → xs[i]? = some x → ∃ d, ds[i]? = some d ∧ Dw K H x d
  | _, _, _, _, .nil, h => by simp at h
  | _, _, 0, _, .cons a _, h => by
    rw [List.getElem?_cons_zero] at h
    obtain rfl := Option.some.inj h
    exact ⟨_, rfl, a⟩
  | _, _, i + 1, _, .cons _ t, h => by
    rw [List.getElem?_cons_succ] at h
    exact t.at h
theorem TvL.set {K : PySem.W.Frag} {H : Hp} : ∀ {xs : List V} {ds : List PyData} {x : V} {d : PyData} (k : Nat), TvL K H xs ds → Tv K H x d → TvL K H (xs.set k x) (ds.set k d)
  | _, _, _, _, _, .nil, _ => .nil
  | _, _, _, _, 0, .cons _ t, h => .cons h t
  | _, _, _, _, k + 1, .cons a t, h => .cons a (t.set k h)
end K18
/-! # dict comprehensions whose keys are tuples -/
namespace K18
open PySem PySem.Spec PyProof.Rows L2
variable {X : Cx}
theorem dset_tup {pins : List (Addr × Obj)} {σ : L2.St} {H : Hp} {s : Shared} {E : Value → Shared → Prop} {D b : Addr} {ps : List (List L2.Key × V)} {k : List L2.Key} {v : V} {r : Value} {Q : Unit → Shared → Prop} (hu : X.A.units + 1 < cLine) (I : Inv X pins σ H s) (eD : H D = some (.dT ps))
    (eb : H b = some (.tup (k.map kV))) (l : ps.length < sizeLine) (rv : RelV v r) (q : ∀ s', Inv X pins σ (upd H D (.dT (putK ps k v))) s' → Q () s') : wpAny (model X.prog X.w) X.A (dictSet D (.ref b) r) Q E s := by
  obtain ⟨z, sm, xs, pr, dd⟩ := dt_of I.hok eD
  have zx : xs.length ≤ sizeLine := by rw [← Paired.length pr]; exact z
  refine wpAny_dictSet_heap (by show X.A.units < cLine; omega) (key_of I.hok eb) dd (fun h' new sb => ?_) zx
  obtain ⟨o, es, ep, n1, n2, n3, n4, n5, n6⟩ := new
  have zl := length_putK ps k v
  have pk : KT (upd H D (.dT (putK ps k v))) (putK ps k v) _ := (pr.put k eb rv).keeps fun c ys ec => by
    rw [upd_ne (fun e => by rw [e, eD] at ec; cases ec)]
    exact ec
  exact q _ (d_write I (by rw [eD]; trivial) sb ⟨o, n1⟩ ⟨by omega, sm, _, pk, o, es, ep, n1, n2, n3, n4, n6⟩)
/-- {k: v for target in iter if ..}, the keys tuples: D the new dict -/
def tDcT (wi : TI) (g : TG) (tt : TT) (tk tv : TE) (vs : List Nat) : TE := fun σ H Q => wi σ H fun J H1 => ∀ D, H1 D = none → ∃ W : Nat → Nat → Hp → Prop, (∃ m, W 0 m (upd H1 D (.dT []))) ∧ ∀ i m G, W i m G →
  (J.stop i G ∧ Q (.ref D) G) ∨ (J.go i G ∧ ∃ Nx : Hp → Prop, (∀ G', Nx G' → ∃ m', m' < m ∧ W (i + 1) m' G') ∧ ∀ x G', J.yld i G x G' → g x (wipe σ vs) G' fun σ2 G2 => wipe σ2 vs = wipe σ vs ∧ tt σ2 G2 fun c G3 =>
    if c = true then tk σ2 G3 fun y G4 => tv σ2 G4 fun z G5 => ∃ ps k b, y = .ref b ∧ G5 b = some (.tup (k.map kV)) ∧ G5 D = some (.dT ps) ∧ ps.length < sizeLine ∧ Nx (upd G5 D (.dT (putK ps k z))) else Nx G3)
theorem pe_dcT {kx vx tg l : Expr} {ifs : List Expr} {scope : Scope} {own : List (Str × Nat)} {pos : Pos} {wi : TI} {g : TG} {tt : TT} {tk tv : TE} (calm : X.calm = true) (un : X.A.units + 1 < cLine) (nd : X.N.Nodup) (src : PI X tg l wi) (bo : BlkOk X.N X.env.scope scope own)
    (tgt : ∀ (s : Shared) (H : Hp) (C : Addr) (cl : List (Str × Addr)) (fp : List Addr), PG (X.blk s H scope (compEnvC scope cl C X.env) fp) tg g)
    (tst : ∀ (s : Shared) (H : Hp) (C : Addr) (cl : List (Str × Addr)) (fp : List Addr), PTs (X.blk s H scope (compEnvC scope cl C X.env) fp) ifs tt)
    (key : ∀ (s : Shared) (H : Hp) (C : Addr) (cl : List (Str × Addr)) (fp : List Addr), PE (X.blk s H scope (compEnvC scope cl C X.env) fp) kx tk)
    (itm : ∀ (s : Shared) (H : Hp) (C : Addr) (cl : List (Str × Addr)) (fp : List Addr), PE (X.blk s H scope (compEnvC scope cl C X.env) fp) vx tv) (fs : ∀ x, foldedSetIterable l X.env x = pure x := by intro _; rfl) :
    PE X (.DictComp kx vx [⟨tg, l, ifs, 0⟩] scope pos) (tDcT wi g tt tk tv (own.map (·.2))) := by
  constructor
  intro pins s σ H Q I h
  rw [arm_eval_DictComp]
  have clo : ∀ y ∈ scope.names, y.2 = .free → ∃ c, X.env.cells.lookup y.1 = some c := fun y m e => (bo.free y m e).elim (fun k => I.ok.has _ (.inl k)) fun k => I.ok.has _ (.inr k)
  refine wpAny_comprehension_free (use := none) rfl fs (closure_ok clo) bo.kind (fun y m e => by rw [bo.uniq y m, e]) ?_
  refine thn (src.run pins s σ H _ I h) fun v1 s1 hv => thn hv fun v2 s2 w2 => ?_
  obtain ⟨it, fp, tn, J, H1, rfl, I2, T, ton, off, more⟩ := w2
  -- the new dict
  generalize hD : s2.heap.objs.size = D
  have freeD : H1 D = none := I2.hok.fresh (Nat.le_of_eq hD)
  obtain ⟨W, ⟨m0, w0⟩, turn⟩ := more D freeD
  have J0 : Inv X pins σ (upd H1 D (.dT [])) { s2 with heap := s2.heap.push { cls := .type "dict", data := .dict #[] } } :=
    I2.laid (t' := s2.toks) (fun b o e => Heap.get?_push_of_some _ e) (Nat.le_of_eq hD) (by rw [← hD]; exact dt_empty s2.heap I2.big)
  have low : ∀ b ∈ fp, b < s2.heap.objs.size := fun b m => by
    obtain ⟨_, e, _⟩ := T.obj _ _ ton b m
    exact Heap.lt_size e
  have ton0 : tn 0 ({ s2 with heap := s2.heap.push { cls := .type "dict", data := .dict #[] } } : Shared).heap := T.keep _ _ _ ton fun b _ o e => Heap.get?_push_of_some _ e
  have okB : ∀ b ∈ fp, FpOk X pins (upd H1 D (.dT [])) b ∧ b < ({ s2 with heap := s2.heap.push { cls := .type "dict", data := .dict #[] } } : Shared).heap.objs.size := fun b m =>
    ⟨⟨(upd_ne (by rw [← hD]; exact Nat.ne_of_lt (low b m))).trans (off b m).1, (off b m).2⟩, Nat.lt_of_lt_of_le (low b m) (by show _ ≤ (s2.heap.push _).objs.size; rw [Heap.size_push]; exact Nat.le_succ _)⟩
  refine wpAny_newObj_type (newEnv_comp ?_)
  rw [hD]
  generalize hs3 : ({ s2 with heap := s2.heap.push { cls := .type "dict", data := .dict #[] } } : Shared) = s3 at J0 ton0 okB
  have B0 := block_start J0 bo nd okB
  have gT := tgt s3 (upd H1 D (.dT [])) s3.heap.objs.size (cellsFrom (s3.heap.objs.size + 1) scope.names (cloFrom X.env.cells scope.names [])) fp
  have gC := tst s3 (upd H1 D (.dT [])) s3.heap.objs.size (cellsFrom (s3.heap.objs.size + 1) scope.names (cloFrom X.env.cells scope.names [])) fp
  have gK := key s3 (upd H1 D (.dT [])) s3.heap.objs.size (cellsFrom (s3.heap.objs.size + 1) scope.names (cloFrom X.env.cells scope.names [])) fp
  have gI := itm s3 (upd H1 D (.dT [])) s3.heap.objs.size (cellsFrom (s3.heap.objs.size + 1) scope.names (cloFrom X.env.cells scope.names [])) fp
  change codeAny _ _ (.compStart (.DictComp kx vx [⟨tg, l, ifs, 0⟩] scope pos) 0 (.ref it) (.ref D) (compEnvC scope (cellsFrom (s3.heap.objs.size + 1) scope.names (cloFrom X.env.cells scope.names [])) s3.heap.objs.size X.env)) (compPost (model X.prog X.w) X.A X.xe none (EP X pins σ Q) (.ref D) s3.heap.objs.size) { s3 with heap := pushCells (s3.heap.push { cls := .type "dict", data := .dict #[] }) scope.names }
  have loc0 : (compEnvC scope (cellsFrom (s3.heap.objs.size + 1) scope.names (cloFrom X.env.cells scope.names [])) s3.heap.objs.size X.env).locals = s3.heap.objs.size := rfl
  generalize compEnvC scope (cellsFrom (s3.heap.objs.size + 1) scope.names (cloFrom X.env.cells scope.names [])) s3.heap.objs.size X.env = ce at B0 gT gC gK gI loc0 ⊢
  have ton4 : tn 0 (pushCells (s3.heap.push { cls := .type "dict", data := .dict #[] }) scope.names) := T.keep _ _ _ ton0 fun b _ o e => pushCells_keeps _ _ _ _ (Heap.get?_push_of_some _ e)
  generalize hs4 : ({ s3 with heap := pushCells (s3.heap.push { cls := .type "dict", data := .dict #[] }) scope.names } : Shared) = s4 at B0 ⊢
  have ton4' : tn 0 s4.heap := by rw [← hs4]; exact ton4
  have out : ∀ b ∈ fp, upd H1 D (.dT []) b = none := fun b m => (okB b m).1.1
  generalize upd H1 D (.dT []) = H3 at *
  have stays : ∀ {τ : L2.St} {G : Hp} {t : Shared}, Inv (X.blk s3 H3 scope ce fp) [] τ G t → (∀ b ∈ fp, G b = none) → ∀ b ∈ fp, FpOk (X.blk s3 H3 scope ce fp) [] G b := fun {τ G t} J e b m =>
    ⟨e b m, (J.ok.exf b m).1, J.ok.exfs b m, .inl m, (J.ok.exf b m).2, fun p hp => by cases hp⟩
  have loop : codeAny (model X.prog X.w) X.A (.compLoop (.DictComp kx vx [⟨tg, l, ifs, 0⟩] scope pos) 0 (.ref it) (.ref D) ce) (compPost (model X.prog X.w) X.A X.xe none (EP X pins σ Q) (.ref D) s3.heap.objs.size) s4 := by
    refine compLoop_anyD (fun n t => ∃ i G, Inv (X.blk s3 H3 scope ce fp) [] (wipe σ (own.map (·.2))) G t ∧ tn i t.heap ∧ (∀ b ∈ fp, G b = none) ∧ W i n G) ?_ m0 ⟨0, H3, B0, ton4', out, w0⟩
    rintro n t ⟨i, G, K, kt, kn, kw⟩
    rcases turn i n G kw with ⟨stop, done⟩ | ⟨go, Nx, nx, step⟩
    · refine thnF (T.done (X.blk s3 H3 scope ce fp) rfl rfl rfl calm i [] t _ G (fun _ _ => False) K (stays K kn) kt stop) fun r t1 ⟨er, K1⟩ => ?_
      subst er
      have J2 : Inv X pins σ G t1 := J0.call' (ch := fp) K1.os K1.base K1.hok K1.bare fun b m => by
        obtain ⟨⟨_, o1, o2, o3, o4, o5⟩, _⟩ := okB b m
        exact ⟨o3, o1, o4, o5⟩
      have nC : G s3.heap.objs.size = none := by
        rw [← loc0]
        exact K1.free
      obtain ⟨mm, ns, _⟩ := K1.loc
      refine ⟨mm, by rw [← loc0]; exact ns, fun h2 sb => ?_⟩
      obtain ⟨d0, d1, d2, d3, d4, d5⟩ := J0.fpOk (Nat.le_refl _) nC
      exact ⟨.ref D, G, J2.turned (t' := t1.toks) (fun b o ne e => (sb.2 b ne).trans e) d0 d1 d3 d4 d5, rfl, done⟩
    · refine thnF (T.item (X.blk s3 H3 scope ce fp) rfl rfl rfl calm i [] t _ G (fun _ _ => False) K (stays K kn) kt go) fun r t1 ⟨u, er, w1⟩ => ?_
      subst er
      refine thnF w1 fun _ t2 ⟨x, G2, K2, ru, yl, kt2, kn2⟩ => ?_
      have st := step x G2 yl
      refine thnF (gT.run _ t2 _ G2 x u _ (K2.pinned (stays K2 kn2) (T.obj _ _ kt2)) ru st) fun _ t3 ⟨σ3, G3, K3, hw, q3⟩ => ?_
      refine thnF (gC.run _ t3 σ3 G3 _ K3 q3) fun c t4 ⟨G4, K4, q4⟩ => ?_
      have again : ∀ {r : Shared} {G' : Hp}, Inv (X.blk s3 H3 scope ce fp) ([] ++ pinsAt fp t2.heap) σ3 G' r → Nx G' → ∃ m, m < n ∧ ∃ i G, Inv (X.blk s3 H3 scope ce fp) [] (wipe σ (own.map (·.2))) G r ∧ tn i r.heap ∧ (∀ b ∈ fp, G b = none) ∧ W i m G := fun {r G'} R x => by
        obtain ⟨m', lt, w'⟩ := nx G' x
        have pi : ∀ b ∈ fp, ∀ o, t2.heap.get? b = some o → r.heap.get? b = some o ∧ G' b = none := fun b m o e => by
          have y := R.pin (b, o) (List.mem_append_right _ (List.mem_append_right _ (mem_pinsAt m e)))
          exact ⟨y.1, y.2.1⟩
        have same : (wipe σ (own.map (·.2))).length = σ3.length := by rw [← hw, wipe_length]
        refine ⟨m', lt, i + 1, G', (R.unpinned (pins := [])).weak same (fun j v e => ?_), T.keep _ _ _ kt2 fun b m o e => (pi b m o e).1, fun b m => ?_, w'⟩
        · rw [← hw] at e
          exact (wipe_some e).1
        · obtain ⟨o, e, _⟩ := T.obj _ _ kt2 b m
          exact (pi b m o e).2
      cases c with
      | false =>
        rw [if_neg (by decide)] at q4 ⊢
        exact again K4 q4
      | true =>
        rw [if_pos rfl] at q4 ⊢
        refine thnF (gK.run _ t4 σ3 G4 _ K4 q4) fun y t5 ⟨yk, G5, K5, rk, q5⟩ => ?_
        refine thnF (gI.run _ t5 σ3 G5 _ K5 q5) fun z t6 ⟨zv, G6, K6, rz, ps, k, b, a1, a2, a3, a4, a5⟩ => ?_
        subst a1
        obtain rfl : y = Value.ref b := rk
        exact dset_tup (X := X.blk s3 H3 scope ce fp) un K6 a3 a2 a4 rz fun t7 K7 => again K7 a5
  exact codeAny_compStart_dict loop (T.self X.A 0 _ _ _ ton4' loop)
end K18
/-! # the pairs of a dict whose keys are tuples -/
namespace K18
open PySem PySem.Spec PyProof.Rows L2
variable {X : Cx} {pins : List (Addr × Obj)} {σ : L2.St} {H : Hp} {s : Shared}
theorem frz_pairs {d : Addr} {o : Obj} {ps : List (List L2.Key × V)} (I : Inv X pins σ H s) (e : H d = some (.frz o (.dT ps))) :
    (d == sysModules) = false ∧ s.heap.get? d = some o ∧ o.ExactDict ∧ ∃ (es : Array DictEntry) (ep : Nat), o.data = .dict es ep ∧ es.size = ps.length ∧
      ∀ (i : Nat) (k : List L2.Key) (v : V) (li : i < es.size), ps[i]? = some (k, v) → ∃ q : Addr, es[i].key = .ref q ∧ H q = some (.tup (k.map kV)) ∧ RelV v es[i].val := by
  obtain ⟨ob, z, sm, xs, pr, o2, es, ep, h1, h2, h3, h4, _⟩ := I.hok d _ e
  obtain rfl : o2 = o := Option.some.inj (h1.symm.trans ob)
  have n1 : es.size = xs.length := size_of_entries h4
  have n2 : ps.length = xs.length := Paired.length pr
  refine ⟨sm, ob, h2, es, ep, h3, by omega, fun i k v li ek => ?_⟩
  obtain ⟨b, hb, e1, e2, e3⟩ := paired_get pr ek
  have y := entry_at h4 i
  rw [hb, Array.getElem?_eq_getElem li] at y
  have w := Option.some.inj y
  exact ⟨b.2.1, by rw [w]; rfl, e2, by rw [w]; exact e3⟩
/-- the pairs, each a new tuple -/
def ItiT (d : Addr) (o : Obj) (ps : List (List L2.Key × V)) : It :=
  ⟨fun i H => H d = some (.frz o (.dT ps)) ∧ i < ps.length, fun i H x H' => ∃ (T q : Addr) (k : List L2.Key) (v : V), ps[i]? = some (k, v) ∧ H q = some (.tup (k.map kV)) ∧ x = .ref T ∧ H T = none ∧ H' = upd H T (.tup [.ref q, v]), fun i H => H d = some (.frz o (.dT ps)) ∧ ps.length ≤ i⟩
theorem turn_itemsT {P : Program} {w : World} {K : PySem.W.Frag} {ps : List (List L2.Key × V)} {elts : List Expr} {kk : Nat} {tpos : Pos} {d : Addr} {o : Obj} {es : Array DictEntry} {ep : Nat} (it : Addr) (od : o.data = .dict es ep) :
    Turn P w K (.Tuple elts kk tpos) (ItiT d o ps) [it] it (fun i h => ∃ a b, IsItemIter h it d i ps.length ep a b) where
  mem := List.mem_singleton.mpr rfl
  obj := fun i h st b m => by
    rw [List.mem_singleton.mp m]
    obtain ⟨_, _, e⟩ := st
    exact ⟨_, e, fun v z => nomatch z⟩
  keep := fun i h h' st k => by
    obtain ⟨a, b, e⟩ := st
    exact ⟨a, b, k it (List.mem_singleton.mpr rfl) _ e⟩
  item := by
    intro X e1 e2 e3 hc i pins s σ H E I hf st go
    subst e1 e2 e3
    obtain ⟨hd, li⟩ := go
    obtain ⟨sm, ob, ox, es2, ep2, dat, n, all⟩ := frz_pairs I hd
    obtain ⟨rfl, rfl⟩ := dict_ep od dat
    obtain ⟨a, b, hi⟩ := st
    rw [← n] at hi li
    obtain ⟨⟨k, v⟩, ek⟩ : ∃ p, ps[i]? = some p := ⟨ps[i], List.getElem?_eq_getElem (by omega)⟩
    obtain ⟨q, k1, k2, k3⟩ := all i k v li ek
    have low : it < s.heap.objs.size := Heap.lt_size hi
    refine DT.nextI hi ⟨o, ob, ox, od⟩ li fun h' out hT _ hk => ?_
    refine ⟨_, rfl, wpAny_letOwnedTupleGo_items (s := { s with heap := h' }) out fun h2 in2 sb => ?_⟩
    have T2 : h2.get? s.heap.objs.size = some { cls := .type "tuple", data := .seq #[es2[i].key, es2[i].val] } := (sb.2 _ (Nat.ne_of_gt low)).trans hT
    have new : ObjOk X.prog X.w (upd H s.heap.objs.size (.tup [.ref q, v])) h2 s.heap.objs.size (.tup [.ref q, v]) :=
      ⟨by show 2 ≤ sizeLine; decide, [es2[i].key, es2[i].val], .cons k1 (.cons k3 .nil), ⟨_, T2, rfl, _, rfl⟩⟩
    have J : Inv X pins σ (upd H s.heap.objs.size (.tup [.ref q, v])) { s with heap := h2 } :=
      I.turnedNew (t' := s.toks) (ch := [it]) (fun c ob hb e => (sb.2 c (fun z => hb (by rw [z]; exact List.mem_singleton.mpr rfl))).trans (hk c ob (fun z => hb (by rw [z]; exact List.mem_singleton.mpr rfl)) e)) hf (Nat.le_refl _) new
    refine ⟨.ref s.heap.objs.size, _, J, rfl, ⟨_, q, k, v, ek, k2, rfl, I.hok.fresh (Nat.le_refl _), rfl⟩, ⟨es2[i].key, es2[i].val, ?_⟩, fun c m => ?_⟩
    · rw [← n]; exact in2
    · rw [List.mem_singleton.mp m, upd_ne (Nat.ne_of_lt low)]
      exact (hf it (List.mem_singleton.mpr rfl)).1
  done := by
    intro X e1 e2 e3 hc i pins s σ H E I hf st go
    subst e1 e2 e3
    obtain ⟨hd, li⟩ := go
    obtain ⟨sm, ob, ox, es2, ep2, dat, n, _⟩ := frz_pairs I hd
    obtain ⟨rfl, rfl⟩ := dict_ep od dat
    obtain ⟨f0, f1, f2, f3, f4, f5⟩ := hf it (List.mem_singleton.mpr rfl)
    obtain ⟨a, b, hi⟩ := st
    rw [← n] at hi li
    exact DT.endI (I.ok.hd hc) hi ⟨o, ob, ox, od⟩ li fun h' eb => ⟨rfl, I.turned (t' := s.toks) (fun c o2 ne e => eb c o2 ne e) f0 f1 f3 f4 f5⟩
  self := fun A i s Q E st h => by
    obtain ⟨_, _, e⟩ := st
    exact PySem.W.kcp_self e h
/-- d.items(), d locked -/
def iItemsT (td : TE) : TI := fun σ H R => td σ H fun x H1 => ∃ d o ps, x = .ref d ∧ H1 d = some (.frz o (.dT ps)) ∧ R (ItiT d o ps) H1
theorem pi_itemsT {e : Expr} {td : TE} {apos cpos tpos : Pos} {elts : List Expr} {kk : Nat} (src : PE X e td) (base : attributeBase e "items" X.env (eval e X.env) = eval e X.env := by rfl) (line : (apos.endLine == cpos.line) = true := by rfl) :
    PI X (.Tuple elts kk tpos) (.Call (.Attribute e "items" apos) [] [] cpos) (iItemsT td) := by
  constructor
  intro pins s σ H R I h
  refine wpAny_Call_method (T := "dict") (id := "dict.items") base rfl line F.plainAttrs_dict F.slot_dict_items F.type_dict_items (thn (src.run pins s σ H _ I h) fun u s1 w1 => ?_)
  obtain ⟨x, H1, I1, rx, d, o, ps, rfl, hd, q⟩ := w1
  obtain rfl : u = Value.ref d := rx
  obtain ⟨sm, ob, ox, es, ep, dat, n, _⟩ := frz_pairs I1 hd
  have raw : DT.Raw s1.heap d es ep := ⟨o, ob, ox, dat⟩
  refine ⟨raw.typeIs, fun b z => ?_, ?_⟩
  · cases z
    exact ⟨o, ob, ox.2.1⟩
  · have I2 : Inv X pins σ H1 { s1 with heap := s1.heap.push { cls := .type "dict_items", data := .fields #[.ref d] } } := I1.kept (t' := s1.toks) fun b ob q => Heap.get?_push_of_some _ q
    show wpAny _ _ (callWith cpos (.builtin "dict.items") [.ref d] [] []) _ X.xe s1
    refine method_meetsIn F.slot_dict_items F.entry_dict_items rfl (PySem.evalArgs_none ⟨rfl, raw.typeIs, F.args_dict_items_1 _, _, DT.meetsItems (es := es) (ep := ep) sm, raw, ?_⟩)
    refine DT.iterI (d := d) (es := es) (ep := ep) ⟨_, Heap.get?_push_size _ rfl, rfl, rfl⟩ (raw.push _) (pi_one (tk := s1.toks) I2 _ (turn_itemsT _ dat) ⟨.none, .none, ?_⟩ q)
    rw [← n]
    exact Heap.get?_push_size _ rfl
end K18
/-! # dict(pairs), the keys tuples -/
namespace K18
open PySem PySem.Spec PyProof.Rows L2
def putAll (acc : List (List L2.Key × V)) (ps : List (List L2.Key × V)) : List (List L2.Key × V) := ps.foldl (fun a p => putK a p.1 p.2) acc
theorem putAll_len : ∀ (ps acc : List (List L2.Key × V)), (putAll acc ps).length ≤ acc.length + ps.length
  | [], acc => Nat.le_refl _
  | p :: ps, acc => by
    have h1 := putAll_len ps (putK acc p.1 p.2)
    have h2 := length_putK acc p.1 p.2
    show (putAll (putK acc p.1 p.2) ps).length ≤ acc.length + (ps.length + 1)
    omega
theorem putAll_new : ∀ (ps acc : List (List L2.Key × V)), ((acc ++ ps).map (·.1)).Nodup → putAll acc ps = acc ++ ps
  | [], acc, _ => (List.append_nil acc).symm
  | p :: ps, acc, n => by
    have e : valV acc p.1 = none := by
      cases q : valV acc p.1 with
      | none => rfl
      | some v =>
        exfalso
        have m : p.1 ∈ acc.map (·.1) := by
          have y := valV_any p.1 acc
          rw [q] at y
          obtain ⟨z, z1, z2⟩ := List.any_eq_true.mp y
          exact List.mem_map.mpr ⟨z, z1, of_decide_eq_true z2⟩
        rw [List.map_append, List.nodup_append] at n
        exact n.2.2 p.1 m p.1 (List.mem_map.mpr ⟨p, List.mem_cons_self, rfl⟩) rfl
    have r : acc ++ p :: ps = (acc ++ [(p.1, p.2)]) ++ ps := by rw [List.append_assoc]; rfl
    show putAll (putK acc p.1 p.2) ps = _
    rw [putK_new p.2 e, r]
    exact putAll_new ps _ (by rw [← r]; exact n)
theorem kt_all {H : Hp} : ∀ {ps : List (List L2.Key × V)} {zs : List (List L2.Key × Addr × Value)} {acc : List (List L2.Key × V)} {ys : List (List L2.Key × Addr × Value)}, KT H ps zs → KT H acc ys → KT H (putAll acc ps) (storedAllH ys zs)
  | _, _, _, _, .nil, k => k
  | _, _, _, _, .cons (a := p) (b := z) h t, k => by
    obtain ⟨h1, h2, h3⟩ := h
    refine kt_all t (acc := putK _ p.1 p.2) (ys := storedH _ z.1 z.2.1 z.2.2) ?_
    rw [← h1]
    exact k.put p.1 h2 h3
section
variable {X : Cx} {pins : List (Addr × Obj)} {σ : L2.St} {H : Hp} {s : Shared}
/-- the pair at t: a key's tuple and a value -/
def PrT (H : Hp) (t : Addr) (p : List L2.Key × V) : Prop := ∃ q, H t = some (.tup [.ref q, p.2]) ∧ H q = some (.tup (p.1.map kV))
theorem pairs_tup (I : Inv X pins σ H s) : ∀ {ts : List Addr} {ps : List (List L2.Key × V)}, Paired (PrT H) ts ps → ∃ zs : List (List L2.Key × Addr × Value), KT H ps zs ∧ ts.length = zs.length ∧
    ∀ (j : Nat) (z : List L2.Key × Addr × Value), zs[j]? = some z → ∃ t, ts[j]? = some t ∧ s.heap.IsTuple t #[.ref z.2.1, z.2.2]
  | _, _, .nil => ⟨[], .nil, rfl, fun j z e => by simp at e⟩
  | _, _, .cons (a := t) (b := p) h r => by
    obtain ⟨zs, k, n, all⟩ := pairs_tup I r
    obtain ⟨q, h1, h2⟩ := h
    obtain ⟨its, rv, p', _⟩ := I.tuple (.inl (.inl h1))
    obtain ⟨u1, u2, rfl, r1, r2⟩ := vals2 rv
    obtain rfl : u1 = Value.ref q := r1
    refine ⟨(p.1, q, u2) :: zs, .cons ⟨rfl, h2, r2⟩ k, by simp [n], fun j z e => ?_⟩
    cases j with
    | zero =>
      obtain rfl := Option.some.inj e
      exact ⟨t, rfl, p'⟩
    | succ j => exact all j z e
def rDictT (K : PySem.W.Frag) : List V → Hp → VK → Prop := fun vs H Q => ∃ (a : Addr) (ts : List Addr) (ps : List (List L2.Key × V)), vs = [.ref a] ∧ SqL K H a (ts.map V.ref) ∧ Paired (PrT H) ts ps ∧
  ∀ p, H p = none → Q (.ref p) (upd H p (.dT (putAll [] ps)))
theorem call_dictTup (calm : X.calm = true) (un : X.A.units + 2 < cLine) : CallR X (.type "dict") (rDictT X.K) := by
  intro pins s σ H xs us Q I r h
  obtain ⟨a, ts, ps, rfl, hq, pr, q⟩ := h
  obtain ⟨u, rfl, rx⟩ := vals1 r
  cases rx
  obtain ⟨its, rv, pl, hz⟩ := I.list hq
  obtain rfl := refs_at rv
  obtain ⟨zs, k, n, all⟩ := pairs_tup I pr
  obtain ⟨o, c, ho, hc, hd, dat⟩ := pl
  rw [List.length_map] at hz
  have PA := PairArg.list (prog := X.prog) (w := X.w) a (ts.map Value.ref).toArray (fun j => (ts[j]?).getD 0) (zs.map fun z => (Value.ref z.2.1, z.2.2))
  have lp : ps.length = zs.length := Paired.length k
  refine call_dict_pairsH (knd := tupleKind (mixKind X.prog X.w)) (ps := zs) PA (I.ok.hd calm) (by show X.A.units + 2 < cLine; exact un) ⟨⟨o, c, ho, hc, hd, dat⟩, by simp [n], fun j kv v e => ?_⟩ ⟨by simp, fun i kv v e => ?_⟩ (fun h' ke z m => ?_) (by simp; omega) fun h' tk hd' ke => ?_
  · rw [List.getElem?_map] at e
    obtain ⟨z, e1, e2⟩ := Option.map_eq_some_iff.mp e
    obtain ⟨t, t1, t2⟩ := all j z e1
    cases e2
    exact ⟨by simp [t1], .inl (by show s.heap.IsTuple ((ts[j]?).getD 0) _; rw [t1]; exact t2)⟩
  · have e' : (zs.map fun z => (Value.ref z.2.1, z.2.2))[i]? = some (kv, v) := e
    rw [List.getElem?_map] at e'
    obtain ⟨z, e1, e2⟩ := Option.map_eq_some_iff.mp e'
    cases e2
    exact ⟨z.1, z.2.1, e1, rfl⟩
  · obtain ⟨j, e⟩ := List.mem_iff_getElem?.mp m
    obtain ⟨p, _, p1, p2, _⟩ := L2.DX.pget k e
    have ky := key_of I.hok p2
    rw [p1] at ky
    obtain ⟨ob, iv, nv, g1, g2, g3, g4⟩ := ky
    exact ⟨ob, iv, nv, ke _ _ (Nat.ne_of_lt (Heap.lt_size g1)) (by simp) g1, g2, g3, g4⟩
  · have sm : (s.heap.objs.size == sysModules) = false := beq_eq_false_iff_ne.mpr (Nat.ne_of_gt I.big)
    have le := putAll_len ps []
    have free : H s.heap.objs.size = none := I.hok.fresh (Nat.le_refl _)
    obtain ⟨od, es, ep, g1, g2, g3, g4, g5, g6⟩ := hd'
    refine ⟨.ref s.heap.objs.size, upd H s.heap.objs.size (.dT (putAll [] ps)), I.laid (t' := tk) (fun b o e => ke b o (by simp) e) (Nat.le_refl _) ⟨by simp at le; omega, sm, _, (kt_all k .nil).keeps fun c ys ec => ?_, od, es, ep, g1, g2, g3, g4, g6⟩, rfl, q _ free⟩
    rw [upd_ne (ne_of_none ec free)]
    exact ec
end
end K18
/-! # plans -/
namespace K18
open PySem PySem.Spec PyProof.Rows L2
/-- a dict comprehension over a walk -/
theorem dcT_it {J : It} {n : Nat} {G : Hp → Prop} {Y : Nat → Hp → V → Hp → Prop} (w : Walk J n G Y) {g : TG} {tt : TT} {tk tv : TE} {vs : List Nat} {σ : L2.St} {H1 : Hp} {D : Addr} {Qd : Hp → Prop} (Pv : Nat → Hp → Prop) (h0 : Pv 0 (upd H1 D (.dT []))) (hG : ∀ i Z, i ≤ n → Pv i Z → G Z)
    (hs : ∀ i x Z Z', i < n → Pv i Z → Y i Z x Z' → g x (wipe σ vs) Z' fun σ2 G2 => wipe σ2 vs = wipe σ vs ∧ tt σ2 G2 fun c G3 =>
      if c = true then tk σ2 G3 fun y G4 => tv σ2 G4 fun z G5 => ∃ ps k b, y = .ref b ∧ G5 b = some (.tup (k.map kV)) ∧ G5 D = some (.dT ps) ∧ ps.length < sizeLine ∧ Pv (i + 1) (upd G5 D (.dT (putK ps k z))) else Pv (i + 1) G3) (hd : ∀ Z, Pv n Z → Qd Z) :
    ∃ W : Nat → Nat → Hp → Prop, (∃ m, W 0 m (upd H1 D (.dT []))) ∧ ∀ i m Z, W i m Z →
      (J.stop i Z ∧ Qd Z) ∨ (J.go i Z ∧ ∃ Nx : Hp → Prop, (∀ Z', Nx Z' → ∃ m', m' < m ∧ W (i + 1) m' Z') ∧ ∀ x Z', J.yld i Z x Z' → g x (wipe σ vs) Z' fun σ2 G2 => wipe σ2 vs = wipe σ vs ∧ tt σ2 G2 fun c G3 =>
        if c = true then tk σ2 G3 fun y G4 => tv σ2 G4 fun z G5 => ∃ ps k b, y = .ref b ∧ G5 b = some (.tup (k.map kV)) ∧ G5 D = some (.dT ps) ∧ ps.length < sizeLine ∧ Nx (upd G5 D (.dT (putK ps k z))) else Nx G3) := by
  refine ⟨fun i m Z => m + i = n ∧ Pv i Z, ⟨n, rfl, h0⟩, ?_⟩
  intro i m Z ⟨e, p⟩
  have q := hG i Z (by omega) p
  by_cases l : i < n
  · exact .inr ⟨w.goes i Z l q, Pv (i + 1), fun Z' p' => ⟨m - 1, by omega, by omega, p'⟩, fun x Z' y => hs i x Z Z' l p (w.yields i Z x Z' l q y)⟩
  · obtain rfl : i = n := by omega
    exact .inl ⟨w.stops Z q, hd Z p⟩
theorem yesT {σ : L2.St} {H : Hp} {A B : Hp → Prop} (h : A H) : tYes σ H (fun b Z => if b = true then A Z else B Z) := by
  show if true = true then A H else B H
  rw [if_pos rfl]
  exact h
/-- a call that raises nothing -/
theorem passF {P : Program} {w : World} {X : Cx} : Passes (L2.CX P w) X (fun _ _ _ => False) := fun _ _ _ _ _ _ _ h => by
  obtain ⟨_, _, _, _, _, _, _, _, _, _, _, _, h⟩ := h
  exact h.elim
def triK (t : Tri) : List L2.Key := [.inl t.1, .inl t.2.1, .inl t.2.2]
theorem triK_inj {t u : Tri} (h : triK t = triK u) : t = u := by
  obtain ⟨a, b, c⟩ := t
  obtain ⟨d, e, f⟩ := u
  injection h with h1 h2
  injection h2 with h2 h3
  injection h3 with h3 _
  injection h1 with h1
  injection h2 with h2
  injection h3 with h3
  have h1 : a = d := h1
  have h2 : b = e := h2
  have h3 : c = f := h3
  rw [h1, h2, h3]
/-- two rules, the written part by name -/
theorem pe_tupleOfK {X : Cx} {K : PySem.W.Frag} {a : Expr} {ta : TE} {p pos : Pos} (h : X.K = K) (hg : Gl X "tuple") (hm : X.mg "tuple" = none) (ha : PE X a ta) (na : starEach [a] X.env = (false, eval a X.env) :: starEach [] X.env := by rfl) : PE X (.Call (.Name "tuple" p) [a] [] pos) (tThen ta (kTup K)) := by
  rw [← h]
  exact pe_tupleOf hg hm ha na
theorem ix_tupK {X : Cx} {K : PySem.W.Frag} (h : X.K = K) : IxR X (rIxT K) := by
  rw [← h]
  exact ix_tup
theorem tables3 : ∀ ns ∈ shapesL, (pl ns).Nodup ∧ (pl ns).length ≤ 30 ∧ ∀ t ∈ pl ns, (0 ≤ t.1 ∧ t.1.toNat < ns.length) ∧ (0 ≤ t.2.1 ∧ t.2.1 < t.2.2 ∧ t.2.2 < 6) ∧ ns.getD t.1.toNat 0 ≤ 6 ∧
    ((List.range 6).all fun j => !decide ((j : Int) < ns.getD t.1.toNat 0 - (t.2.2 + 1)) || (decide ((t.1, t.2.1, t.2.2 + 1 + (j : Int)) ∈ pl ns) && decide ((t.1, t.2.2, t.2.2 + 1 + (j : Int)) ∈ pl ns))) = true := by decide +kernel
/-- the index of a place -/
def ix (ns : List Int) (t : Tri) : Int := (((pl ns).idxOf t : Nat) : Int)
theorem idx_of {l : List Tri} (n : l.Nodup) : ∀ {i : Nat} {t : Tri}, l[i]? = some t → l.idxOf t = i := by
  induction l with
  | nil => intro i t h; cases h
  | cons a r ih =>
    intro i t h
    rw [List.nodup_cons] at n
    cases i with
    | zero =>
      obtain rfl := Option.some.inj h
      exact List.idxOf_cons_self
    | succ i =>
      have m : r[i]? = some t := h
      have ne : a ≠ t := fun z => n.1 (by rw [z]; exact List.mem_of_getElem? m)
      rw [List.idxOf_cons, beq_false_of_ne ne, cond_false, ih n.2 m]
def useP (ns : List Int) (t : Tri) (k : Nat) : List (Int × Int) := (List.range k).map fun (c : Nat) => (ix ns (t.1, t.2.1, t.2.2 + 1 + (c : Int)), ix ns (t.1, t.2.2, t.2.2 + 1 + (c : Int)))
theorem useP_succ (ns : List Int) (t : Tri) (k : Nat) : useP ns t (k + 1) = useP ns t k ++ [(ix ns (t.1, t.2.1, t.2.2 + 1 + (k : Int)), ix ns (t.1, t.2.2, t.2.2 + 1 + (k : Int)))] := by
  unfold useP
  rw [List.range_succ, List.map_append]
  rfl
def useN (ns : List Int) (t : Tri) : Nat := (ns.getD t.1.toNat 0 - (t.2.2 + 1)).toNat
def prD (p : Int × Int) : PyData := .tuple [.int p.1, .int p.2]
/-- for each place the pairs of indices that its number is multiplied by -/
def useD (ns : List Int) (t : Tri) : PyData := .tuple ((useP ns t (useN ns t)).map prD)
def planD (ns : List Int) : PyData := .tuple ((pl ns).map (useD ns))
theorem ints_inj : ∀ {ns ms : List Int}, ns.map PyData.int = ms.map PyData.int → ns = ms
  | [], [], _ => rfl
  | [], _ :: _, h => nomatch h
  | _ :: _, [], h => nomatch h
  | n :: ns, m :: ms, h => by
    rw [List.map_cons, List.map_cons] at h
    injection h with h1 h2
    rw [PyData.int.inj h1, ints_inj h2]
section
variable {P : Program} {w : World} {K : PySem.W.Frag} {mg : Str → Option Value} {base : Heap} {CS : Addr}
abbrev s_plan : Stmt := topS 27
theorem sc_plan : FnScope ["shape", "order", "at", "index", "place", "b", "i", "k", "j"] ["shape"] (defScope s_plan) := ⟨rfl, rfl, rfl, by decide +kernel, rfl, by decide +kernel, by decide +kernel⟩
def spPlan (K : PySem.W.Frag) : Sp := fun vs H Q _ => ∃ (a : Addr) (ns : List Int), vs = [.ref a] ∧ SqT K H a (ns.map V.int) ∧ Shp ns ∧ ∀ H' y, Same H H' → Tv K H' y (planD ns) → Q y H'
theorem ok_plan {f f1 : Addr} {fd fd1 : FuncData} (T : Txt mg) (N : Nam mg) (d : D K mg "plan_of" s_plan ["shape"] f fd) (d1 : D K mg "places" s_places ["shape"] f1 fd1) (G1 : FnOk P w K mg base (L2.CX P w) 5 f1 fd1 ["shape"] (spPlaces K CS)) : FnOk P w K mg base (L2.CX P w) 6 f fd ["shape"] (spPlan K) := by
  refine d.F.okX sc_plan (fun vs H Q E h => ?_) (fun cdv A outer s H vs Q E hr h => ?_)
  · obtain ⟨a, ns, rfl, _⟩ := h
    rfl
  · obtain ⟨a, ns, rfl, e, S, q⟩ := h
    have un : (A.deeper (envOfC "plan_of" (defScope s_plan) s.heap.objs.size f cdv)).units + 1 < cLine := by have := hr.un; omega
    refine ⟨_, (pss_cons (ps_set (i := 1) sc_plan.nd rfl (.inl rfl) (pe_call (E := E) G1 (hr.mono (by decide)) (by rfl) d1.g d1.F.kp d1.b .nil (passes_call (takes_of rfl rfl rfl rfl) (fun _ _ _ _ h => h)) (pa_cons (pv 0) pa_nil)))
      (pss_cons (ps_set (i := 2) sc_plan.nd rfl (.inr rfl) (pe_dcT (own := [("index", 3), ("place", 4)]) (g := gTup K 2 (gCons (gName 3) (gCons (gName 4) gNil))) (tt := tYes) rfl un sc_plan.nd (pi_enumT (by rfl) N.n_enumerate (pa_cons (pv 1) pa_nil)) (blkOk_by (own := [("index", 3), ("place", 4)]) (N := ["shape", "order", "at", "index", "place", "b", "i", "k", "j"]) (sc := defScope s_plan) (by decide +kernel))
            (fun _ _ _ _ _ => (pg_tup rfl (pgs_cons (pg_name (i := 3) sc_plan.nd rfl (Or.inl rfl)) (pgs_cons (pg_name (i := 4) sc_plan.nd rfl (Or.inl rfl)) pgs_nil)))) (fun _ _ _ _ _ => pts_nil) (fun _ _ _ _ _ => (pv 4)) (fun _ _ _ _ _ => (pv 3))))
      (pss_one (ps_ret (pe_tupleOf (by rfl) T.n_tuple (pe_lc (own := [("b", 5), ("i", 6), ("k", 7)]) (g := gTup K 3 (gCons (gName 5) (gCons (gName 6) (gCons (gName 7) gNil)))) (tt := tYes) rfl sc_plan.nd (pi_tup (pv 1)) (blkOk_by (own := [("b", 5), ("i", 6), ("k", 7)]) (N := ["shape", "order", "at", "index", "place", "b", "i", "k", "j"]) (sc := defScope s_plan) (by decide +kernel))
            (fun _ _ _ _ _ => (pg_tup rfl (pgs_cons (pg_name (i := 5) sc_plan.nd rfl (Or.inr rfl)) (pgs_cons (pg_name (i := 6) sc_plan.nd rfl (Or.inr rfl)) (pgs_cons (pg_name (i := 7) sc_plan.nd rfl (Or.inr rfl)) pgs_nil))))) (fun _ _ _ _ _ => pts_nil) (fun _ _ _ _ _ => (pe_tupleOfK (K := K) rfl (by rfl) T.n_tuple (pe_lc (own := [("j", 8)]) (g := gName 8) (tt := tYes) rfl sc_plan.nd (pi_range2 (by rfl) T.n_range (pa_cons (pe_op op_add (pv 7) pe_int) (pa_cons (pe_ix (ix_tupK (K := K) rfl) (pv 0) (pv 5) (fun _ _ => rfl)) pa_nil))) (blkOk_by (own := [("j", 8)]) (N := ["shape", "order", "at", "index", "place", "b", "i", "k", "j"]) (sc := relS _ (defScope s_plan)) (by decide +kernel))
            (fun _ _ _ _ _ => (pg_name (i := 8) sc_plan.nd rfl (Or.inl rfl))) (fun _ _ _ _ _ => pts_nil) (fun _ _ _ _ _ => (pe_tup (pa_cons (pe_dget un (pv 2) (pe_tup (pa_cons (pv 5) (pa_cons (pv 6) (pa_cons (pv 8) pa_nil)))) (fun _ _ => rfl)) (pa_cons (pe_dget un (pv 2) (pe_tup (pa_cons (pv 5) (pa_cons (pv 7) (pa_cons (pv 8) pa_nil)))) (fun _ _ => rfl)) pa_nil))))))))))))), ?_⟩
    refine ⟨_, rfl, _, .tuple (ns.map .int), rfl, .tv (.tup e (tvl_ints ns)), fun ns' en S' H1 y s1 t1 => ?_, fun z => absurd (shp_is S) (by rw [z]; decide)⟩
    obtain rfl : ns' = ns := by
      have z := PyData.tuple.inj en
      exact (ints_inj z).symm
    obtain ⟨o, xs, rfl, eo, tl⟩ := t1
    have e1 := sqt_same e s1
    have M := tables3 ns' (shp_mem S)
    have lx : xs.length = (pl ns').length := tl.len
    have q' : ∀ Z y, Same H1 Z → Tv K Z y (planD ns') → Q y Z := fun Z y z => q Z y (s1.trans z)
    clear q e s1 en S'
    refine ⟨_, rfl, o, xs, rfl, .inl (.inl eo), fun D nD => ?_⟩
    refine dcT_it (walk_enumT (K := K) (a := o) (xs := xs)) (fun i Z => Same H1 Z ∧ ∃ kvs, Z D = some (.dT kvs) ∧ kvs.length ≤ i ∧ ∀ t ∈ (pl ns').take i, valV kvs (triK t) = some (.int (ix ns' t))) ⟨sub_same nD, [], upd_same, Nat.le_refl _, fun t m => by simp at m⟩ (fun i Z _ h => .inl (.inl (h.1 _ _ eo))) ?_ ?_
    · rintro i v Z Z' hi ⟨sm, kvs, hk, lk, all⟩ ⟨Tp, x0, y0, rfl, nT, rfl, ex, ey⟩
      obtain rfl := Option.some.inj ex
      obtain ⟨t, c, et, rfl, ec⟩ := tl.tri ey
      have s2 := sub_same (o := .tup [V.int (i : Nat), V.ref c]) nT
      have hk2 := s2 _ _ hk
      have ec2 := s2 _ _ (sm _ _ ec)
      have sm2 := sm.trans s2
      have hT : upd Z Tp (.tup [V.int (i : Nat), V.ref c]) Tp = some (.tup [V.int (i : Nat), V.ref c]) := upd_same
      revert hk2 ec2 sm2 hT
      generalize upd Z Tp (.tup [V.int (i : Nat), V.ref c]) = Z2
      intro hk2 ec2 sm2 hT
      refine ⟨Tp, _, rfl, .inl (.inl hT), rfl, _, _, rfl, _, _, rfl, rfl, rfl, ?_⟩
      refine yesT ?_
      refine ⟨_, rfl, _, rfl, kvs, triK t, c, rfl, ec2, hk2, ?_, fun b ob eb => ?_, _, upd_same, ?_, fun u m => ?_⟩
      · rw [lx] at hi
        have := M.2.1
        rw [sizeLine_eq]
        omega
      · rw [upd_ne (fun z => by rw [z, nD] at eb; cases eb)]
        exact sm2 _ _ eb
      · have := length_putK kvs (triK t) (.int (i : Nat))
        omega
      · rw [valV_put]
        by_cases z : triK u = triK t
        · rw [if_pos z, triK_inj z]
          show some (V.int (i : Nat)) = some (V.int (((pl ns').idxOf t : Nat) : Int))
          rw [idx_of M.1 et]
        · rw [if_neg z]
          refine all u ?_
          rw [List.take_succ, et] at m
          rcases List.mem_append.mp m with m | m
          · exact m
          · exact absurd (by rw [show u = t by simpa using m]) z
    · rintro Z ⟨sm, kvs, hk, lk, all⟩
      rw [lx, List.take_length] at all
      have eo2 := sm _ _ eo
      have ea2 := sqt_same e1 sm
      have tl2 := tl.same sm
      have q2 : ∀ Y y, Same Z Y → Tv K Y y (planD ns') → Q y Y := fun Y y z => q' Y y (sm.trans z)
      clear q' tl
      refine ⟨_, rfl, o, rfl, ⟨xs, .inl (.inl eo2)⟩, fun L nL => ?_⟩
      refine lc_tup (K := K) (a := o) (xs := xs) (fun i Y => Same Z Y ∧ ∃ acc, Y L = some (.lst acc) ∧ TvL K Y acc (((pl ns').take i).map (useD ns'))) ⟨sub_same nL, [], upd_same, .nil⟩ (fun i Y _ h => .inl (.inl (h.1 _ _ eo2))) ?_ ?_
      · rintro i x Y hx ⟨sy, acc, ha, la⟩
        obtain ⟨⟨tb, ti, tk⟩, c, et, rfl, ec⟩ := tl2.tri hx
        have mt : (tb, ti, tk) ∈ pl ns' := List.mem_of_getElem? et
        obtain ⟨⟨b0, b1⟩, ⟨i0, i1, i2⟩, b6, far⟩ := M.2.2 _ mt
        have b0 : 0 ≤ tb := b0
        obtain ⟨bn, rfl⟩ : ∃ n : Nat, tb = (n : Int) := ⟨tb.toNat, by omega⟩
        have b1 : bn < ns'.length := b1
        have i0 : 0 ≤ ti := i0
        have i1 : ti < tk := i1
        have i2 : tk < 6 := i2
        have gd : ns'.getD bn 0 = ns'[bn] := by rw [List.getD_eq_getElem?_getD, List.getElem?_eq_getElem b1]; rfl
        have b6 : ns'.getD bn 0 ≤ 6 := b6
        rw [gd] at b6
        refine ⟨c, triV ((bn : Int), ti, tk), rfl, .inl (.inl (sy _ _ ec)), rfl, _, _, rfl, _, _, rfl, _, _, rfl, rfl, rfl, ?_⟩
        refine yesT ?_
        have b2 := (S.2.1 _ (List.getElem_mem b1)).1
        refine ⟨_, rfl, _, _, rfl, rfl, _, rfl, _, rfl, a, _, bn, .int ns'[bn], rfl, rfl, sqt_same ea2 sy, atI_nat (by rw [List.getElem?_map, List.getElem?_eq_getElem b1]; rfl), tk + 1, ns'[bn], rfl, ⟨by omega, by omega, by omega, by omega⟩, fun L2 nL2 => ?_⟩
        have lL : L ≠ L2 := fun z => by rw [z, nL2] at ha; cases ha
        refine lc_range (lo := tk + 1) (n := (ns'[bn] - (tk + 1)).toNat) (fun j U => Same Y U ∧ ∃ acc, U L2 = some (.lst acc) ∧ TvL K U acc ((useP ns' ((bn : Int), ti, tk) j).map prD)) ⟨sub_same nL2, [], upd_same, .nil⟩ ?_ ?_
        · rintro j U hj ⟨su, acc2, ha2, la2⟩
          have mem : ((bn : Int), ti, tk + 1 + (j : Int)) ∈ pl ns' ∧ ((bn : Int), tk, tk + 1 + (j : Int)) ∈ pl ns' := by
            have f := List.all_eq_true.mp far j (List.mem_range.mpr (by omega))
            have f2 : (!decide ((j : Int) < ns'.getD bn 0 - (tk + 1)) || (decide (((bn : Int), ti, tk + 1 + (j : Int)) ∈ pl ns') && decide (((bn : Int), tk, tk + 1 + (j : Int)) ∈ pl ns'))) = true := f
            rw [decide_eq_true (show (j : Int) < ns'.getD bn 0 - (tk + 1) by rw [gd]; omega)] at f2
            simp only [Bool.not_true, Bool.false_or, Bool.and_eq_true] at f2
            exact ⟨of_decide_eq_true f2.1, of_decide_eq_true f2.2⟩
          refine ⟨rfl, ?_⟩
          refine yesT ?_
          obtain ⟨v1, hv1, ev1⟩ : ∃ v1, valV kvs (triK ((bn : Int), ti, tk + 1 + (j : Int))) = some v1 ∧ v1 = .int (ix ns' ((bn : Int), ti, tk + 1 + (j : Int))) := ⟨_, all _ mem.1, rfl⟩
          obtain ⟨v2, hv2, ev2⟩ : ∃ v2, valV kvs (triK ((bn : Int), tk, tk + 1 + (j : Int))) = some v2 ∧ v2 = .int (ix ns' ((bn : Int), tk, tk + 1 + (j : Int))) := ⟨_, all _ mem.2, rfl⟩
          have hkU := su _ _ (sy _ _ hk)
          refine ⟨_, rfl, _, rfl, _, rfl, _, rfl, (by show 3 ≤ sizeLine; decide), fun p1 n1 => ⟨D, v1, rfl, ?_, ?_⟩⟩
          · rw [← hv1]
            exact DGet.t (sub_same n1 _ _ hkU) upd_same
          have s5 := su.trans (sub_same (o := .tup [V.int (bn : Int), V.int ti, V.int (tk + 1 + (j : Int))]) n1)
          have ha5 := sub_same (o := .tup [V.int (bn : Int), V.int ti, V.int (tk + 1 + (j : Int))]) n1 _ _ ha2
          refine ⟨_, rfl, _, rfl, _, rfl, _, rfl, (by show 3 ≤ sizeLine; decide), fun p2 n2 => ⟨D, v2, rfl, ?_, ?_⟩⟩
          · rw [← hv2]
            exact DGet.t (sub_same n2 _ _ (sub_same n1 _ _ hkU)) upd_same
          refine ⟨(by show 2 ≤ sizeLine; decide), fun p3 n3 => ?_⟩
          have s6 := (s5.trans (sub_same (o := .tup [V.int (bn : Int), V.int tk, V.int (tk + 1 + (j : Int))]) n2)).trans (sub_same (o := .tup [v1, v2]) n3)
          have l2 := la2.len
          rw [List.length_map] at l2
          unfold useP at l2
          rw [List.length_map, List.length_range] at l2
          have t6 := la2.same ((sub_same (o := .tup [V.int (bn : Int), V.int ti, V.int (tk + 1 + (j : Int))]) n1).trans ((sub_same (o := .tup [V.int (bn : Int), V.int tk, V.int (tk + 1 + (j : Int))]) n2).trans (sub_same (o := .tup [v1, v2]) n3)))
          have h6 := sub_same (o := .tup [v1, v2]) n3 _ _ (sub_same (o := .tup [V.int (bn : Int), V.int tk, V.int (tk + 1 + (j : Int))]) n2 _ _ ha5)
          refine ⟨acc2, h6, ?_, fun b ob eb => ?_, _, upd_same, ?_⟩
          · rw [sizeLine_eq]
            omega
          · rw [upd_ne (fun z => by rw [z, nL2] at eb; cases eb)]
            exact s6 _ _ eb
          · rw [useP_succ, List.map_append]
            refine (t6.snoc (.tup (sqt_new upd_same) ?_)).put h6
            rw [ev1, ev2]
            exact .cons (.int _) (.cons (.int _) .nil)
        · rintro U ⟨su, acc2, ha2, la2⟩
          refine .inl ⟨L2, acc2, rfl, .inl (.inl ha2), fun p np => ?_⟩
          have s4 := su.trans (sub_same (o := .tup acc2) np)
          have l1 := la.len
          rw [List.length_map, List.length_take] at l1
          refine ⟨acc, s4 _ _ ha, ?_, fun b ob eb => ?_, _, upd_same, ?_⟩
          · have := M.2.1
            rw [sizeLine_eq]
            omega
          · rw [upd_ne (fun z => by rw [z, nL] at eb; cases eb)]
            exact s4 _ _ (sy _ _ eb)
          · rw [List.take_succ, et, List.map_append]
            have un' : useN ns' ((bn : Int), ti, tk) = (ns'[bn] - (tk + 1)).toNat := by
              show (ns'.getD bn 0 - (tk + 1)).toNat = _
              rw [gd]
            refine ((la.same s4).snoc (.tup (sqt_new upd_same) ?_)).put (s4 _ _ ha)
            rw [un']
            exact la2.same (sub_same np)
      · rintro Y ⟨sy, acc, ha, la⟩
        rw [lx, List.take_length] at la
        exact .inl ⟨L, acc, rfl, .inl (.inl ha), fun p np => q2 _ _ (sy.trans (sub_same np)) (.tup (sqt_new upd_same) (la.same (sub_same np)))⟩
end
end K18
/-! # leads; what are entries -/
namespace K18
open PySem PySem.Spec PyProof.Rows L2
section
variable {P : Program} {w : World} {K : PySem.W.Frag} {mg : Str → Option Value} {base : Heap} {CS : Addr}
theorem abs_lt {n L : Int} (h : -L < n) (h2 : n < L) : (if n < 0 then -n else n) < L := by
  split <;> omega
/-- an integer that is not too long -/
def spInt : Sp := fun vs H Q _ => ∃ n : Int, vs = [.int n] ∧ -(10 ^ 60) < n ∧ n < 10 ^ 60 ∧ Q (.bl true) H
theorem ok_integer {f f1 : Addr} {fd fd1 : FuncData} {k : Nat} (T : Txt mg) (N : Nam mg) (d : D K mg "is_integer" s_is_integer ["value"] f fd) (d1 : D K mg "is_whole" s_is_whole ["value"] f1 fd1) : FnOk P w K mg base CX0 (k + 2) f fd ["value"] spInt := by
  have G1 : FnOk P w K mg base CX0 (k + 1) f1 fd1 ["value"] (spWhole K) := ok_whole T d1
  obtain ⟨tI, cI⟩ := N.cI
  refine d.F.ok sc_is_integer (fun vs H Q E h => ?_) (fun cdv A outer s H vs Q E hr h => ?_)
  · obtain ⟨n, rfl, _⟩ := h
    rfl
  · obtain ⟨n, rfl, n0, n1, q⟩ := h
    refine ⟨_, (pss_one (ps_ret (pe_and (pe_call G1 hr (by rfl) d1.g d1.F.kp d1.b .nil pass0 (pa_cons (pv 0) pa_nil)) (pe_one (pe_cmpR op_lt (pe_callB call_abs (by rfl) T.n_abs (by decide +kernel) (pa_cons (pv 0) pa_nil)) (pe_glob (v := .int (10 ^ 60)) rfl cI ⟨_, rfl⟩) (nomark _)))))), ?_⟩
    refine ⟨_, rfl, _, .int n, rfl, .tv (.int n), true, rfl, iteT ⟨_, rfl, _, rfl, _, _, rfl, rfl, ?_⟩⟩
    show Q (.bl (decide ((if n < 0 then -n else n) < (10 ^ 60 : Int)))) H
    rw [decide_eq_true (abs_lt n0 n1)]
    exact q
theorem same_unlock {H H' : Hp} {D : Addr} {x y : HO} (e : H D = some y) (s : Same (upd H D x) H') : Same H (upd H' D y) := fun b o h => by
  by_cases z : b = D
  · rw [z, upd_same, ← e, ← z]
    exact h
  · rw [upd_ne z]
    exact s b o (by rw [upd_ne z]; exact h)
abbrev s_ents : Stmt := topS 46
theorem sc_ents : FnScope ["shape", "value", "place", "number"] ["shape", "value"] (defScope s_ents) := ⟨rfl, rfl, rfl, by decide +kernel, rfl, by decide +kernel, by decide +kernel⟩
/-- what a dict of entries holds -/
def Ent (ns : List Int) (ps : List (List L2.Key × V)) : Prop := ps.length ≤ 100 ∧ ∀ p ∈ ps, ∃ t ∈ pl ns, p.1 = triK t ∧ ∃ n : Int, p.2 = .int n ∧ -(10 ^ 60) < n ∧ n < 10 ^ 60
def spEnts (K : PySem.W.Frag) : Sp := fun vs H Q _ => ∃ (a D : Addr) (ns : List Int) (ps : List (List L2.Key × V)), vs = [.ref a, .ref D] ∧ SqT K H a (ns.map V.int) ∧ Shp ns ∧ H D = some (.dT ps) ∧ Ent ns ps ∧ ∀ H', Same H H' → Q (.bl true) H'
theorem kit_dict {K : PySem.W.Frag} : kit K (.type "dict") (.type "dict") true := by rfl
theorem ok_ents {f f1 f2 : Addr} {fd fd1 fd2 : FuncData} (T : Txt mg) (N : Nam mg) (d : D K mg "are_entries" s_ents ["shape", "value"] f fd) (d1 : D K mg "is_place" s_place ["shape", "value"] f1 fd1) (d2 : D K mg "is_integer" s_is_integer ["value"] f2 fd2)
    (G1 : FnOk P w K mg base (L2.CX P w) 5 f1 fd1 ["shape", "value"] (spPlace K CS)) (G2 : FnOk P w K mg base CX0 2 f2 fd2 ["value"] spInt) : FnOk P w K mg base (L2.CX P w) 6 f fd ["shape", "value"] (spEnts K) := by
  refine d.F.okX sc_ents (fun vs H Q E h => ?_) (fun cdv A outer s H vs Q E hr h => ?_)
  · obtain ⟨a, D, ns, ps, rfl, _⟩ := h
    rfl
  · obtain ⟨a, D, ns, ps, rfl, e, S, eD, ⟨lp, all⟩, q⟩ := h
    refine ⟨_, (pss_cons (ps_if (pt_not (pt_val (pe_callB call_isi (by rfl) T.n_isinstance (by decide +kernel) (pa_cons (pv 1) (pa_cons (pe_bltn (v := .ty "dict") (by rfl) N.n_dict (by decide +kernel) rfl) pa_nil))))) (pss_one (ps_ret pe_bl)) pss_nil)
      (pss_one (ps_ret (pe_callB (cr_all rfl) (by rfl) N.n_all (by decide +kernel) (pa_cons (pe_lock (pe_lc (own := [("place", 2), ("number", 3)]) (g := gTup K 2 (gCons (gName 2) (gCons (gName 3) gNil))) (tt := tYes) rfl sc_ents.nd (pi_itemsT (pv 1)) (blkOk_by (own := [("place", 2), ("number", 3)]) (N := ["shape", "value", "place", "number"]) (sc := defScope s_ents) (by decide +kernel))
            (fun _ _ _ _ _ => (pg_tup rfl (pgs_cons (pg_name (i := 2) sc_ents.nd rfl (Or.inl rfl)) (pgs_cons (pg_name (i := 3) sc_ents.nd rfl (Or.inl rfl)) pgs_nil)))) (fun _ _ _ _ _ => pts_nil) (fun _ _ _ _ _ => (pe_and (pe_call (E := fun _ _ _ => False) G1 (hr.mono (by decide)) (by rfl) d1.g d1.F.kp d1.b .nil passF (pa_cons (pv 0) (pa_cons (pv 2) pa_nil))) (pe_one (pe_call G2 (hr.mono (by decide)) (by rfl) d2.g d2.F.kp d2.b .nil pass0 (pa_cons (pv 3) pa_nil))))))) pa_nil))))), ?_⟩
    refine ⟨_, rfl, _, _, _, _, _, rfl, .ty _, .base (.dT eD), kit_dict, _, rfl, ite2 (fun z => absurd z Bool.false_ne_true) (fun _ => ?_)⟩
    refine ⟨D, _, eD, True.intro, fun od => ?_⟩
    have unl : ∀ {Z : Hp}, Same (upd H D (.frz od (.dT ps))) Z → Same H (upd Z D (.dT ps)) := fun sz => same_unlock eD sz
    have e2 : SqT K (upd H D (.frz od (.dT ps))) a (ns.map V.int) := sqt_upd e fun o h => by
      rw [eD] at h
      cases h
      exact ⟨fun z => (by cases z), fun _ z => (by cases z)⟩
    have f2 : upd H D (.frz od (.dT ps)) D = some (.frz od (.dT ps)) := upd_same
    revert unl e2 f2
    generalize upd H D (.frz od (.dT ps)) = HL
    intro unl e2 f2
    refine ⟨_, rfl, D, od, ps, rfl, f2, fun L nL => ?_⟩
    have wk : Walk (ItiT D od ps) ps.length (fun Z => Z D = some (.frz od (.dT ps))) (ItiT D od ps).yld := ⟨fun i Z l h => ⟨h, l⟩, fun Z h => ⟨h, Nat.le_refl _⟩, fun i Z x Z' l h y => y⟩
    refine lc_it wk (fun i Z => Same HL Z ∧ Z L = some (.lst ((List.replicate i true).map V.bl))) ⟨sub_same nL, upd_same⟩ (fun i Z _ h => h.1 _ _ f2) ?_ ?_
    · rintro i x Z Z' hi ⟨sm, hl⟩ ⟨Tp, qa, k, v, ek, eq, rfl, nT, rfl⟩
      obtain ⟨t, mt, ek2, n, ev, n0, n1⟩ := all (k, v) (List.mem_of_getElem? ek)
      have ek2 : k = triK t := ek2
      have ev : v = .int n := ev
      subst ek2 ev
      have s2 := sub_same (o := .tup [V.ref qa, V.int n]) nT
      have hl2 := s2 _ _ hl
      have eq2 := s2 _ _ eq
      have sm2 := sm.trans s2
      have hT : upd Z Tp (.tup [V.ref qa, V.int n]) Tp = some (.tup [V.ref qa, V.int n]) := upd_same
      revert hl2 eq2 sm2 hT
      generalize upd Z Tp (.tup [V.ref qa, V.int n]) = Z2
      intro hl2 eq2 sm2 hT
      refine ⟨Tp, _, rfl, .inl (.inl hT), rfl, _, _, rfl, _, _, rfl, rfl, rfl, yesT ?_⟩
      refine ⟨_, rfl, _, rfl, _, _, .tuple (ns.map .int), triD t, rfl, .tv (.tup (sqt_same e2 sm2) (tvl_ints ns)), .tv (.tup (sqt_new eq2) (tvl_ints (triI t))), fun ns' en S' Z3 s3 => ?_, fun z => absurd (shp_is S) (by rw [z]; decide)⟩
      obtain rfl : ns' = ns := (ints_inj (PyData.tuple.inj en)).symm
      rw [(tables2 ns' (shp_mem S)).2.1 t mt]
      refine ⟨true, rfl, iteT ⟨_, rfl, n, rfl, n0, n1, ?_⟩⟩
      refine ⟨_, s3 _ _ hl2, ?_, fun b ob eb => ?_, ?_⟩
      · rw [List.length_map, List.length_replicate, sizeLine_eq]
        omega
      · rw [upd_ne (fun z => by rw [z, nL] at eb; cases eb)]
        exact s3 _ _ (sm2 _ _ eb)
      · rw [upd_same, List.replicate_succ', List.map_append]
        rfl
    · rintro Z ⟨sm, hl⟩
      refine ⟨sm _ _ f2, L, List.replicate ps.length true, rfl, .inl (.inl ?_), ?_⟩
      · rw [upd_ne (fun z => by rw [z, f2] at nL; cases nL)]
        exact hl
      · have z : (List.replicate ps.length true).all id = true := List.all_eq_true.mpr fun b m => (List.mem_replicate.mp m).2
        rw [z]
        exact q _ (unl sm)
end
end K18
/-! # bool(x), len(x) of an own class; a class called by a local name -/
namespace K18W
open PySem PySem.Spec PyProof.Rows PySem.W PySem.Calls
section
variable {prog : Program} {w : World} {A : Around} {E : PySem.Value → Shared → Prop} {s : Shared} {K : Frag} {x C f : Addr} {ox : Obj} {od : Option Obj}
theorem bool_own {Q : PySem.Value → Shared → Prop} (X : K.In s.heap) (I : InstAt s.heap x ox C od) (hs : findIn K (.ref C) "__bool__" = some (some (.ref f))) (hf : isFn K (.ref f) = true)
    (h : wpAny (model prog w) A.in1.in1 (call (.ref f) [.ref x]) (fun v s' => ∃ k, v = .bool k ∧ Q (.bool k) s') E s) : wpAny (model prog w) A (call (.type "bool") [.ref x]) Q E s := by
  refine callType_codes (T := "bool") (Bi := Builtin.«object.__init__») (Q₁ := fun r s₁ => ∃ k, r = PySem.Value.bool k ∧ Q r s₁) PySem.F.called_bool (PySem.F.typeCall_bool_1 _) PySem.F.entry_object_init ?_ ?_
  · refine codeAny_of_tree ?_
    show wpAny _ A.in1.in1 (do checkBuiltinCall "bool.__new__" ⟨[.type "bool", .ref x], []⟩; again (.builtin "bool.__new__" ⟨[.type "bool", .ref x], []⟩)) _ _ s
    refine wpAny_bind (wpAny_of_eq (PySem.F.newCall_bool_1 _) (wpAny_pure ⟨plainId_quiet (by decide +kernel) _, codeAny_builtin PySem.F.entry_bool_new ?_⟩))
    rw [Around.under_plainId (by decide +kernel) _]
    unfold Builtin.«bool.__new__»
    have tr : ∀ {Q' : Bool → Shared → Prop}, (∀ k s', Q (.bool k) s' → Q' k s') → wpAny (model prog w) A.in1.in1 (truthy (.ref x)) Q' E s := fun {Q'} g => by
      unfold truthy
      refine wpAny_bind (m := callSpecial? (.ref x) (Str.ofString "__bool__")) (special_fn X I hs (beq_iff_eq.mp hf) (wpAny_mono h (fun r s' ⟨k, e, z⟩ => ?_) fun _ _ y => y))
      subst e
      exact wpAny_pure (g k s' z)
    repeat (first | (refine wpAny_bind (m := truthy (.ref x)) (tr fun k s' z => ?_)) | wp_step)
    all_goals first | exact ⟨_, rfl, z⟩ | exact wpAny_pure ⟨_, rfl, z⟩ | skip
  · rintro obj s₁ ⟨k, rfl, hq⟩
    exact ⟨PySem.typeIs_bool _ _, PySem.F.args_object_init_2 _ _, object_init_meets PySem.F.called_bool.init.lookup PySem.F.called_bool.made (by decide) prog w A.in1 _ s₁ ⟨PySem.typeIs_bool _ _, rfl, hq⟩⟩
end
end K18W
namespace K18
open PySem PySem.Spec PyProof.Rows L2
def Ins (H : Hp) (a C : Addr) : Prop := ∃ dx fs, H a = some (.ins C dx fs)
section
variable {X : Cx} {C g : Addr} {n : Nat} {fd : FuncData} {ps : List Str} {sp : Sp} {pins : List (Addr × Obj)} {σ : L2.St} {H : Hp} {s : Shared} {a : Addr}
theorem ins_look (I : Inv X pins σ H s) (h : Ins H a C) : ∃ (ox od : Obj), PySem.W.InstAt s.heap a ox C (some od) := by
  obtain ⟨dx, fs, e⟩ := h
  obtain ⟨mA, O, _⟩ := ins_get I.hok e
  obtain ⟨od, J, _⟩ := O.look
  exact ⟨_, od, J⟩
theorem run_below {A : Around} {Q : VK} {us : List Value} {vs : List V} {E' : Value → Shared → Prop} (F : FnOk X.prog X.w X.K X.mg X.base CX0 n g fd ps sp) (hr : Room n A) (e0 : Env0 X.prog X.w X.K X.mg X.base A X.stack s H) (hb : Binds X.K fd ps [])
    (I : Inv X pins σ H s) (r : Vals vs us) (h : sp vs H Q E0) : wpAny (model X.prog X.w) A (call (.ref g) us) (EP X pins σ Q) E' s := by
  have hl : (us ++ []).length = ps.length := by
    rw [List.append_nil, ← r.length]
    exact F.len _ _ _ _ h
  have b := hb s us I.kIn hl
  rw [List.append_nil] at b
  refine wpAny_call (codeAny_mono (F.run A X.stack s H ⟨us, []⟩ us vs Q E0 hr e0 b r h) fun r s' hq => ?_)
  cases r with
  | error e => exact False.elim hq
  | ok fl =>
    cases fl with
    | ret u => exact I.after hq
    | next => exact False.elim hq
    | brk => exact False.elim hq
    | cont => exact False.elim hq
/-- bool(x) -/
theorem call_boolMine (hs : PySem.W.findIn X.K (.ref C) "__bool__" = some (some (.ref g))) (hf : PySem.W.isFn X.K (.ref g) = true) (F : FnOk X.prog X.w X.K X.mg X.base CX0 n g fd ps sp) (hr : Room (n + 2) X.A) (hb : Binds X.K fd ps []) :
    CallR X (.type "bool") (fun xs H Q => ∃ a, xs = [.ref a] ∧ Ins H a C ∧ sp xs H (fun v H' => ∃ k, v = .bl k ∧ Q v H') E0) := by
  intro pins s σ H xs us Q I r h
  obtain ⟨a, rfl, ha, q⟩ := h
  obtain ⟨u, rfl, ru⟩ := r.one
  cases (show u = Value.ref a from ru)
  obtain ⟨ox, od, J⟩ := ins_look I ha
  have hr2 : Room n X.A.in1.in1 := (show Room (n + 1) X.A.in1 from Room.in1 hr).in1
  refine K18W.bool_own I.kIn J hs hf (wpAny_mono (run_below (us := [.ref a]) (vs := [.ref a]) F hr2 I.env0.in1.in1 hb I (.cons rfl .nil) q) (fun w s' z => ?_) fun _ _ x => x)
  obtain ⟨z', H', I', rz, k, ek, qz⟩ := z
  subst ek
  cases (show w = Value.bool k from rz)
  exact ⟨k, rfl, .bl k, H', I', rfl, qz⟩
end
section
variable {X : Cx} {CX : CXT} {k : Nat} {f C : Addr} {fd : FuncData} {ps : List Str} {sp : Sp} {dvs : List V} {ds : List Value} {E : XK} {x : Str} {np pos : Pos} {e : Expr} {es : List Expr} {tf : TE} {t : TA}
/-- c(e, ..), c a name whose value is the class -/
theorem pe_makeL (M : Mk X.K C f) (F : FnOk X.prog X.w X.K X.mg X.base CX k f fd ps sp) (hr : Room (k + 1) X.A) (hb : Binds X.K fd ps ds) (hd : Vals dvs ds) (hx : Passes CX X E) (nm : PE X (.Name x np) tf)
    (ha : PA X (e :: es) t) (he : starEach (e :: es) X.env = (false, eval e X.env) :: starEach es X.env := by rfl) (hpl : (backTo pos (starEach es X.env)).any (·.1) = false := by rfl) :
    PE X (.Call (.Name x np) (e :: es) [] pos) (fun σ H Q => tf σ H fun c H1 => c = .ref C ∧ tMake C sp dvs E t σ H1 Q) := by
  constructor
  intro pins s σ H Q I h
  refine wpAny_Call_Name_kw (thn (nm.run pins s σ H _ I h) fun u s1 w1 => ?_)
  obtain ⟨c, H1, I1, rc, rfl, q1⟩ := w1
  obtain rfl : u = Value.ref C := rc
  refine PySem.W.callWith_K (h₀ := X.base) I.ok.mod.kin M.kp (thn (ha.run pos pins s1 σ H1 _ I1 q1) fun us s2 w2 => ?_) he hpl
  obtain ⟨vs, H2, I2, r, q⟩ := w2
  exact ⟨I2.kIn, run_make M F hr hb hd hx I2 r q⟩
end
end K18
/-! # the class Stair -/
namespace K18
open PySem PySem.Spec PyProof.Rows L2
section
variable {X : Cx}
theorem plain_ints : ∀ ns : List Int, PyData.plainAll (ns.map PyData.int) = true
  | [] => rfl
  | n :: r => by
    show (true && PyData.plainAll (r.map PyData.int)) = true
    rw [plain_ints r]
    rfl
theorem cr_anyT (hc : X.calm = true) : CallR X (.builtin "any") (fun vs H Q => ∃ (a : Addr) (ns : List Int), vs = [V.ref a] ∧ SqT X.K H a (ns.map V.int) ∧ Q (.bl (ns.any fun n => n != 0)) H) := by
  intro pins s σ H vs us Q I r h
  obtain ⟨a, ns, rfl, hs, q⟩ := h
  obtain ⟨its, rv, hl, _⟩ := I.tuple hs
  rw [Vals.ref1 r]
  obtain ⟨as, ra⟩ := Dp.readsAll I (ns.map PyData.int) _ its (dp_ints X.K H ns) rv
  refine PySem.W.any_tuple_data (I.ok.hd hc) (show s.heap.IsTuple a its.toArray from hl) (show ReadsAll s.heap its.toArray.toList _ _ from ra) (plain_ints ns) (fun x m => ?_) fun h' tk hk => ?_
  · obtain ⟨n, _, rfl⟩ := List.mem_map.mp m
    exact True.intro
  · refine ⟨.bl _, H, I.kept hk, ?_, q⟩
    show Value.bool _ = Value.bool _
    rw [List.any_map]
    rfl
end
/-! ### its fields -/
def stF (s p n : V) : List (Str × V) := putF "_numbers" n (putF "_plan" p (putF "_shape" s []))
theorem sp_ : ¬ (("_shape" : Str) = "_plan") := by decide +kernel
theorem sn_ : ¬ (("_shape" : Str) = "_numbers") := by decide +kernel
theorem pn_ : ¬ (("_plan" : Str) = "_numbers") := by decide +kernel
theorem stF_shape (s p n : V) : (stF s p n).lookup ("_shape" : Str) = some s := by
  unfold stF
  rw [lookup_putF, if_neg sn_, lookup_putF, if_neg sp_, lookup_putF, if_pos rfl]
theorem stF_numbers (s p n : V) : (stF s p n).lookup ("_numbers" : Str) = some n := by
  unfold stF
  rw [lookup_putF, if_pos rfl]
/-- a method of the class -/
structure M (K : PySem.W.Frag) (x q : Str) (st : Stmt) (ps : List Str) (f : Addr) (fd : FuncData) : Prop where
  F : Fun K x q st f fd
  b : Binds K fd ps []
structure SC (K : PySem.W.Frag) (mg : Str → Option Value) (C : Addr) : Prop where
  cl : Cls K C
  nS : NoAttr K C "_shape"
  nP : NoAttr K C "_plan"
  nN : NoAttr K C "_numbers"
  mC : mg "Stair" = some (.ref C)
/-- a stair: its shape's tuple, its numbers -/
def StairO (K : PySem.W.Frag) (H : Hp) (a C : Addr) (ns ms : List Int) : Prop := ∃ dx sh pln nm, H a = some (.ins C dx (stF (.ref sh) pln (.ref nm))) ∧ SqT K H sh (ns.map V.int) ∧ H nm = some (.tup (ms.map V.int)) ∧ Tv K H pln (planD ns)
theorem StairO.same {K : PySem.W.Frag} {H H' : Hp} {a C : Addr} {ns ms : List Int} (h : StairO K H a C ns ms) (s : Same H H') : StairO K H' a C ns ms := let ⟨dx, sh, pln, nm, e1, e2, e3, e4⟩ := h; ⟨dx, sh, pln, nm, s _ _ e1, sqt_same e2 s, s _ _ e3, e4.same s⟩
theorem dead {X : Cx} {b : List Stmt} : PSs X b (fun _ _ _ => False) := ⟨fun _ _ _ _ _ _ h => h.elim⟩
section
variable {P : Program} {w : World} {K : PySem.W.Frag} {mg : Str → Option Value} {base : Heap} {C CS : Addr}
abbrev s_init : Stmt := inClass (topS 41) 0
theorem sc_init : FnScope ["self", "shape", "entries", "place"] ["self", "shape", "entries"] (defScope s_init) := ⟨rfl, rfl, rfl, by decide +kernel, rfl, by decide +kernel, by decide +kernel⟩
abbrev s_nums : Stmt := inClass (topS 41) 7
theorem sc_nums : FnScope ["self"] ["self"] (defScope s_nums) := ⟨rfl, rfl, rfl, by decide +kernel, rfl, by decide +kernel, by decide +kernel⟩
abbrev s_sbool : Stmt := inClass (topS 41) 18
theorem sc_sbool : FnScope ["self"] ["self"] (defScope s_sbool) := ⟨rfl, rfl, rfl, by decide +kernel, rfl, by decide +kernel, by decide +kernel⟩
/-! ### what asks it -/
def spNums (K : PySem.W.Frag) (C : Addr) : Sp := fun vs H Q _ => ∃ a ns ms, vs = [.ref a] ∧ StairO K H a C ns ms ∧ ∀ nm, H nm = some (.tup (ms.map V.int)) → Q (.ref nm) H
theorem ok_nums {f : Addr} {fd : FuncData} {k : Nat} (R : SC K mg C) (d : M K "numbers" "Stair.numbers" s_nums ["self"] f fd) : FnOk P w K mg base CX0 (k + 1) f fd ["self"] (spNums K C) := by
  refine d.F.ok sc_nums (fun vs H Q E h => ?_) (fun cdv A outer s H vs Q E hr h => ?_)
  · obtain ⟨a, ns, ms, rfl, _⟩ := h
    rfl
  · obtain ⟨a, ns, ms, rfl, ⟨dx, sh, pln, nm, e1, e2, e3, e4⟩, g⟩ := h
    exact ⟨_, pss_one (ps_ret (pe_fld (pv 0) rfl)), _, rfl, a, C, dx, _, _, rfl, e1, R.cl, R.nN, stF_numbers _ _ _, g nm e3⟩
def spSBool (K : PySem.W.Frag) (C : Addr) : Sp := fun vs H Q _ => ∃ a ns ms, vs = [.ref a] ∧ StairO K H a C ns ms ∧ Q (.bl (ms.any fun n => n != 0)) H
theorem ok_sbool {f : Addr} {fd : FuncData} {k : Nat} (N : Nam mg) (R : SC K mg C) (d : M K "__bool__" "Stair.__bool__" s_sbool ["self"] f fd) : FnOk P w K mg base CX0 (k + 1) f fd ["self"] (spSBool K C) := by
  refine d.F.ok sc_sbool (fun vs H Q E h => ?_) (fun cdv A outer s H vs Q E hr h => ?_)
  · obtain ⟨a, ns, ms, rfl, _⟩ := h
    rfl
  · obtain ⟨a, ns, ms, rfl, ⟨dx, sh, pln, nm, e1, e2, e3, e4⟩, g⟩ := h
    refine ⟨_, (pss_one (ps_ret (pe_callB (cr_anyT rfl) (by rfl) N.n_any (by decide +kernel) (pa_cons (pe_fld (pv 0) rfl) pa_nil)))), ?_⟩
    exact ⟨_, rfl, a, C, dx, _, _, rfl, e1, R.cl, R.nN, stF_numbers _ _ _, nm, _, rfl, .inl (.inl e3), g⟩
end
end K18
/-! # stairs made -/
namespace K18
open PySem PySem.Spec PyProof.Rows L2
/-- the number at a place -/
def numAt (ps : List (List L2.Key × V)) (t : Tri) : Int := match valV ps (triK t) with
  | some (.int n) => n
  | _ => 0
theorem numAt_v {ns : List Int} {ps : List (List L2.Key × V)} (E : Ent ns ps) (t : Tri) : (valV ps (triK t)).getD (.int 0) = .int (numAt ps t) := by
  unfold numAt
  cases e : valV ps (triK t) with
  | none => rfl
  | some v =>
    obtain ⟨p, m, rfl⟩ : ∃ p, p ∈ ps ∧ p.2 = v := by
      clear E
      induction ps with
      | nil => cases e
      | cons q r ih =>
        by_cases z : q.1 = triK t
        · have y : valV (q :: r) (triK t) = some q.2 := by
            unfold valV
            rw [List.find?_cons_of_pos (by simpa using z)]
            rfl
          rw [y] at e
          exact ⟨q, List.mem_cons_self, Option.some.inj e⟩
        · have y : valV (q :: r) (triK t) = valV r (triK t) := by
            unfold valV
            rw [List.find?_cons_of_neg (by simpa using z)]
          rw [y] at e
          obtain ⟨p, m, h⟩ := ih e
          exact ⟨p, List.mem_cons_of_mem _ m, h⟩
    obtain ⟨_, _, _, n, en, _, _⟩ := E.2 p m
    rw [en]
    rfl
section
variable {P : Program} {w : World} {K : PySem.W.Frag} {mg : Str → Option Value} {base : Heap} {C CS : Addr}
mutual
theorem Tv.putI {K : PySem.W.Frag} {H : Hp} {a C dx : Addr} {fs : List (Str × V)} {y : HO} (ha : H a = some (.ins C dx fs)) : ∀ {x : V} {d : PyData}, Tv K H x d → Tv K (upd H a y) x d
  | _, _, .non => .non
  | _, _, .bl b => .bl b
  | _, _, .int i => .int i
  | _, _, .str z => .str z
  | _, _, .tup e l => .tup (sqt_upd e fun o h => by
      rw [ha] at h
      cases h
      exact ⟨fun z => (by cases z), fun _ z => (by cases z)⟩) (TvL.putI ha l)
theorem TvL.putI {K : PySem.W.Frag} {H : Hp} {a C dx : Addr} {fs : List (Str × V)} {y : HO} (ha : H a = some (.ins C dx fs)) : ∀ {zs : List V} {ds : List PyData}, TvL K H zs ds → TvL K (upd H a y) zs ds
  | _, _, .nil => .nil
  | _, _, .cons h t => .cons (Tv.putI ha h) (TvL.putI ha t)
end
/-- the instance at a is filled -/
def spInit (K : PySem.W.Frag) (C : Addr) : Sp := fun vs H Q _ => ∃ (a sh D dx : Addr) (ns : List Int) (ps : List (List L2.Key × V)), vs = [.ref a, .ref sh, .ref D] ∧ H a = some (.ins C dx []) ∧ SqT K H sh (ns.map V.int) ∧ Shp ns ∧ H D = some (.dT ps) ∧ Ent ns ps ∧
  ∀ H', Old a H H' → StairO K H' a C ns ((pl ns).map (numAt ps)) → Q .non H'
theorem ok_init {f f1 f2 f3 f4 : Addr} {fd fd1 fd2 fd3 fd4 : FuncData} (T : Txt mg) (N : Nam mg) (R : SC K mg C) (d : M K "__init__" "Stair.__init__" s_init ["self", "shape", "entries"] f fd)
    (d1 : D K mg "check_shape" s_check ["shape"] f1 fd1) (d2 : D K mg "are_entries" s_ents ["shape", "value"] f2 fd2) (d3 : D K mg "plan_of" s_plan ["shape"] f3 fd3) (d4 : D K mg "places" s_places ["shape"] f4 fd4)
    (G1 : FnOk P w K mg base (L2.CX P w) 4 f1 fd1 ["shape"] (spCheck K CS)) (G2 : FnOk P w K mg base (L2.CX P w) 6 f2 fd2 ["shape", "value"] (spEnts K)) (G3 : FnOk P w K mg base (L2.CX P w) 6 f3 fd3 ["shape"] (spPlan K)) (G4 : FnOk P w K mg base (L2.CX P w) 5 f4 fd4 ["shape"] (spPlaces K CS)) :
    FnOk P w K mg base CX0 7 f fd ["self", "shape", "entries"] (spInit K C) := by
  refine d.F.ok sc_init (fun vs H Q E h => ?_) (fun cdv A outer s H vs Q E hr h => ?_)
  · obtain ⟨a, sh, D, dx, ns, ps, rfl, _⟩ := h
    rfl
  · obtain ⟨a, sh, D, dx, ns, ps, rfl, ea, es, S, eD, EN, q⟩ := h
    have un : (A.deeper (envOfC "Stair.__init__" (defScope s_init) s.heap.objs.size f cdv)).units + 1 < cLine := by have := hr.un; omega
    refine ⟨_, (pss_cons (ps_expr (pe_call (E := fun _ _ _ => False) G1 (hr.mono (by decide)) (by rfl) d1.g d1.F.kp d1.b .nil passF (pa_cons (pv 1) pa_nil)))
      (pss_cons (ps_if (pt_not (pt_val (pe_call (E := fun _ _ _ => False) G2 (hr.mono (by decide)) (by rfl) d2.g d2.F.kp d2.b .nil passF (pa_cons (pv 1) (pa_cons (pv 2) pa_nil))))) dead pss_nil)
      (pss_cons (ps_fld (pv 0) (pv 1) rfl)
      (pss_cons (ps_fld (pv 0) (pe_call (E := fun _ _ _ => False) G3 (hr.mono (by decide)) (by rfl) d3.g d3.F.kp d3.b .nil passF (pa_cons (pv 1) pa_nil)) rfl)
      (pss_one (ps_fld (pv 0) (pe_tupleOf (by rfl) T.n_tuple (pe_lc (own := [("place", 3)]) (g := gName 3) (tt := tYes) rfl sc_init.nd (pi_tup (pe_call (E := fun _ _ _ => False) G4 (hr.mono (by decide)) (by rfl) d4.g d4.F.kp d4.b .nil passF (pa_cons (pv 1) pa_nil))) (blkOk_by (own := [("place", 3)]) (N := ["self", "shape", "entries", "place"]) (sc := defScope s_init) (by decide +kernel))
            (fun _ _ _ _ _ => (pg_name (i := 3) sc_init.nd rfl (Or.inl rfl))) (fun _ _ _ _ _ => pts_nil) (fun _ _ _ _ _ => (pe_dget2 un (pv 2) (pv 3) pe_int ⟨rfl, rfl, rfl, rfl⟩)))) rfl)))))), ?_⟩
    refine ⟨_, rfl, _, .tuple (ns.map .int), rfl, .tv (.tup es (tvl_ints ns)), fun _ H1 s1 => ?_, fun z => absurd (shp_is S) (by rw [z]; decide)⟩
    refine ⟨_, rfl, _, rfl, sh, D, ns, ps, rfl, sqt_same es s1, S, s1 _ _ eD, EN, fun H2 s2 => ⟨true, rfl, ite2 (fun z => absurd z Bool.false_ne_true) (fun _ => ?_)⟩⟩
    have s12 := s1.trans s2
    have ea2 := s12 _ _ ea
    have es2 := sqt_same es s12
    have eD2 := s12 _ _ eD
    have fa : ∀ {y : HO}, SqT K (upd H2 a y) sh (ns.map V.int) := fun {y} => sqt_upd es2 fun o h => by
      rw [ea2] at h
      cases h
      exact ⟨fun z => (by cases z), fun _ z => (by cases z)⟩
    have Da : D ≠ a := fun z => by rw [z, ea] at eD; cases eD
    refine ⟨_, rfl, _, rfl, a, C, dx, [], rfl, ea2, R.cl, R.nS, (by show 0 < 1000; decide), ?_⟩
    have o3 : Old a H (upd H2 a (.ins C dx (putF "_shape" (.ref sh) []))) := fun b o n e => by rw [upd_ne n]; exact s12 _ _ e
    have ea3 : upd H2 a (.ins C dx (putF "_shape" (.ref sh) [])) a = some (.ins C dx (putF "_shape" (.ref sh) [])) := upd_same
    have es3 : SqT K (upd H2 a (.ins C dx (putF "_shape" (.ref sh) []))) sh (ns.map V.int) := fa
    have eD3 := o3 _ _ Da eD
    revert o3 ea3 es3 eD3
    generalize upd H2 a (.ins C dx (putF "_shape" (.ref sh) [])) = H3
    intro o3 ea3 es3 eD3
    refine ⟨_, rfl, sh, ns, rfl, es3, S, fun H4 pln s4 tp4 => ?_⟩
    refine ⟨_, rfl, a, C, dx, _, rfl, s4 _ _ ea3, R.cl, R.nP, (by show 1 < 1000; decide), ?_⟩
    have ea4 := s4 _ _ ea3
    have o5 : Old a H (upd H4 a (.ins C dx (putF "_plan" pln (putF "_shape" (.ref sh) [])))) := fun b o n e => by rw [upd_ne n]; exact s4 _ _ (o3 _ _ n e)
    have ea5 : upd H4 a (.ins C dx (putF "_plan" pln (putF "_shape" (.ref sh) []))) a = some (.ins C dx (putF "_plan" pln (putF "_shape" (.ref sh) []))) := upd_same
    have es5 : SqT K (upd H4 a (.ins C dx (putF "_plan" pln (putF "_shape" (.ref sh) [])))) sh (ns.map V.int) := sqt_upd (sqt_same es3 s4) fun o h => by
      rw [ea4] at h
      cases h
      exact ⟨fun z => (by cases z), fun _ z => (by cases z)⟩
    have eD5 := o5 _ _ Da eD
    have tp5 := tp4.putI (y := .ins C dx (putF "_plan" pln (putF "_shape" (.ref sh) []))) ea4
    revert o5 ea5 es5 eD5 tp5
    generalize upd H4 a (.ins C dx (putF "_plan" pln (putF "_shape" (.ref sh) []))) = H5
    intro o5 ea5 es5 eD5 tp5
    refine ⟨_, rfl, _, .tuple (ns.map .int), rfl, .tv (.tup es5 (tvl_ints ns)), fun ns' en S' H6 y s6 ty => ?_, fun z => absurd (shp_is S) (by rw [z]; decide)⟩
    obtain rfl : ns' = ns := (ints_inj (PyData.tuple.inj en)).symm
    obtain ⟨o, xs, rfl, eo, tl⟩ := ty
    have lx : xs.length = (pl ns').length := tl.len
    have lz := (tables3 ns' (shp_mem S)).2.1
    have o6 : Old a H H6 := fun b ob n e => s6 _ _ (o5 _ _ n e)
    refine ⟨o, rfl, ⟨xs, .inl (.inl eo)⟩, fun L nL => ?_⟩
    refine lc_tup (K := K) (a := o) (xs := xs) (fun i Z => Same H6 Z ∧ Z L = some (.lst ((((pl ns').take i).map (numAt ps)).map V.int))) ⟨sub_same nL, upd_same⟩ (fun i Z _ h => .inl (.inl (h.1 _ _ eo))) ?_ ?_
    · rintro i x Z hx ⟨sm, hl⟩
      obtain ⟨t, c, et, rfl, ec⟩ := tl.tri hx
      refine ⟨rfl, yesT ⟨_, rfl, D, rfl, .inr ⟨ps, .inl (sm _ _ (s6 _ _ eD5))⟩, _, rfl, _, DGet.t (k := triK t) (sm _ _ (s6 _ _ eD5)) (sm _ _ ec), ?_⟩⟩
      have il := (List.getElem?_eq_some_iff.mp et).1
      refine ⟨_, hl, ?_, fun b ob eb => ?_, ?_⟩
      · rw [List.length_map, List.length_map, List.length_take, sizeLine_eq]
        omega
      · rw [upd_ne (fun z => by rw [z, nL] at eb; cases eb)]
        exact sm _ _ eb
      · rw [upd_same, numAt_v EN t, List.take_succ, et, List.map_append, List.map_append]
        rfl
    · rintro Z ⟨sm, hl⟩
      rw [lx, List.take_length] at hl
      refine .inl ⟨L, _, rfl, .inl (.inl hl), fun nm nn => ?_⟩
      have s7 := sub_same (o := .tup (((pl ns').map (numAt ps)).map V.int)) nn
      have ea7 := s7 _ _ (sm _ _ (s6 _ _ ea5))
      have na : nm ≠ a := fun z => by rw [z, sm _ _ (s6 _ _ ea5)] at nn; cases nn
      refine ⟨_, rfl, a, C, dx, _, rfl, ea7, R.cl, R.nN, (by show 2 < 1000; decide), ?_⟩
      refine q _ (fun b ob n e => ?_) ⟨dx, sh, pln, nm, upd_same, ?_, ?_, ?_⟩
      · rw [upd_ne n]
        exact s7 _ _ (sm _ _ (o6 _ _ n e))
      · exact sqt_upd (sqt_same (sqt_same (sqt_same es5 s6) sm) s7) fun o h => by
          rw [ea7] at h
          cases h
          exact ⟨fun z => (by cases z), fun _ z => (by cases z)⟩
      · rw [upd_ne na]
        exact upd_same
      · exact (((tp5.same s6).same sm).same s7).putI ea7
abbrev s_one1 : Stmt := inClass (topS 41) 1
theorem sc_one1 : FnScope ["cls", "shape"] ["cls", "shape"] (defScope s_one1) := ⟨rfl, rfl, rfl, by decide +kernel, rfl, by decide +kernel, by decide +kernel⟩
end
end K18
/-! # stairs with given numbers; tables -/
namespace K18
open PySem PySem.Spec PyProof.Rows L2
theorem stF_eq (s p n : V) : stF s p n = [(("_shape" : Str), s), (("_plan" : Str), p), (("_numbers" : Str), n)] := by
  have e1 : putF "_plan" p [(("_shape" : Str), s)] = [(("_shape" : Str), s), (("_plan" : Str), p)] := by
    show (if ("_shape" : Str) = "_plan" then _ else (("_shape" : Str), s) :: [(("_plan" : Str), p)]) = _
    rw [if_neg sp_]
  show putF "_numbers" n (putF "_plan" p [(("_shape" : Str), s)]) = _
  rw [e1]
  show (if ("_shape" : Str) = "_numbers" then _ else (("_shape" : Str), s) :: (if ("_plan" : Str) = "_numbers" then _ else (("_plan" : Str), p) :: [(("_numbers" : Str), n)])) = _
  rw [if_neg sn_, if_neg pn_]
section
variable {P : Program} {w : World} {K : PySem.W.Frag} {mg : Str → Option Value} {base : Heap} {C CS TL : Addr}
abbrev s_with : Stmt := topS 42
theorem sc_with : FnScope ["shape", "plan", "numbers", "made"] ["shape", "plan", "numbers"] (defScope s_with) := ⟨rfl, rfl, rfl, by decide +kernel, rfl, by decide +kernel, by decide +kernel⟩
def spWith (K : PySem.W.Frag) (C : Addr) : Sp := fun vs H Q _ => ∃ (sh nm : Addr) (pln : V) (ns ms : List Int), vs = [.ref sh, pln, .ref nm] ∧ SqT K H sh (ns.map V.int) ∧ Tv K H pln (planD ns) ∧ H nm = some (.tup (ms.map V.int)) ∧
  ∀ H' b, Same H H' → H b = none → StairO K H' b C ns ms → Q (.ref b) H'
theorem ok_with {f fI : Addr} {fd fdI : FuncData} (R : SC K mg C) (gL : mg "_LEAST_SHAPE" = some (.ref TL)) (least : ∀ H : Hp, SqT K H TL ([2].map V.int)) (d : D K mg "stair_with" s_with ["shape", "plan", "numbers"] f fd)
    (mk : Mk K C fI) (GI : FnOk P w K mg base CX0 7 fI fdI ["self", "shape", "entries"] (spInit K C)) (bI : Binds K fdI ["self", "shape", "entries"] []) : FnOk P w K mg base CX0 9 f fd ["shape", "plan", "numbers"] (spWith K C) := by
  refine d.F.ok sc_with (fun vs H Q E h => ?_) (fun cdv A outer s H vs Q E hr h => ?_)
  · obtain ⟨sh, nm, pln, ns, ms, rfl, _⟩ := h
    rfl
  · obtain ⟨sh, nm, pln, ns, ms, rfl, es, tp, en, q⟩ := h
    refine ⟨_, (pss_cons (ps_set (i := 3) sc_with.nd rfl (.inl rfl) (pe_make mk GI (hr.mono (by decide)) (by rfl) R.mC bI .nil pass0 (pa_cons (pe_glob (v := .ref TL) rfl gL rfl) (pa_cons pe_dnewT pa_nil))))
      (pss_cons (ps_fld (pv 3) (pv 0) rfl)
      (pss_cons (ps_fld (pv 3) (pv 1) rfl)
      (pss_cons (ps_fld (pv 3) (pv 2) rfl)
      (pss_one (ps_ret (pv 3))))))), ?_⟩
    refine fun D nD x dx nx ndx nex => ?_
    have s1 := sub_same (o := .dT []) nD
    have eD : upd H D (.dT []) D = some (.dT []) := upd_same
    revert s1 eD nx ndx
    generalize upd H D (.dT []) = H1
    intro nx ndx s1 eD
    have s2 : Same H1 (upd (upd H1 dx (.own x)) x (.ins C dx [])) := (sub_same ndx).trans (sub_same (by rw [upd_ne (Ne.symm nex)]; exact nx))
    have ent : Ent [2] [] := ⟨by decide, fun p m => by cases m⟩
    have shp : Shp [2] := ⟨⟨by decide, by decide⟩, fun n m => by obtain rfl : n = 2 := List.mem_singleton.mp m; decide, by decide⟩
    refine ⟨x, TL, D, dx, [2], [], rfl, upd_same, least _, shp, s2 _ _ eD, ent, fun H2 o2 st => ⟨rfl, ?_⟩⟩
    obtain ⟨dx2, sh0, p0, n0, ex, _, _, _⟩ := st
    have s3 : Same H1 H2 := fun b o e => o2 _ _ (ne_of_none e nx) (s2 _ _ e)
    have sH := s1.trans s3
    have nH : H x = none := s1.free nx
    refine ⟨_, rfl, _, rfl, x, C, dx2, _, rfl, ex, R.cl, R.nS, (by rw [stF_eq]; show 3 < 1000; decide), ?_⟩
    have l1 : (putF "_shape" (.ref sh) (stF (.ref sh0) p0 (.ref n0))) = stF (.ref sh) p0 (.ref n0) := by
      rw [stF_eq, stF_eq]
      show (if ("_shape" : Str) = "_shape" then _ else _) = _
      rw [if_pos rfl]
    rw [l1]
    refine ⟨_, rfl, _, rfl, x, C, dx2, _, rfl, upd_same, R.cl, R.nP, (by rw [stF_eq]; show 3 < 1000; decide), ?_⟩
    have l2 : (putF "_plan" pln (stF (.ref sh) p0 (.ref n0))) = stF (.ref sh) pln (.ref n0) := by
      rw [stF_eq, stF_eq]
      show (if ("_shape" : Str) = "_plan" then _ else (("_shape" : Str), V.ref sh) :: (if ("_plan" : Str) = "_plan" then _ else _)) = _
      rw [if_neg sp_, if_pos rfl]
    rw [l2]
    refine ⟨_, rfl, _, rfl, x, C, dx2, _, rfl, upd_same, R.cl, R.nN, (by rw [stF_eq]; show 3 < 1000; decide), ?_⟩
    have l3 : (putF "_numbers" (.ref nm) (stF (.ref sh) pln (.ref n0))) = stF (.ref sh) pln (.ref nm) := by
      rw [stF_eq, stF_eq]
      show (if ("_shape" : Str) = "_numbers" then _ else (("_shape" : Str), V.ref sh) :: (if ("_plan" : Str) = "_numbers" then _ else (("_plan" : Str), pln) :: (if ("_numbers" : Str) = "_numbers" then _ else _))) = _
      rw [if_neg sn_, if_neg pn_, if_pos rfl]
    rw [l3]
    have off : ∀ {o1 o2 o3 : HO}, Same H (upd (upd (upd H2 x o1) x o2) x o3) := fun {o1 o2 o3} b o e => by
      have bx : b ≠ x := fun z => by rw [z, nH] at e; cases e
      rw [upd_ne bx, upd_ne bx, upd_ne bx]
      exact sH _ _ e
    exact ⟨_, rfl, q _ x off nH ⟨dx2, sh, pln, nm, upd_same, sqt_same es off, off _ _ en, tp.same off⟩⟩
/-! ### tables -/
/-- the entry of a table, ones from corner to corner -/
def tabE (num : Tri → Int) (b i j : Int) : Int := if i < j then num (b, i, j) else if i = j then 1 else 0
end
end K18
/-! # stairs compared -/
namespace K18
open PySem PySem.Spec PyProof.Rows L2
theorem canLay_ints : ∀ l : List Int, PyData.canLayAll0 (l.map .int) = true
  | [] => rfl
  | n :: r => by
    show (true && PyData.canLayAll0 (r.map .int)) = true
    rw [canLay_ints r]
    rfl
theorem shaped_ints (ns : List Int) : SeqAt.shaped (.tuple (ns.map .int)) = true := by
  show (PyData.canLayAll0 (ns.map .int) && decide (PyData.depthAll (ns.map .int) + 1 ≤ 64)) = true
  rw [canLay_ints, dep_ints]
  rfl
theorem eqv_tups (ns ms : List Int) : PyData.eqv (.tuple (ns.map .int)) (.tuple (ms.map .int)) = decide (ns = ms) := by
  show PyData.eqvAll (ns.map .int) (ms.map .int) = _
  exact eqv_ints
section
variable {P : Program} {w : World} {K : PySem.W.Frag} {mg : Str → Option Value} {base : Heap} {C CS TL : Addr}
theorem StairO.ty {H : Hp} {a : Addr} {ns ms : List Int} (IC : C8.InsC K C) (h : StairO K H a C ns ms) : TyX K H (.ref a) (.ref C) := let ⟨_, _, _, _, e, _⟩ := h; .base (.ins e IC.cl IC.ha IC.hn IC.htk IC.hm)
abbrev s_isst : Stmt := topS 43
theorem sc_isst : FnScope ["shape", "value"] ["shape", "value"] (defScope s_isst) := ⟨rfl, rfl, rfl, by decide +kernel, rfl, by decide +kernel, by decide +kernel⟩
/-- a stair, perhaps of another shape -/
def spIsSt (K : PySem.W.Frag) (C : Addr) : Sp := fun vs H Q _ => ∃ (sh a : Addr) (ks ns ms : List Int), vs = [.ref sh, .ref a] ∧ SqT K H sh (ks.map V.int) ∧ StairO K H a C ns ms ∧ Q (.bl (decide (ns = ks))) H
theorem ok_isst {f : Addr} {fd : FuncData} {k : Nat} (T : Txt mg) (R : SC K mg C) (IC : C8.InsC K C) (own : kit K (.ref C) (.ref C) true) (d : D K mg "is_stair" s_isst ["shape", "value"] f fd) : FnOk P w K mg base CX0 (k + 1) f fd ["shape", "value"] (spIsSt K C) := by
  refine d.F.ok sc_isst (fun vs H Q E h => ?_) (fun cdv A outer s H vs Q E hr h => ?_)
  · obtain ⟨sh, a, ks, ns, ms, rfl, _⟩ := h
    rfl
  · obtain ⟨sh, a, ks, ns, ms, rfl, es, st, q⟩ := h
    have un : (A.deeper (envOfC "is_stair" (defScope s_isst) s.heap.objs.size f cdv)).units + 64 < cLine := by have := hr.un; omega
    refine ⟨_, (pss_one (ps_ret (pe_and (pe_callB call_isi (by rfl) T.n_isinstance (by decide +kernel) (pa_cons (pv 1) (pa_cons (pe_glob (v := .ref C) rfl R.mC rfl) pa_nil))) (pe_one (pe_cmpR (op_eqD un) (pe_fld (pv 1) rfl) (pv 0) (nomark _)))))), ?_⟩
    have ty := st.ty IC
    obtain ⟨dx, sh2, pln, nm, e1, e2, e3, e4⟩ := st
    refine ⟨_, rfl, _, _, _, _, _, rfl, .own C, ty, own, _, rfl, iteT ?_⟩
    refine ⟨_, rfl, a, C, dx, _, _, rfl, e1, R.cl, R.nS, stF_shape _ _ _, _, rfl, _, _, .tup e2 (dp_ints K H ns), .tup es (dp_ints K H ks), shaped_ints _, shaped_ints _, ?_⟩
    rw [eqv_tups]
    exact q
abbrev s_seq : Stmt := inClass (topS 41) 17
theorem sc_seq : FnScope ["self", "other"] ["self", "other"] (defScope s_seq) := ⟨rfl, rfl, rfl, by decide +kernel, rfl, by decide +kernel, by decide +kernel⟩
def spSEq (K : PySem.W.Frag) (C : Addr) : Sp := fun vs H Q _ => ∃ (a : Addr) (x : V) (ns ms : List Int), vs = [.ref a, x] ∧ StairO K H a C ns ms ∧
  ((∃ (b : Addr) (ks ls : List Int), x = .ref b ∧ StairO K H b C ks ls ∧ Q (.bl (decide (ns = ks) && decide (ms = ls))) H) ∨ ∃ t, TyX K H x t ∧ kit K t (.ref C) false ∧ Q (.bl false) H)
theorem ok_seq {f : Addr} {fd : FuncData} {k : Nat} (T : Txt mg) (R : SC K mg C) (IC : C8.InsC K C) (own : kit K (.ref C) (.ref C) true) (d : M K "__eq__" "Stair.__eq__" s_seq ["self", "other"] f fd) : FnOk P w K mg base CX0 (k + 1) f fd ["self", "other"] (spSEq K C) := by
  refine d.F.ok sc_seq (fun vs H Q E h => ?_) (fun cdv A outer s H vs Q E hr h => ?_)
  · obtain ⟨a, x, ns, ms, rfl, _⟩ := h
    rfl
  · obtain ⟨a, x, ns, ms, rfl, st, q⟩ := h
    have un : (A.deeper (envOfC "Stair.__eq__" (defScope s_seq) s.heap.objs.size f cdv)).units + 64 < cLine := by have := hr.un; omega
    refine ⟨_, (pss_one (ps_ret (pe_and (pe_callB call_isi (by rfl) T.n_isinstance (by decide +kernel) (pa_cons (pv 1) (pa_cons (pe_glob (v := .ref C) rfl R.mC rfl) pa_nil))) (pe_and (pe_cmpR (op_eqD un) (pe_fld (pv 0) rfl) (pe_fld (pv 1) rfl) (nomark _)) (pe_one (pe_cmpR (op_eqD un) (pe_fld (pv 0) rfl) (pe_fld (pv 1) rfl) (nomark _))))))), ?_⟩
    obtain ⟨dx, sh, pln, nm, e1, e2, e3, e4⟩ := st
    rcases q with ⟨b, ks, ls, rfl, sb, q⟩ | ⟨t, ty, no, q⟩
    · have ty := sb.ty IC
      obtain ⟨dx2, sh2, pln2, nm2, b1, b2, b3, b4⟩ := sb
      refine ⟨_, rfl, _, _, _, _, _, rfl, .own C, ty, own, _, rfl, iteT ?_⟩
      refine ⟨_, rfl, a, C, dx, _, _, rfl, e1, R.cl, R.nS, stF_shape _ _ _, _, rfl, b, C, dx2, _, _, rfl, b1, R.cl, R.nS, stF_shape _ _ _, _, _, .tup e2 (dp_ints K H ns), .tup b2 (dp_ints K H ks), shaped_ints _, shaped_ints _, ?_⟩
      rw [eqv_tups]
      by_cases z : ns = ks
      · rw [decide_eq_true z] at q ⊢
        rw [Bool.true_and] at q
        refine ⟨_, rfl, iteT ⟨_, rfl, a, C, dx, _, _, rfl, e1, R.cl, R.nN, stF_numbers _ _ _, _, rfl, b, C, dx2, _, _, rfl, b1, R.cl, R.nN, stF_numbers _ _ _, _, _, .tup (sqt_new e3) (dp_ints K H ms), .tup (sqt_new b3) (dp_ints K H ls), shaped_ints _, shaped_ints _, ?_⟩⟩
        rw [eqv_tups]
        exact q
      · rw [decide_eq_false z] at q ⊢
        rw [Bool.false_and] at q
        exact ⟨_, rfl, iteF q⟩
    · exact ⟨_, rfl, _, _, _, _, _, rfl, .own C, ty, no, _, rfl, iteF q⟩
end
end K18
/-! # products of numbers -/
namespace K18
open PySem PySem.Spec PyProof.Rows L2 RZ
theorem walk_zipT {K : PySem.W.Frag} {a b : Addr} {xs ys : List V} (e : xs.length = ys.length) : Walk (ItzT K a b) xs.length (fun H => SqT K H a xs ∧ SqT K H b ys) (YPair (fun i => xs[i]?) (fun i => ys[i]?)) := by
  refine ⟨fun i H l q => ⟨xs, ys, xs[i], ys[i], q.1, q.2, List.getElem?_eq_getElem l, List.getElem?_eq_getElem (by omega)⟩, fun H q => ⟨xs, ys, q.1, q.2, .inl (Nat.le_refl _)⟩, fun i H v H' _ q y => ?_⟩
  obtain ⟨T, x, z, h1, h2, h3, h4, h5⟩ := y
  exact ⟨T, x, z, h1, h2, h3, h4 xs q.1, h5 ys q.2⟩
theorem ixN_at {n j : Nat} (h : j < n) : ixN n (j : Int) = some j := by
  unfold ixN
  rw [if_pos (by omega), if_pos (by omega), Int.toNat_natCast]
/-- one use of a number -/
def stepU (ys : List Int) (m : Int) (f : List Int) (p : Int × Int) : List Int := f.set p.1.toNat (f.getD p.1.toNat 0 + m * ys.getD p.2.toNat 0)
def stepP (ys : List Int) (f : List Int) (q : Int × List (Int × Int)) : List Int := if q.1 = 0 then f else q.2.foldl (stepU ys q.1) f
/-- the numbers of a product -/
def prodL (xs ys : List Int) (us : List (List (Int × Int))) : List Int := (xs.zip us).foldl (stepP ys) (List.zipWith (· + ·) xs ys)
theorem stepU_len (ys : List Int) (m : Int) : ∀ (ps : List (Int × Int)) (f : List Int), (ps.foldl (stepU ys m) f).length = f.length
  | [], f => rfl
  | p :: r, f => by
    rw [List.foldl_cons, stepU_len ys m r]
    unfold stepU
    rw [List.length_set]
theorem stepP_len (ys : List Int) : ∀ (qs : List (Int × List (Int × Int))) (f : List Int), (qs.foldl (stepP ys) f).length = f.length
  | [], f => rfl
  | q :: r, f => by
    rw [List.foldl_cons, stepP_len ys r]
    unfold stepP
    split
    · rfl
    · exact stepU_len ys q.1 q.2 f
section
variable {P : Program} {w : World} {K : PySem.W.Frag} {mg : Str → Option Value} {base : Heap} {C CS TL : Addr}
abbrev s_rest : Stmt := topS 28
theorem sc_rest : FnScope ["numbers", "modulus", "number"] ["numbers", "modulus"] (defScope s_rest) := ⟨rfl, rfl, rfl, by decide +kernel, rfl, by decide +kernel, by decide +kernel⟩
/-- without a modulus -/
def spRest : Sp := fun vs H Q _ => ∃ (l : Addr) (xs : List V), vs = [.ref l, .int 0] ∧ H l = some (.lst xs) ∧ ∀ p, H p = none → Q (.ref p) (upd H p (.tup xs))
theorem ok_rest {f : Addr} {fd : FuncData} {k : Nat} (T : Txt mg) (d : D K mg "rest" s_rest ["numbers", "modulus"] f fd) : FnOk P w K mg base CX0 (k + 1) f fd ["numbers", "modulus"] spRest := by
  refine d.F.ok sc_rest (fun vs H Q E h => ?_) (fun cdv A outer s H vs Q E hr h => ?_)
  · obtain ⟨l, xs, rfl, _⟩ := h
    rfl
  · obtain ⟨l, xs, rfl, hl, q⟩ := h
    refine ⟨_, pss_cons (ps_if (pt_cmpR op_eq (pv 1) pe_int (nomark _)) (pss_one (ps_ret (pe_tupleOf (by rfl) T.n_tuple (pv 0)))) pss_nil) dead, ?_⟩
    exact ⟨_, rfl, rfl, _, rfl, ite2 (fun _ => ⟨_, rfl, .inl ⟨l, xs, rfl, .inl (.inl hl), fun p np => q p np⟩⟩) (fun z => absurd (decide_eq_true rfl) z)⟩
abbrev s_times : Stmt := topS 30
theorem sc_times : FnScope ["plan", "one", "other", "modulus", "found", "number", "uses", "at", "high", "a", "b"] ["plan", "one", "other", "modulus"] (defScope s_times) := ⟨rfl, rfl, rfl, by decide +kernel, rfl, by decide +kernel, by decide +kernel⟩
/-- the pairs are within the numbers -/
def InR (n : Nat) (us : List (List (Int × Int))) : Prop := ∀ u ∈ us, ∀ p ∈ u, (0 ≤ p.1 ∧ p.1 < n) ∧ 0 ≤ p.2 ∧ p.2 < n
def usD (us : List (List (Int × Int))) : PyData := .tuple (us.map fun u => .tuple (u.map prD))
def spTimes (K : PySem.W.Frag) : Sp := fun vs H Q _ => ∃ (pln : V) (a b : Addr) (xs ys : List Int) (us : List (List (Int × Int))), vs = [pln, .ref a, .ref b, .int 0] ∧ Tv K H pln (usD us) ∧ H a = some (.tup (xs.map V.int)) ∧ H b = some (.tup (ys.map V.int)) ∧
  xs.length = us.length ∧ ys.length = xs.length ∧ xs.length ≤ 100 ∧ InR xs.length us ∧ (∀ x ∈ xs, x.natAbs < 2 ^ 100000) ∧ (∀ y ∈ ys, y.natAbs < 2 ^ 100000) ∧
  ∀ H' p, Same H H' → H p = none → H' p = some (.tup ((prodL xs ys us).map V.int)) → Q (.ref p) H'
/-- the rule for a def of four parameters with a default -/
def BodyT (P : Program) (w : World) (K : PySem.W.Frag) (mg : Str → Option Value) (base : Heap) (f : Addr) (fd : FuncData) : Prop := ∀ (sp : Sp) (j : Nat), (∀ vs H Q E, sp vs H Q E → vs.length = 4) →
  (∀ (cdv : Value) (A : Around) (outer : List Env) (s : Shared) (H : Hp) (vs : List V) (Q : VK) (E : XK), Room j (A.deeper (envOfC "times" (defScope s_times) s.heap.objs.size f cdv)) → sp vs H Q E →
    ∃ t, PSs (cxOf CX0 P w K mg base ["plan", "one", "other", "modulus", "found", "number", "uses", "at", "high", "a", "b"] "times" (defScope s_times) f cdv A outer s H E).nox (defBody s_times) t ∧ t { nx := fun _ H' => Q .non H', rt := Q } (L2.start ["plan", "one", "other", "modulus", "found", "number", "uses", "at", "high", "a", "b"] vs) H) →
  FnOk P w K mg base CX0 (j + 1) f fd ["plan", "one", "other", "modulus"] sp
theorem ok_times {f f1 : Addr} {fd fd1 : FuncData} {k : Nat} (T : Txt mg) (nz : mg "zip" = none) (body : BodyT P w K mg base f fd) (d1 : D K mg "rest" s_rest ["numbers", "modulus"] f1 fd1) : FnOk P w K mg base CX0 (k + 2) f fd ["plan", "one", "other", "modulus"] (spTimes K) := by
  have G1 : FnOk P w K mg base CX0 (k + 1) f1 fd1 ["numbers", "modulus"] spRest := ok_rest T d1
  refine body (spTimes K) (k + 1) (fun vs H Q E h => ?_) (fun cdv A outer s H vs Q E hr h => ?_)
  · obtain ⟨pln, a, b, xs, ys, us, rfl, _⟩ := h
    rfl
  · obtain ⟨pln, a, b, xs, ys, us, rfl, tp, ea, eb, lu, ly, l100, inr, bx, by_, q⟩ := h
    refine ⟨_, (pss_cons (ps_setLc (i := 4) (own := [("a", 9), ("b", 10)]) (g := gTup K 2 (gCons (gName 9) (gCons (gName 10) gNil))) (tt := tYes) rfl sc_times.nd rfl rfl rfl (pi_zipA (by rfl) nz (pa_cons (pv 1) (pa_cons (pv 2) pa_nil))) (blkOk_by (own := [("a", 9), ("b", 10)]) (N := ["plan", "one", "other", "modulus", "found", "number", "uses", "at", "high", "a", "b"]) (sc := defScope s_times) (by decide +kernel))
            (fun _ _ _ _ _ => (pg_tup rfl (pgs_cons (pg_name (i := 9) sc_times.nd rfl (Or.inl rfl)) (pgs_cons (pg_name (i := 10) sc_times.nd rfl (Or.inl rfl)) pgs_nil)))) (fun _ _ _ _ _ => pts_nil) (fun _ _ _ _ _ => (pe_op op_add (pv 9) (pv 10))))
      (pss_cons (ps_for PassesOwn.never rfl (pi_zipA (by rfl) nz (pa_cons (pv 1) (pa_cons (pv 0) pa_nil))) (pg_tup rfl (pgs_cons (pg_name (i := 5) sc_times.nd rfl (.inl rfl)) (pgs_cons (pg_name (i := 6) sc_times.nd rfl (.inl rfl)) pgs_nil)))
        (pss_one (ps_if (pt_truth (pv 5) (fun _ => rfl)) (pss_one (ps_for PassesOwn.never rfl (pi_tup (pv 6)) (pg_tup rfl (pgs_cons (pg_name (i := 7) sc_times.nd rfl (.inl rfl)) (pgs_cons (pg_name (i := 8) sc_times.nd rfl (.inl rfl)) pgs_nil)))
        (pss_one (ps_asg (pe_op op_add (pe_ix ix_list (pv 4) (pv 7) (fun _ _ => rfl)) (pe_op op_mulW (pv 5) (pe_ix ix_tup (pv 2) (pv 8) (fun _ _ => rfl)))) (pg_sub (pv 4) (pv 7) set_list))))) pss_nil)))
      (pss_one (ps_ret (pe_call G1 hr (by rfl) d1.g d1.F.kp d1.b .nil pass0 (pa_cons (pv 4) (pa_cons (pv 3) pa_nil))))))), ?_⟩
    obtain ⟨o, ws, rfl, eo, tl⟩ : ∃ o ws, pln = .ref o ∧ SqT K H o ws ∧ TvL K H ws (us.map fun u => .tuple (u.map prD)) := by
      cases tp with
      | tup e l => exact ⟨_, _, rfl, e, l⟩
    have lw : ws.length = us.length := by rw [tl.len, List.length_map]
    refine ⟨_, rfl, _, rfl, a, b, _, _, rfl, .inr ⟨sqt_new ea, sqt_new eb, fun L nL => ?_⟩⟩
    have lxy : (xs.map V.int).length = (ys.map V.int).length := by rw [List.length_map, List.length_map, ly]
    refine lc_it (walk_zipT (K := K) (a := a) (b := b) lxy) (fun i Z => Same H Z ∧ Z L = some (.lst (((List.zipWith (· + ·) xs ys).take i).map V.int))) ⟨sub_same nL, upd_same⟩ (fun i Z _ h => ⟨sqt_same (sqt_new ea) h.1, sqt_same (sqt_new eb) h.1⟩) ?_ ?_
    · rintro i v Z Z' hi ⟨sm, hl⟩ ⟨Tp, x0, y0, rfl, nT, rfl, ex, ey⟩
      obtain ⟨x, ex2, rfl⟩ := int_at ex
      obtain ⟨y, ey2, rfl⟩ := int_at ey
      have s2 := sub_same (o := .tup [V.int x, V.int y]) nT
      have hl2 := s2 _ _ hl
      have sm2 := sm.trans s2
      have hT : upd Z Tp (.tup [V.int x, V.int y]) Tp = some (.tup [V.int x, V.int y]) := upd_same
      revert hl2 sm2 hT
      generalize upd Z Tp (.tup [V.int x, V.int y]) = Z2
      intro hl2 sm2 hT
      refine ⟨Tp, _, rfl, .inl (.inl hT), rfl, _, _, rfl, _, _, rfl, rfl, rfl, yesT ?_⟩
      refine ⟨_, rfl, _, rfl, _, _, rfl, rfl, _, hl2, ?_, fun k ob e => ?_, ?_⟩
      · rw [List.length_map, List.length_take, sizeLine_eq]
        rw [List.length_map] at hi
        omega
      · rw [upd_ne (fun z => by rw [z, nL] at e; cases e)]
        exact sm2 _ _ e
      · have ez : (List.zipWith (· + ·) xs ys)[i]? = some (x + y) := by rw [List.getElem?_zipWith, ex2, ey2]
        rw [upd_same, List.take_succ, ez, List.map_append]
        rfl
    · rintro Z ⟨sm, hl⟩
      have lz : (List.zipWith (· + ·) xs ys).length = xs.length := by rw [List.length_zipWith, ly, Nat.min_self]
      rw [List.length_map, ← lz, List.take_length] at hl
      have lxw : (xs.map V.int).length = ws.length := by rw [List.length_map, lw, lu]
      refine ⟨_, rfl, _, rfl, a, o, _, _, rfl, .inr ⟨sqt_same (sqt_new ea) sm, sqt_same eo sm, ?_⟩⟩
      refine for_it (walk_zipT (K := K) (a := a) (b := o) lxw) (fun i σ Y => (∃ y5 y6 y7 y8, σ = [some (.ref o), some (.ref a), some (.ref b), some (.int 0), some (.ref L), y5, y6, y7, y8, none, none]) ∧ Same H Y ∧ Y L = some (.lst ((((xs.zip us).take i).foldl (stepP ys) (List.zipWith (· + ·) xs ys)).map V.int)))
        ⟨⟨_, _, _, _, rfl⟩, sm, hl⟩ (fun i σ Y _ h => ⟨sqt_same (sqt_new ea) h.2.1, sqt_same eo h.2.1⟩) ?_ ?_
      · rintro i v σ Y Y' hi ⟨⟨y5, y6, y7, y8, rfl⟩, sy, hy⟩ ⟨Tp, x0, y0, rfl, nT, rfl, ex, ey⟩
        obtain ⟨x, ex2, rfl⟩ := int_at ex
        obtain ⟨d, ed, td⟩ := tl.get ey
        rw [List.getElem?_map] at ed
        obtain ⟨u, eu, rfl⟩ := Option.map_eq_some_iff.mp ed
        have eq : (xs.zip us)[i]? = some (x, u) := by rw [List.getElem?_zip_eq_some]; exact ⟨ex2, eu⟩
        have s2 := sub_same (o := .tup [V.int x, y0]) nT
        have hy2 := s2 _ _ hy
        have sy2 := sy.trans s2
        have hT : upd Y Tp (.tup [V.int x, y0]) Tp = some (.tup [V.int x, y0]) := upd_same
        revert hy2 sy2 hT
        generalize upd Y Tp (.tup [V.int x, y0]) = Y2
        intro hy2 sy2 hT
        refine ⟨Tp, _, rfl, .inl (.inl hT), rfl, _, _, rfl, _, _, rfl, rfl, _, rfl, _, rfl, ?_⟩
        have next : ((xs.zip us).take (i + 1)).foldl (stepP ys) (List.zipWith (· + ·) xs ys) = stepP ys (((xs.zip us).take i).foldl (stepP ys) (List.zipWith (· + ·) xs ys)) (x, u) := by
          rw [List.take_succ, eq, List.foldl_append]
          rfl
        have lF : (((xs.zip us).take i).foldl (stepP ys) (List.zipWith (· + ·) xs ys)).length = xs.length := by rw [stepP_len, lz]
        rw [next]
        revert hy2 lF
        generalize ((xs.zip us).take i).foldl (stepP ys) (List.zipWith (· + ·) xs ys) = F
        intro hy2 lF
        have bx1 := bx x (List.mem_of_getElem? ex2)
        refine ite2 (fun e => ?_) (fun e => ?_)
        · have hx : x ≠ 0 := fun z => by rw [z] at e; exact absurd e (by decide)
          obtain ⟨ou, zs, rfl, eou, tlu⟩ : ∃ ou zs, y0 = .ref ou ∧ SqT K H ou zs ∧ TvL K H zs (u.map prD) := by
            cases td with
            | tup e l => exact ⟨_, _, rfl, e, l⟩
          have lzu : zs.length = u.length := by rw [tlu.len, List.length_map]
          have hF : stepP ys F (x, u) = u.foldl (stepU ys x) F := if_neg hx
          rw [hF]
          refine ⟨_, rfl, ou, rfl, ⟨zs, sqt_same eou sy2⟩, ?_⟩
          refine for_it (walk_tup (K := K) (a := ou) (xs := zs)) (fun j σ Z => (∃ y7 y8, σ = [some (.ref o), some (.ref a), some (.ref b), some (.int 0), some (.ref L), some (.int x), some (.ref ou), y7, y8, none, none]) ∧ Same H Z ∧ Z L = some (.lst (((u.take j).foldl (stepU ys x) F).map V.int)))
            ⟨⟨_, _, rfl⟩, sy2, hy2⟩ (fun j σ Z _ h => sqt_same eou h.2.1) ?_ ?_
          · rintro j v σ Z Z' hj ⟨⟨y7, y8, rfl⟩, sz, hz⟩ ⟨rfl, ev⟩
            obtain ⟨d, ed2, tdv⟩ := tlu.get ev
            rw [List.getElem?_map] at ed2
            obtain ⟨⟨p1, p2⟩, ep, rfl⟩ := Option.map_eq_some_iff.mp ed2
            obtain ⟨pa, rfl, spa⟩ : ∃ pa, v = .ref pa ∧ SqT K H pa [.int p1, .int p2] := by
              unfold prD at tdv
              cases tdv with
              | tup e l =>
                cases l with
                | cons h1 l =>
                  cases l with
                  | cons h2 l =>
                    cases l
                    cases h1
                    cases h2
                    exact ⟨_, rfl, e⟩
            obtain ⟨⟨a0, a1⟩, b0, b1⟩ := inr u (List.mem_of_getElem? eu) _ (List.mem_of_getElem? ep)
            dsimp only at a0 a1 b0 b1
            obtain ⟨n1, rfl⟩ := Int.eq_ofNat_of_zero_le a0
            obtain ⟨n2, rfl⟩ := Int.eq_ofNat_of_zero_le b0
            have nx2 : (u.take (j + 1)).foldl (stepU ys x) F = stepU ys x ((u.take j).foldl (stepU ys x) F) ((n1 : Int), (n2 : Int)) := by
              rw [List.take_succ, ep, List.foldl_append]
              rfl
            have lG : ((u.take j).foldl (stepU ys x) F).length = xs.length := by rw [stepU_len, lF]
            rw [nx2]
            revert hz lG
            generalize (u.take j).foldl (stepU ys x) F = G
            intro hz lG
            have i1 : n1 < G.length := by omega
            have i2 : n2 < ys.length := by omega
            have g1 : (G.map V.int)[n1]? = some (V.int (G.getD n1 0)) := by
              rw [List.getElem?_map, List.getD_eq_getElem?_getD, List.getElem?_eq_getElem i1]
              rfl
            have g2 : (ys.map V.int)[n2]? = some (V.int (ys.getD n2 0)) := by
              rw [List.getElem?_map, List.getD_eq_getElem?_getD, List.getElem?_eq_getElem i2]
              rfl
            have by1 : (ys.getD n2 0).natAbs < 2 ^ 100000 := by
              rw [List.getD_eq_getElem?_getD, List.getElem?_eq_getElem i2]
              exact by_ _ (List.getElem_mem i2)
            have hst : (G.set n1 (G.getD n1 0 + x * ys.getD n2 0)).map V.int = (G.map V.int).set n1 (V.int (G.getD n1 0 + x * ys.getD n2 0)) := by rw [List.map_set]
            refine ⟨pa, _, rfl, sqt_same spa sz, rfl, _, _, rfl, _, _, rfl, rfl, ?_⟩
            refine ⟨_, rfl, _, rfl, L, _, (n1 : Int), _, rfl, rfl, .inl (.inl hz), atI_nat g1, ?_⟩
            refine ⟨_, rfl, _, rfl, _, rfl, b, _, (n2 : Int), _, rfl, rfl, sqt_same (sqt_new eb) sz, atI_nat g2, ?_⟩
            refine ⟨_, _, rfl, rfl, wide_mul bx1 by1 (by decide) (by decide) (by decide), _, _, rfl, rfl, ?_⟩
            refine ⟨_, rfl, _, rfl, L, _, (n1 : Int), n1, rfl, rfl, hz, ixN_at (by rw [List.length_map]; exact i1), ⟨_, _, rfl⟩, fun k ob e => ?_, ?_⟩
            · rw [upd_ne (fun z => by rw [z, nL] at e; cases e)]
              exact sz _ _ e
            · rw [upd_same, ← hst]
              rfl
          · rintro σ Z ⟨⟨y7, y8, rfl⟩, sz, hz⟩
            rw [lzu, List.take_length] at hz
            exact ⟨⟨_, _, _, _, rfl⟩, sz, hz⟩
        · have hx : x = 0 := Decidable.byContradiction fun z => e (bne_iff_ne.mpr z)
          have hF : stepP ys F (x, u) = F := if_pos hx
          rw [hF]
          exact ⟨⟨_, _, _, _, rfl⟩, sy2, hy2⟩
      · rintro σ Y ⟨⟨y5, y6, y7, y8, rfl⟩, sy, hy⟩
        have lt : (xs.map V.int).length = (xs.zip us).length := by rw [List.length_map, List.length_zip, lu, Nat.min_self]
        rw [lt, List.take_length] at hy
        exact ⟨_, rfl, _, rfl, L, _, rfl, hy, fun p np => q _ p (sy.trans (sub_same np)) (sy.free np) upd_same⟩
end
end K18
/-! # stairs multiplied -/
namespace K18
open PySem PySem.Spec PyProof.Rows L2
/-- the pairs of a plan -/
def usL (ns : List Int) : List (List (Int × Int)) := (pl ns).map fun t => useP ns t (useN ns t)
theorem planD_us (ns : List Int) : planD ns = usD (usL ns) := by
  unfold planD usD usL
  rw [List.map_map]
  rfl
theorem usL_len (ns : List Int) : (usL ns).length = (pl ns).length := List.length_map _
theorem inR_plan {ns : List Int} (S : Shp ns) : InR (pl ns).length (usL ns) := by
  intro u hu p hp
  obtain ⟨t, ht, rfl⟩ := List.mem_map.mp hu
  unfold useP at hp
  obtain ⟨c, hc, rfl⟩ := List.mem_map.mp hp
  rw [List.mem_range] at hc
  obtain ⟨_, _, h3⟩ := tables3 ns (shp_mem S)
  obtain ⟨_, ⟨a0, a1, a2⟩, h6, hall⟩ := h3 t ht
  unfold useN at hc
  have c6 : c < 6 := by omega
  have hx := List.all_eq_true.mp hall c (List.mem_range.mpr c6)
  have dc : decide ((c : Int) < ns.getD t.1.toNat 0 - (t.2.2 + 1)) = true := decide_eq_true (by omega)
  rw [dc, Bool.not_true, Bool.false_or, Bool.and_eq_true, decide_eq_true_eq, decide_eq_true_eq] at hx
  exact ⟨⟨Int.natCast_nonneg _, Int.ofNat_lt.mpr (List.idxOf_lt_length_of_mem hx.1)⟩, Int.natCast_nonneg _, Int.ofNat_lt.mpr (List.idxOf_lt_length_of_mem hx.2)⟩
theorem stF_plan (s p n : V) : (stF s p n).lookup ("_plan" : Str) = some p := by
  rw [stF_eq]
  rfl
section
variable {P : Program} {w : World} {K : PySem.W.Frag} {mg : Str → Option Value} {base : Heap} {C CS TL : Addr}
abbrev s_ckst : Stmt := topS 44
theorem sc_ckst : FnScope ["shape", "value"] ["shape", "value"] (defScope s_ckst) := ⟨rfl, rfl, rfl, by decide +kernel, rfl, by decide +kernel, by decide +kernel⟩
/-- a stair of the shape -/
def spCkSt (K : PySem.W.Frag) (C : Addr) : Sp := fun vs H Q _ => ∃ (sh a : Addr) (ns ms : List Int), vs = [.ref sh, .ref a] ∧ SqT K H sh (ns.map V.int) ∧ StairO K H a C ns ms ∧ Q .non H
theorem ok_ckst {f f1 : Addr} {fd fd1 : FuncData} {k : Nat} (d : D K mg "check_stair" s_ckst ["shape", "value"] f fd) (d1 : D K mg "is_stair" s_isst ["shape", "value"] f1 fd1) (G1 : FnOk P w K mg base CX0 (k + 1) f1 fd1 ["shape", "value"] (spIsSt K C)) :
    FnOk P w K mg base CX0 (k + 2) f fd ["shape", "value"] (spCkSt K C) := by
  refine d.F.ok sc_ckst (fun vs H Q E h => ?_) (fun cdv A outer s H vs Q E hr h => ?_)
  · obtain ⟨sh, a, ns, ms, rfl, _⟩ := h
    rfl
  · obtain ⟨sh, a, ns, ms, rfl, es, st, q⟩ := h
    refine ⟨_, pss_one (ps_if (pt_not (pt_val (pe_call G1 hr (by rfl) d1.g d1.F.kp d1.b .nil pass0 (pa_cons (pv 0) (pa_cons (pv 1) pa_nil))))) dead pss_nil), ?_⟩
    exact ⟨_, rfl, _, rfl, sh, a, ns, ns, ms, rfl, es, st, _, rfl, ite2 (fun z => by rw [decide_eq_true rfl] at z; exact absurd z Bool.false_ne_true) (fun _ => q)⟩
end
end K18
/-! # dict(zip(tuple, tuple)), the keys tuples -/
namespace K18W
open PySem PySem.Spec PyProof.Rows
section
variable {prog : Program} {w : World} {A : Around} {E : Value → Shared → Prop} {s : Shared} {z TI TO T i1 i2 l1 l2 : Addr} {f : Bool} {oT : Obj} {k : Nat} {xs ys : Array Value} {x y : Value}
/-- the state of a zip over two tuples, its last tuple in use -/
structure ZT (h : Heap) (z TI TO T i1 i2 l1 l2 : Addr) (f : Bool) (oT : Obj) (k : Nat) (xs ys : Array Value) : Prop where
  zh : IsZipHeld h z TI TO T f
  tT : h.get? T = some oT
  tI : IsPair h TI (.ref i1) (.ref i2)
  u1 : h.IsTupleIter i1 l1 k
  u2 : h.IsTupleIter i2 l2 k
  t1 : h.IsTuple l1 xs
  t2 : h.IsTuple l2 ys
theorem zt_item {Q : Value → Shared → Prop} (D : ZipApart z TI TO i1 i2 l1 l2) (S : ZT s.heap z TI TO T i1 i2 l1 l2 f oT k xs ys) (ex : xs[k]? = some x) (ey : ys[k]? = some y)
    (q : ∀ h', IsZipHeld h' z TI TO T true → h'.IsTupleIter i1 l1 (k + 1) → h'.IsTupleIter i2 l2 (k + 1) → IsPair h' s.heap.objs.size x y →
      (∀ c o, c ≠ z → c ≠ i1 → c ≠ i2 → s.heap.get? c = some o → h'.get? c = some o) → Q (.ref s.heap.objs.size) { s with heap := h' }) :
    wpAny (model prog w) A (Builtin.«zip.__next__» ⟨[.ref z], []⟩) (fun fin s' => ∃ v, fin = .done (.ret v) ∧ Q v s') E s := by
  show wpAny (model prog w) A (field (.ref z) 2 >>= _) _ E s
  refine wpAny_bind (wpAny_field S.zh rfl (x := .bool false) rfl ?_)
  show wpAny (model prog w) A (field (.ref z) 3 >>= _) _ E s
  refine wpAny_bind (wpAny_field S.zh rfl (x := .ref TI) rfl ?_)
  refine wpAny_bind (wpAny_seqItems S.tI rfl ?_)
  show wpAny (model prog w) A (Builtin.SmallTypes.ownedTupleIsFree (.ref z) >>= _) _ E s
  refine wpAny_bind (wpAny_tupleHeld_zip S.zh S.tT fun g1 za sa => ?_)
  simp only [if_false, Bool.false_eq_true]
  refine wpAny_bind ?_
  rw [← Array.forIn_toList]
  simp only [List.forIn_nil, List.forIn_cons]
  refine wpAny_bind (wpAny_bind (wpAny_holding (?_)))
  show wpAny (model prog w) _ (Builtin.SmallTypes.nextOf (.ref i1) >>= _) _ _ _
  refine wpAny_bind (wpAny_nextOf_tuple_item (s := { s with heap := g1 }) (S.u1.extBut sa.extBut D.i1z) (S.t1.extBut sa.extBut D.l1z) ex fun g2 ua sb => wpAny_pure ?_)
  refine wpAny_pure (?_)
  refine wpAny_bind (wpAny_bind (wpAny_holding (?_)))
  show wpAny (model prog w) _ (Builtin.SmallTypes.nextOf (.ref i2) >>= _) _ _ _
  refine wpAny_bind (wpAny_nextOf_tuple_item (s := { s with heap := g2 }) ((S.u2.extBut sa.extBut D.i2z).extBut sb.extBut D.i12.symm) ((S.t2.extBut sa.extBut D.l2z).extBut sb.extBut D.l2i1) ey fun g3 ub sc => wpAny_pure ?_)
  refine wpAny_pure (wpAny_pure (?_))
  show wpAny (model prog w) _ (newTuple [x, y] >>= _) _ _ _
  refine wpAny_bind (wpAny_newTuple (?_))
  have sz : g3.objs.size = s.heap.objs.size := by rw [sc.1, sb.1, sa.1]
  have z3 : IsZipHeld g3 z TI TO T true := sc.extBut _ _ D.i2z.symm (sb.extBut _ _ D.i1z.symm za)
  have kk : ∀ c o, c ≠ z → c ≠ i1 → c ≠ i2 → s.heap.get? c = some o → g3.get? c = some o := fun c o a b d e => sc.extBut _ _ d (sb.extBut _ _ b (sa.extBut _ _ a e))
  have v1 : g3.IsTupleIter i1 l1 (k + 1) := ua.extBut sc.extBut D.i12
  refine wpAny_pure ⟨_, rfl, (?_)⟩
  show Q (.ref g3.objs.size) _
  have pr : IsPair (g3.push { cls := .type "tuple", data := .seq #[x, y] }) g3.objs.size x y := Heap.get?_push_size _ rfl
  rw [sz] at pr ⊢
  exact q _ (Heap.get?_push_of_some _ z3) (v1.at fun o e => Heap.get?_push_of_some _ e) (ub.at fun o e => Heap.get?_push_of_some _ e) pr fun c o a b d e => Heap.get?_push_of_some _ (kk c o a b d e)
theorem zt_end {Q : Fin → Shared → Prop} (hh : A.handled = none) (D : ZipApart z TI TO i1 i2 l1 l2) (S : ZT s.heap z TI TO T i1 i2 l1 l2 f oT k xs ys) (hx : xs[k]? = none)
    (q : ∀ h' e, (∀ c o, c ≠ z → c ≠ i1 → c ≠ i2 → s.heap.get? c = some o → h'.get? c = some o) → (∃ o, h'.get? e = some o ∧ o.cls = .type "StopIteration") → E (.ref e) { s with heap := h' }) :
    wpAny (model prog w) A (Builtin.«zip.__next__» ⟨[.ref z], []⟩) Q E s := by
  show wpAny (model prog w) A (field (.ref z) 2 >>= _) _ E s
  refine wpAny_bind (wpAny_field S.zh rfl (x := .bool false) rfl ?_)
  show wpAny (model prog w) A (field (.ref z) 3 >>= _) _ E s
  refine wpAny_bind (wpAny_field S.zh rfl (x := .ref TI) rfl ?_)
  refine wpAny_bind (wpAny_seqItems S.tI rfl ?_)
  show wpAny (model prog w) A (Builtin.SmallTypes.ownedTupleIsFree (.ref z) >>= _) _ E s
  refine wpAny_bind (wpAny_tupleHeld_zip S.zh S.tT fun g1 za sa => ?_)
  simp only [if_false, Bool.false_eq_true]
  refine wpAny_bind ?_
  rw [← Array.forIn_toList]
  simp only [List.forIn_nil, List.forIn_cons]
  refine wpAny_bind (wpAny_bind (wpAny_holding (?_)))
  show wpAny (model prog w) _ (Builtin.SmallTypes.nextOf (.ref i1) >>= _) _ _ _
  refine wpAny_bind (wpAny_nextOf_tuple_end (s := { s with heap := g1 }) hh (S.u1.extBut sa.extBut D.i1z) (S.t1.extBut sa.extBut D.l1z) hx fun g2 e sb he => ?_)
  exact q g2 e (fun c o a b _ e => sb _ _ b (sa.extBut _ _ a e)) he
theorem next_zt_item {Q : Option Value → Shared → Prop} (D : ZipApart z TI TO i1 i2 l1 l2) (S : ZT s.heap z TI TO T i1 i2 l1 l2 f oT k xs ys) (ex : xs[k]? = some x) (ey : ys[k]? = some y)
    (q : ∀ h', IsZipHeld h' z TI TO T true → h'.IsTupleIter i1 l1 (k + 1) → h'.IsTupleIter i2 l2 (k + 1) → IsPair h' s.heap.objs.size x y →
      (∀ c o, c ≠ z → c ≠ i1 → c ≠ i2 → s.heap.get? c = some o → h'.get? c = some o) → Q (some (.ref s.heap.objs.size)) { s with heap := h' }) : wpAny (model prog w) A (pyNext (.ref z)) Q E s := by
  have ty : s.TypeIs (.ref z) "zip" := ⟨_, S.zh, rfl⟩
  unfold pyNext
  exact wpAny_bind (wpAny_attempt (wpAny_callSpecial?_slot (name := Str.ofString "__next__") ty F.slot_zip_next (wpAny_call_entry F.slot_zip_next ty F.entry_zip_next
    (zt_item D S ex ey fun h' a b c d e => wpAny_pure (q h' a b c d e)) (F.args_zip_next_1 _))))
theorem next_zt_end {Q : Option Value → Shared → Prop} (hh : A.handled = none) (D : ZipApart z TI TO i1 i2 l1 l2) (S : ZT s.heap z TI TO T i1 i2 l1 l2 f oT k xs ys) (hx : xs[k]? = none)
    (q : ∀ h', (∀ c o, c ≠ z → c ≠ i1 → c ≠ i2 → s.heap.get? c = some o → h'.get? c = some o) → Q none { s with heap := h' }) : wpAny (model prog w) A (pyNext (.ref z)) Q E s := by
  have ty : s.TypeIs (.ref z) "zip" := ⟨_, S.zh, rfl⟩
  unfold pyNext
  refine wpAny_bind (wpAny_attempt (wpAny_callSpecial?_slot (name := Str.ofString "__next__") ty F.slot_zip_next (wpAny_call_entry F.slot_zip_next ty F.entry_zip_next
    (zt_end hh D S hx fun h' e kk he => ?_) (F.args_zip_next_1 _))))
  obtain ⟨o, ho, hc⟩ := he
  exact wpAny_bind (wpAny_isInstance (T := "StopIteration") (b := true) ⟨o, ho, hc⟩ isSubtype_stop (wpAny_pure (q _ kk)))
end
section
variable {prog : Program} {w : World}
/-- what a new zip of two tuples of one length holds -/
structure ZN (h : Heap) (z TI TO i1 i2 l1 l2 : Addr) (xs ys : Array Value) : Prop where
  z0 : IsZip h z TI TO .none
  tI : IsPair h TI (.ref i1) (.ref i2)
  tO : ∃ a b, IsPair h TO a b
  u1 : h.IsTupleIter i1 l1 0
  u2 : h.IsTupleIter i2 l2 0
  t1 : h.IsTuple l1 xs
  t2 : h.IsTuple l2 ys
theorem zipArg (z TI TO i1 i2 l1 l2 : Addr) (D : ZipApart z TI TO i1 i2 l1 l2) (xs ys : Array Value) (le : xs.size = ys.size) :
    PairArg prog w "zip" z [z, TI, TO, i1, i2, l1, l2] [z, TO, i1, i2] xs.size (fun i k v => xs[i]? = some k ∧ ys[i]? = some v) (fun h => ZN h z TI TO i1 i2 l1 l2 xs ys) where
  type := fun s ok => ⟨_, ok.z0, rfl⟩
  notDict := by decide
  keep := fun h h' ok kk => let ⟨a, b, c⟩ := ok.tO; ⟨kk _ _ ok.z0, kk _ _ ok.tI, ⟨a, b, kk _ _ c⟩, ok.u1.at fun o e => kk _ o e, ok.u2.at fun o e => kk _ o e, ok.t1.at fun o e => kk _ o e, ok.t2.at fun o e => kk _ o e⟩
  there := fun h ok b hb => by
    obtain ⟨z0, tI, ⟨_, _, tO⟩, ⟨_, a1, _⟩, ⟨_, a2, _⟩, ⟨_, a3, _⟩, ⟨_, a4, _⟩⟩ := ok
    simp only [List.mem_cons, List.not_mem_nil, or_false] at hb
    rcases hb with rfl | rfl | rfl | rfl | rfl | rfl | rfl <;> exact ⟨_, by assumption⟩
  sub := fun b hb => by
    simp only [List.mem_cons, List.not_mem_nil, or_false] at hb ⊢
    rcases hb with z | z | z | z <;> simp [z]
  noKeys := fun A s Q E hA ok q => getAttrOr_miss_zip ok.z0 rfl rfl rfl zip_no_keys (by decide +kernel) hA q
  iter := fun A s d Q E hA ok hd off q => by
    simp only [List.mem_cons, List.not_mem_nil, or_false, not_or] at off
    obtain ⟨dz, dI, dO, d1, d2, d3, d4⟩ := off
    refine wpAny_pyIter_zip ok.z0 (q z [z, TO, i1, i2] (fun i h => (h.IsTupleIter i1 l1 i ∧ h.IsTupleIter i2 l2 i ∧ IsPair h TI (.ref i1) (.ref i2) ∧ h.IsTuple l1 xs ∧ h.IsTuple l2 ys) ∧
      ((IsZip h z TI TO .none ∧ ∃ a b, IsPair h TO a b) ∨ ∃ T f oT, (IsZipHeld h z TI TO T f ∧ h.get? T = some oT) ∧ T ≠ z ∧ T ≠ i1 ∧ T ≠ i2 ∧ T ≠ d)) s.heap s.toks ?_
      ⟨⟨ok.u1, ok.u2, ok.tI, ok.t1, ok.t2⟩, .inl ⟨ok.z0, ok.tO⟩⟩ (fun _ _ e => e) fun b hb => .inl hb)
    refine { off := fun hm => ?_, frame := fun i h1 h2 st kk => ?_, item := fun i s1 Q1 E1 hi st ds q1 => ?_, done := fun s1 Q1 E1 st q1 => ?_ }
    · simp only [List.mem_cons, List.not_mem_nil, or_false] at hm
      rcases hm with e | e | e | e
      · exact dz e
      · exact dO e
      · exact d1 e
      · exact d2 e
    · obtain ⟨⟨a1, a2, a3, a4, a5⟩, b⟩ := st
      refine ⟨⟨a1.at fun o e => kk _ o (Ne.symm d1) e, a2.at fun o e => kk _ o (Ne.symm d2) e, kk _ _ (Ne.symm dI) a3, a4.at fun o e => kk _ o (Ne.symm d3) e, a5.at fun o e => kk _ o (Ne.symm d4) e⟩, ?_⟩
      rcases b with ⟨b1, c, e, b2⟩ | ⟨T, f, oT, ⟨b1, b2⟩, r1, r2, r3, r4⟩
      · exact .inl ⟨kk _ _ (Ne.symm dz) b1, c, e, kk _ _ (Ne.symm dO) b2⟩
      · exact .inr ⟨T, f, oT, ⟨kk _ _ (Ne.symm dz) b1, kk _ _ r4 b2⟩, r1, r2, r3, r4⟩
    · obtain ⟨⟨a1, a2, a3, a4, a5⟩, b⟩ := st
      have ex := Array.getElem?_eq_getElem hi
      have ey := Array.getElem?_eq_getElem (xs := ys) (i := i) (by omega)
      have lt : ∀ {c o}, s1.heap.get? c = some o → s1.heap.objs.size ≠ c := fun e => Nat.ne_of_gt (Heap.lt_size e)
      have k1 : s1.heap.objs.size ≠ i1 := let ⟨_, e, _⟩ := a1; lt e
      have k2 : s1.heap.objs.size ≠ i2 := let ⟨_, e, _⟩ := a2; lt e
      rcases b with ⟨b1, c, e, b2⟩ | ⟨T, f, oT, ⟨b1, b2⟩, r1, r2, r3, r4⟩
      · refine RZ.pyNext_zipT_item D b1 a3 b2 a1 a2 a4 a5 ex ey fun h' c1 c2 c3 c4 c5 c6 kk => ?_
        exact q1 s1.heap.objs.size _ _ h' s1.toks ⟨ex, ey⟩ (.inl ⟨_, c5, rfl, _, rfl⟩)
          ⟨⟨c3, c4, kk _ _ D.TIz D.TITO D.TIi1 D.TIi2 a3, a4.at fun o e => kk _ o D.l1z D.l1TO D.l1i1 D.l1i2 e, a5.at fun o e => kk _ o D.l2z D.l2TO D.l2i1 D.l2i2 e⟩,
            .inr ⟨s1.heap.objs.size, false, _, ⟨c1, c5⟩, lt b1, k1, k2, Nat.ne_of_gt ds⟩⟩
          fun c o hc e => kk c o (fun x => hc (by simp [x])) (fun x => hc (by simp [x])) (fun x => hc (by simp [x])) (fun x => hc (by simp [x])) e
      · refine next_zt_item D ⟨b1, b2, a3, a1, a2, a4, a5⟩ ex ey fun h' c1 c3 c4 c5 kk => ?_
        exact q1 s1.heap.objs.size _ _ h' s1.toks ⟨ex, ey⟩ (.inl ⟨_, c5, rfl, _, rfl⟩)
          ⟨⟨c3, c4, kk _ _ D.TIz D.TIi1 D.TIi2 a3, a4.at fun o e => kk _ o D.l1z D.l1i1 D.l1i2 e, a5.at fun o e => kk _ o D.l2z D.l2i1 D.l2i2 e⟩,
            .inr ⟨T, true, oT, ⟨c1, kk _ _ r1 r2 r3 b2⟩, r1, r2, r3, r4⟩⟩
          fun c o hc e => kk c o (fun x => hc (by simp [x])) (fun x => hc (by simp [x])) (fun x => hc (by simp [x])) e
    · obtain ⟨⟨a1, a2, a3, a4, a5⟩, b⟩ := st
      have hx : xs[xs.size]? = none := Array.getElem?_eq_none (Nat.le_refl _)
      rcases b with ⟨b1, c, e, b2⟩ | ⟨T, f, oT, ⟨b1, b2⟩, r1, r2, r3, r4⟩
      · exact RZ.pyNext_zipT_end hA D b1 a3 b2 a1 a2 a4 a5 (.inl hx) fun h' kk => q1 h' s1.toks fun c o hc e => kk c o (fun x => hc (by simp [x])) (fun x => hc (by simp [x])) (fun x => hc (by simp [x])) (fun x => hc (by simp [x])) e
      · exact next_zt_end hA D ⟨b1, b2, a3, a1, a2, a4, a5⟩ hx fun h' kk => q1 h' s1.toks fun c o hc e => kk c o (fun x => hc (by simp [x])) (fun x => hc (by simp [x])) (fun x => hc (by simp [x])) e
end
end K18W
namespace K18
open PySem PySem.Spec PyProof.Rows L2
section
variable {X : Cx}
/-- the key at a place of a tuple of keys -/
def KeyAt (H : Hp) (v : V) (k : List L2.Key) : Prop := ∃ q, v = .ref q ∧ H q = some (.tup (k.map kV))
theorem keys_kt {H : Hp} : ∀ {vs : List V} {us : List Value} {ks : List (List L2.Key)} {zs : List V} {ws : List Value}, Paired (KeyAt H) vs ks → Vals vs us → Vals zs ws → vs.length = zs.length →
    ∃ ys : List (List L2.Key × Addr × Value), KT H (ks.zip zs) ys ∧ ys.length = us.length ∧ ∀ (i : Nat) (y : List L2.Key × Addr × Value), ys[i]? = some y → us[i]? = some (Value.ref y.2.1) ∧ ws[i]? = some y.2.2
  | _, _, _, _, _, .nil, .nil, .nil, _ => ⟨[], .nil, rfl, fun i y e => by simp at e⟩
  | _, _, _, _ :: _, _, .nil, .nil, .cons _ _, e => nomatch e
  | _, _, _, _, _, .cons (a := v) (b := k) p t, .cons r rt, .nil, e => nomatch e
  | _, _, _, _, _, .cons (a := v) (b := k) p t, .cons r rt, .cons (a := z) (b := w0) r2 rt2, e => by
    obtain ⟨ys, k1, k2, k3⟩ := keys_kt t rt rt2 (Nat.succ.inj e)
    obtain ⟨q, rfl, hq⟩ := p
    refine ⟨(k, q, w0) :: ys, .cons ⟨rfl, hq, r2⟩ k1, congrArg (· + 1) k2, fun i y ey => ?_⟩
    cases i with
    | zero =>
      obtain rfl := Option.some.inj ey
      rw [show _ = Value.ref q from r]
      exact ⟨rfl, rfl⟩
    | succ i => exact k3 i y ey
/-- dict(zip(a, b)), a tuple of keys, b a tuple of values -/
def tDictZ (K : PySem.W.Frag) (ta : TA) : TE := fun σ H Q => ta σ H fun vs H1 => ∃ (a b : Addr) (ks : List (List L2.Key)) (xs zs : List V), vs = [.ref a, .ref b] ∧ SqT K H1 a xs ∧ Paired (KeyAt H1) xs ks ∧ SqT K H1 b zs ∧ xs.length = zs.length ∧
  ∀ p, H1 p = none → Q (.ref p) (upd H1 p (.dT (putAll [] (ks.zip zs))))
theorem pe_dictZip {e e2 : Expr} {ta : TA} {p pos p2 pos2 : Pos} (calm : X.calm = true) (un : X.A.units + 2 < cLine) (gd : Gl X "dict") (md : X.mg "dict" = none) (gz : Gl X "zip") (mz : X.mg "zip" = none) (ha : PA X [e, e2] ta)
    (hs : starEach [e, e2] X.env = (false, eval e X.env) :: starEach [e2] X.env := by rfl) (hpl : (backTo pos2 (starEach [e2] X.env)).any (·.1) = false := by rfl)
    (hs2 : starEach [.Call (.Name "zip" p2) [e, e2] [] pos2] X.env = (false, eval (.Call (.Name "zip" p2) [e, e2] [] pos2) X.env) :: starEach [] X.env := by rfl) (hpl2 : (backTo pos (starEach [] X.env)).any (·.1) = false := by rfl) :
    PE X (.Call (.Name "dict" p) [.Call (.Name "zip" p2) [e, e2] [] pos2] [] pos) (tDictZ X.K ta) := by
  refine ⟨fun pins s σ H Q I h => ?_⟩
  refine wpAny_Call_Name_kw (ld_blt I gd md (show bootBuiltins "dict" = some (.type "dict") by decide +kernel) ?_)
  refine PyProof.Rows.callWith_type1 ?_ hs2 hpl2
  rw [hs2]
  show wpAny _ _ (spliced ((false, eval (.Call (.Name "zip" p2) [e, e2] [] pos2) X.env) :: [])) _ _ s
  refine Calls.spliced_cons ?_
  refine wpAny_Call_Name_kw (ld_blt I gz mz PyProof.Rows.boot_zip ?_)
  refine PyProof.Rows.callWith_type1 (thn (ha.run pos2 pins s σ H _ I h) fun us s1 w1 => ?_) hs hpl
  obtain ⟨vs, H1, I1, r1, a, b, ks, xs, zs, rfl, hq1, pk, hq2, le, q⟩ := w1
  obtain ⟨u1, u2, rfl, ra, rb⟩ := vals2 r1
  obtain rfl : u1 = Value.ref a := ra
  obtain rfl : u2 = Value.ref b := rb
  obtain ⟨its, rv, p1, z1⟩ := I1.tuple hq1
  obtain ⟨its2, rv2, p2', _⟩ := I1.tuple hq2
  obtain ⟨ys, kt, n1, n2⟩ := keys_kt pk rv rv2 le
  have p1 : s1.heap.IsTuple a its.toArray := p1
  have p2' : s1.heap.IsTuple b its2.toArray := p2'
  have la : a < s1.heap.objs.size := let ⟨_, e, _⟩ := p1; Heap.lt_size e
  have lb : b < s1.heap.objs.size := let ⟨_, e, _⟩ := p2'; Heap.lt_size e
  have l12 : its.length = its2.length := by rw [← rv.length, ← rv2.length, le]
  refine RZ.call_zipT p1 p2' fun h' z0 tI tO v1 v2 hsz kk => ?_
  refine Calls.spliced_nil ?_
  have I2 : Inv X pins σ H1 { s1 with heap := h' } := I1.kept (t' := s1.toks) kk
  have offw : ∀ {c : Addr}, c < s1.heap.objs.size → c ∉ [s1.heap.objs.size + 4, s1.heap.objs.size + 3, s1.heap.objs.size, s1.heap.objs.size + 1] := fun {c} l m => by
    simp only [List.mem_cons, List.not_mem_nil, or_false] at m
    have l : (c : Nat) < s1.heap.objs.size := l
    rcases m with m | m | m | m
    all_goals
      rw [m] at l
      exact absurd l (Nat.not_lt.mpr (by first | exact Nat.le_add_right _ _ | exact Nat.le_refl _))
  refine call_dict_pairsH (s := { s1 with heap := h' }) (knd := tupleKind (mixKind X.prog X.w)) (ps := ys) (K18W.zipArg _ _ _ _ _ a b (PySem.W.ktu_apart s1.heap.objs.size a b la lb) its.toArray its2.toArray (by simpa using l12)) (I.ok.hd calm) (by show X.A.units + 2 < cLine; exact un)
    ⟨z0, tI, ⟨_, _, tO⟩, v1, v2, p1.at fun o e => kk _ o e, p2'.at fun o e => kk _ o e⟩ ⟨by simpa using n1, fun i kv v e => ?_⟩ (fun h2 ke z m => ?_) (by simpa [← rv.length] using z1) fun h2 tk hd' ke => ?_
  · obtain ⟨e1, e2⟩ := e
    have li : i < ys.length := by
      rw [n1]
      have := (Array.getElem?_eq_some_iff.mp e1).1
      simpa using this
    obtain ⟨f1, f2⟩ := n2 i ys[i] (List.getElem?_eq_getElem li)
    have e1 : its[i]? = some kv := by simpa using e1
    have e2 : its2[i]? = some v := by simpa using e2
    rw [e1] at f1
    rw [e2] at f2
    refine ⟨ys[i].1, ys[i].2.1, ?_, Option.some.inj f1⟩
    rw [List.getElem?_eq_getElem li, Option.some.inj f2]
  · obtain ⟨j, e⟩ := List.mem_iff_getElem?.mp m
    obtain ⟨pp, _, q1, q2, _⟩ := L2.DX.pget kt e
    have ky := key_of I1.hok q2
    rw [q1] at ky
    obtain ⟨ob, iv, nv, g1, g2, g3, g4⟩ := ky
    have lg := Heap.lt_size g1
    exact ⟨ob, iv, nv, ke _ _ (Nat.ne_of_lt (Nat.lt_of_lt_of_le lg (by rw [hsz]; exact Nat.le_add_right _ _))) (offw lg) (kk _ _ g1), g2, g3, g4⟩
  · have big := I2.big
    have sm : (h'.objs.size == sysModules) = false := beq_eq_false_iff_ne.mpr (Nat.ne_of_gt big)
    have le2 := putAll_len (ks.zip zs) []
    have free : H1 h'.objs.size = none := I2.hok.fresh (Nat.le_refl _)
    obtain ⟨od, es, ep, g1, g2, g3, g4, g5, g6⟩ := hd'
    have lz : (ks.zip zs).length ≤ sizeLine := by
      have a1 : (ks.zip zs).length ≤ ks.length := by rw [List.length_zip]; exact Nat.min_le_left _ _
      have a2 : xs.length = ks.length := Paired.length pk
      have a3 := z1
      omega
    refine ⟨.ref h'.objs.size, upd H1 h'.objs.size (.dT (putAll [] (ks.zip zs))), I1.laid (t' := tk) (fun b o e => ke b o (offw (Heap.lt_size e)) (kk b o e)) (by rw [hsz]; exact Nat.le_add_right _ _) ⟨by simp at le2; omega, sm, _, (kt_all kt .nil).keeps fun c ys ec => ?_, od, es, ep, g1, g2, g3, g4, g6⟩, rfl, q _ free⟩
    rw [upd_ne (ne_of_none ec free)]
    exact ec
end
end K18
/-! # whole tables -/
/-! # tables that are given -/
namespace K18
open PySem PySem.Spec PyProof.Rows L2
theorem sIx_nat {n d i : Nat} (h : i ≤ n) : HT.sIx n d (some (i : Int)) = i := by
  show (if ((i : Int) < 0) then ((i : Int) + (n : Int)).toNat else min ((i : Int)).toNat n) = i
  rw [if_neg (by omega), Int.toNat_natCast, Nat.min_eq_left h]
end K18
/-! # texts of integers, read -/
namespace K18
open PySem PySem.Spec PyProof.Rows L2 TL NumText
/-- digits without a nought too many, at most sixty -/
def canon (cs : List Nat) : Bool := !cs.isEmpty && (decide (cs.length ≤ 60) && (cs.all (fun c => decide (48 ≤ c) && decide (c ≤ 57)) && (decide (cs.head? ≠ some 48) || decide (cs = [48]))))
/-! ### integers -/
def rd (cs : List Nat) : Option Int :=
  if cs.head? = some 45 then (if canon cs.tail = true ∧ cs.tail ≠ [48] then some (-((digitsVal cs.tail : Nat) : Int)) else none)
  else if canon cs = true then some ((digitsVal cs : Nat) : Int) else none
/-! ### cut at the bar -/
def sp (cs : List Nat) : List (List Nat) := spl [47] 0 [] cs
/-! ### texts -/
end K18
/-! # the text of a stair -/
/-! # the tables of a stair, its text -/
namespace K18
open PySem PySem.Spec PyProof.Rows L2 TL NumText
/-! ### places -/
theorem tables5 : ∀ ns ∈ shapesL, ((List.range 3).all fun b => (List.range 6).all fun i => (List.range 6).all fun j => !(decide (b < ns.length) && decide (i < j) && decide ((j : Int) < ns.getD b 0)) || decide ((((b : Nat) : Int), ((i : Nat) : Int), ((j : Nat) : Int)) ∈ pl ns)) = true := by decide +kernel
theorem mem_pl {ns : List Int} (S : Shp ns) {b i j : Nat} (hb : b < ns.length) (hij : i < j) (hj : (j : Int) < ns.getD b 0) : (((b : Nat) : Int), ((i : Nat) : Int), ((j : Nat) : Int)) ∈ pl ns := by
  have l3 := S.1.2
  have g6 : ns.getD b 0 ≤ 6 := by
    rw [List.getD_eq_getElem?_getD, List.getElem?_eq_getElem hb]
    exact (S.2.1 _ (List.getElem_mem hb)).2
  have y := List.all_eq_true.mp (List.all_eq_true.mp (List.all_eq_true.mp (tables5 ns (shp_mem S)) b (List.mem_range.mpr (by omega))) i (List.mem_range.mpr (by omega))) j (List.mem_range.mpr (by omega))
  rw [decide_eq_true hb, decide_eq_true hij, decide_eq_true hj] at y
  exact of_decide_eq_true (by simpa using y)
/-- a place, by its three numbers -/
theorem pl_mem {ns : List Int} (S : Shp ns) {t : Tri} (h : t ∈ pl ns) : ∃ b i j : Nat, t = (((b : Nat) : Int), ((i : Nat) : Int), ((j : Nat) : Int)) ∧ b < ns.length ∧ i < j ∧ (j : Int) < ns.getD b 0 := by
  have z := (tables2 ns (shp_mem S)).2.1 t h
  obtain ⟨tb, ti, tj⟩ := t
  obtain ⟨n, k, m, e1, e2, e3, n0, n1, k0, k1, m0, m1⟩ := isP3_ints (show isP3 ns (.int tb) (.int ti) (.int tj) = true from z)
  cases e1
  cases e2
  cases e3
  obtain ⟨n, rfl⟩ := Int.eq_ofNat_of_zero_le n0
  obtain ⟨k, rfl⟩ := Int.eq_ofNat_of_zero_le k0
  obtain ⟨m, rfl⟩ := Int.eq_ofNat_of_zero_le m0
  exact ⟨n, k, m, rfl, by omega, by omega, m1⟩
/-! ### dicts of numbers at places -/
def dictO (l : List Tri) (num : Tri → Int) : List (List L2.Key × V) := l.map fun t => (triK t, .int (num t))
theorem dictO_keys (l : List Tri) (num : Tri → Int) : (dictO l num).map (·.1) = l.map triK := by
  unfold dictO
  rw [List.map_map]
  rfl
theorem keys_nodup {l : List Tri} (h : l.Nodup) : (l.map triK).Nodup := by
  rw [List.Nodup, List.pairwise_map]
  exact h.imp fun ne z => ne (triK_inj z)
theorem valV_dictO {num : Tri → Int} {t : Tri} : ∀ {l : List Tri}, valV (dictO l num) (triK t) = if t ∈ l then some (.int (num t)) else none
  | [] => by
    rw [if_neg (by simp)]
    rfl
  | u :: r => by
    show valV ((triK u, V.int (num u)) :: dictO r num) (triK t) = _
    by_cases e : triK u = triK t
    · have y : valV ((triK u, V.int (num u)) :: dictO r num) (triK t) = some (V.int (num u)) := by
        unfold valV
        rw [List.find?_cons_of_pos (by simpa using e)]
        rfl
      have eu := triK_inj e
      rw [y, eu, if_pos (List.mem_cons_self ..)]
    · have y : valV ((triK u, V.int (num u)) :: dictO r num) (triK t) = valV (dictO r num) (triK t) := by
        unfold valV
        rw [List.find?_cons_of_neg (by simpa using e)]
      rw [y, valV_dictO]
      have ne : t ≠ u := fun z => e (by rw [z])
      by_cases m : t ∈ r
      · rw [if_pos m, if_pos (List.mem_cons_of_mem _ m)]
      · rw [if_neg m, if_neg (fun z => (List.mem_cons.mp z).elim ne m)]
theorem put_dictO {l : List Tri} (h : l.Nodup) (num : Tri → Int) : putAll [] (dictO l num) = dictO l num := by
  rw [putAll_new _ [] (by rw [List.nil_append, dictO_keys]; exact keys_nodup h), List.nil_append]
theorem zip_dictO (l : List Tri) (num : Tri → Int) : (l.map triK).zip ((l.map num).map V.int) = dictO l num := by
  unfold dictO
  rw [List.map_map, List.zip_map']
  rfl
theorem trl_keys {H : Hp} : ∀ {xs : List V} {ts : List Tri}, TrL H xs ts → Paired (KeyAt H) xs (ts.map triK)
  | _, _, .nil => .nil
  | _, _, .cons e l => .cons ⟨_, rfl, e⟩ (trl_keys l)
/-- its numbers, place by place -/
abbrev numsL (num : Tri → Int) (ns : List Int) : List Int := (pl ns).map num
end K18
/-! # the keys of a dict, in their order and sorted -/
/-! # the entries of a stair -/
namespace K18
open PySem PySem.Spec PyProof.Rows L2 TL NumText
/-- those whose number is not 0 -/
def nz (num : Tri → Int) (l : List Tri) : List Tri := l.filter fun t => decide (num t ≠ 0)
theorem not_take {l : List Tri} (n : l.Nodup) {i : Nat} {t : Tri} (e : l[i]? = some t) : t ∉ l.take i := fun m => by
  obtain ⟨li, et⟩ := List.getElem?_eq_some_iff.mp e
  have z := List.take_append_drop i l
  rw [List.drop_eq_getElem_cons li, et] at z
  rw [← z, List.nodup_append] at n
  exact n.2.2 t m t (List.mem_cons_self ..) rfl
theorem dictO_snoc {l : List Tri} {num : Tri → Int} {t : Tri} (h : t ∉ l) : putK (dictO l num) (triK t) (.int (num t)) = dictO (l ++ [t]) num := by
  rw [putK_new _ (by rw [valV_dictO, if_neg h])]
  unfold dictO
  rw [List.map_append]
  rfl
end K18
/-! # a block of a stair -/
/-! # stairs of tables -/
namespace K18
open PySem PySem.Spec PyProof.Rows L2 TL NumText
/-! ### a def of one parameter and a row of further ones -/
/-! ### dicts that are entries -/
/-- numbers of sixty digits -/
def Sm (i : Int) : Prop := -(10 ^ 60) < i ∧ i < 10 ^ 60
def SmN (num : Tri → Int) (ns : List Int) : Prop := ∀ t ∈ pl ns, Sm (num t)
theorem ent_dictO {ns : List Int} (S : Shp ns) {l : List Tri} {num : Tri → Int} (hl : ∀ t ∈ l, t ∈ pl ns) (hn : l.length ≤ 100) (sm : SmN num ns) : Ent ns (dictO l num) := by
  refine ⟨by unfold dictO; rw [List.length_map]; exact hn, fun p hp => ?_⟩
  unfold dictO at hp
  obtain ⟨t, ht, rfl⟩ := List.mem_map.mp hp
  exact ⟨t, hl t ht, rfl, num t, rfl, sm t (hl t ht)⟩
theorem numAt_dictO {l : List Tri} {num : Tri → Int} {t : Tri} : numAt (dictO l num) t = if t ∈ l then num t else 0 := by
  unfold numAt
  rw [valV_dictO]
  by_cases m : t ∈ l
  · rw [if_pos m, if_pos m]
  · rw [if_neg m, if_neg m]
theorem nums_dictO {ns : List Int} {l : List Tri} {num : Tri → Int} (h : ∀ t ∈ pl ns, t ∉ l → num t = 0) : (pl ns).map (numAt (dictO l num)) = numsL num ns := by
  refine List.map_congr_left fun t m => ?_
  rw [numAt_dictO]
  by_cases z : t ∈ l
  · rw [if_pos z]
  · rw [if_neg z, h t m z]
end K18
/-! # rows of words -/
namespace K18
open PySem PySem.Spec PyProof.Rows L2 TL NumText
theorem pmap {α β : Type} {F G : α → β → Prop} (h : ∀ x y, F x y → G x y) : ∀ {xs : List α} {ys : List β}, Paired F xs ys → Paired G xs ys
  | _, _, .nil => .nil
  | _, _, .cons a t => .cons (h _ _ a) (pmap h t)
/-- a list of texts -/
def WdsL (H : Hp) (x : V) (ws : List Str) : Prop := ∃ r, x = .ref r ∧ H r = some (.lst (ws.map V.str))
theorem WdsL.same {H H' : Hp} {x : V} {ws : List Str} (h : WdsL H x ws) (s : Same H H') : WdsL H' x ws := let ⟨r, e, z⟩ := h; ⟨r, e, s _ _ z⟩
/-- a list of such -/
def BlkL (H : Hp) (x : V) (wss : List (List Str)) : Prop := ∃ l xs, x = .ref l ∧ H l = some (.lst xs) ∧ Paired (WdsL H) xs wss
theorem BlkL.same {H H' : Hp} {x : V} {wss : List (List Str)} (h : BlkL H x wss) (s : Same H H') : BlkL H' x wss := let ⟨l, xs, e, z, p⟩ := h; ⟨l, xs, e, s _ _ z, pmap (fun _ _ w => w.same s) p⟩
def BlksL (H : Hp) (x : V) (bss : List (List (List Str))) : Prop := ∃ l xs, x = .ref l ∧ H l = some (.lst xs) ∧ Paired (BlkL H) xs bss
end K18
/-! # a text taken apart -/
namespace K18
open PySem PySem.Spec PyProof.Rows L2 TL NumText
/-- what is free stays so back in time -/
def Sub (B Z : Hp) : Prop := ∀ b, Z b = none → B b = none
theorem Sub.refl (B : Hp) : Sub B B := fun _ h => h
theorem Sub.trans {A B C : Hp} (x : Sub A B) (y : Sub B C) : Sub A C := fun b h => x b (y b h)
/-- new since B -/
def WdsN (B H : Hp) (x : V) (ws : List Str) : Prop := ∃ r, x = .ref r ∧ B r = none ∧ H r = some (.lst (ws.map V.str))
def BlkN (B H : Hp) (x : V) (wss : List (List Str)) : Prop := ∃ l xs, x = .ref l ∧ B l = none ∧ H l = some (.lst xs) ∧ Paired (WdsN B H) xs wss
theorem WdsN.put {B H : Hp} {x : V} {ws : List Str} {D : Addr} {y : HO} (h : WdsN B H x ws) (hD : B D ≠ none) : WdsN B (upd H D y) x ws := let ⟨r, e, n, z⟩ := h; ⟨r, e, n, (upd_ne fun q => hD (by rw [← q]; exact n)).trans z⟩
theorem WdsN.same {B H H' : Hp} {x : V} {ws : List Str} (h : WdsN B H x ws) (s : Same H H') : WdsN B H' x ws := let ⟨r, e, n, z⟩ := h; ⟨r, e, n, s _ _ z⟩
theorem BlkN.put {B H : Hp} {x : V} {wss : List (List Str)} {D : Addr} {y : HO} (h : BlkN B H x wss) (hD : B D ≠ none) : BlkN B (upd H D y) x wss := let ⟨l, xs, e, n, z, p⟩ := h; ⟨l, xs, e, n, (upd_ne fun q => hD (by rw [← q]; exact n)).trans z, pmap (fun _ _ w => w.put hD) p⟩
theorem BlkN.same {B H H' : Hp} {x : V} {wss : List (List Str)} (h : BlkN B H x wss) (s : Same H H') : BlkN B H' x wss := let ⟨l, xs, e, n, z, p⟩ := h; ⟨l, xs, e, n, s _ _ z, pmap (fun _ _ w => w.same s) p⟩
theorem BlkN.old {B H : Hp} {x : V} {wss : List (List Str)} (h : BlkN B H x wss) : BlkL H x wss := let ⟨l, xs, e, _, z, p⟩ := h; ⟨l, xs, e, z, pmap (fun _ _ ⟨r, e, _, z⟩ => ⟨r, e, z⟩) p⟩
/-! ### the texts, split -/
end K18
/-! # stairs read -/
namespace K18
open PySem PySem.Spec PyProof.Rows L2 TL NumText
theorem ix_listK {X : Cx} {K : PySem.W.Frag} (h : X.K = K) : IxR X (rIxL K) := by
  rw [← h]
  exact ix_list
section
variable {P : Program} {w : World} {K : PySem.W.Frag} {mg : Str → Option Value} {base : Heap} {C CS TL : Addr}
theorem BlksL.same {H H' : Hp} {x : V} {bss : List (List (List Str))} (h : BlksL H x bss) (s : Same H H') : BlksL H' x bss := let ⟨l, xs, e, z, p⟩ := h; ⟨l, xs, e, s _ _ z, pmap (fun _ _ w => w.same s) p⟩
end
end K18
/-! # one, single -/
namespace K18
open PySem PySem.Spec PyProof.Rows L2 TL NumText
/-- {k: v}, k a tuple -/
def tDisp1 (tk tv : TE) : TE := fun σ H Q => ∀ p, H p = none → tk σ (upd H p (.dT [])) fun x H1 => tv σ H1 fun y H2 => H2 p = some (.dT []) ∧ ∃ b k, x = .ref b ∧ H2 b = some (.tup (k.map kV)) ∧ Q (.ref p) (upd H2 p (.dT [(k, y)]))
theorem pe_disp1 {X : Cx} {k v : Expr} {tk tv : TE} {pos : Pos} (un : X.A.units + 1 < cLine) (hk : PE X k tk) (hv : PE X v tv) : PE X (.Dict [some k] [v] pos) (tDisp1 tk tv) := by
  refine ⟨fun pins s σ H Q I q => ?_⟩
  have hn := I.hok.fresh (Nat.le_refl s.heap.objs.size)
  have I1 := I.laid (a := s.heap.objs.size) (o := .dT []) (h' := s.heap.push { cls := .type "dict", data := .dict #[] }) (t' := s.toks) (fun _ _ q => Heap.get?_push_of_some _ q) (Nat.le_refl _) (dt_empty s.heap I.big)
  refine wpAny_Dict_any rfl rfl (by simp) (by show 1 ≤ 15; decide) ?_
  refine pairTrees_cons_walk (thn (hk.run pins _ σ _ _ I1 (q _ hn)) fun u s1 ⟨x, H1, J1, rx, q1⟩ => thn (hv.run pins s1 σ H1 _ J1 q1) fun w2 s2 ⟨y, H2, J2, ry, e, b, kk, ex, eb, q2⟩ => pairTrees_nil_walk ?_)
  subst ex
  obtain rfl : u = Value.ref b := rx
  unfold storeAll
  rw [List.forIn_cons]
  refine wpAny_bind (wpAny_bind (dset_tup (X := X) un J2 e eb (Nat.zero_lt_of_lt (by decide : 0 < sizeLine)) ry fun s' J3 => wpAny_pure ?_))
  dsimp only
  rw [List.forIn_nil]
  exact wpAny_pure ⟨.ref _, _, J3, rfl, q2⟩
section
variable {P : Program} {w : World} {K : PySem.W.Frag} {mg : Str → Option Value} {base : Heap} {C CS TL : Addr}
def spOne (K : PySem.W.Frag) (C : Addr) : Sp := fun vs H Q _ => ∃ (sh : Addr) (ns : List Int), vs = [.ref C, .ref sh] ∧ SqT K H sh (ns.map V.int) ∧ Shp ns ∧ ∀ H' c, Same H H' → StairO K H' c C ns (numsL (fun _ => 0) ns) → Q (.ref c) H'
theorem ok_one {f fI : Addr} {fd fdI : FuncData} (d : M K "one" "Stair.one" s_one1 ["cls", "shape"] f fd) (mk : Mk K C fI) (GI : FnOk P w K mg base CX0 7 fI fdI ["self", "shape", "entries"] (spInit K C)) (bI : Binds K fdI ["self", "shape", "entries"] []) :
    FnOk P w K mg base CX0 9 f fd ["cls", "shape"] (spOne K C) := by
  refine d.F.ok sc_one1 (fun vs H Q E h => ?_) (fun cdv A outer s H vs Q E hr h => ?_)
  · obtain ⟨sh, ns, rfl, _⟩ := h
    rfl
  · obtain ⟨sh, ns, rfl, es, S, q⟩ := h
    refine ⟨_, (pss_one (ps_ret (pe_makeL mk GI hr bI .nil pass0 (pv 0) (pa_cons (pv 1) (pa_cons pe_dnewT pa_nil))))), ?_⟩
    refine ⟨_, rfl, rfl, _, rfl, fun D nD a dd na nd ne => ?_⟩
    have s1 := sub_same (o := .dT []) nD
    have eD : upd H D (.dT []) D = some (.dT []) := upd_same
    revert s1 eD na nd
    generalize upd H D (.dT []) = H1
    intro na nd s1 eD
    have sM : Same H1 (upd (upd H1 dd (.own a)) a (.ins C dd [])) := (sub_same nd).trans (sub_same (by rw [upd_ne (Ne.symm ne)]; exact na))
    refine ⟨a, sh, D, dd, ns, [], rfl, upd_same, sqt_same es (s1.trans sM), S, sM _ _ eD, ⟨Nat.zero_le _, fun p m => by cases m⟩, fun H9 o9 st => ⟨rfl, ?_⟩⟩
    have e0 : (pl ns).map (numAt []) = numsL (fun _ => 0) ns := nums_dictO (l := []) (num := fun _ => 0) fun _ _ _ => rfl
    rw [e0] at st
    refine q H9 a (fun b ob eb => ?_) st
    have e1 := s1 _ _ eb
    exact o9 _ _ (fun z => by rw [z, na] at e1; cases e1) (sM _ _ e1)
end
end K18
/-! # an error over OverflowError with an own __init__ -/
namespace PySem
namespace MostX
open PySem.W PySem.Calls PyProof.Rows PySem.HandSPX
abbrev tailOV : List Value := [.type "OverflowError", .type "ArithmeticError", .type "Exception", .type "BaseException", .type "object"]
/-! ### the text of __init__ -/
def iA (p1 p2 : Pos) : Arguments := { posonlyargs := [], args := [{ arg := "self", annotation := none, pos := p1 }, { arg := "most", annotation := none, pos := p2 }], vararg := none, kwonlyargs := [], kw_defaults := [], kwarg := none, defaults := [] }
def iB (q1 q2 q3 q4 : Pos) : List Stmt := [.Assign [.Attribute (.Name "self" q1) "most" q2] (.Name "most" q3) q4]
def iS : Scope := { kind := .function, names := [(PySem.Str.ofString "self", .local), (PySem.Str.ofString "most", .local)], isGenerator := false, isCoroutine := false, more := [] }
/-- what the written part says of Low, at C, and of its __init__, at fI -/
structure MostTxt (K : Frag) (mg : Str → Option Value) (C fI : Addr) : Prop where
  gC : mg "TooMany" = some (.ref C)
  cls : ∃ nm q N bs bm sn sub ab col dd k0 k1 k2 k3 k5, K.lookup C = some (excClassObj nm q C N bs bm true sn sub ab col dd k0 k1 k2 k3 k5 "OverflowError.__new__") ∧ PySem.W.excTail tailOV bm = true
  over : excOver K C tailOV = true
  tk : takerIn K C "most" = some none
  sa : findIn K (.ref C) "__setattr__" = some (some (.builtin "object.__setattr__"))
  ga : findIn K (.ref C) "__getattribute__" = some (some (.builtin "BaseException.__getattribute__"))
  gg : findIn K (.ref C) "__getattr__" = some none
  noN : findIn K (.ref C) "most" = some none
  iC : findIn K (.ref C) "__init__" = some (some (.ref fI))
  tC : typeIn K (.ref fI) = some (.type "function")
  kC : keepIn K (.ref C) = true
  exC : subIn K (.ref C) (.type "BaseException") = some true
  tyC : typeIn K (.ref C) = some (.type "type")
  hdC : hasDictIn K C = true
  te : exmOne K (.ref C) (.ref C) = some true
  fn : ∃ (oc : Value) (od : Option Addr) (doc pm : Value) (an : Option Addr) (cdv ct : Value) (osl : Array (Option Value)) (p1 p2 q1 q2 q3 q4 : Pos),
    K.lookup fI = some ⟨oc, od, .func (fnOf "__init__" "TooMany.__init__" (iA p1 p2) (iB q1 q2 q3 q4) iS .none .none doc pm an cdv ct), osl⟩ ∧ codeIn K cdv "TooMany.__init__" = true
section
open Builtin Builtin.ObjectAttr
variable {prog : Program} {w : World} {A : Around} {E : Value → Shared → Prop} {R : Result → Shared → Prop} {hp : Heap} {g : Array GenState} {d : Drawn} {t : Nat} {os : OsState}
/-- the first field of an exception over OverflowError is stored: its dict is made -/
theorem most_osa {K : Frag} {nam : Str} {tok : Tok} {u : Value} {ex C t0 : Addr} {cdt : ClassData} (X : K.In hp) (he : hp.get? ex = some (excO C t0)) (hcl : clsIn K C = some cdt) (hdi : cdt.hasDict = true) (hov : excOver K C tailOV = true) (htk : takerIn K C nam = some none)
    (go : ∀ h' tk' dx, (∀ b o, b ≠ ex → hp.get? b = some o → h'.get? b = some o) → hp.objs.size ≤ dx → dx ≠ ex → h'.get? ex = some { cls := .ref C, dict := some dx, data := .fields #[.ref t0, .none, .none, .none, .bool false, .none] } →
      h'.Ns1 dx (fun y => if y = nam then some u else none) → R (.ok (.ret .none)) ⟨h', g, d, tk', os⟩) :
    codeAny (model prog w) A (.call (.builtin "object.__setattr__") ⟨[.ref ex, .str nam tok, u], []⟩) R ⟨hp, g, d, t, os⟩ := by
  have J : InstAt hp ex (excO C t0) C none := ⟨he, rfl, rfl, trivial⟩
  have away : ex ≠ hp.objs.size := Nat.ne_of_lt (Heap.lt_size he)
  have look : Looks (model prog w) hp (classData C) cdt := looks_clsIn X hcl
  refine osa_openX F.store_OverflowError X J hov htk (fun b => ?_)
  show wpAny _ _ (storeInOwnDict (.ref ex) (.ref C) (.str nam tok) nam u b) _ _ _
  obtain ⟨c1, c2, c3, c4, c5, c6, c7, c8, c9, c10, c11⟩ := cdt
  dsimp only at hdi
  subst hdi
  unfold storeInOwnDict ownDictForStores
  repeat (first | with_reducible refine store_in_new ?_ ?_ | with_reducible refine wpAny_loadPart_at he ?_ | with_reducible refine look.at ?_ | wp_step)
  · exact ⟨_, #[], _, (Heap.get?_update_ne _ _ _ _ away.symm).trans (Heap.get?_push_at rfl rfl), rfl, fun z hz => absurd hz (by simp), fun _ => rfl⟩
  · intro h' tk' hn' same
    have he1 : (hp.push { cls := .type "dict", data := .dict #[] }).get? ex = some (excO C t0) := Heap.get?_push_of_some _ he
    refine go h' tk' hp.objs.size (fun b o hb ho => ?_) (Nat.le_refl _) away.symm ?_ hn'
    · have y := same.2 b (Nat.ne_of_lt (Heap.lt_size ho))
      exact y.trans ((Heap.get?_update_ne _ _ _ _ hb).trans (Heap.get?_push_of_some _ ho))
    · exact (same.2 ex away).trans (Heap.get?_update_self _ he1 rfl)
end
theorem one_size (v : Value) : [v].length ≤ sizeLine := by
  rw [sizeLine_eq]
  exact (by decide : 1 ≤ 16777216)
theorem ldC {M : Model} {s : Shared} {name : Str} {scope : Scope} {L a : Addr} {cd : Value} {m : Str → Option Value} {x : Str} {pos : Pos} {v : Value} {Q : Value → Shared → Prop} {A : Around} {E : Value → Shared → Prop} (hn : s.heap.Ns L m) (hv : m x = some v) (h : Q v s)
    (hk : scope.kind = .function := by rfl) (hl : (envOfC name scope L a cd).kindOf x = some .local := by rfl) (hd : (x == ("__debug__" : Str)) = false := by decide) :
    wpAny M A (eval (.Name x pos) (envOfC name scope L a cd)) Q E s := wpAny_Name (wpAny_loadName_local hk hl hn hv h) hd
/-- what __init__ leaves of a fresh exception at x -/
structure InitEnd (h h' : Heap) (x C dx t1 : Addr) (v : Value) : Prop where
  keep : ∀ b o, b ≠ x → h.get? b = some o → h'.get? b = some o
  obj : h'.get? x = some { cls := .ref C, dict := some dx, data := .fields #[.ref t1, .none, .none, .none, .bool false, .none] }
  dbig : h.objs.size ≤ dx
  dne : dx ≠ x
  ns : h'.Ns1 dx (fun y => if y = "most" then some v else none)
/-- a made Low -/
structure OwnMade (h h' : Heap) (e C d : Addr) (v : Value) : Prop where
  keep : ∀ b o, h.get? b = some o → h'.get? b = some o
  new : h.objs.size ≤ e
  obj : ∃ oe vs, h'.get? e = some oe ∧ oe.cls = .ref C ∧ oe.dict = some d ∧ oe.data = .fields vs ∧ vs[1]? = some .none
  dbig : h.objs.size ≤ d
  dne : d ≠ e
  ns : h'.Ns1 d (fun y => if y = "most" then some v else none)
section
variable {prog : Program} {w : World} {A : Around} {E : Value → Shared → Prop} {R : Result → Shared → Prop} {s : Shared} {K : Frag} {mg : Str → Option Value} {C fI : Addr}
theorem most_init (T : MostTxt K mg C fI) {x t0 : Addr} {v : Value} (X : K.In s.heap) (hlim : s.heap.NoLimit) (hx : s.heap.get? x = some (excO C t0)) (hnx : K.lookup x = none) (hroom : A.depth < recursionLimit)
    (hq : ∀ h' tk dx, InitEnd s.heap h' x C dx t0 v → R (.ok (.ret .none)) { s with heap := h', toks := tk }) :
    codeAny (model prog w) A (.call (.ref fI) ⟨[.ref x, v], []⟩) R s := by
  obtain ⟨oc, od, doc, pm, an, cdv, ct, osl, p1, p2, q1, q2, q3, q4, ho, hcd⟩ := T.fn
  obtain ⟨nm, q, N, bs, bm, sn, sub, ab, col, dd, k0, k1, k2, k3, k5, hC, hbm⟩ := T.cls
  have hcl : clsIn K C = some { name := nm, bases := bs, mro := .ref C :: bm, ns := N, qualname := q, hasDict := true, slotNames := sn, subclasses := sub, abstract := ab, collection := col, hasDel := false } := by unfold clsIn; rw [hC] <;> rfl
  refine Att.call_fn (binds := [("self", .ref x), ("most", v)]) X hlim ho hcd hroom (BindsTo.of_eq (by first | rfl | with_unfolding_all rfl)) (by first | rfl | decide | with_unfolding_all rfl) (fun s₁ IC => ?_) rfl rfl rfl
  obtain ⟨h₁, tk₁, rfl⟩ := IC.toInCall.same
  have k : ∀ b o, s.heap.get? b = some o → h₁.get? b = some o := IC.toInCall.keep
  have hn := IC.toInCall.ns
  have hxL : s.heap.objs.size ≠ x := Nat.ne_of_gt (Heap.lt_size hx)
  have X₁ : K.In h₁ := X.keeps k
  have hx₁ := k _ _ hx
  -- self.by = by
  show wpAny _ _ (execs _ _) _ _ _
  refine wpAny_execs_cons (plainObj_wpAny_Assign_Attribute ?_)
  refine ldC (v := v) hn (by first | rfl | with_unfolding_all rfl | kernel_rfl) (ldC (v := .ref x) hn (by first | rfl | with_unfolding_all rfl | kernel_rfl) ?_)
  refine set_plain X₁ (ox := excO C t0) (od := none) ⟨hx₁, rfl, rfl, trivial⟩ T.sa ?_
  refine most_osa X₁ hx₁ hcl rfl T.over T.tk (fun h₃ tk₃ dx k₃ dn dne hx₃ hn₃ => ?_)
  show wpAny _ _ (execs _ _) _ _ _
  have z : s.heap.objs.size < h₁.objs.size := hn.lt
  exact wpAny_execs_nil (hq h₃ tk₃ dx ⟨fun b o hb e => k₃ b o hb (k b o e), hx₃, Nat.le_of_lt (Nat.lt_of_lt_of_le z dn), dne, hn₃⟩)
theorem most_made (T : MostTxt K mg C fI) {v : Value} (X : K.In s.heap) (hlim : s.heap.NoLimit) (hroom : A.depth + 1 < recursionLimit)
    (hq : ∀ h' tk e d, OwnMade s.heap h' e C d v → R (.ok (.ret (.ref e))) { s with heap := h', toks := tk }) :
    codeAny (model prog w) A (.call (.ref C) ⟨[v], []⟩) R s := by
  obtain ⟨nm, q, N, bs, bm, sn, sub, ab, col, dd, k0, k1, k2, k3, k5, hC, hbm⟩ := T.cls
  obtain ⟨hp, g, dr, tk, os⟩ := s
  have k : ∀ b o, hp.get? b = some o → ((hp.push (kdv_tup [v])).push (excO C hp.objs.size)).get? b = some o := fun b o e => Heap.get?_push_of_some _ (Heap.get?_push_of_some _ e)
  have hget : ((hp.push (kdv_tup [v])).push (excO C hp.objs.size)).get? (hp.objs.size + 1) = some (excO C hp.objs.size) := by heap_get
  have hnx : K.lookup (hp.objs.size + 1) = none := by
    cases e : K.lookup (hp.objs.size + 1) with
    | none => rfl
    | some o =>
      have z : hp.get? (hp.objs.size + 1) = some o := X _ _ e
      exact absurd (Nat.lt_of_succ_lt (Heap.lt_size z)) (Nat.lt_irrefl _)
  refine call_own F.excBase_OverflowError (fun X => PySem.W.excTail_contains X bm hbm) (X _ _ hC) (looks_findIn X T.iC) (fun self => bind_fn X self T.tC) (one_size v) ?_
  refine most_init (s := ⟨(hp.push (kdv_tup [v])).push (excO C hp.objs.size), g, dr, tk, os⟩) T (X.keeps k) (hlim.keeps k) hget hnx ?_ fun h' tk' dx ⟨k', hx, dn, dne, hns⟩ => ?_
  · show A.depth + 1 < recursionLimit
    exact hroom
  · have old : ∀ b o, hp.get? b = some o → h'.get? b = some o := fun b o e => k' b o (Nat.ne_of_lt (Nat.lt_succ_of_lt (Heap.lt_size e))) (k b o e)
    have z : hp.objs.size + 1 + 1 ≤ dx := by
      first
        | (simpa only [Heap.size_push] using dn)
        | exact dn
        | (have q := dn; rw [Heap.size_push, Heap.size_push] at q; exact q)
    exact ⟨rfl, hq h' tk' (hp.objs.size + 1) dx ⟨old, Nat.le_succ _, ⟨_, _, hx, rfl, rfl, rfl, rfl⟩, Nat.le_trans (Nat.le_trans (Nat.le_succ _) (Nat.le_succ _)) z, dne, hns⟩⟩
end
end MostX
end PySem
namespace L2
open PySem PySem.Spec PyProof.Rows
theorem relO_most {v : V} {v' : Value} (r : RelV v v') (f : Str) : RelO (List.lookup f [(("most" : Str), v)]) (if f = "most" then some v' else none) := by
  by_cases hw : f = "most"
  · subst hw
    rw [if_pos rfl]
    have q : List.lookup ("most" : Str) [(("most" : Str), v)] = some v := by simp [List.lookup]
    rw [q]
    exact r
  · rw [if_neg hw]
    have qw : (f == ("most" : Str)) = false := by simpa using hw
    have q2 : List.lookup f [(("most" : Str), v)] = none := by simp [List.lookup, qw]
    rw [q2]
    trivial
section
variable {X : Cx} {C fI : Addr}
/-- Low(e) -/
def tMkMost (C : Addr) (ta : TA) : St → Hp → XK → Prop := fun σ H Q => ta σ H fun vs H1 => ∃ v, vs = [v] ∧ ∀ d, H1 d = none → Q (.ref C) (some d) (upd H1 d (.xd [(("most" : Str), v)]))
theorem pmk_most {a : Expr} {ta : TA} {p pos : Pos} {k : Nat} (T : PySem.MostX.MostTxt X.K X.mg C fI) (hr : Room k X.A) (ha : PA X [a] ta) (hg : Gl X "TooMany" := by rfl)
    (he : starEach (a :: []) X.env = (false, eval a X.env) :: starEach [] X.env := by rfl) (hpl : (backTo pos (starEach [] X.env)).any (·.1) = false := by rfl) :
    PMk X (.Call (.Name "TooMany" p) [a] [] pos) (tMkMost C ta) := by
  intro pins s σ H Q I h
  refine wpAny_Call_Name_kw (ld_glob I hg T.gC ?_)
  refine PySem.W.callWith_K (h₀ := X.base) I.ok.mod.kin T.kC (thn (ha.run pos pins s σ H _ I h) fun us s1 hh => ?_) he hpl
  obtain ⟨vs, H1, I1, r1, v, ev, q1⟩ := hh
  subst ev
  refine ⟨I1.kIn, ?_⟩
  cases r1 with
  | cons rv rn =>
    rename_i v' us'
    cases rn
    show wpAny _ _ (call (.ref C) [v']) _ _ _
    have hlim := I1.nolimit
    obtain ⟨hp, g, dr, tk, os⟩ := s1
    refine wpAny_call (PySem.MostX.most_made T I1.kIn hlim (by have := hr.dp; omega) fun h' tk' e d M => ?_)
    show MkP X pins σ Q (.ref e) ⟨h', g, dr, tk', os⟩
    obtain ⟨oe, fv, hoe, hc, hd, hdat, h1⟩ := M.obj
    have hns := M.ns
    obtain ⟨G', g1, g2⟩ := restrict h' fun b => decide (b ≠ e)
    have gk : ∀ b, b ≠ e → G'.get? b = h'.get? b := fun b hb => g1 b (decide_eq_true hb)
    have ge : G'.get? e = none := g2 e (by simp)
    have old : ∀ b o, hp.get? b = some o → G'.get? b = some o := fun b o q => (gk b (Nat.ne_of_lt (Nat.lt_of_lt_of_le (Heap.lt_size q) M.new))).trans (M.keep b o q)
    have ob : ObjOk X.prog X.w (upd H1 d (.xd [(("most" : Str), v)])) G' d (.xd [(("most" : Str), v)]) :=
      ⟨_, hns.at (fun o q => (gk d M.dne).trans q), fun f => relO_most rv f⟩
    have J : Inv X pins σ (upd H1 d (.xd [(("most" : Str), v)])) ⟨G', g, dr, tk', os⟩ := I1.laid (t' := tk') old M.dbig ob
    refine ⟨e, oe, fv, ⟨G', g, dr, tk', os⟩, _, .ref C, some d, rfl, J, fun b o q => ?_, ge, hoe, ⟨hc, hd⟩, hdat, h1, ?_, rfl, I1.bare, raises_own T.exC T.tyC, q1 d (I1.hok.fresh M.dbig)⟩
    · by_cases hb : b = e
      · have q' : G'.get? b = some o := q
        rw [hb, ge] at q'; cases q'
      · exact (gk b hb).symm.trans q
    · rw [upd_ne (Ne.symm M.dne)]
      exact I1.hok.fresh M.new
/-- raise Low(e) -/
def tRaiseMost (C : Addr) (W : WX) (ta : TA) : TS := fun _ σ H => tMkMost C ta σ H fun cls d H' => W cls d σ H'
theorem ps_raiseMost {a : Expr} {ta : TA} {W : WX} {p pos pos2 : Pos} {k : Nat} (hc : X.calm = true) (T : PySem.MostX.MostTxt X.K X.mg C fI) (hr : Room k X.A) (tk : Takes X W) (ha : PA X [a] ta) (hg : Gl X "TooMany" := by rfl)
    (he : starEach (a :: []) X.env = (false, eval a X.env) :: starEach [] X.env := by rfl) (hpl : (backTo pos (starEach [] X.env)).any (·.1) = false := by rfl) :
    PS X (.Raise (some (.Call (.Name "TooMany" p) [a] [] pos)) none pos2) (tRaiseMost C W ta) := ps_raise hc tk (pmk_most T hr ha hg he hpl)
end
end L2
/-! # stairs side by side -/
namespace K18
open PySem PySem.Spec PyProof.Rows L2 TL NumText RZ
/-- a place, its block that many further -/
def shf (k : Nat) (t : Tri) : Tri := ((k : Int) + t.1, t.2.1, t.2.2)
theorem shf_inj {k : Nat} {t u : Tri} (h : shf k t = shf k u) : t = u := by
  obtain ⟨a, b, c⟩ := t
  obtain ⟨d, e, f⟩ := u
  unfold shf at h
  injection h with h1 h2
  injection h2 with h2 h3
  have h1 : (k : Int) + a = (k : Int) + d := h1
  have h2 : b = e := h2
  have h3 : c = f := h3
  rw [show a = d by omega, h2, h3]
/-- the numbers of both -/
def both (k : Nat) (num num2 : Tri → Int) : Tri → Int := fun t => if t.1 < (k : Int) then num t else num2 (t.1 - (k : Int), t.2.1, t.2.2)
theorem both_l {ns : List Int} (S : Shp ns) {num num2 : Tri → Int} {t : Tri} (h : t ∈ pl ns) : both ns.length num num2 t = num t := by
  obtain ⟨b, i, j, rfl, hb, _, _⟩ := pl_mem S h
  unfold both
  rw [if_pos (by show (b : Int) < _; omega)]
theorem both_r {ks : List Int} (S : Shp ks) {k : Nat} {num num2 : Tri → Int} {t : Tri} (h : t ∈ pl ks) : both k num num2 (shf k t) = num2 t := by
  obtain ⟨b, i, j, rfl, hb, _, _⟩ := pl_mem S h
  unfold both shf
  rw [if_neg (by show ¬ ((k : Int) + (b : Int) < _); omega)]
  show num2 ((k : Int) + (b : Int) - (k : Int), (i : Int), (j : Int)) = _
  rw [show (k : Int) + (b : Int) - (k : Int) = (b : Int) by omega]
theorem getD_app (ns ks : List Int) (b : Nat) : (ns ++ ks).getD b 0 = if b < ns.length then ns.getD b 0 else ks.getD (b - ns.length) 0 := by
  rw [List.getD_eq_getElem?_getD, List.getD_eq_getElem?_getD, List.getD_eq_getElem?_getD]
  by_cases h : b < ns.length
  · rw [if_pos h, List.getElem?_append_left h]
  · rw [if_neg h, List.getElem?_append_right (by omega)]
theorem pl_app {ns ks : List Int} (S : Shp ns) (S2 : Shp ks) (SB : Shp (ns ++ ks)) {t : Tri} : t ∈ pl (ns ++ ks) ↔ t ∈ pl ns ++ (pl ks).map (shf ns.length) := by
  constructor
  · intro h
    obtain ⟨b, i, j, rfl, hb, ij, hj⟩ := pl_mem SB h
    rw [getD_app] at hj
    rw [List.length_append] at hb
    by_cases l : b < ns.length
    · rw [if_pos l] at hj
      exact List.mem_append_left _ (mem_pl S l ij hj)
    · rw [if_neg l] at hj
      refine List.mem_append_right _ (List.mem_map.mpr ⟨_, mem_pl S2 (b := b - ns.length) (by omega) ij hj, ?_⟩)
      unfold shf
      show ((ns.length : Int) + ((b - ns.length : Nat) : Int), (i : Int), (j : Int)) = _
      rw [show (ns.length : Int) + ((b - ns.length : Nat) : Int) = (b : Int) by omega]
  · intro h
    rcases List.mem_append.mp h with h | h
    · obtain ⟨b, i, j, rfl, hb, ij, hj⟩ := pl_mem S h
      exact mem_pl SB (by rw [List.length_append]; omega) ij (by rw [getD_app, if_pos hb]; exact hj)
    · obtain ⟨u, hu, rfl⟩ := List.mem_map.mp h
      obtain ⟨b, i, j, rfl, hb, ij, hj⟩ := pl_mem S2 hu
      have z := mem_pl SB (b := ns.length + b) (i := i) (j := j) (by rw [List.length_append]; omega) ij (by rw [getD_app, if_neg (by omega), show ns.length + b - ns.length = b by omega]; exact hj)
      unfold shf
      rw [show ((ns.length + b : Nat) : Int) = (ns.length : Int) + (b : Int) by omega] at z
      exact z
theorem shf_not {ns : List Int} (S : Shp ns) {ks : List Int} (S2 : Shp ks) {u : Tri} (h : u ∈ pl ks) : shf ns.length u ∉ pl ns := fun m => by
  obtain ⟨b, i, j, e, hb, _, _⟩ := pl_mem S m
  obtain ⟨c, i2, j2, rfl, _, _, _⟩ := pl_mem S2 h
  unfold shf at e
  injection e with e1 _
  have e1 : (ns.length : Int) + (c : Int) = (b : Int) := e1
  omega
theorem sqt_oldD {K : PySem.W.Frag} {H H' : Hp} {a D : Addr} {xs : List V} {ps : List (List L2.Key × V)} (h : SqT K H a xs) (e : H D = some (.dT ps)) (o : Old D H H') : SqT K H' a xs := sqt_ne h fun ob ea k => o a _ (fun z => by
  rw [z, e] at ea
  rcases k with k | ⟨_, k⟩ <;> rw [k] at ea <;> cases ea) ea
theorem old_ne {H H' : Hp} {b D : Addr} {ps : List (List L2.Key × V)} {o : HO} (e : H D = some (.dT ps)) (x : Old D H H') (h : H b = some o) (n : ∀ qs, o ≠ .dT qs) : H' b = some o := x b o (fun z => by
  rw [z, e] at h
  exact n _ (Option.some.inj h).symm) h
section
variable {P : Program} {w : World} {K : PySem.W.Frag} {mg : Str → Option Value} {base : Heap} {C CS CM fM TL : Addr}
abbrev s_beside : Stmt := inClass (topS 41) 16
theorem sc_beside : FnScope ["self", "other", "shape", "found", "block", "row", "column", "number", "place"] ["self", "other"] (defScope s_beside) := ⟨rfl, rfl, rfl, by decide +kernel, rfl, by decide +kernel, by decide +kernel⟩
def spBeside (K : PySem.W.Frag) (C CM : Addr) : Sp := fun vs H Q E => ∃ (a b : Addr) (ns ks : List Int) (num num2 : Tri → Int), vs = [.ref a, .ref b] ∧ StairO K H a C ns (numsL num ns) ∧ StairO K H b C ks (numsL num2 ks) ∧ Shp ns ∧ Shp ks ∧
  (Shp (ns ++ ks) → ∀ H' c, Same H H' → StairO K H' c C (ns ++ ks) (numsL (both ns.length num num2) (ns ++ ks)) → Q (.ref c) H') ∧
  (¬ Shp (ns ++ ks) → ∀ H' d, Same H H' → H' d = some (.xd [(("most" : Str), .int 8)]) → E (.ref CM) (some d) H')
theorem ok_beside {f f1 f2 f3 f4 : Addr} {fd fd1 fd2 fd3 fd4 : FuncData} (T : Txt mg) (N : Nam mg) (nz : mg "zip" = none) (R : SC K mg C) (IC : C8.InsC K C) (own : kit K (.ref C) (.ref C) true) (MT : PySem.MostX.MostTxt K mg CM fM) (d : M K "beside" "Stair.beside" s_beside ["self", "other"] f fd)
    (d1 : D K mg "is_shape" s_is_shape ["value"] f1 fd1) (G1 : FnOk P w K mg base CX0 3 f1 fd1 ["value"] (spShape K)) (d2 : D K mg "places" s_places ["shape"] f2 fd2) (G2 : FnOk P w K mg base (L2.CX P w) 5 f2 fd2 ["shape"] (spPlaces K CS))
    (d3 : D K mg "plan_of" s_plan ["shape"] f3 fd3) (G3 : FnOk P w K mg base (L2.CX P w) 6 f3 fd3 ["shape"] (spPlan K)) (d4 : D K mg "stair_with" s_with ["shape", "plan", "numbers"] f4 fd4) (G4 : FnOk P w K mg base CX0 9 f4 fd4 ["shape", "plan", "numbers"] (spWith K C)) :
    FnOk P w K mg base (L2.CX P w) 10 f fd ["self", "other"] (spBeside K C CM) := by
  obtain ⟨tM, cM⟩ := N.cM
  refine d.F.okX sc_beside (fun vs H Q E h => ?_) (fun cdv A outer s H vs Q E hr h => ?_)
  · obtain ⟨a, b, ns, ks, num, num2, rfl, _⟩ := h
    rfl
  · obtain ⟨a, b, ns, ks, num, num2, rfl, sa, sb, S, S2, q, qe⟩ := h
    have un2 : (A.deeper (envOfC "Stair.beside" (defScope s_beside) s.heap.objs.size f cdv)).units + 2 < cLine := by have := hr.un; omega
    have un : (A.deeper (envOfC "Stair.beside" (defScope s_beside) s.heap.objs.size f cdv)).units + 1 < cLine := by have := hr.un; omega
    refine ⟨_, (pss_cons (ps_if (pt_not (pt_val (pe_callB call_isi (by rfl) T.n_isinstance (by decide +kernel) (pa_cons (pv 1) (pa_cons (pe_glob (v := .ref C) rfl R.mC rfl) pa_nil))))) dead pss_nil)
      (pss_cons (ps_set (i := 2) sc_beside.nd rfl (.inl rfl) (pe_op op_catT (pe_fld (pv 0) rfl) (pe_fld (pv 1) rfl)))
      (pss_cons (ps_if (pt_not (pt_val (pe_call G1 (hr.mono (by decide)) (by rfl) d1.g d1.F.kp d1.b .nil pass0 (pa_cons (pv 2) pa_nil)))) (pss_one (ps_raiseMost (k := 2) rfl MT (hr.mono (by decide)) (takes_of rfl rfl rfl rfl) (pa_cons (pe_glob (v := .int 8) rfl cM ⟨_, rfl⟩) pa_nil))) pss_nil)
      (pss_cons (ps_set (i := 3) sc_beside.nd rfl (.inr rfl) (pe_dictZip rfl un2 (by rfl) N.n_dict (by rfl) nz (pa_cons (pe_call (E := fun _ _ _ => False) G2 (hr.mono (by decide)) (by rfl) d2.g d2.F.kp d2.b .nil passF (pa_cons (pe_fld (pv 0) rfl) pa_nil)) (pa_cons (pe_fld (pv 0) rfl) pa_nil))))
      (pss_cons (ps_for (passes_of rfl) rfl (pi_zipA (by rfl) nz (pa_cons (pe_call (E := fun _ _ _ => False) G2 (hr.mono (by decide)) (by rfl) d2.g d2.F.kp d2.b .nil passF (pa_cons (pe_fld (pv 1) rfl) pa_nil)) (pa_cons (pe_fld (pv 1) rfl) pa_nil))) (pg_tup rfl (pgs_cons (pg_tup rfl (pgs_cons (pg_name (i := 4) sc_beside.nd rfl (.inl rfl)) (pgs_cons (pg_name (i := 5) sc_beside.nd rfl (.inl rfl)) (pgs_cons (pg_name (i := 6) sc_beside.nd rfl (.inl rfl)) pgs_nil)))) (pgs_cons (pg_name (i := 7) sc_beside.nd rfl (.inl rfl)) pgs_nil)))
        (pss_one (ps_asg (pv 7) (pg_sub (pv 3) (pe_tup (pa_cons (pe_op op_add (pe_callB call_len_seq (by rfl) T.n_len PySem.boot_len (pa_cons (pe_fld (pv 0) rfl) pa_nil)) (pv 4)) (pa_cons (pv 5) (pa_cons (pv 6) pa_nil)))) (set_dict un)))))
      (pss_one (ps_ret (pe_call G4 hr (by rfl) d4.g d4.F.kp d4.b .nil pass0 (pa_cons (pv 2) (pa_cons (pe_call (E := fun _ _ _ => False) G3 (hr.mono (by decide)) (by rfl) d3.g d3.F.kp d3.b .nil passF (pa_cons (pv 2) pa_nil)) (pa_cons (pe_tupleOf (by rfl) T.n_tuple (pe_lc (own := [("place", 8)]) (g := gName 8) (tt := tYes) rfl sc_beside.nd (pi_tup (pe_call (E := fun _ _ _ => False) G2 (hr.mono (by decide)) (by rfl) d2.g d2.F.kp d2.b .nil passF (pa_cons (pv 2) pa_nil))) (blkOk_by (own := [("place", 8)]) (N := ["self", "other", "shape", "found", "block", "row", "column", "number", "place"]) (sc := defScope s_beside) (by decide +kernel))
            (fun _ _ _ _ _ => (pg_name (i := 8) sc_beside.nd rfl (Or.inl rfl))) (fun _ _ _ _ _ => pts_nil) (fun _ _ _ _ _ => (pe_dget un (pv 3) (pv 8) (fun _ _ => rfl))))) pa_nil))))))))))), ?_⟩
    have ty := sb.ty IC
    obtain ⟨dx, sh, pln, nm, e1, e2, e3, e4⟩ := sa
    obtain ⟨dx2, sh2, pln2, nm2, b1, b2, b3, b4⟩ := sb
    have ln := S.1
    have lk := S2.1
    refine ⟨_, rfl, _, _, _, _, _, rfl, .own C, ty, own, _, rfl, ite2 (fun z => absurd z Bool.false_ne_true) (fun _ => ?_)⟩
    refine ⟨_, rfl, a, C, dx, _, _, rfl, e1, R.cl, R.nS, stF_shape _ _ _, _, rfl, b, C, dx2, _, _, rfl, b1, R.cl, R.nS, stF_shape _ _ _, ?_⟩
    refine ⟨sh, sh2, _, _, rfl, rfl, e2, b2, fun z => ?_, ?_, fun z => ?_, fun _ p np => ?_⟩
    · have l := congrArg List.length z
      rw [List.length_map] at l
      have l : ns.length = 0 := l
      omega
    · rw [List.length_map, List.length_map, sizeLine_eq]
      omega
    · have l := congrArg List.length z
      rw [List.length_map] at l
      have l : ks.length = 0 := l
      omega
    rw [← List.map_append]
    have s1 := sub_same (o := .tup ((ns ++ ks).map V.int)) np
    have ep : upd H p (.tup ((ns ++ ks).map V.int)) p = some (.tup ((ns ++ ks).map V.int)) := upd_same
    revert s1 ep
    generalize upd H p (.tup ((ns ++ ks).map V.int)) = H1
    intro s1 ep
    refine ⟨_, rfl, _, .tuple ((ns ++ ks).map .int), rfl, .tv (.tup (sqt_new ep) (tvl_ints _)), fun H2 s2 => ⟨_, rfl, ?_⟩⟩
    cases hs : isSh (.tuple ((ns ++ ks).map .int)) with
    | false =>
      refine ite2 (fun _ => ?_) (fun z => absurd rfl z)
      have no : ¬ Shp (ns ++ ks) := fun z => by
        rw [shp_is z] at hs
        cases hs
      exact ⟨_, rfl, fun d nd => qe no _ d ((s1.trans s2).trans (sub_same nd)) upd_same⟩
    | true =>
      obtain ⟨zs, ez, SB⟩ := shp_of hs
      obtain rfl : zs = ns ++ ks := (ints_inj (PyData.tuple.inj ez)).symm
      have q' := q SB
      clear q qe ez hs
      refine ite2 (fun z => absurd z Bool.false_ne_true) (fun _ => ?_)
      have sH := s1.trans s2
      have ep2 := s2 _ _ ep
      refine ⟨_, rfl, a, C, dx, _, _, rfl, sH _ _ e1, R.cl, R.nS, stF_shape _ _ _, _, .tuple (ns.map .int), rfl, .tv (.tup (sqt_same e2 sH) (tvl_ints ns)), fun ns' en S' H3 y s3 ty3 => ?_, fun z => absurd (shp_is S) (by rw [z]; decide)⟩
      obtain rfl : ns' = ns := (ints_inj (PyData.tuple.inj en)).symm
      obtain ⟨o, xs, rfl, eo, tl⟩ := ty3
      have M := tables3 ns' (shp_mem S)
      have M2 := tables3 ks (shp_mem S2)
      have lx : xs.length = (pl ns').length := tl.len
      have sH3 := sH.trans s3
      refine ⟨_, rfl, a, C, dx, _, _, rfl, sH3 _ _ e1, R.cl, R.nN, stF_numbers _ _ _, ?_⟩
      refine ⟨o, nm, _, xs, _, rfl, sqt_new eo, trl_keys tl, sqt_new (sH3 _ _ e3), by rw [lx, List.length_map, List.length_map], fun D nD => ?_⟩
      rw [zip_dictO, put_dictO M.1]
      have s4 := sH3.trans (sub_same (o := .dT (dictO (pl ns') num)) nD)
      have eD : upd H3 D (.dT (dictO (pl ns') num)) D = some (.dT (dictO (pl ns') num)) := upd_same
      have ep4 := sub_same (o := .dT (dictO (pl ns') num)) nD _ _ (s3 _ _ ep2)
      have nDH : H D = none := sH3.free nD
      revert s4 eD ep4
      generalize upd H3 D (.dT (dictO (pl ns') num)) = H4
      intro s4 eD ep4
      refine ⟨_, rfl, b, C, dx2, _, _, rfl, s4 _ _ b1, R.cl, R.nS, stF_shape _ _ _, _, .tuple (ks.map .int), rfl, .tv (.tup (sqt_same b2 s4) (tvl_ints ks)), fun ks' en2 S2' H5 y s5 ty5 => ?_, fun z => absurd (shp_is S2) (by rw [z]; decide)⟩
      obtain rfl : ks' = ks := (ints_inj (PyData.tuple.inj en2)).symm
      obtain ⟨o2, xs2, rfl, eo2, tl2⟩ := ty5
      have lx2 : xs2.length = (pl ks').length := tl2.len
      have lxn : xs2.length = ((numsL num2 ks').map V.int).length := by rw [lx2, List.length_map, List.length_map]
      have s45 := s4.trans s5
      have dst : dictO (pl ns') num = dictO (pl ns') (both ns'.length num num2) := List.map_congr_left fun t m => by rw [both_l S m]
      have eD5 := s5 _ _ eD
      rw [dst] at eD5
      have ep5 := s5 _ _ ep4
      refine ⟨_, rfl, b, C, dx2, _, _, rfl, s45 _ _ b1, R.cl, R.nN, stF_numbers _ _ _, o2, nm2, xs2, _, rfl, .inr ⟨sqt_new eo2, sqt_new (s45 _ _ b3), ?_⟩⟩
      have eA := s45 _ _ e1
      have eSh := sqt_same e2 s45
      have eN2 := s45 _ _ b3
      have tl5 := tl2
      refine for_it (walk_zipT (K := K) (a := o2) (b := nm2) lxn) (fun i σ Y => (∃ y4 y5 y6 y7, σ = [some (.ref a), some (.ref b), some (.ref p), some (.ref D), y4, y5, y6, y7, none]) ∧ Old D H5 Y ∧ Y D = some (.dT (dictO (pl ns' ++ ((pl ks').take i).map (shf ns'.length)) (both ns'.length num num2))))
        ⟨⟨_, _, _, _, rfl⟩, fun _ _ _ h => h, by rw [List.take_zero, List.map_nil, List.append_nil]; exact eD5⟩ (fun i σ Y _ h => ⟨sqt_oldD (sqt_new eo2) eD5 h.2.1, sqt_oldD (sqt_new eN2) eD5 h.2.1⟩) ?_ ?_
      · rintro i v σ Y Y' hi ⟨⟨y4, y5, y6, y7, rfl⟩, sy, hd⟩ ⟨Tp, x0, y0, rfl, nT, rfl, ex, ey⟩
        obtain ⟨t, c, et, rfl, ec⟩ := tl2.tri ex
        obtain ⟨m, em, rfl⟩ := int_at ey
        rw [List.getElem?_map, et] at em
        obtain rfl := Option.some.inj em
        have mt : t ∈ pl ks' := List.mem_of_getElem? et
        have s6 := sub_same (o := .tup [V.ref c, V.int (num2 t)]) nT
        have hd2 := s6 _ _ hd
        have sy2 : Old D H5 (upd Y Tp (.tup [V.ref c, V.int (num2 t)])) := fun k ob n e => s6 _ _ (sy k ob n e)
        have hT : upd Y Tp (.tup [V.ref c, V.int (num2 t)]) Tp = some (.tup [V.ref c, V.int (num2 t)]) := upd_same
        revert hd2 sy2 hT
        generalize upd Y Tp (.tup [V.ref c, V.int (num2 t)]) = Y2
        intro hd2 sy2 hT
        have ec2 : Y2 c = some (.tup (triV t)) := old_ne eD5 sy2 ec fun _ z => by cases z
        have eA2 : Y2 a = _ := old_ne eD5 sy2 eA fun _ z => by cases z
        have eSh2 := sqt_oldD eSh eD5 sy2
        refine ⟨Tp, _, rfl, .inl (.inl hT), rfl, _, _, rfl, c, _, rfl, .inl (.inl ec2), rfl, _, _, rfl, _, _, rfl, _, _, rfl, rfl, _, _, rfl, rfl, ?_⟩
        refine ⟨_, rfl, _, rfl, _, rfl, a, C, dx, _, _, rfl, eA2, R.cl, R.nS, stF_shape _ _ _, sh, _, rfl, .inr eSh2, ?_⟩
        rw [List.length_map]
        refine ⟨_, rfl, _, _, rfl, rfl, _, rfl, _, rfl, (by show 3 ≤ sizeLine; decide), fun p3 n3 => ?_⟩
        have s7 := sub_same (o := .tup [V.int (((ns'.length : Nat) : Int) + t.1), V.int t.2.1, V.int t.2.2]) n3
        have nin : shf ns'.length t ∉ pl ns' ++ ((pl ks').take i).map (shf ns'.length) := fun z => by
          rcases List.mem_append.mp z with z | z
          · exact shf_not S S2 mt z
          · obtain ⟨u, hu, e⟩ := List.mem_map.mp z
            exact not_take M2.1 et (by rw [← shf_inj e]; exact hu)
        have put := dictO_snoc (num := both ns'.length num num2) nin
        rw [both_r S2 mt] at put
        refine ⟨D, _, rfl, DPut.t (k := triK (shf ns'.length t)) (s7 _ _ hd2) upd_same ?_, ⟨_, _, _, _, rfl⟩, fun k ob n e => ?_, ?_⟩
        · unfold dictO
          rw [List.length_map, List.length_append, List.length_map, List.length_take, sizeLine_eq]
          have := M.2.1
          have := M2.2.1
          omega
        · rw [upd_ne n]
          exact s7 _ _ (sy2 k ob n e)
        · rw [upd_same, put, List.append_assoc, List.take_succ, et, List.map_append]
          rfl
      · rintro σ Y ⟨⟨y4, y5, y6, y7, rfl⟩, sy, hd⟩
        rw [lx2, List.take_length] at hd
        have epY : Y p = some (.tup ((ns' ++ ks').map V.int)) := old_ne eD5 sy ep5 fun _ z => by cases z
        have sHY : Same H Y := fun k ob e => sy k ob (fun z => by rw [z, nDH] at e; cases e) (s45 _ _ e)
        have MB := tables3 (ns' ++ ks') (shp_mem SB)
        refine ⟨_, rfl, _, rfl, p, ns' ++ ks', rfl, sqt_new epY, SB, fun H6 pn s6 tp6 => ?_⟩
        refine ⟨_, rfl, _, .tuple ((ns' ++ ks').map .int), rfl, .tv (.tup (sqt_new (s6 _ _ epY)) (tvl_ints _)), fun zs en3 S3' H7 y s7 ty7 => ?_, fun z => absurd (shp_is SB) (by rw [z]; decide)⟩
        obtain rfl : zs = ns' ++ ks' := (ints_inj (PyData.tuple.inj en3)).symm
        obtain ⟨o3, xs3, rfl, eo3, tl3⟩ := ty7
        have lx3 : xs3.length = (pl (ns' ++ ks')).length := tl3.len
        have hd7 := s7 _ _ (s6 _ _ hd)
        refine ⟨o3, rfl, ⟨_, .inl (.inl eo3)⟩, fun L nL => ?_⟩
        refine lc_tup (K := K) (a := o3) (xs := xs3) (fun i Z => Same H7 Z ∧ Z L = some (.lst ((((pl (ns' ++ ks')).take i).map (both ns'.length num num2)).map V.int))) ⟨sub_same nL, upd_same⟩ (fun i Z _ h => .inl (.inl (h.1 _ _ eo3))) ?_ ?_
        · rintro i x Z hx ⟨sz, hl⟩
          obtain ⟨t, c, et, rfl, ec⟩ := tl3.tri hx
          have mt := (pl_app S S2 SB).mp (List.mem_of_getElem? et)
          have il := (List.getElem?_eq_some_iff.mp et).1
          refine ⟨rfl, yesT ⟨_, rfl, _, rfl, D, .int (both ns'.length num num2 t), rfl, ?_, ?_⟩⟩
          · have z := DGet.t (k := triK t) (sz _ _ hd7) (sz _ _ ec)
            rw [valV_dictO, if_pos mt] at z
            exact z
          · refine ⟨_, hl, ?_, fun k ob e => ?_, ?_⟩
            · rw [List.length_map, List.length_map, List.length_take, sizeLine_eq]
              have := MB.2.1
              omega
            · rw [upd_ne (fun z => by rw [z, nL] at e; cases e)]
              exact sz _ _ e
            · rw [upd_same, List.take_succ, et, List.map_append, List.map_append]
              rfl
        · rintro Z ⟨sz, hl⟩
          rw [lx3, List.take_length] at hl
          refine .inl ⟨L, _, rfl, .inl (.inl hl), fun r nr => ?_⟩
          have s8 := sub_same (o := .tup ((numsL (both ns'.length num num2) (ns' ++ ks')).map V.int)) nr
          have s68 := ((s6.trans s7).trans sz).trans s8
          refine ⟨p, r, pn, ns' ++ ks', _, rfl, sqt_new (s68 _ _ epY), tp6.same ((s7.trans sz).trans s8), upd_same, fun H9 c s9 _ st => ?_⟩
          exact q' H9 c ((sHY.trans s68).trans s9) st
end
end K18
/-! # the law: shapes, numbers, shaken places -/
namespace K18
open PySem PySem.Spec PyProof.Rows L2 TL NumText RZ
theorem pe_bmK {X : Cx} {K : PySem.W.Frag} {T id : String} {name : Str} {o e : Expr} {es : List Expr} {to : TE} {t : TA} {apos cpos : Pos} {r : V → List V → Hp → VK → Prop} (h : X.K = K) (pa : PlainAttrs T) (slot : Slot T name id) (hty : typeOf (.builtin id) = pure (.type "method_descriptor")) (hm : MtR X id r) (ho : PE X o to) (ha : PA X (e :: es) t)
    (hbase : attributeBase o name X.env (eval o X.env) = eval o X.env := by rfl)
    (hfew : ((backTo cpos (starEach (e :: es) X.env)).all (fun x => !x.1) && (backToKw cpos (keywordEach [] X.env)).all (fun x => x.1.isSome)
        && decide ((e :: es).length + ([] : List Keyword).length + (if ([] : List Keyword).isEmpty then 0 else 1) < 30)) = true := by rfl)
    (hline : (apos.endLine == cpos.line) = true := by rfl) (hs : starEach (e :: es) X.env = (false, eval e X.env) :: starEach es X.env := by rfl) (hplain : (backTo cpos (starEach es X.env)).any (·.1) = false := by rfl) :
    PE X (.Call (.Attribute o name apos) (e :: es) [] cpos) (tBM K T r to t) := by
  rw [← h]
  exact pe_bm pa slot hty hm ho ha hbase hfew hline hs hplain
theorem urn_off {H : Hp} {u b : Addr} {o : HO} (hu : Urn H u) (e : H b = some o) (n : ∀ g m c : Int, o ≠ .lst [.int g, .int m, .int c]) : b ≠ u := fun z => by
  obtain ⟨g, m, c, eu⟩ := hu
  rw [z, eu] at e
  exact n g m c (Option.some.inj e).symm
theorem StairO.old {K : PySem.W.Frag} {H H' : Hp} {u a C : Addr} {ns ms : List Int} (hu : Urn H u) (o : Old u H H') (h : StairO K H a C ns ms) : StairO K H' a C ns ms := by
  obtain ⟨dx, sh, pln, nm, e1, e2, e3, e4⟩ := h
  exact ⟨dx, sh, pln, nm, o _ _ (urn_off hu e1 fun _ _ _ z => by cases z) e1, sqt_old hu o e2, o _ _ (urn_off hu e3 fun _ _ _ z => by cases z) e3, e4.old hu o⟩
/-- a dict of the numbers at the places -/
def XD (H : Hp) (D : Addr) (ns : List Int) (num : Tri → Int) : Prop := ∃ l : List Tri, l.Perm (pl ns) ∧ H D = some (.dT (dictO l num))
theorem XD.same {H H' : Hp} {D : Addr} {ns : List Int} {num : Tri → Int} (h : XD H D ns num) (s : Same H H') : XD H' D ns num := let ⟨l, p, e⟩ := h; ⟨l, p, s _ _ e⟩
theorem XD.old {H H' : Hp} {u D : Addr} {ns : List Int} {num : Tri → Int} (hu : Urn H u) (o : Old u H H') (h : XD H D ns num) : XD H' D ns num := let ⟨l, p, e⟩ := h; ⟨l, p, o _ _ (urn_off hu e fun _ _ _ z => by cases z) e⟩
end K18
/-! # the numbers of a product -/
namespace K18
open PySem PySem.Spec PyProof.Rows L2 TL NumText RZ
def midP (t : Tri) (d : Nat) : Tri × Tri := ((t.1, t.2.1, t.2.1 + 1 + (d : Int)), (t.1, t.2.1 + 1 + (d : Int), t.2.2))
/-- a product's number at a place -/
def mulN (num num2 : Tri → Int) (t : Tri) : Int := num t + num2 t + ((List.range (t.2.2 - t.2.1 - 1).toNat).map fun d => num (midP t d).1 * num2 (midP t d).2).sum
def useT (ns : List Int) (u : Tri) : List (Tri × Tri) := (List.range (useN ns u)).map fun (c : Nat) => ((u.1, u.2.1, u.2.2 + 1 + (c : Int)), (u.1, u.2.2, u.2.2 + 1 + (c : Int)))
theorem useP_T (ns : List Int) (u : Tri) : useP ns u (useN ns u) = (useT ns u).map fun p => (ix ns p.1, ix ns p.2) := by
  unfold useP useT
  rw [List.map_map]
  rfl
theorem tables8 : ∀ ns ∈ shapesL, ∀ t ∈ pl ns, ((pl ns).flatMap fun u => ((useT ns u).filter fun p => p.1 == t).map fun p => (u, p.2)) = (List.range (t.2.2 - t.2.1 - 1).toNat).map (midP t) := by decide +kernel
theorem useT_mem {ns : List Int} (S : Shp ns) {u : Tri} (hu : u ∈ pl ns) {p : Tri × Tri} (h : p ∈ useT ns u) : p.1 ∈ pl ns ∧ p.2 ∈ pl ns := by
  unfold useT at h
  obtain ⟨c, hc, rfl⟩ := List.mem_map.mp h
  rw [List.mem_range] at hc
  obtain ⟨_, _, h3⟩ := tables3 ns (shp_mem S)
  obtain ⟨_, ⟨a0, a1, a2⟩, h6, hall⟩ := h3 u hu
  unfold useN at hc
  have c6 : c < 6 := by omega
  have hx := List.all_eq_true.mp hall c (List.mem_range.mpr c6)
  have dc : decide ((c : Int) < ns.getD u.1.toNat 0 - (u.2.2 + 1)) = true := decide_eq_true (by omega)
  rw [dc, Bool.not_true, Bool.false_or, Bool.and_eq_true, decide_eq_true_eq, decide_eq_true_eq] at hx
  exact hx
theorem at_idx : ∀ {l : List Tri} {t : Tri}, t ∈ l → l[l.idxOf t]? = some t
  | a :: r, t, h => by
    rw [List.idxOf_cons]
    by_cases e : a = t
    · rw [e, beq_self_eq_true, cond_true]
      rfl
    · rw [beq_false_of_ne e, cond_false, List.getElem?_cons_succ]
      exact at_idx ((List.mem_cons.mp h).resolve_left fun z => e z.symm)
theorem set_same (f : List Int) (i : Nat) : f.set i (f.getD i 0) = f := by
  by_cases h : i < f.length
  · rw [List.getD_eq_getElem?_getD, List.getElem?_eq_getElem h]
    exact List.set_getElem_self h
  · exact List.set_eq_of_length_le (by omega)
theorem stepU_zero (ys : List Int) : ∀ (ps : List (Int × Int)) (f : List Int), ps.foldl (stepU ys 0) f = f
  | [], f => rfl
  | p :: r, f => by
    rw [List.foldl_cons, stepU_zero ys r]
    unfold stepU
    rw [Int.zero_mul, Int.add_zero, set_same]
theorem stepP_all (ys : List Int) (f : List Int) (q : Int × List (Int × Int)) : stepP ys f q = q.2.foldl (stepU ys q.1) f := by
  unfold stepP
  split
  next e => rw [e, stepU_zero]
  next => rfl
theorem getD_set (f : List Int) (i j : Nat) (v : Int) (h : j < f.length) : (f.set i v).getD j 0 = if i = j then v else f.getD j 0 := by
  rw [List.getD_eq_getElem?_getD, List.getElem?_set]
  by_cases e : i = j
  · rw [if_pos e, if_pos e, if_pos (by omega)]
    rfl
  · rw [if_neg e, if_neg e, List.getD_eq_getElem?_getD]
theorem stepU_at {ns : List Int} (ys : List Int) (m : Int) {t : Tri} (ht : t ∈ pl ns) : ∀ (ps : List (Tri × Tri)) (f : List Int), f.length = (pl ns).length → (∀ p ∈ ps, p.1 ∈ pl ns ∧ p.2 ∈ pl ns) →
    ((ps.map fun p => (ix ns p.1, ix ns p.2)).foldl (stepU ys m) f).getD ((pl ns).idxOf t) 0 = f.getD ((pl ns).idxOf t) 0 + ((ps.filter fun p => p.1 == t).map fun p => m * ys.getD ((pl ns).idxOf p.2) 0).sum
  | [], f, lf, h => by
    show f.getD _ 0 = f.getD _ 0 + 0
    omega
  | p :: r, f, lf, h => by
    have hp := h p (List.mem_cons_self ..)
    have tl := List.idxOf_lt_length_of_mem ht
    rw [List.map_cons, List.foldl_cons, stepU_at ys m ht r _ (by unfold stepU; rw [List.length_set, lf]) fun q hq => h q (List.mem_cons_of_mem _ hq)]
    unfold stepU ix
    dsimp only
    rw [Int.toNat_natCast, Int.toNat_natCast, getD_set _ _ _ _ (by omega)]
    by_cases e : p.1 = t
    · rw [List.filter_cons_of_pos (by rw [e]; exact beq_self_eq_true t), List.map_cons, List.sum_cons, e, if_pos rfl]
      omega
    · have ne : (pl ns).idxOf p.1 ≠ (pl ns).idxOf t := fun z => e (by
        have a1 : (pl ns)[(pl ns).idxOf p.1]? = some p.1 := at_idx hp.1
        have a2 : (pl ns)[(pl ns).idxOf t]? = some t := at_idx ht
        rw [z, a2] at a1
        exact (Option.some.inj a1).symm)
      rw [List.filter_cons_of_neg (by simpa using e), if_neg ne]
theorem fold_at {ns : List Int} (S : Shp ns) (num : Tri → Int) (ys : List Int) {t : Tri} (ht : t ∈ pl ns) : ∀ (l : List Tri) (f : List Int), f.length = (pl ns).length → (∀ u ∈ l, u ∈ pl ns) →
    (l.foldl (fun f u => (useP ns u (useN ns u)).foldl (stepU ys (num u)) f) f).getD ((pl ns).idxOf t) 0 = f.getD ((pl ns).idxOf t) 0 + ((l.flatMap fun u => ((useT ns u).filter fun p => p.1 == t).map fun p => (u, p.2)).map fun c => num c.1 * ys.getD ((pl ns).idxOf c.2) 0).sum
  | [], f, lf, h => by
    show f.getD _ 0 = f.getD _ 0 + 0
    omega
  | u :: r, f, lf, h => by
    have hu := h u (List.mem_cons_self ..)
    rw [List.foldl_cons, fold_at S num ys ht r _ (by rw [stepU_len, lf]) fun q hq => h q (List.mem_cons_of_mem _ hq), useP_T, stepU_at ys (num u) ht _ f lf (fun p hp => useT_mem S hu hp)]
    rw [List.flatMap_cons, List.map_append, List.sum_append, List.map_map]
    exact Int.add_assoc ..
theorem prod_mulN {ns : List Int} (S : Shp ns) (num num2 : Tri → Int) : prodL (numsL num ns) (numsL num2 ns) (usL ns) = numsL (mulN num num2) ns := by
  have M := tables3 ns (shp_mem S)
  unfold prodL usL numsL
  rw [List.zip_map', List.foldl_map]
  have e1 : (fun (f : List Int) (t : Tri) => stepP ((pl ns).map num2) f (num t, useP ns t (useN ns t))) = fun f u => (useP ns u (useN ns u)).foldl (stepU ((pl ns).map num2) (num u)) f := by
    funext f u
    exact stepP_all _ _ _
  rw [e1, List.zipWith_map_left, List.zipWith_map_right, List.zipWith_self]
  have lz : ((pl ns).map fun t => num t + num2 t).length = (pl ns).length := List.length_map _
  have lF : ∀ (l : List Tri) (f : List Int), (l.foldl (fun f u => (useP ns u (useN ns u)).foldl (stepU ((pl ns).map num2) (num u)) f) f).length = f.length := by
    intro l
    induction l with
    | nil => intro f; rfl
    | cons u r ih => intro f; rw [List.foldl_cons, ih, stepU_len]
  refine List.ext_getElem (by rw [lF, lz, List.length_map]) fun i h1 h2 => ?_
  have il : i < (pl ns).length := by rw [List.length_map] at h2; exact h2
  have ht : (pl ns)[i] ∈ pl ns := List.getElem_mem il
  have hi : (pl ns).idxOf (pl ns)[i] = i := idx_of M.1 (List.getElem?_eq_getElem il)
  have z := fold_at S num ((pl ns).map num2) ht (pl ns) _ lz (fun u h => h)
  rw [hi, tables8 ns (shp_mem S) _ ht, List.getD_eq_getElem?_getD, List.getElem?_eq_getElem h1, List.getD_eq_getElem?_getD, List.getElem?_map, List.getElem?_eq_getElem il, List.map_map] at z
  have z : _ = num (pl ns)[i] + num2 (pl ns)[i] + _ := z
  rw [List.getElem_map]
  refine Eq.trans z ?_
  unfold mulN
  congr 2
  refine List.map_congr_left fun d hd => ?_
  have m2 : (midP (pl ns)[i] d).2 ∈ pl ns := by
    have y : midP (pl ns)[i] d ∈ (List.range ((pl ns)[i].2.2 - (pl ns)[i].2.1 - 1).toNat).map (midP (pl ns)[i]) := List.mem_map.mpr ⟨d, hd, rfl⟩
    rw [← tables8 ns (shp_mem S) _ ht] at y
    obtain ⟨u, hu, y⟩ := List.mem_flatMap.mp y
    obtain ⟨p, hp, e⟩ := List.mem_map.mp y
    rw [← e]
    exact (useT_mem S hu (List.mem_filter.mp hp).1).2
  show num _ * ((pl ns).map num2).getD ((pl ns).idxOf (midP (pl ns)[i] d).2) 0 = _
  rw [List.getD_eq_getElem?_getD, List.getElem?_map, at_idx m2]
  rfl
end K18
/-! # rows by columns -/
namespace K18
open PySem PySem.Spec PyProof.Rows L2 TL NumText RZ
theorem sum_add (f : Nat → Int) (m n : Nat) : ((List.range (m + n)).map f).sum = ((List.range m).map f).sum + ((List.range n).map fun d => f (m + d)).sum := by
  rw [List.range_add, List.map_append, List.sum_append, List.map_map]
  rfl
theorem sum_zero (f : Nat → Int) (n : Nat) (h : ∀ d, d < n → f d = 0) : ((List.range n).map f).sum = 0 := by
  induction n with
  | zero => rfl
  | succ n ih =>
    rw [List.range_succ, List.map_append, List.sum_append, ih fun d hd => h d (by omega)]
    show (0 : Int) + (f n + 0) = 0
    rw [h n (by omega)]
    rfl
theorem tabE_lt {num : Tri → Int} {b i j : Int} (h : i < j) : tabE num b i j = num (b, i, j) := by unfold tabE; rw [if_pos h]
theorem tabE_eq {num : Tri → Int} {b i : Int} : tabE num b i i = 1 := by unfold tabE; rw [if_neg (by omega), if_pos rfl]
theorem tabE_gt {num : Tri → Int} {b i j : Int} (h : j < i) : tabE num b i j = 0 := by unfold tabE; rw [if_neg (by omega), if_neg (by omega)]
/-- a row by a column -/
def rowCol (num num2 : Tri → Int) (b : Int) (s i c : Nat) : Int := ((List.range s).map fun (a : Nat) => tabE num b (i : Int) (a : Int) * tabE num2 b (a : Int) (c : Int)).sum
theorem rowCol_eq (num num2 : Tri → Int) (b : Int) {s i c : Nat} (hi : i < s) (hc : c < s) : rowCol num num2 b s i c = tabE (mulN num num2) b (i : Int) (c : Int) := by
  unfold rowCol
  rcases Nat.lt_trichotomy i c with l | e | l
  · obtain ⟨m, rfl⟩ : ∃ m, c = i + (1 + m) := ⟨c - i - 1, by omega⟩
    obtain ⟨n, rfl⟩ : ∃ n, s = i + (1 + (m + (1 + n))) := ⟨s - i - m - 2, by omega⟩
    rw [sum_add, sum_add, sum_add, sum_add, sum_zero _ i fun d hd => ?_, sum_zero _ n fun d hd => ?_]
    · rw [tabE_lt (show (i : Int) < ((i + (1 + m) : Nat) : Int) by omega)]
      unfold mulN
      dsimp only [midP]
      rw [show (((i + (1 + m) : Nat) : Int) - (i : Int) - 1).toNat = m by omega]
      have e1 : ((List.range 1).map fun d => tabE num b (i : Int) ((i + d : Nat) : Int) * tabE num2 b ((i + d : Nat) : Int) ((i + (1 + m) : Nat) : Int)).sum = num2 (b, (i : Int), ((i + (1 + m) : Nat) : Int)) := by
        show tabE num b (i : Int) (i : Int) * tabE num2 b (i : Int) _ + 0 = _
        rw [tabE_eq, tabE_lt (by omega)]
        omega
      have e2 : ((List.range 1).map fun d => tabE num b (i : Int) ((i + (1 + (m + d)) : Nat) : Int) * tabE num2 b ((i + (1 + (m + d)) : Nat) : Int) ((i + (1 + m) : Nat) : Int)).sum = num (b, (i : Int), ((i + (1 + m) : Nat) : Int)) := by
        show tabE num b (i : Int) ((i + (1 + m) : Nat) : Int) * tabE num2 b ((i + (1 + m) : Nat) : Int) _ + 0 = _
        rw [tabE_eq, tabE_lt (by omega)]
        omega
      rw [e1, e2]
      have e3 : ((List.range m).map fun d => tabE num b (i : Int) ((i + (1 + d) : Nat) : Int) * tabE num2 b ((i + (1 + d) : Nat) : Int) ((i + (1 + m) : Nat) : Int)) = (List.range m).map fun (d : Nat) => num (b, (i : Int), (i : Int) + 1 + (d : Int)) * num2 (b, (i : Int) + 1 + (d : Int), ((i + (1 + m) : Nat) : Int)) := by
        refine List.map_congr_left fun d hd => ?_
        rw [List.mem_range] at hd
        rw [tabE_lt (by omega), tabE_lt (by omega), show ((i + (1 + d) : Nat) : Int) = (i : Int) + 1 + (d : Int) by omega]
      rw [e3]
      omega
    · rw [tabE_gt (i := ((i + (1 + (m + (1 + d))) : Nat) : Int)) (j := ((i + (1 + m) : Nat) : Int)) (by omega), Int.mul_zero]
    · rw [tabE_gt (i := (i : Int)) (j := (d : Int)) (by omega), Int.zero_mul]
  · subst e
    obtain ⟨n, rfl⟩ : ∃ n, s = i + (1 + n) := ⟨s - i - 1, by omega⟩
    rw [sum_add, sum_add, sum_zero _ i fun d hd => ?_, sum_zero _ n fun d hd => ?_]
    · rw [tabE_eq]
      show (0 : Int) + (tabE num b (i : Int) (i : Int) * tabE num2 b (i : Int) (i : Int) + 0 + 0) = 1
      rw [tabE_eq, tabE_eq]
      rfl
    · rw [tabE_gt (i := ((i + (1 + d) : Nat) : Int)) (by omega), Int.mul_zero]
    · rw [tabE_gt (i := (i : Int)) (j := (d : Int)) (by omega), Int.zero_mul]
  · rw [tabE_gt (num := mulN num num2) (by omega)]
    refine sum_zero _ s fun d hd => ?_
    by_cases h : d < i
    · rw [tabE_gt (i := (i : Int)) (j := (d : Int)) (by omega), Int.zero_mul]
    · rw [tabE_gt (i := (d : Int)) (j := (c : Int)) (by omega), Int.mul_zero]
theorem mid_mem {ns : List Int} (S : Shp ns) {t : Tri} (ht : t ∈ pl ns) {d : Nat} (hd : d < (t.2.2 - t.2.1 - 1).toNat) : (midP t d).1 ∈ pl ns ∧ (midP t d).2 ∈ pl ns := by
  have y : midP t d ∈ (List.range (t.2.2 - t.2.1 - 1).toNat).map (midP t) := List.mem_map.mpr ⟨d, List.mem_range.mpr hd, rfl⟩
  rw [← tables8 ns (shp_mem S) _ ht] at y
  obtain ⟨u, hu, y⟩ := List.mem_flatMap.mp y
  obtain ⟨p, hp, e⟩ := List.mem_map.mp y
  rw [← e]
  exact ⟨hu, (useT_mem S hu (List.mem_filter.mp hp).1).2⟩
theorem sum_abs (f : Nat → Int) (B n : Nat) (h : ∀ d, d < n → (f d).natAbs ≤ B) : ((List.range n).map f).sum.natAbs ≤ n * B := by
  induction n with
  | zero => exact Nat.zero_le _
  | succ n ih =>
    rw [List.range_succ, List.map_append, List.sum_append]
    have z := ih fun d hd => h d (by omega)
    have y := h n (by omega)
    have x : (((List.range n).map f).sum + (f n + 0)).natAbs ≤ n * B + B := by omega
    rw [Nat.succ_mul]
    exact x
end K18
/-! # d.update(e); the law: numbers from tables -/
/-! # d == e, d != e: the keys tuples, the values integers -/
/-! # == and != of dicts of numbers at places -/
/-! # the law: whether a stair is seen right -/
namespace K18
open PySem PySem.Spec PyProof.Rows L2 TL NumText RZ
theorem trl_dp {K : PySem.W.Frag} {H : Hp} : ∀ {xs : List V} {ts : List Tri}, TrL H xs ts → DpAll K H xs (ts.map triD)
  | _, _, .nil => .nil
  | _, _, .cons (t := t) e l => .cons (.tup (.inl (.inl e)) (dp_ints K H (triI t))) (trl_dp l)
theorem trl_lay : ∀ l : List Tri, PyData.canLayAll0 (l.map triD) = true ∧ PyData.depthAll (l.map triD) ≤ 1
  | [] => ⟨rfl, Nat.zero_le _⟩
  | t :: l => by
    obtain ⟨h1, h2⟩ := trl_lay l
    refine ⟨?_, ?_⟩
    · show ((true && (true && (true && true))) && PyData.canLayAll0 (l.map triD)) = true
      rw [h1]
      rfl
    · show max (max 0 (max 0 (max 0 0)) + 1) (PyData.depthAll (l.map triD)) ≤ 1
      omega
theorem shaped_trl (l : List Tri) : SeqAt.shaped (.list (l.map triD)) = true := by
  show (PyData.canLayAll0 (l.map triD) && decide (PyData.depthAll (l.map triD) + 1 ≤ 64)) = true
  obtain ⟨h1, h2⟩ := trl_lay l
  rw [h1, decide_eq_true (by omega)]
  rfl
theorem eqv_own {d : PyData} (h : SeqAt.shaped d = true) : PyData.eqv d d = true := PySem.SeqAt.eqv_refl d (SeqAt.canLay_of_shaped h)
end K18
/-! # operators of an own class's instances -/
namespace K18W
open PySem PySem.Spec PySem.Calls PyProof.Rows PySem.W Builtin
section
variable {prog : Program} {w : World} {A : Around} {E : PySem.Value → Shared → Prop} {s : Shared} {K : Frag} {x C f : Addr} {ox : Obj} {od : Option Obj} {b tb : PySem.Value}
/-- an own == that answers True or False, asked for != -/
def NotBack (Q : PySem.Value → Shared → Prop) (v : PySem.Value) (s' : Shared) : Prop := ∃ k, v = .bool k ∧ Q (.bool (!k)) s'
theorem boundSlot {M : Model} {id : String} {args : List PySem.Value} {name : Str} {Q : Option PySem.Value → Shared → Prop} (X : K.In s.heap) (I : InstAt s.heap x ox C od) (hs : findIn K (.ref C) name = some (some (.builtin id)))
    (hb : ∀ self, bindSpecial (.builtin id) self = pure (.builtin id, [self]))
    (h : wpAny M A (call (.builtin id) (.ref x :: args)) (fun v => Q (some v)) E s) : wpAny M A (callSpecialIfBound? (.ref x) name args) Q E s := by
  simp only [callSpecialIfBound?, bindSpecialIfBound?]
  refine wpAny_holding (wpAny_bind (wpAny_bind (wpAny_bind (I.type.here ((looks_findIn X hs).here (wpAny_bind (wpAny_askSetting (wpAny_ite ?_))))))))
  have fin : wpAny M A (call (.builtin id) ([PySem.Value.ref x] ++ args) >>= fun v => pure (some v)) Q E s := wpAny_bind (wpAny_mono h (fun _ _ z => wpAny_pure z) fun _ _ z => z)
  split
  · exact wpAny_bind ((Looks.of_pure (hb _)).here (wpAny_pure fin))
  · exact wpAny_tryCatch (wpAny_bind ((Looks.of_pure (hb _)).here (wpAny_pure fin)))
/-- what object's own != does with an own == -/
theorem objNe {Q : PySem.Value → Shared → Prop} (hu : A.in1.units < cLine) (X : K.In s.heap) (I : InstAt s.heap x ox C od) (hm : mroIn K C (.type "object") = some true) (hs : findIn K (.ref C) "__eq__" = some (some (.ref f))) (hf : isFn K (.ref f) = true)
    (h : wpAny (model prog w) A.in1 (call (.ref f) [.ref x, b]) (NotBack Q) E s) : wpAny (model prog w) A (call (.builtin "object.__ne__") [.ref x, b]) Q E s := by
  refine wpAny_call (codeAny_call_builtin PySem.F.slot_zip_ne.plain PySem.F.cmpEntry_ne (check_slot (i := "object.__ne__") (owner := "object") (n := "__ne__") (by decide +kernel) (by decide +kernel) (I.type.andThen (looks_mroIn X hm)) (PySem.F.cmpArgs_ne _ _) ?_))
  unfold Builtin.«object.__ne__»
  refine wpAny_bind (m := slotArgs "__ne__" 1 _) (wpAny_pure (wpAny_bind (m := cRoomFor _ _) (wpAny_cRoomFor hu ?_)))
  refine wpAny_bind (m := callSpecialIfBound? (.ref x) (Str.ofString "__eq__") _) (ifBound_K X I hs hf (wpAny_mono h (fun r s' hq => ?_) fun _ _ y => y))
  obtain ⟨k, rfl, q⟩ := hq
  repeat (first | exact q | exact wpAny_pure q | exact wpAny_truthy_bool q | (refine wpAny_bind (m := truthy (.bool _)) (wpAny_truthy_bool ?_)) | wp_step)
/-- x != b, x an instance of a class with an own == and no own != -/
theorem ne_own {Q : PySem.Value → Shared → Prop} (hu : A.in1.units < cLine) (hu0 : A.units < cLine) (X : K.In s.heap) (I : InstAt s.heap x ox C od) (hb : Looks (model prog w) s.heap (typeOf b) tb) (hn : notFirst K C tb = true)
    (hm : mroIn K C (.type "object") = some true) (hne : findIn K (.ref C) "__ne__" = some (some (.builtin "object.__ne__"))) (hs : findIn K (.ref C) "__eq__" = some (some (.ref f))) (hf : isFn K (.ref f) = true)
    (h : wpAny (model prog w) A.in1 (call (.ref f) [.ref x, b]) (NotBack Q) E s) : wpAny (model prog w) A (richCompare .NotEq (.ref x) b) Q E s := by
  have one : wpAny (model prog w) A (tryCompare (.ref x) "__ne__" b) (fun r s' => ∃ v, r = some v ∧ Q v s') E s := by
    unfold tryCompare
    refine wpAny_bind (boundSlot X I hne PySem.F.slot_zip_ne.bind (objNe hu X I hm hs hf (wpAny_mono h (fun v s' hv => ?_) fun _ _ e => e)))
    obtain ⟨k, rfl, q⟩ := hv
    exact ⟨k, rfl, wpAny_pure ⟨_, rfl, q⟩⟩
  unfold richCompare
  simp only [oneThing_ref, cmpInfo_NotEq]
  refine wpAny_holding (wpAny_bind (wpAny_cRoomFor hu0 (wpAny_bind (I.type.here (wpAny_bind (hb.here ?_))))))
  split
  · rename_i q
    have e : subIn K tb (.ref C) = some false := (Bool.or_eq_true_iff.mp hn).elim (fun z => by rw [beq_iff_eq.mp z] at q; simp at q) (fun z => beq_iff_eq.mp z)
    refine wpAny_bind ((looks_subIn X e).here ?_)
    simp only [Bool.false_eq_true, if_false]
    exact wpAny_bind (wpAny_mono one (fun r s' ⟨v, e1, z⟩ => by subst e1; exact wpAny_pure z) fun _ _ e => e)
  · refine wpAny_bind (wpAny_pure ?_)
    simp only [Bool.false_eq_true, if_false]
    exact wpAny_bind (wpAny_mono one (fun r s' ⟨v, e1, z⟩ => by subst e1; exact wpAny_pure z) fun _ _ e => e)
end
end K18W
namespace K18
open PySem PySem.Spec PyProof.Rows L2
section
variable {X : Cx} {C g : Addr} {n : Nat} {fd : FuncData} {ps : List Str} {sp : Sp} {pins : List (Addr × Obj)} {σ : L2.St} {H : Hp} {s : Shared} {a : Addr}
/-- x == y, x of the class -/
def rEqMine (K : PySem.W.Frag) (C : Addr) (sp : Sp) : R2 := fun x y H Q => ∃ a t, x = .ref a ∧ Ins H a C ∧ TyX K H y t ∧ PySem.W.notFirst K C t = true ∧ sp [x, y] H Q E0
theorem op_eqMine (hs : PySem.W.findIn X.K (.ref C) "__eq__" = some (some (.ref g))) (hf : PySem.W.isFn X.K (.ref g) = true) (F : FnOk X.prog X.w X.K X.mg X.base CX0 n g fd ps sp) (hr : Room n X.A) (hb : Binds X.K fd ps []) :
    OpR X (compareOp .Eq) (rEqMine X.K C sp) := by
  intro pins s σ H x y v u Q I rx ry h
  obtain ⟨a, t, rfl, ha, ty, hn, q⟩ := h
  cases (show v = Value.ref a from rx)
  obtain ⟨ox, od, J⟩ := ins_look I ha
  obtain ⟨P, Z, hP, _⟩ := kit_of I ry ty
  obtain ⟨m, hF⟩ := I.fr
  show wpAny _ _ (richCompare .Eq (.ref a) u) _ _ _
  refine PySem.W.cmp_K (op := .Eq) hr.units0 hF I.ok.mod.kin J (Z.ty _ _ I.kIn hP) hn hs hf (wpAny_mono (run_below (us := [.ref a, u]) (vs := [.ref a, y]) F hr I.env0 hb I (.cons rfl (.cons ry .nil)) q) (fun w s' z => ?_) fun _ _ x => x)
  obtain ⟨z', H', I', rz, qz⟩ := z
  exact SlX.cmpback rz ⟨z', H', I', rz, qz⟩
/-- x != y, x of the class -/
def rNeMine (K : PySem.W.Frag) (C : Addr) (sp : Sp) : R2 := fun x y H Q => ∃ a t, x = .ref a ∧ Ins H a C ∧ TyX K H y t ∧ PySem.W.notFirst K C t = true ∧ sp [x, y] H (fun v H' => ∃ k, v = .bl k ∧ Q (.bl (!k)) H') E0
theorem op_neMine (hm : PySem.W.mroIn X.K C (.type "object") = some true) (hne : PySem.W.findIn X.K (.ref C) "__ne__" = some (some (.builtin "object.__ne__"))) (hs : PySem.W.findIn X.K (.ref C) "__eq__" = some (some (.ref g)))
    (hf : PySem.W.isFn X.K (.ref g) = true) (F : FnOk X.prog X.w X.K X.mg X.base CX0 n g fd ps sp) (hr : Room (n + 1) X.A) (hb : Binds X.K fd ps []) : OpR X (compareOp .NotEq) (rNeMine X.K C sp) := by
  intro pins s σ H x y v u Q I rx ry h
  obtain ⟨a, t, rfl, ha, ty, hn, q⟩ := h
  cases (show v = Value.ref a from rx)
  obtain ⟨ox, od, J⟩ := ins_look I ha
  obtain ⟨P, Z, hP, _⟩ := kit_of I ry ty
  show wpAny _ _ (richCompare .NotEq (.ref a) u) _ _ _
  refine K18W.ne_own hr.in1.units0 hr.units0 I.kIn J (Z.ty _ _ I.kIn hP) hn hm hne hs hf (wpAny_mono (run_below (us := [.ref a, u]) (vs := [.ref a, y]) F hr.in1 I.env0.in1 hb I (.cons rfl (.cons ry .nil)) q) (fun w s' z => ?_) fun _ _ x => x)
  obtain ⟨z', H', I', rz, k, ek, qz⟩ := z
  subst ek
  cases (show w = Value.bool k from rz)
  exact ⟨k, rfl, .bl (!k), H', I', rfl, qz⟩
end
end K18
/-! # ones, lone, check_backwards -/
namespace K18
open PySem PySem.Spec PyProof.Rows L2 TL NumText RZ
theorem us_tup {K : PySem.W.Frag} {H : Hp} {y : V} {us : List (List (Int × Int))} (h : Tv K H y (usD us)) : ∃ o ws, y = .ref o ∧ SqT K H o ws ∧ ws.length = us.length := by
  unfold usD at h
  cases h with
  | tup e l => exact ⟨_, _, rfl, e, by rw [l.len, List.length_map]⟩
section
variable {P : Program} {w : World} {K : PySem.W.Frag} {mg : Str → Option Value} {base : Heap} {C CS TL : Addr}
abbrev s_ones : Stmt := topS 29
theorem sc_ones : FnScope ["plan", "_"] ["plan"] (defScope s_ones) := ⟨rfl, rfl, rfl, by decide +kernel, rfl, by decide +kernel, by decide +kernel⟩
def spOnes (K : PySem.W.Frag) : Sp := fun vs H Q _ => ∃ (y : V) (us : List (List (Int × Int))), vs = [y] ∧ Tv K H y (usD us) ∧ us.length ≤ 100 ∧ ∀ H' p, Same H H' → H p = none → H' p = some (.tup ((List.replicate us.length (0 : Int)).map V.int)) → Q (.ref p) H'
theorem ok_ones {f : Addr} {fd : FuncData} {k : Nat} (T : Txt mg) (d : D K mg "ones" s_ones ["plan"] f fd) : FnOk P w K mg base CX0 (k + 1) f fd ["plan"] (spOnes K) := by
  refine d.F.ok sc_ones (fun vs H Q E h => ?_) (fun cdv A outer s H vs Q E hr h => ?_)
  · obtain ⟨y, us, rfl, _⟩ := h
    rfl
  · obtain ⟨y, us, rfl, ty, l100, q⟩ := h
    refine ⟨_, (pss_one (ps_ret (pe_tupleOf (by rfl) T.n_tuple (pe_lc (own := [("_", 1)]) (g := gName 1) (tt := tYes) rfl sc_ones.nd (pi_tup (pv 0)) (blkOk_by (own := [("_", 1)]) (N := ["plan", "_"]) (sc := defScope s_ones) (by decide +kernel))
            (fun _ _ _ _ _ => (pg_name (i := 1) sc_ones.nd rfl (Or.inl rfl))) (fun _ _ _ _ _ => pts_nil) (fun _ _ _ _ _ => pe_int))))), ?_⟩
    obtain ⟨o, ws, rfl, eo, lw⟩ := us_tup ty
    refine ⟨_, rfl, o, rfl, ⟨_, eo⟩, fun L nL => ?_⟩
    refine lc_tup (K := K) (a := o) (xs := ws) (fun i Z => Same H Z ∧ Z L = some (.lst ((List.replicate i (0 : Int)).map V.int))) ⟨sub_same nL, upd_same⟩ (fun i Z _ h => sqt_same eo h.1) ?_ ?_
    · rintro i x Z hx ⟨sz, hl⟩
      have il := (List.getElem?_eq_some_iff.mp hx).1
      refine ⟨rfl, yesT ⟨_, hl, ?_, fun b ob e => ?_, ?_⟩⟩
      · rw [List.length_map, List.length_replicate, sizeLine_eq]
        omega
      · rw [upd_ne (fun z => by rw [z, nL] at e; cases e)]
        exact sz _ _ e
      · rw [upd_same, List.replicate_succ', List.map_append]
        rfl
    · rintro Z ⟨sz, hl⟩
      rw [lw] at hl
      exact .inl ⟨L, _, rfl, .inl (.inl hl), fun p np => q _ p (sz.trans (sub_same np)) (sz.free np) upd_same⟩
end
end K18
/-! # divided_by, without a modulus -/
namespace K18
open PySem PySem.Spec PyProof.Rows L2 TL NumText RZ
/-- the numbers behind the first i places -/
def divP (ys : List Int) (us : List (List (Int × Int))) (f : List Int) (i : Nat) : List Int := (List.range i).foldl (fun g j => (us.getD j []).foldl (stepU ys (-(g.getD j 0))) g) f
theorem divP_succ (ys : List Int) (us : List (List (Int × Int))) (f : List Int) (i : Nat) : divP ys us f (i + 1) = (us.getD i []).foldl (stepU ys (-((divP ys us f i).getD i 0))) (divP ys us f i) := by
  unfold divP
  rw [List.range_succ, List.foldl_append]
  rfl
theorem divP_len (ys : List Int) (us : List (List (Int × Int))) (f : List Int) : ∀ i, (divP ys us f i).length = f.length
  | 0 => rfl
  | i + 1 => by rw [divP_succ, stepU_len, divP_len ys us f i]
section
variable {P : Program} {w : World} {K : PySem.W.Frag} {mg : Str → Option Value} {base : Heap} {C CS TL : Addr}
abbrev s_div : Stmt := topS 32
theorem sc_div : FnScope ["plan", "numbers", "other", "modulus", "found", "low", "uses", "number", "at", "high"] ["plan", "numbers", "other", "modulus"] (defScope s_div) := ⟨rfl, rfl, rfl, by decide +kernel, rfl, by decide +kernel, by decide +kernel⟩
def spDiv (K : PySem.W.Frag) : Sp := fun vs H Q _ => ∃ (pln : V) (a b : Addr) (fs ys : List Int) (us : List (List (Int × Int))), vs = [pln, .ref a, .ref b, .int 0] ∧ Tv K H pln (usD us) ∧ H a = some (.lst (fs.map V.int)) ∧ H b = some (.tup (ys.map V.int)) ∧
  fs.length = us.length ∧ ys.length = us.length ∧ us.length ≤ 100 ∧ InR us.length us ∧ (∀ i, i < us.length → ((divP ys us fs i).getD i 0).natAbs < 2 ^ 100000) ∧ (∀ y ∈ ys, y.natAbs < 2 ^ 100000) ∧
  ∀ H' p, Same H H' → H p = none → H' p = some (.tup ((divP ys us fs us.length).map V.int)) → Q (.ref p) H'
theorem ok_div {f : Addr} {fd : FuncData} {k : Nat} (T : Txt mg) (N : Nam mg) (d : D K mg "divided_by" s_div ["plan", "numbers", "other", "modulus"] f fd) : FnOk P w K mg base CX0 (k + 1) f fd ["plan", "numbers", "other", "modulus"] (spDiv K) := by
  refine d.F.ok sc_div (fun vs H Q E h => ?_) (fun cdv A outer s H vs Q E hr h => ?_)
  · obtain ⟨pln, a, b, fs, ys, us, rfl, _⟩ := h
    rfl
  · obtain ⟨pln, a, b, fs, ys, us, rfl, tp, ea, eb, lf, ly, l100, inr, bf, by_, q⟩ := h
    refine ⟨_, (pss_cons (ps_set (i := 4) sc_div.nd rfl (.inl rfl) (pe_callTy call_list_of (by rfl) N.n_list (by decide +kernel) (pa_cons (pv 1) pa_nil)))
      (pss_cons (ps_for PassesOwn.never rfl (pi_enumT (by rfl) N.n_enumerate (pa_cons (pv 0) pa_nil)) (pg_tup rfl (pgs_cons (pg_name (i := 5) sc_div.nd rfl (.inl rfl)) (pgs_cons (pg_name (i := 6) sc_div.nd rfl (.inl rfl)) pgs_nil)))
        (pss_cons (ps_if (pt_truth (pv 3) (fun _ => rfl)) (pss_one (ps_asg (pe_op op_mod (pe_ix ix_list (pv 4) (pv 5) (fun _ _ => rfl)) (pv 3)) (pg_sub (pv 4) (pv 5) set_list))) pss_nil)
      (pss_cons (ps_set (i := 7) sc_div.nd rfl (.inl rfl) (pe_ix ix_list (pv 4) (pv 5) (fun _ _ => rfl)))
      (pss_one (ps_if (pt_truth (pv 7) (fun _ => rfl)) (pss_one (ps_for PassesOwn.never rfl (pi_tup (pv 6)) (pg_tup rfl (pgs_cons (pg_name (i := 8) sc_div.nd rfl (.inl rfl)) (pgs_cons (pg_name (i := 9) sc_div.nd rfl (.inl rfl)) pgs_nil)))
        (pss_one (ps_asg (pe_op op_sub (pe_ix ix_list (pv 4) (pv 8) (fun _ _ => rfl)) (pe_op op_mulW (pv 7) (pe_ix ix_tup (pv 2) (pv 9) (fun _ _ => rfl)))) (pg_sub (pv 4) (pv 8) set_list))))) pss_nil)))))
      (pss_one (ps_ret (pe_tupleOf (by rfl) T.n_tuple (pv 4)))))), ?_⟩
    obtain ⟨o, ws, rfl, eo, tl⟩ : ∃ o ws, pln = .ref o ∧ SqT K H o ws ∧ TvL K H ws (us.map fun u => .tuple (u.map prD)) := by
      unfold usD at tp
      cases tp with
      | tup e l => exact ⟨_, _, rfl, e, l⟩
    have lw : ws.length = us.length := by rw [tl.len, List.length_map]
    refine ⟨_, rfl, a, _, rfl, .inl (.inl (.inl ea)), fun L nL => ?_⟩
    have s1 := sub_same (o := .lst (fs.map V.int)) nL
    refine ⟨_, rfl, o, _, rfl, sqt_same eo s1, ?_⟩
    refine for_it (walk_enumT (K := K) (a := o) (xs := ws)) (fun i σ Y => (∃ y5 y6 y7 y8 y9, σ = [some (.ref o), some (.ref a), some (.ref b), some (.int 0), some (.ref L), y5, y6, y7, y8, y9]) ∧ Same H Y ∧ Y L = some (.lst ((divP ys us fs i).map V.int)))
      ⟨⟨_, _, _, _, _, rfl⟩, s1, upd_same⟩ (fun i σ Y _ h => sqt_same eo h.2.1) ?_ ?_
    · rintro i v σ Y Y' hi ⟨⟨y5, y6, y7, y8, y9, rfl⟩, sy, hy⟩ ⟨Tp, x0, y0, rfl, nT, rfl, ex, ey⟩
      obtain rfl := Option.some.inj ex
      rw [lw] at hi
      obtain ⟨d0, ed, td⟩ := tl.get ey
      rw [List.getElem?_map] at ed
      obtain ⟨u, eu, rfl⟩ := Option.map_eq_some_iff.mp ed
      have gu : us.getD i [] = u := by rw [List.getD_eq_getElem?_getD, eu]; rfl
      have s2 := sub_same (o := .tup [V.int (i : Nat), y0]) nT
      have hy2 := s2 _ _ hy
      have sy2 := sy.trans s2
      have hT : upd Y Tp (.tup [V.int (i : Nat), y0]) Tp = some (.tup [V.int (i : Nat), y0]) := upd_same
      revert hy2 sy2 hT
      generalize upd Y Tp (.tup [V.int (i : Nat), y0]) = Y2
      intro hy2 sy2 hT
      refine ⟨Tp, _, rfl, .inl (.inl hT), rfl, _, _, rfl, _, _, rfl, rfl, ?_⟩
      have lF : (divP ys us fs i).length = us.length := by rw [divP_len, lf]
      have b1 := bf i hi
      rw [divP_succ, gu]
      revert hy2 lF b1
      generalize divP ys us fs i = F
      intro hy2 lF b1
      have iF : i < F.length := by omega
      have g0 : (F.map V.int)[i]? = some (V.int (F.getD i 0)) := by
        rw [List.getElem?_map, List.getD_eq_getElem?_getD, List.getElem?_eq_getElem iF]
        rfl
      refine ⟨_, rfl, _, rfl, ite2 (fun z => absurd z (by decide)) (fun _ => ?_)⟩
      refine ⟨_, rfl, _, rfl, L, _, (i : Int), _, rfl, rfl, .inl (.inl hy2), atI_nat g0, ?_⟩
      refine ⟨_, rfl, _, rfl, ite2 (fun e => ?_) (fun e => ?_)⟩
      · obtain ⟨ou, zs, rfl, eou, tlu⟩ : ∃ ou zs, y0 = .ref ou ∧ SqT K H ou zs ∧ TvL K H zs (u.map prD) := by
          cases td with
          | tup e l => exact ⟨_, _, rfl, e, l⟩
        have lzu : zs.length = u.length := by rw [tlu.len, List.length_map]
        refine ⟨_, rfl, ou, rfl, ⟨zs, sqt_same eou sy2⟩, ?_⟩
        refine for_it (walk_tup (K := K) (a := ou) (xs := zs)) (fun j σ Z => (∃ y8 y9, σ = [some (.ref o), some (.ref a), some (.ref b), some (.int 0), some (.ref L), some (.int (i : Nat)), some (.ref ou), some (.int (F.getD i 0)), y8, y9]) ∧ Same H Z ∧ Z L = some (.lst (((u.take j).foldl (stepU ys (-(F.getD i 0))) F).map V.int)))
          ⟨⟨_, _, rfl⟩, sy2, hy2⟩ (fun j σ Z _ h => sqt_same eou h.2.1) ?_ ?_
        · rintro j v σ Z Z' hj ⟨⟨y8, y9, rfl⟩, sz, hz⟩ ⟨rfl, ev⟩
          obtain ⟨d, ed2, tdv⟩ := tlu.get ev
          rw [List.getElem?_map] at ed2
          obtain ⟨⟨p1, p2⟩, ep, rfl⟩ := Option.map_eq_some_iff.mp ed2
          obtain ⟨pa, rfl, spa⟩ : ∃ pa, v = .ref pa ∧ SqT K H pa [.int p1, .int p2] := by
            unfold prD at tdv
            cases tdv with
            | tup e l =>
              cases l with
              | cons h1 l =>
                cases l with
                | cons h2 l =>
                  cases l
                  cases h1
                  cases h2
                  exact ⟨_, rfl, e⟩
          obtain ⟨⟨a0, a1⟩, c0, c1⟩ := inr u (List.mem_of_getElem? eu) _ (List.mem_of_getElem? ep)
          dsimp only at a0 a1 c0 c1
          obtain ⟨n1, rfl⟩ := Int.eq_ofNat_of_zero_le a0
          obtain ⟨n2, rfl⟩ := Int.eq_ofNat_of_zero_le c0
          have nx2 : (u.take (j + 1)).foldl (stepU ys (-(F.getD i 0))) F = stepU ys (-(F.getD i 0)) ((u.take j).foldl (stepU ys (-(F.getD i 0))) F) ((n1 : Int), (n2 : Int)) := by
            rw [List.take_succ, ep, List.foldl_append]
            rfl
          have lG : ((u.take j).foldl (stepU ys (-(F.getD i 0))) F).length = us.length := by rw [stepU_len, lF]
          rw [nx2]
          revert hz lG
          generalize (u.take j).foldl (stepU ys (-(F.getD i 0))) F = G
          intro hz lG
          have i1 : n1 < G.length := by omega
          have i2 : n2 < ys.length := by omega
          have g1 : (G.map V.int)[n1]? = some (V.int (G.getD n1 0)) := by
            rw [List.getElem?_map, List.getD_eq_getElem?_getD, List.getElem?_eq_getElem i1]
            rfl
          have g2 : (ys.map V.int)[n2]? = some (V.int (ys.getD n2 0)) := by
            rw [List.getElem?_map, List.getD_eq_getElem?_getD, List.getElem?_eq_getElem i2]
            rfl
          have by1 : (ys.getD n2 0).natAbs < 2 ^ 100000 := by
            rw [List.getD_eq_getElem?_getD, List.getElem?_eq_getElem i2]
            exact by_ _ (List.getElem_mem i2)
          have val : G.getD n1 0 - F.getD i 0 * ys.getD n2 0 = G.getD n1 0 + -(F.getD i 0) * ys.getD n2 0 := by rw [Int.neg_mul]; rfl
          have hst : (G.set n1 (G.getD n1 0 - F.getD i 0 * ys.getD n2 0)).map V.int = (G.map V.int).set n1 (V.int (G.getD n1 0 - F.getD i 0 * ys.getD n2 0)) := by rw [List.map_set]
          refine ⟨pa, _, rfl, sqt_same spa sz, rfl, _, _, rfl, _, _, rfl, rfl, ?_⟩
          refine ⟨_, rfl, _, rfl, L, _, (n1 : Int), _, rfl, rfl, .inl (.inl hz), atI_nat g1, ?_⟩
          refine ⟨_, rfl, _, rfl, _, rfl, b, _, (n2 : Int), _, rfl, rfl, sqt_same (sqt_new eb) sz, atI_nat g2, ?_⟩
          refine ⟨_, _, rfl, rfl, wide_mul b1 by1 (by decide) (by decide) (by decide), _, _, rfl, rfl, ?_⟩
          refine ⟨_, rfl, _, rfl, L, _, (n1 : Int), n1, rfl, rfl, hz, ixN_at (by rw [List.length_map]; exact i1), ⟨_, _, rfl⟩, fun k ob e => ?_, ?_⟩
          · rw [upd_ne (fun z => by rw [z, nL] at e; cases e)]
            exact sz _ _ e
          · rw [upd_same, ← hst, val]
            rfl
        · rintro σ Z ⟨⟨y8, y9, rfl⟩, sz, hz⟩
          rw [lzu, List.take_length] at hz
          exact ⟨⟨_, _, _, _, _, rfl⟩, sz, hz⟩
      · have hx : F.getD i 0 = 0 := Decidable.byContradiction fun z => e (bne_iff_ne.mpr z)
        rw [hx]
        show _ ∧ _ ∧ Y2 L = some (.lst ((u.foldl (stepU ys (-0)) F).map V.int))
        rw [show (-0 : Int) = 0 from rfl, stepU_zero]
        exact ⟨⟨_, _, _, _, _, rfl⟩, sy2, hy2⟩
    · rintro σ Y ⟨⟨y5, y6, y7, y8, y9, rfl⟩, sy, hy⟩
      rw [lw] at hy
      exact ⟨_, rfl, .inl ⟨L, _, rfl, .inl (.inl hy), fun p np => q _ p (sy.trans (sub_same np)) (sy.free np) upd_same⟩⟩
end
end K18
/-! # undone, ~ -/
namespace K18
open PySem PySem.Spec PyProof.Rows L2 TL NumText RZ
/-- the numbers of what undoes it -/
def undL (ys : List Int) (us : List (List (Int × Int))) : List Int := divP ys us (ys.map fun y => -y) us.length
section
variable {P : Program} {w : World} {K : PySem.W.Frag} {mg : Str → Option Value} {base : Heap} {C CS TL : Addr}
abbrev s_und : Stmt := topS 33
theorem sc_und : FnScope ["plan", "numbers", "modulus", "number"] ["plan", "numbers", "modulus"] (defScope s_und) := ⟨rfl, rfl, rfl, by decide +kernel, rfl, by decide +kernel, by decide +kernel⟩
def UndOk (ys : List Int) (us : List (List (Int × Int))) : Prop := ∀ i, i < us.length → ((divP ys us (ys.map fun y => -y) i).getD i 0).natAbs < 2 ^ 100000
def spUnd (K : PySem.W.Frag) : Sp := fun vs H Q _ => ∃ (pln : V) (b : Addr) (ys : List Int) (us : List (List (Int × Int))), vs = [pln, .ref b, .int 0] ∧ Tv K H pln (usD us) ∧ H b = some (.tup (ys.map V.int)) ∧
  ys.length = us.length ∧ us.length ≤ 100 ∧ InR us.length us ∧ UndOk ys us ∧ (∀ y ∈ ys, y.natAbs < 2 ^ 100000) ∧ ∀ H' p, Same H H' → H p = none → H' p = some (.tup ((undL ys us).map V.int)) → Q (.ref p) H'
/-- the rule for a def of three parameters with a default -/
def BodyU (P : Program) (w : World) (K : PySem.W.Frag) (mg : Str → Option Value) (base : Heap) (f : Addr) (fd : FuncData) : Prop := ∀ (sp : Sp) (j : Nat), (∀ vs H Q E, sp vs H Q E → vs.length = 3) →
  (∀ (cdv : Value) (A : Around) (outer : List Env) (s : Shared) (H : Hp) (vs : List V) (Q : VK) (E : XK), Room j (A.deeper (envOfC "undone" (defScope s_und) s.heap.objs.size f cdv)) → sp vs H Q E →
    ∃ t, PSs (cxOf CX0 P w K mg base ["plan", "numbers", "modulus", "number"] "undone" (defScope s_und) f cdv A outer s H E).nox (defBody s_und) t ∧ t { nx := fun _ H' => Q .non H', rt := Q } (L2.start ["plan", "numbers", "modulus", "number"] vs) H) →
  FnOk P w K mg base CX0 (j + 1) f fd ["plan", "numbers", "modulus"] sp
theorem ok_und {f f1 : Addr} {fd fd1 : FuncData} (body : BodyU P w K mg base f fd) (d1 : D K mg "divided_by" s_div ["plan", "numbers", "other", "modulus"] f1 fd1) (G1 : FnOk P w K mg base CX0 1 f1 fd1 ["plan", "numbers", "other", "modulus"] (spDiv K)) : FnOk P w K mg base CX0 2 f fd ["plan", "numbers", "modulus"] (spUnd K) := by
  refine body (spUnd K) 1 (fun vs H Q E h => ?_) (fun cdv A outer s H vs Q E hr h => ?_)
  · obtain ⟨pln, b, ys, us, rfl, _⟩ := h
    rfl
  · obtain ⟨pln, b, ys, us, rfl, tp, eb, ly, l100, inr, bf, by_, q⟩ := h
    refine ⟨_, (pss_one (ps_ret (pe_call G1 hr (by rfl) d1.g d1.F.kp d1.b .nil pass0 (pa_cons (pv 0) (pa_cons (pe_lc (own := [("number", 3)]) (g := gName 3) (tt := tYes) rfl sc_und.nd (pi_tup (pv 1)) (blkOk_by (own := [("number", 3)]) (N := ["plan", "numbers", "modulus", "number"]) (sc := defScope s_und) (by decide +kernel))
            (fun _ _ _ _ _ => (pg_name (i := 3) sc_und.nd rfl (Or.inl rfl))) (fun _ _ _ _ _ => pts_nil) (fun _ _ _ _ _ => (pe_un un_neg (pv 3)))) (pa_cons (pv 1) (pa_cons (pv 2) pa_nil))))))), ?_⟩
    refine ⟨_, rfl, _, rfl, b, rfl, ⟨_, sqt_new eb⟩, fun L nL => ?_⟩
    refine lc_tup (K := K) (a := b) (xs := ys.map V.int) (fun i Z => Same H Z ∧ Z L = some (.lst (((ys.take i).map fun y => -y).map V.int))) ⟨sub_same nL, upd_same⟩ (fun i Z _ h => sqt_same (sqt_new eb) h.1) ?_ ?_
    · rintro i x Z hx ⟨sz, hl⟩
      obtain ⟨y, ey, rfl⟩ := int_at hx
      have il := (List.getElem?_eq_some_iff.mp ey).1
      refine ⟨rfl, yesT ⟨_, rfl, _, rfl, _, hl, ?_, fun b ob e => ?_, ?_⟩⟩
      · rw [List.length_map, List.length_map, List.length_take, sizeLine_eq]
        omega
      · rw [upd_ne (fun z => by rw [z, nL] at e; cases e)]
        exact sz _ _ e
      · rw [upd_same, List.take_succ, ey, List.map_append, List.map_append]
        rfl
    · rintro Z ⟨sz, hl⟩
      rw [List.length_map, List.take_length] at hl
      exact ⟨_, rfl, _, rfl, pln, L, b, _, ys, us, rfl, tp.same sz, hl, sz _ _ eb, by rw [List.length_map, ly], ly, l100, inr, bf, by_, fun H' p s n e => q H' p (sz.trans s) (sz.free n) e⟩
end
end K18
/-! # the law: times -/
namespace K18
open PySem PySem.Spec PyProof.Rows L2 TL NumText RZ
def Wd (n : Int) : Prop := n.natAbs < 2 ^ 100000
def WdN (num : Tri → Int) (ns : List Int) : Prop := ∀ t ∈ pl ns, Wd (num t)
end K18
/-! # the algebra of products: brackets may be moved; bounds -/
namespace K18
open PySem PySem.Spec PyProof.Rows L2 TL NumText RZ
def sumR (n : Nat) (f : Nat → Int) : Int := ((List.range n).map f).sum
theorem sumR_succ (n : Nat) (f : Nat → Int) : sumR (n + 1) f = sumR n f + f n := by
  unfold sumR
  rw [List.range_succ, List.map_append, List.sum_append]
  show _ + (f n + 0) = _
  rw [Int.add_zero]
theorem sumR_zero (n : Nat) : sumR n (fun _ => 0) = 0 := by
  induction n with
  | zero => rfl
  | succ n ih => rw [sumR_succ, ih]; rfl
theorem sumR_add (n : Nat) (f g : Nat → Int) : sumR n (fun k => f k + g k) = sumR n f + sumR n g := by
  induction n with
  | zero => rfl
  | succ n ih => rw [sumR_succ, sumR_succ, sumR_succ, ih]; omega
theorem sumR_congr {n : Nat} {f g : Nat → Int} (h : ∀ k, k < n → f k = g k) : sumR n f = sumR n g := by
  unfold sumR
  rw [List.map_congr_left fun k hk => h k (List.mem_range.mp hk)]
theorem sumR_mul (n : Nat) (f : Nat → Int) (c : Int) : sumR n f * c = sumR n fun k => f k * c := by
  induction n with
  | zero => exact Int.zero_mul c
  | succ n ih => rw [sumR_succ, sumR_succ, Int.add_mul, ih]
theorem mul_sumR (n : Nat) (f : Nat → Int) (c : Int) : c * sumR n f = sumR n fun k => c * f k := by
  induction n with
  | zero => exact Int.mul_zero c
  | succ n ih => rw [sumR_succ, sumR_succ, Int.mul_add, ih]
theorem sumR_swap (n m : Nat) (f : Nat → Nat → Int) : (sumR n fun k => sumR m fun l => f l k) = sumR m fun l => sumR n fun k => f l k := by
  induction n with
  | zero => exact (sumR_zero m).symm
  | succ n ih =>
    rw [sumR_succ, ih, ← sumR_add]
    exact sumR_congr fun l _ => (sumR_succ n (fun k => f l k)).symm
theorem rowCol_sum (num num2 : Tri → Int) (b : Int) {s i c : Nat} (hi : i < s) (hc : c < s) : tabE (mulN num num2) b (i : Int) (c : Int) = sumR s fun a => tabE num b (i : Int) (a : Int) * tabE num2 b (a : Int) (c : Int) := (rowCol_eq num num2 b hi hc).symm
theorem mul_assocE (x y z : Tri → Int) (b : Int) {s i j : Nat} (hi : i < s) (hj : j < s) : tabE (mulN (mulN x y) z) b (i : Int) (j : Int) = tabE (mulN x (mulN y z)) b (i : Int) (j : Int) := by
  rw [rowCol_sum _ _ b hi hj, rowCol_sum _ _ b hi hj]
  have e1 : (sumR s fun k => tabE (mulN x y) b (i : Int) (k : Int) * tabE z b (k : Int) (j : Int)) = sumR s fun k => sumR s fun l => tabE x b (i : Int) (l : Int) * tabE y b (l : Int) (k : Int) * tabE z b (k : Int) (j : Int) :=
    sumR_congr fun k hk => by rw [rowCol_sum x y b hi hk, sumR_mul]
  have e2 : (sumR s fun l => tabE x b (i : Int) (l : Int) * tabE (mulN y z) b (l : Int) (j : Int)) = sumR s fun l => sumR s fun k => tabE x b (i : Int) (l : Int) * tabE y b (l : Int) (k : Int) * tabE z b (k : Int) (j : Int) :=
    sumR_congr fun l hl => by
      rw [rowCol_sum y z b hl hj, mul_sumR]
      exact sumR_congr fun k _ => (Int.mul_assoc ..).symm
  rw [e1, e2]
  exact sumR_swap s s fun l k => tabE x b (i : Int) (l : Int) * tabE y b (l : Int) (k : Int) * tabE z b (k : Int) (j : Int)
/-- brackets may be moved -/
theorem mul_assocN {ns : List Int} (S : Shp ns) (x y z : Tri → Int) : numsL (mulN (mulN x y) z) ns = numsL (mulN x (mulN y z)) ns := by
  refine List.map_congr_left fun t m => ?_
  obtain ⟨b, i, j, rfl, hb, ij, hj⟩ := pl_mem S m
  have e := mul_assocE x y z (b : Int) (s := j + 1) (i := i) (j := j) (by omega) (by omega)
  rwa [tabE_lt (by omega), tabE_lt (by omega)] at e
/-- a product asks of its factors only the numbers at the places -/
theorem mul_congr {ns : List Int} (S : Shp ns) {x x2 y y2 : Tri → Int} (h : ∀ t ∈ pl ns, x t = x2 t) (k : ∀ t ∈ pl ns, y t = y2 t) {t : Tri} (m : t ∈ pl ns) : mulN x y t = mulN x2 y2 t := by
  unfold mulN
  rw [h t m, k t m]
  congr 2
  refine List.map_congr_left fun d hd => ?_
  obtain ⟨m1, m2⟩ := mid_mem S m (List.mem_range.mp hd)
  rw [h _ m1, k _ m2]
theorem sum_none (n : Nat) (f : Nat → Int) (h : ∀ d, f d = 0) : ((List.range n).map f).sum = 0 := sum_zero f n fun d _ => h d
theorem mul_one_l (x : Tri → Int) (t : Tri) : mulN (fun _ => 0) x t = x t := by
  unfold mulN
  rw [sum_none _ _ fun d => Int.zero_mul _]
  show (0 : Int) + x t + 0 = x t
  omega
theorem mul_one_r (x : Tri → Int) (t : Tri) : mulN x (fun _ => 0) t = x t := by
  unfold mulN
  rw [sum_none _ _ fun d => Int.mul_zero _]
  show x t + (0 : Int) + 0 = x t
  omega
theorem tables11 : ∀ ns ∈ shapesL, ∀ u ∈ pl ns, ((List.range (u.2.2 - u.2.1 - 1).toNat).all fun d => decide ((pl ns).idxOf (midP u d).1 < (pl ns).idxOf u) && decide ((pl ns).idxOf (midP u d).2 < (pl ns).idxOf u)) = true := by decide +kernel
theorem mid_idx {ns : List Int} (S : Shp ns) {u : Tri} (hu : u ∈ pl ns) {d : Nat} (hd : d < (u.2.2 - u.2.1 - 1).toNat) : (pl ns).idxOf (midP u d).1 < (pl ns).idxOf u ∧ (pl ns).idxOf (midP u d).2 < (pl ns).idxOf u := by
  have y := List.all_eq_true.mp (tables11 ns (shp_mem S) u hu) d (List.mem_range.mpr hd)
  rw [Bool.and_eq_true] at y
  exact ⟨of_decide_eq_true y.1, of_decide_eq_true y.2⟩
/-- the same numbers at the places -/
def EqN (ns : List Int) (x y : Tri → Int) : Prop := ∀ t ∈ pl ns, x t = y t
theorem EqN.trans {ns : List Int} {x y z : Tri → Int} (a : EqN ns x y) (b : EqN ns y z) : EqN ns x z := fun t m => (a t m).trans (b t m)
theorem EqN.symm {ns : List Int} {x y : Tri → Int} (a : EqN ns x y) : EqN ns y x := fun t m => (a t m).symm
theorem EqN.rfl' {ns : List Int} {x : Tri → Int} : EqN ns x x := fun _ _ => rfl
theorem EqN.mul {ns : List Int} (S : Shp ns) {x x2 y y2 : Tri → Int} (a : EqN ns x x2) (b : EqN ns y y2) : EqN ns (mulN x y) (mulN x2 y2) := fun t m => mul_congr S a b m
theorem EqN.assoc {ns : List Int} (S : Shp ns) (x y z : Tri → Int) : EqN ns (mulN (mulN x y) z) (mulN x (mulN y z)) := fun t m => List.map_inj_left.mp (mul_assocN S x y z) t m
theorem pl_lt {ns : List Int} (S : Shp ns) {t : Tri} (m : t ∈ pl ns) : t.2.1 < t.2.2 := ((tables3 ns (shp_mem S)).2.2 t m).2.1.2.1
/-- the distance of a place -/
def dd (u : Tri) : Nat := (u.2.2 - u.2.1).toNat
theorem tables12 : ∀ ns ∈ shapesL, (pl ns).length ≤ 16 ∧ ∀ t ∈ pl ns, 1 ≤ dd t ∧ dd t ≤ 5 := by decide +kernel
def WtB (c : Nat) (F : Tri → Int) (ns : List Int) : Prop := ∀ u ∈ pl ns, (F u).natAbs ≤ c ^ dd u
theorem dd_mid {u : Tri} {d : Nat} (hd : d < (u.2.2 - u.2.1 - 1).toNat) : dd (midP u d).1 + dd (midP u d).2 = dd u := by
  unfold dd midP
  dsimp only
  omega
theorem wt_mul {ns : List Int} (S : Shp ns) {c : Nat} {F G : Tri → Int} (hf : WtB c F ns) (hg : WtB c G ns) : WtB (2 * c) (mulN F G) ns := fun u m => by
  have lt := pl_lt S m
  have z := sum_abs (fun d => F (midP u d).1 * G (midP u d).2) (c ^ dd u) ((u.2.2 - u.2.1 - 1).toNat) fun d hd => by
    have h1 := hf _ (mid_mem S m hd).1
    have h2 := hg _ (mid_mem S m hd).2
    show (F (midP u d).1 * G (midP u d).2).natAbs ≤ _
    rw [Int.natAbs_mul, ← dd_mid hd, Nat.pow_add]
    exact Nat.mul_le_mul h1 h2
  have a := hf u m
  have b := hg u m
  have e : (u.2.2 - u.2.1 - 1).toNat + 1 = dd u := by
    unfold dd
    omega
  have p : dd u + 1 ≤ 2 ^ dd u := Nat.lt_two_pow_self
  have un : mulN F G u = F u + G u + ((List.range (u.2.2 - u.2.1 - 1).toNat).map fun d => F (midP u d).1 * G (midP u d).2).sum := rfl
  have q := Nat.mul_le_mul_right (c ^ dd u) p
  rw [Nat.mul_pow, un]
  refine Nat.le_trans ?_ q
  have e2 : (dd u + 1) * c ^ dd u = (u.2.2 - u.2.1 - 1).toNat * c ^ dd u + c ^ dd u + c ^ dd u := by rw [← Nat.succ_mul, Nat.succ_eq_add_one, e, ← Nat.succ_mul]
  rw [e2]
  revert z a b
  generalize (u.2.2 - u.2.1 - 1).toNat * c ^ dd u = X
  generalize c ^ dd u = Y
  intro z a b
  omega
theorem wt_up {ns : List Int} {c c2 : Nat} {F : Tri → Int} (h : WtB c F ns) (l : c ≤ c2) : WtB c2 F ns := fun u m => Nat.le_trans (h u m) (Nat.pow_le_pow_left l _)
theorem le_dd {ns : List Int} (S : Shp ns) {c : Nat} (c1 : 1 ≤ c) {t : Tri} (m : t ∈ pl ns) : c ≤ c ^ dd t := by
  have d1 := ((tables12 ns (shp_mem S)).2 t m).1
  calc c = c ^ 1 := (Nat.pow_one c).symm
    _ ≤ c ^ dd t := Nat.pow_le_pow_right c1 d1
end K18
/-! # binomials -/
namespace K18
open PySem PySem.Spec PyProof.Rows L2 TL NumText RZ
/-! ### binomials of integers of any sign -/
def cN : Nat → Nat → Nat
  | _, 0 => 1
  | 0, _ + 1 => 0
  | n + 1, k + 1 => cN n k + cN n (k + 1)
theorem cN_zero (n : Nat) : cN n 0 = 1 := by cases n <;> rfl
theorem cN_lt : ∀ (n k : Nat), n < k → cN n k = 0
  | 0, 0, h => absurd h (by omega)
  | 0, k + 1, _ => rfl
  | n + 1, 0, h => absurd h (by omega)
  | n + 1, k + 1, h => by
    show cN n k + cN n (k + 1) = 0
    rw [cN_lt n k (by omega), cN_lt n (k + 1) (by omega)]
theorem cN_self : ∀ n : Nat, cN n n = 1
  | 0 => rfl
  | n + 1 => by
    show cN n n + cN n (n + 1) = 1
    rw [cN_self n, cN_lt n (n + 1) (by omega)]
/-- 1 or -1 -/
def sg (k : Nat) : Int := if k % 2 = 0 then 1 else -1
theorem sg_succ (k : Nat) : sg (k + 1) = - sg k := by
  unfold sg
  by_cases h : k % 2 = 0
  · rw [if_pos h, if_neg (by omega)]
  · rw [if_neg h, if_pos (by omega)]
    rfl
def bi (n : Int) (k : Nat) : Int := if 0 ≤ n then (cN n.toNat k : Int) else sg k * (cN (k + (-n - 1).toNat) k : Int)
theorem bi_zero (n : Int) : bi n 0 = 1 := by
  unfold bi
  rw [cN_zero, cN_zero]
  by_cases h : 0 ≤ n
  · rw [if_pos h]; rfl
  · rw [if_neg h]; rfl
theorem bi_lt {n : Int} {k : Nat} (h0 : 0 ≤ n) (h : n < k) : bi n k = 0 := by
  unfold bi
  rw [if_pos h0, cN_lt _ _ (by omega)]
  rfl
theorem bi_pascal (n : Int) (k : Nat) : bi (n + 1) (k + 1) = bi n k + bi n (k + 1) := by
  unfold bi
  by_cases h : 0 ≤ n
  · rw [if_pos h, if_pos h, if_pos (by omega)]
    have e : (n + 1).toNat = n.toNat + 1 := by omega
    rw [e]
    show ((cN n.toNat k + cN n.toNat (k + 1) : Nat) : Int) = _
    rw [Int.natCast_add]
  · rw [if_neg h, if_neg h]
    by_cases h1 : 0 ≤ n + 1
    · have hn : n = -1 := by omega
      subst hn
      rw [if_pos h1]
      show ((cN 0 (k + 1) : Nat) : Int) = sg k * (cN (k + 0) k : Int) + sg (k + 1) * (cN (k + 1 + 0) (k + 1) : Int)
      rw [cN_lt 0 (k + 1) (by omega), Nat.add_zero, Nat.add_zero, cN_self, cN_self, sg_succ]
      omega
    · rw [if_neg h1]
      obtain ⟨m, hm⟩ : ∃ m : Nat, (-n - 1).toNat = m + 1 := ⟨(-n - 2).toNat, by omega⟩
      have hm2 : (-(n + 1) - 1).toNat = m := by omega
      rw [hm, hm2]
      have e1 : k + 1 + (m + 1) = (k + 1 + m) + 1 := by omega
      have e2 : k + (m + 1) = k + 1 + m := by omega
      rw [e1, e2]
      show sg (k + 1) * ((cN (k + 1 + m) (k + 1) : Nat) : Int) = sg k * (cN (k + 1 + m) k : Int) + sg (k + 1) * ((cN (k + 1 + m) k + cN (k + 1 + m) (k + 1) : Nat) : Int)
      rw [Int.natCast_add, sg_succ, Int.mul_add]
      rw [Int.neg_mul, Int.neg_mul]
      omega
theorem int_const {g : Int → Int} (h : ∀ n, g (n + 1) = g n) : ∀ n, g n = g 0 := by
  have up : ∀ m : Nat, g (m : Int) = g 0 := by
    intro m
    induction m with
    | zero => rfl
    | succ m ih =>
      rw [Int.natCast_succ, h, ih]
  have dn : ∀ m : Nat, g (-(m : Int)) = g 0 := by
    intro m
    induction m with
    | zero => rfl
    | succ m ih =>
      rw [← ih, ← h (-((m + 1 : Nat) : Int))]
      congr 1
      omega
  intro n
  by_cases hn : 0 ≤ n
  · have e : n = ((n.toNat : Nat) : Int) := by omega
    rw [e]
    exact up _
  · have e : n = -(((-n).toNat : Nat) : Int) := by omega
    rw [e]
    exact dn _
theorem bi_step : ∀ (k : Nat) (n : Int), ((k : Int) + 1) * bi n (k + 1) = (n - k) * bi n k := by
  intro k
  induction k with
  | zero =>
    intro n
    have key : ∀ n, (fun n => bi n 1 - n) n = (fun n => bi n 1 - n) 0 := int_const fun n => by
      show bi (n + 1) (0 + 1) - (n + 1) = bi n (0 + 1) - n
      rw [bi_pascal, bi_zero]
      omega
    have e := key n
    have z : bi 0 1 = 0 := bi_lt (by omega) (by decide)
    dsimp only at e
    rw [z] at e
    rw [bi_zero]
    show (0 + 1) * bi n 1 = (n - 0) * 1
    omega
  | succ j ih =>
    intro n
    have key : ∀ n, (fun n => ((j : Int) + 1 + 1) * bi n (j + 1 + 1) - (n - (j + 1)) * bi n (j + 1)) n = (fun n => ((j : Int) + 1 + 1) * bi n (j + 1 + 1) - (n - (j + 1)) * bi n (j + 1)) 0 := int_const fun n => by
      show ((j : Int) + 1 + 1) * bi (n + 1) (j + 1 + 1) - (n + 1 - (j + 1)) * bi (n + 1) (j + 1) = ((j : Int) + 1 + 1) * bi n (j + 1 + 1) - (n - (j + 1)) * bi n (j + 1)
      have i := ih n
      rw [bi_pascal, bi_pascal]
      generalize bi n (j + 1 + 1) = x at *
      generalize bi n (j + 1) = y at *
      generalize bi n j = z at *
      have e1 : ((j : Int) + 1 + 1) * (y + x) = ((j : Int) + 1) * y + y + ((j : Int) + 1 + 1) * x := by
        rw [Int.mul_add, Int.add_mul ((j : Int) + 1) 1 y, Int.one_mul]
      have e2 : (n + 1 - ((j : Int) + 1)) * (z + y) = (n - j) * z + (n - ((j : Int) + 1)) * y + y := by
        have a : n + 1 - ((j : Int) + 1) = n - j := by omega
        have b : n - ((j : Int) + 1) = n - j - 1 := by omega
        rw [a, b, Int.mul_add, Int.sub_mul (n - j) 1 y, Int.one_mul]
        omega
      rw [e1, e2, i]
      omega
    have e := key n
    have z1 : bi 0 (j + 1 + 1) = 0 := bi_lt (by omega) (by omega)
    have z2 : bi 0 (j + 1) = 0 := bi_lt (by omega) (by omega)
    dsimp only at e
    rw [z1, z2, Int.mul_zero, Int.mul_zero] at e
    have c : (((j + 1 : Nat) : Int)) = (j : Int) + 1 := rfl
    rw [c]
    omega
theorem bi_next (k : Nat) (n : Int) : bi n k * (n - k) / ((k : Int) + 1) = bi n (k + 1) := by
  rw [Int.mul_comm (bi n k), ← bi_step, Int.mul_ediv_cancel_left _ (by omega)]
end K18
/-! # powers by binomials; what undoes -/
namespace K18
open PySem PySem.Spec PyProof.Rows L2 TL NumText RZ
/-- a product without its factors alone -/
def btN (F G : Tri → Int) (t : Tri) : Int := sumR (t.2.2 - t.2.1 - 1).toNat fun d => F (midP t d).1 * G (midP t d).2
theorem mul_btN (F G : Tri → Int) (t : Tri) : mulN F G t = F t + G t + btN F G t := rfl
theorem btN_congr {ns : List Int} (S : Shp ns) {F F2 G G2 : Tri → Int} (a : EqN ns F F2) (b : EqN ns G G2) : EqN ns (btN F G) (btN F2 G2) := fun t m => sumR_congr fun d hd => by
  obtain ⟨m1, m2⟩ := mid_mem S m hd
  rw [a _ m1, b _ m2]
theorem btN_smul_l (c : Int) (F H : Tri → Int) (t : Tri) : btN (fun u => c * F u) H t = c * btN F H t := by
  unfold btN
  rw [mul_sumR]
  exact sumR_congr fun d _ => Int.mul_assoc ..
theorem btN_sum_l (n : Nat) (f : Nat → Tri → Int) (H : Tri → Int) (t : Tri) : btN (fun u => sumR n fun k => f k u) H t = sumR n fun k => btN (f k) H t := by
  unfold btN
  have e : (sumR (t.2.2 - t.2.1 - 1).toNat fun d => (sumR n fun k => f k (midP t d).1) * H (midP t d).2) = sumR (t.2.2 - t.2.1 - 1).toNat fun d => sumR n fun k => f k (midP t d).1 * H (midP t d).2 := sumR_congr fun d _ => sumR_mul ..
  rw [e]
  exact sumR_swap _ _ fun k d => f k (midP t d).1 * H (midP t d).2
theorem sumR_front (n : Nat) (f : Nat → Int) : sumR (n + 1) f = f 0 + sumR n fun k => f (k + 1) := by
  induction n with
  | zero => rw [sumR_succ]; show (0 : Int) + f 0 = f 0 + 0; omega
  | succ n ih => rw [sumR_succ, ih, sumR_succ]; omega
theorem dd1 {ns : List Int} (S : Shp ns) {t : Tri} (m : t ∈ pl ns) : 1 ≤ dd t := ((tables12 ns (shp_mem S)).2 t m).1
theorem dd5 {ns : List Int} (S : Shp ns) {t : Tri} (m : t ∈ pl ns) : dd t ≤ 5 := ((tables12 ns (shp_mem S)).2 t m).2
/-- the powers of what stands beside one -/
def nP (F : Tri → Int) : Nat → Tri → Int
  | 0 => F
  | k + 1 => btN (nP F k) F
theorem nP_zero {ns : List Int} (S : Shp ns) (F : Tri → Int) : ∀ (k : Nat) (t : Tri), t ∈ pl ns → dd t ≤ k → nP F k t = 0
  | 0, t, m, h => by
    have := dd1 S m
    omega
  | k + 1, t, m, h => by
    refine sum_zero _ _ fun d hd => ?_
    obtain ⟨m1, m2⟩ := mid_mem S m hd
    have e := dd_mid hd
    have := dd1 S m2
    show nP F k (midP t d).1 * F (midP t d).2 = 0
    rw [nP_zero S F k _ m1 (by omega), Int.zero_mul]
theorem nP_congr {ns : List Int} (S : Shp ns) {F G : Tri → Int} (e : EqN ns F G) : ∀ k, EqN ns (nP F k) (nP G k)
  | 0 => e
  | k + 1 => btN_congr S (nP_congr S e k) e
def powZ (F : Tri → Int) (n : Int) (t : Tri) : Int := sumR 6 fun k => bi n (k + 1) * nP F k t
theorem pz_congr {ns : List Int} (S : Shp ns) {F G : Tri → Int} (e : EqN ns F G) (n : Int) : EqN ns (powZ F n) (powZ G n) := fun t m => sumR_congr fun k _ => by rw [nP_congr S e k t m]
theorem pz_zero (F : Tri → Int) (t : Tri) : powZ F 0 t = 0 := by
  unfold powZ
  refine (sumR_congr (g := fun _ => 0) fun k _ => ?_).trans (sumR_zero 6)
  rw [bi_lt (by omega) (by omega), Int.zero_mul]
theorem pz_succ {ns : List Int} (S : Shp ns) (F : Tri → Int) (a : Int) : EqN ns (powZ F (a + 1)) (mulN (powZ F a) F) := fun t m => by
  have h1 : powZ F (a + 1) t = sumR 6 (fun k => bi a k * nP F k t) + powZ F a t := by
    unfold powZ
    rw [← sumR_add]
    exact sumR_congr fun k _ => by rw [bi_pascal, Int.add_mul]
  have h2 : sumR 6 (fun k => bi a k * nP F k t) = F t + sumR 5 fun k => bi a (k + 1) * nP F (k + 1) t := by
    rw [sumR_front, bi_zero, Int.one_mul]
    rfl
  have h3 : btN (powZ F a) F t = sumR 6 fun k => bi a (k + 1) * nP F (k + 1) t := by
    unfold powZ
    rw [btN_sum_l]
    exact sumR_congr fun k _ => btN_smul_l ..
  have h4 : sumR 6 (fun k => bi a (k + 1) * nP F (k + 1) t) = sumR 5 fun k => bi a (k + 1) * nP F (k + 1) t := by
    rw [sumR_succ, nP_zero S F 6 t m (by have := dd5 S m; omega), Int.mul_zero, Int.add_zero]
  rw [mul_btN, h1, h2, h3, h4]
  omega
theorem m1l {ns : List Int} {x : Tri → Int} : EqN ns (mulN (fun _ => 0) x) x := fun u _ => mul_one_l x u
theorem m1r {ns : List Int} {x : Tri → Int} : EqN ns (mulN x (fun _ => 0)) x := fun u _ => mul_one_r x u
theorem pz_one {ns : List Int} (S : Shp ns) (F : Tri → Int) : EqN ns (powZ F 1) F := by
  have z : EqN ns (powZ F 0) (fun _ => 0) := fun t _ => pz_zero F t
  exact ((pz_succ S F 0).trans (EqN.mul S z EqN.rfl')).trans m1l
/-! ### numbers divided by a stair -/
def gD (N F : Tri → Int) (ns : List Int) : Tri → Int := fun u => (divP (numsL F ns) (usL ns) (numsL N ns) ((pl ns).idxOf u)).getD ((pl ns).idxOf u) 0
theorem nums_at {F : Tri → Int} {ns : List Int} {t : Tri} (m : t ∈ pl ns) : (numsL F ns).getD ((pl ns).idxOf t) 0 = F t := by
  unfold numsL
  rw [List.getD_eq_getElem?_getD, List.getElem?_map, at_idx m]
  rfl
def usesAt (ns : List Int) (t : Tri) (l : List Tri) : List (Tri × Tri) := l.flatMap fun u => ((useT ns u).filter fun p => p.1 == t).map fun p => (u, p.2)
theorem us_at {ns : List Int} {i : Nat} {u : Tri} (e : (pl ns)[i]? = some u) : (usL ns).getD i [] = (useT ns u).map fun p => (ix ns p.1, ix ns p.2) := by
  unfold usL
  rw [List.getD_eq_getElem?_getD, List.getElem?_map, e, ← useP_T]
  rfl
theorem div_at {ns : List Int} (S : Shp ns) (N F : Tri → Int) {t : Tri} (ht : t ∈ pl ns) : ∀ i, i ≤ (pl ns).length → (divP (numsL F ns) (usL ns) (numsL N ns) i).getD ((pl ns).idxOf t) 0 = N t + ((usesAt ns t ((pl ns).take i)).map fun c => -(gD N F ns c.1) * (numsL F ns).getD ((pl ns).idxOf c.2) 0).sum
  | 0, _ => by
    show (numsL N ns).getD _ 0 = N t + 0
    rw [nums_at ht, Int.add_zero]
  | i + 1, hi => by
    have il : i < (pl ns).length := by omega
    have et : (pl ns)[i]? = some (pl ns)[i] := List.getElem?_eq_getElem il
    have mu : (pl ns)[i] ∈ pl ns := List.getElem_mem il
    have M := tables3 ns (shp_mem S)
    have iu : (pl ns).idxOf (pl ns)[i] = i := idx_of M.1 et
    have ih := div_at S N F ht i (by omega)
    have lf : (divP (numsL F ns) (usL ns) (numsL N ns) i).length = (pl ns).length := by
      rw [divP_len]
      unfold numsL
      rw [List.length_map]
    rw [divP_succ, us_at et, stepU_at (numsL F ns) _ ht _ _ lf (fun p hp => useT_mem S mu hp), ih, List.take_succ, et]
    have g : gD N F ns (pl ns)[i] = (divP (numsL F ns) (usL ns) (numsL N ns) i).getD i 0 := by
      unfold gD
      rw [iu]
    rw [← g]
    unfold usesAt
    rw [List.flatMap_append, List.map_append, List.sum_append]
    show _ = N t + (_ + ((((pl ns)[i] :: []).flatMap fun u => ((useT ns u).filter fun p => p.1 == t).map fun p => (u, p.2)).map fun c => -(gD N F ns c.1) * (numsL F ns).getD ((pl ns).idxOf c.2) 0).sum)
    rw [List.flatMap_cons, List.flatMap_nil, List.append_nil, List.map_map, Int.add_assoc]
    rfl
theorem uses_late {ns : List Int} (S : Shp ns) {t : Tri} (ht : t ∈ pl ns) : usesAt ns t ((pl ns).drop ((pl ns).idxOf t)) = [] := by
  unfold usesAt
  refine List.flatMap_eq_nil_iff.mpr fun v hv => ?_
  have mv : v ∈ pl ns := List.mem_of_mem_drop hv
  have M := tables3 ns (shp_mem S)
  have e : (useT ns v).filter (fun p => p.1 == t) = [] := List.filter_eq_nil_iff.mpr fun p hp z => by
    have y : (v, p.2) ∈ usesAt ns t (pl ns) := List.mem_flatMap.mpr ⟨v, mv, List.mem_map.mpr ⟨p, List.mem_filter.mpr ⟨hp, z⟩, rfl⟩⟩
    unfold usesAt at y
    rw [tables8 ns (shp_mem S) t ht] at y
    obtain ⟨d, hd, ed⟩ := List.mem_map.mp y
    have lt := (mid_idx S ht (List.mem_range.mp hd)).1
    rw [congrArg Prod.fst ed] at lt
    have lt : (pl ns).idxOf v < (pl ns).idxOf t := lt
    obtain ⟨k, hk⟩ := List.mem_iff_getElem?.mp hv
    rw [List.getElem?_drop] at hk
    rw [idx_of M.1 hk] at lt
    omega
  rw [e]
  rfl
theorem sum_neg (f : Nat → Int) (n : Nat) : ((List.range n).map fun d => -f d).sum = -((List.range n).map f).sum := by
  induction n with
  | zero => rfl
  | succ n ih =>
    rw [List.range_succ, List.map_append, List.map_append, List.sum_append, List.sum_append, ih]
    show _ + (-f n + 0) = -(_ + (f n + 0))
    omega
theorem gD_val {ns : List Int} (S : Shp ns) (N F : Tri → Int) {t : Tri} (ht : t ∈ pl ns) : gD N F ns t = N t - btN (gD N F ns) F t ∧ (divP (numsL F ns) (usL ns) (numsL N ns) (pl ns).length).getD ((pl ns).idxOf t) 0 = gD N F ns t := by
  have il := List.idxOf_lt_length_of_mem ht
  have a := div_at S N F ht ((pl ns).idxOf t) (by omega)
  have b := div_at S N F ht (pl ns).length (Nat.le_refl _)
  rw [List.take_length] at b
  have c : usesAt ns t ((pl ns).take ((pl ns).idxOf t)) = usesAt ns t (pl ns) := by
    have z : usesAt ns t ((pl ns).take ((pl ns).idxOf t) ++ (pl ns).drop ((pl ns).idxOf t)) = usesAt ns t ((pl ns).take ((pl ns).idxOf t)) ++ usesAt ns t ((pl ns).drop ((pl ns).idxOf t)) := List.flatMap_append
    rw [List.take_append_drop, uses_late S ht, List.append_nil] at z
    exact z.symm
  rw [c] at a
  have g : gD N F ns t = (divP (numsL F ns) (usL ns) (numsL N ns) ((pl ns).idxOf t)).getD ((pl ns).idxOf t) 0 := rfl
  refine ⟨?_, b.trans (a.symm.trans g.symm)⟩
  rw [g, a]
  have e8 : usesAt ns t (pl ns) = (List.range (t.2.2 - t.2.1 - 1).toNat).map (midP t) := tables8 ns (shp_mem S) t ht
  rw [e8, List.map_map]
  have e9 : ((List.range (t.2.2 - t.2.1 - 1).toNat).map ((fun c => -(gD N F ns c.1) * (numsL F ns).getD ((pl ns).idxOf c.2) 0) ∘ midP t)).sum = ((List.range (t.2.2 - t.2.1 - 1).toNat).map fun d => -(gD N F ns (midP t d).1 * F (midP t d).2)).sum := by
    congr 1
    refine List.map_congr_left fun d hd => ?_
    show -(gD N F ns (midP t d).1) * (numsL F ns).getD ((pl ns).idxOf (midP t d).2) 0 = _
    rw [nums_at (mid_mem S ht (List.mem_range.mp hd)).2, Int.neg_mul]
  rw [e9, sum_neg fun d => gD N F ns (midP t d).1 * F (midP t d).2]
  rfl
theorem div_nums {ns : List Int} (S : Shp ns) (N F : Tri → Int) : divP (numsL F ns) (usL ns) (numsL N ns) (pl ns).length = numsL (gD N F ns) ns := by
  have M := tables3 ns (shp_mem S)
  have lf : (divP (numsL F ns) (usL ns) (numsL N ns) (pl ns).length).length = (pl ns).length := by
    rw [divP_len]
    unfold numsL
    rw [List.length_map]
  refine List.ext_getElem (by rw [lf]; unfold numsL; rw [List.length_map]) fun i h1 h2 => ?_
  have il : i < (pl ns).length := by omega
  have et : (pl ns)[i]? = some (pl ns)[i] := List.getElem?_eq_getElem il
  have z := (gD_val S N F (List.getElem_mem il)).2
  rw [idx_of M.1 et, List.getD_eq_getElem?_getD, List.getElem?_eq_getElem h1] at z
  unfold numsL
  rw [List.getElem_map]
  exact z
/-- what is divided, times what it was divided by -/
theorem div_mul {ns : List Int} (S : Shp ns) (N F : Tri → Int) : EqN ns (mulN (gD N F ns) F) (fun t => N t + F t) := fun t m => by
  rw [mul_btN, (gD_val S N F m).1]
  show _ = N t + F t
  omega
theorem gD_wt {ns : List Int} (S : Shp ns) {c : Nat} {N F : Tri → Int} (hN : WtB c N ns) (hF : WtB c F ns) : WtB (8 * c) (gD N F ns) ns := by
  have all : ∀ n t, t ∈ pl ns → (pl ns).idxOf t < n → (gD N F ns t).natAbs ≤ (8 * c) ^ dd t := by
    intro n
    induction n with
    | zero => exact fun t _ e => absurd e (Nat.not_lt_zero _)
    | succ n ih =>
      intro t m e
      have z := (gD_val S N F m).1
      have d1 := dd1 S m
      have d5 := dd5 S m
      have y := sum_abs (fun d => gD N F ns (midP t d).1 * F (midP t d).2) (8 ^ (dd t - 1) * c ^ dd t) ((t.2.2 - t.2.1 - 1).toNat) fun d hd => by
        have mm := mid_mem S m hd
        have lt := (mid_idx S m hd).1
        have ed := dd_mid hd
        have e1 := dd1 S mm.2
        show (gD N F ns (midP t d).1 * F (midP t d).2).natAbs ≤ _
        rw [Int.natAbs_mul]
        refine Nat.le_trans (Nat.mul_le_mul (ih _ mm.1 (by omega)) (hF _ mm.2)) ?_
        rw [Nat.mul_pow, Nat.mul_assoc, ← Nat.pow_add, ed]
        exact Nat.mul_le_mul_right _ (Nat.pow_le_pow_right (by decide) (by omega))
      have y2 := Nat.le_trans y (Nat.mul_le_mul_right _ (show (t.2.2 - t.2.1 - 1).toNat ≤ 4 by unfold dd at d5; omega))
      have bt : (btN (gD N F ns) F t).natAbs ≤ 4 * (8 ^ (dd t - 1) * c ^ dd t) := y2
      have nt := hN t m
      have p8 : 8 ^ dd t = 8 * 8 ^ (dd t - 1) := by
        rw [← Nat.pow_succ', Nat.succ_eq_add_one, show dd t - 1 + 1 = dd t by omega]
      rw [Nat.mul_pow, p8, z, Nat.mul_assoc]
      have one : c ^ dd t ≤ 8 ^ (dd t - 1) * c ^ dd t := by
        have := Nat.mul_le_mul_right (c ^ dd t) (Nat.pow_pos (n := dd t - 1) (show 0 < 8 by decide))
        rwa [Nat.succ_eq_add_one, Nat.zero_add, Nat.one_mul] at this
      revert bt nt one
      generalize 8 ^ (dd t - 1) * c ^ dd t = Y
      generalize c ^ dd t = X
      intro bt nt one
      omega
  exact fun t m => all ((pl ns).idxOf t + 1) t m (by omega)
/-! ### the group -/
def gU (F : Tri → Int) (ns : List Int) : Tri → Int := gD (fun t => -F t) F ns
theorem inv_l {ns : List Int} (S : Shp ns) (F : Tri → Int) : EqN ns (mulN (gU F ns) F) (fun _ => 0) := (div_mul S _ F).trans fun t _ => by
  show -F t + F t = 0
  omega
theorem und_nums {ns : List Int} (S : Shp ns) (F : Tri → Int) : undL (numsL F ns) (usL ns) = numsL (gU F ns) ns := by
  unfold undL
  rw [usL_len]
  have e : (numsL F ns).map (fun y => -y) = numsL (fun t => -F t) ns := by
    unfold numsL
    rw [List.map_map]
    rfl
  rw [e]
  exact div_nums S _ F
theorem inv_r {ns : List Int} (S : Shp ns) (F : Tri → Int) : EqN ns (mulN F (gU F ns)) (fun _ => 0) := by
  have j := inv_l S (gU F ns)
  have i := inv_l S F
  have e : EqN ns (gU (gU F ns) ns) F := by
    have a : EqN ns (mulN (gU (gU F ns) ns) (mulN (gU F ns) F)) (gU (gU F ns) ns) := (EqN.mul S EqN.rfl' i).trans m1r
    have b : EqN ns (mulN (gU (gU F ns) ns) (mulN (gU F ns) F)) F := ((EqN.assoc S _ _ _).symm.trans (EqN.mul S j EqN.rfl')).trans m1l
    exact a.symm.trans b
  exact (EqN.mul S e.symm EqN.rfl').trans j
theorem cancel_r {ns : List Int} (S : Shp ns) {A B F : Tri → Int} (h : EqN ns (mulN A F) (mulN B F)) : EqN ns A B := by
  have r : ∀ A, EqN ns (mulN (mulN A F) (gU F ns)) A := fun A => ((EqN.assoc S _ _ _).trans (EqN.mul S EqN.rfl' (inv_r S F))).trans m1r
  exact (r A).symm.trans ((EqN.mul S h EqN.rfl').trans (r B))
/-- what undoes it is told by one side -/
theorem und_uniq {ns : List Int} (S : Shp ns) {I F : Tri → Int} (h : EqN ns (mulN I F) (fun _ => 0)) : EqN ns I (gU F ns) := cancel_r S (h.trans (inv_l S F).symm)
theorem gU_congr {ns : List Int} (S : Shp ns) {F G : Tri → Int} (e : EqN ns F G) : EqN ns (gU F ns) (gU G ns) := und_uniq S ((EqN.mul S EqN.rfl' e.symm).trans (inv_l S F))
theorem int_all {P : Int → Prop} (h0 : P 0) (up : ∀ n, P n → P (n + 1)) (dn : ∀ n, P (n + 1) → P n) : ∀ n, P n := by
  have a : ∀ k : Nat, P (k : Int) := fun k => by
    induction k with
    | zero => exact h0
    | succ k ih => exact up _ ih
  have b : ∀ k : Nat, P (-(k : Int)) := fun k => by
    induction k with
    | zero => exact h0
    | succ k ih =>
      refine dn _ ?_
      rwa [show -((k + 1 : Nat) : Int) + 1 = -(k : Int) by omega]
  intro n
  by_cases h : 0 ≤ n
  · have := a n.toNat
    rwa [show ((n.toNat : Nat) : Int) = n by omega] at this
  · have := b (-n).toNat
    rwa [show -(((-n).toNat : Nat) : Int) = n by omega] at this
theorem pz_add {ns : List Int} (S : Shp ns) (F : Tri → Int) (a : Int) : ∀ b, EqN ns (powZ F (a + b)) (mulN (powZ F a) (powZ F b)) := by
  refine int_all ?_ (fun n h => ?_) (fun n h => ?_)
  · rw [Int.add_zero]
    have z : EqN ns (powZ F 0) (fun _ => 0) := fun t _ => pz_zero F t
    exact ((EqN.mul S EqN.rfl' z).trans m1r).symm
  · rw [← Int.add_assoc]
    refine (pz_succ S F (a + n)).trans ((EqN.mul S h EqN.rfl').trans ((EqN.assoc S _ _ _).trans (EqN.mul S EqN.rfl' (pz_succ S F n).symm)))
  · refine cancel_r S (F := F) ?_
    refine (pz_succ S F (a + n)).symm.trans ?_
    rw [Int.add_assoc]
    exact h.trans ((EqN.mul S EqN.rfl' (pz_succ S F n)).trans (EqN.assoc S _ _ _).symm)
theorem pz_mul {ns : List Int} (S : Shp ns) (F : Tri → Int) (m : Int) : ∀ n, EqN ns (powZ (powZ F m) n) (powZ F (m * n)) := by
  refine int_all ?_ (fun n h => ?_) (fun n h => ?_)
  · rw [Int.mul_zero]
    exact fun t _ => (pz_zero _ t).trans (pz_zero _ t).symm
  · rw [Int.mul_add, Int.mul_one]
    exact (pz_succ S _ n).trans ((EqN.mul S h EqN.rfl').trans (pz_add S F _ _).symm)
  · refine cancel_r S (F := powZ F m) ?_
    refine (pz_succ S _ n).symm.trans (h.trans ?_)
    rw [Int.mul_add, Int.mul_one]
    exact pz_add S F _ _
theorem pz_neg {ns : List Int} (S : Shp ns) (F : Tri → Int) (n : Int) : EqN ns (powZ F (-n)) (gU (powZ F n) ns) := by
  refine und_uniq S ((pz_add S F (-n) n).symm.trans ?_)
  rw [Int.add_left_neg]
  exact fun t _ => pz_zero F t
theorem pz_und {ns : List Int} (S : Shp ns) (F : Tri → Int) : EqN ns (powZ F (-1)) (gU F ns) := (pz_neg S F 1).trans (gU_congr S (pz_one S F))
theorem nums_congr {ns : List Int} {x y : Tri → Int} (h : EqN ns x y) : numsL x ns = numsL y ns := List.map_congr_left h
end K18
/-! # zip of a list and a tuple -/
namespace K18
open PySem PySem.Spec PyProof.Rows L2 TL NumText RZ
/-- turns over the list at a beside the tuple at b -/
def ItzM (K : PySem.W.Frag) (a b : Addr) : It where
  go := fun i H => ∃ (xs ys : List V) (x y : V), (SqL K H a xs ∧ xs[i]? = some x) ∧ SqT K H b ys ∧ ys[i]? = some y
  yld := fun i H v H' => ∃ (c : Addr) (x y : V), v = .ref c ∧ H c = none ∧ H' = upd H c (.tup [x, y]) ∧ (∀ l, SqL K H a l → l[i]? = some x) ∧ ∀ l, SqT K H b l → l[i]? = some y
  stop := fun i H => ∃ xs ys : List V, (SqL K H a xs ∧ SqT K H b ys) ∧ xs.length = i ∧ ys.length = i
theorem sep_of {z TI TO i1 i2 a b : Addr} (D : ZipApart z TI TO i1 i2 a b) : ZipSep2 z TI TO i1 i2 [i1, a] [i2, b] where
  TIz := D.TIz
  TOz := D.TOz
  TITO := D.TITO
  TIi1 := D.TIi1
  TIi2 := D.TIi2
  mem1 := List.mem_cons_self ..
  mem2 := List.mem_cons_self ..
  zf1 := by simp only [List.mem_cons, List.not_mem_nil, or_false, not_or]; exact ⟨D.i1z.symm, D.l1z.symm⟩
  Tf1 := by simp only [List.mem_cons, List.not_mem_nil, or_false, not_or]; exact ⟨D.TOi1, D.l1TO.symm⟩
  zf2 := by simp only [List.mem_cons, List.not_mem_nil, or_false, not_or]; exact ⟨D.i2z.symm, D.l2z.symm⟩
  Tf2 := by simp only [List.mem_cons, List.not_mem_nil, or_false, not_or]; exact ⟨D.TOi2, D.l2TO.symm⟩
  sep1_2 := by simp only [List.mem_cons, List.not_mem_nil, or_false, not_or]; exact ⟨D.i12, D.l2i1.symm⟩
  sep2_1 := by simp only [List.mem_cons, List.not_mem_nil, or_false, not_or]; exact ⟨D.i12.symm, D.l1i2.symm⟩
/-- what stands between two turns -/
structure StM (h : Heap) (z TI TO i1 i2 a b : Addr) (i : Nat) : Prop where
  zz : IsZip h z TI TO .none
  tI : IsPair h TI (.ref i1) (.ref i2)
  tO : ∃ x y, IsPair h TO x y
  u1 : h.IsListIter i1 a i
  u2 : h.IsTupleIter i2 b i
theorem five {z TI TO i1 i2 c : Addr} (h : c ∈ [z, TI, TO, i1, i2]) : c = z ∨ c = TI ∨ c = TO ∨ c = i1 ∨ c = i2 := by simpa using h
theorem StM.lt {h : Heap} {z TI TO i1 i2 a b : Addr} {i : Nat} (S : StM h z TI TO i1 i2 a b i) {c : Addr} (m : c ∈ [z, TI, TO, i1, i2]) : ∃ o, h.get? c = some o ∧ ∀ v, o.data ≠ .cell v := by
  obtain ⟨o1, e1, _, d1⟩ := S.u1
  obtain ⟨o2, e2, _, d2⟩ := S.u2
  obtain ⟨x, y, e3⟩ := S.tO
  rcases five m with e | e | e | e | e
  · rw [e]; exact ⟨_, S.zz, fun v q => nomatch q⟩
  · rw [e]; exact ⟨_, S.tI, fun v q => nomatch q⟩
  · rw [e]; exact ⟨_, e3, fun v q => nomatch q⟩
  · rw [e]; exact ⟨_, e1, fun v q => by rw [d1] at q; cases q⟩
  · rw [e]; exact ⟨_, e2, fun v q => by rw [d2] at q; cases q⟩
theorem turn_zipM {P : Program} {w : World} {K : PySem.W.Frag} {elts : List Expr} {kk : Nat} {tpos : Pos} {a b z TI TO i1 i2 : Addr} (D : ZipApart z TI TO i1 i2 a b) :
    Turn P w K (.Tuple elts kk tpos) (ItzM K a b) [z, TI, TO, i1, i2] z (fun i h => StM h z TI TO i1 i2 a b i) where
  mem := List.mem_cons_self ..
  obj := fun i h st c hc => let ⟨o, e, n⟩ := st.lt hc; ⟨o, e, fun v q => n v q⟩
  keep := fun i h h' st k => ⟨k z (by simp) _ st.zz, k TI (by simp) _ st.tI, let ⟨x, y, e⟩ := st.tO; ⟨x, y, k TO (by simp) _ e⟩, st.u1.at fun o q => k i1 (by simp) o q, st.u2.at fun o q => k i2 (by simp) o q⟩
  item := fun X hP hw hK hc i pins s σ H E I hf st hg => by
    subst hP hw hK
    obtain ⟨xs, ys, x, y, ⟨hqx, hx⟩, hqy, hy⟩ := hg
    obtain ⟨its, rv, p, _⟩ := I.list hqx
    obtain ⟨jts, rw', p2, _⟩ := I.tuple hqy
    obtain ⟨u, hu, ru⟩ := rv.get hx
    obtain ⟨v, hv, rv2⟩ := rw'.get hy
    obtain ⟨x0, y0, hTO⟩ := st.tO
    have hzl : z < s.heap.objs.size := Heap.lt_size st.zz
    have hu' : its.toArray[i]? = some u := by simpa using hu
    have hv' : jts.toArray[i]? = some v := by simpa using hv
    have hd := I.ok.hd hc
    refine wpAny_pyNext_zipD2_item (sep_of D) (Draws.list (A := X.A.in1) hd i1 a D.l1i1 its.toArray) (Draws.tuple (A := X.A.in1) hd i2 b D.l2i2 jts.toArray) st.zz st.tI hTO ⟨st.u1, p.isList⟩ ⟨st.u2, p2⟩ (Array.getElem?_eq_some_iff.mp hu').1 (Array.getElem?_eq_some_iff.mp hv').1 ?_
    intro u9 v9 h' tk eu ev z' TO' s1 s2 hT hsz hk
    rw [hu'] at eu
    rw [hv'] at ev
    obtain rfl := Option.some.inj eu
    obtain rfl := Option.some.inj ev
    refine ⟨_, rfl, wpAny_letOwnedTupleGo_zip (s := { s with heap := h', toks := tk }) z' fun h2 z2 sb => ?_⟩
    have keep : ∀ {c : Addr} {o : Obj}, c ∉ [z, TI, TO, i1, i2] → s.heap.get? c = some o → h2.get? c = some o := fun {c o} nb e => by
      simp only [List.mem_cons, List.not_mem_nil, or_false, not_or] at nb
      exact (sb.2 c nb.1).trans (hk c o nb.1 nb.2.2.1 nb.2.2.2.1 nb.2.2.2.2 e)
    have hT2 : h2.get? s.heap.objs.size = some { cls := .type "tuple", data := .seq #[u, v] } := (sb.2 _ (Nat.ne_of_gt hzl)).trans hT
    have new : ObjOk X.prog X.w (upd H s.heap.objs.size (.tup [x, y])) h2 s.heap.objs.size (.tup [x, y]) := ⟨(by show 2 ≤ sizeLine; decide), [u, v], .cons ru (.cons rv2 .nil), ⟨_, hT2, rfl, _, rfl⟩⟩
    refine ⟨.ref s.heap.objs.size, _, I.turnedNew (t' := tk) (ch := [z, TI, TO, i1, i2]) (fun c o nb e => keep nb e) hf (Nat.le_refl _) new, rfl, ⟨_, x, y, rfl, I.hok.fresh (Nat.le_refl _), rfl, fun l hl => by rw [I.list_inj hl hqx]; exact hx, fun l hl => by rw [I.tuple_inj hl hqy]; exact hy⟩, ?_, fun c hcm => ?_⟩
    · exact ⟨z2, (sb.2 _ D.TIz).trans (hk _ _ D.TIz D.TITO D.TIi1 D.TIi2 st.tI), ⟨u, v, (sb.2 _ D.TOz).trans TO'⟩, s1.1.at fun o q => (sb.2 _ D.i1z).trans q, s2.1.at fun o q => (sb.2 _ D.i2z).trans q⟩
    · obtain ⟨o, e, _⟩ := st.lt hcm
      rw [upd_ne (Nat.ne_of_lt (Heap.lt_size e))]
      exact (hf c hcm).1
  done := fun X hP hw hK hc i pins s σ H E I hf st hg => by
    subst hP hw hK
    obtain ⟨xs, ys, ⟨hqx, hqy⟩, n1, n2⟩ := hg
    obtain ⟨its, rv, p, _⟩ := I.list hqx
    obtain ⟨jts, rw', p2, _⟩ := I.tuple hqy
    obtain ⟨x0, y0, hTO⟩ := st.tO
    have l1 := rv.length
    have l2 := rw'.length
    have hd := I.ok.hd hc
    have z1 : i = its.toArray.size := by simp; omega
    have z2 : i = jts.toArray.size := by simp; omega
    refine wpAny_pyNext_zipD2_end (sep_of D) (Draws.list (A := X.A.in1) hd i1 a D.l1i1 its.toArray) (Draws.tuple (A := X.A.in1) hd i2 b D.l2i2 jts.toArray) st.zz st.tI hTO ⟨st.u1, p.isList⟩ ⟨st.u2, p2⟩ (Nat.le_of_eq z1) (Nat.le_of_eq z2) (.inl z1) fun h' tk hk => ⟨rfl, I.turnedL (t' := tk) (ch := [z, TI, TO, i1, i2]) (fun c o nb q => ?_) hf⟩
    simp only [List.mem_cons, List.not_mem_nil, or_false, not_or] at nb
    exact hk c o nb.1 nb.2.2.1 nb.2.2.2.1 nb.2.2.2.2 q
  self := fun A i s Q E st h => wpAny_pyIter_zip st.zz h
def iZipM (K : PySem.W.Frag) (ta : TA) : TI := fun σ H R => ta σ H fun vs H1 => ∃ (a b : Addr) (xs ys : List V), vs = [.ref a, .ref b] ∧ SqL K H1 a xs ∧ SqT K H1 b ys ∧ R (ItzM K a b) H1
theorem pi_zipM {X : Cx} {e e2 : Expr} {ta : TA} {p pos tpos : Pos} {elts : List Expr} {kk : Nat} (hg : Gl X "zip") (hm : X.mg "zip" = none) (ha : PA X [e, e2] ta)
    (hs : starEach [e, e2] X.env = (false, eval e X.env) :: starEach [e2] X.env := by rfl) (hpl : (backTo pos (starEach [e2] X.env)).any (·.1) = false := by rfl) : PI X (.Tuple elts kk tpos) (.Call (.Name "zip" p) [e, e2] [] pos) (iZipM X.K ta) where
  run := fun pins s σ H R I h => by
    refine Call_ (ld_blt I hg hm PyProof.Rows.boot_zip (PyProof.Rows.callWith_type1 (thn (ha.run pos pins s σ H _ I h) fun us s1 got => ?_) hs hpl))
    obtain ⟨vs, H1, I1, r1, a, b, xs, ys, rfl, hqx, hqy, q⟩ := got
    obtain ⟨va, vb, rfl, ra, rb⟩ : ∃ va vb, us = [va, vb] ∧ RelV (.ref a) va ∧ RelV (.ref b) vb := by
      cases r1 with
      | cons r rr =>
        cases rr with
        | cons r' rr =>
          cases rr
          exact ⟨_, _, rfl, r, r'⟩
    cases ra
    cases rb
    obtain ⟨its, rv, p1, _⟩ := I1.list hqx
    obtain ⟨jts, rw', p2, _⟩ := I1.tuple hqy
    have la : a < s1.heap.objs.size := p1.lt
    have lb : b < s1.heap.objs.size := let ⟨_, e, _⟩ := id p2; Heap.lt_size e
    refine zip_begins2 (begins_list a its.toArray) (begins_tuple b jts.toArray) p1.isList p2 fun h' hz hTI hTO h1 h2 hsz hk => wpAny_pyIter_zip hz ?_
    refine ⟨s1.heap.objs.size + 4, [s1.heap.objs.size + 4, s1.heap.objs.size + 2, s1.heap.objs.size + 3, s1.heap.objs.size, s1.heap.objs.size + 1], _, _, H1, rfl, I1.kept (t' := s1.toks) hk, turn_zipM (PySem.W.ktu_apart s1.heap.objs.size a b la lb), ⟨hz, hTI, ⟨_, _, hTO⟩, ⟨_, h1, rfl, rfl⟩, _, h2, rfl, rfl⟩, fun c hc => ?_, q⟩
    have le : s1.heap.objs.size ≤ c := by
      rcases five hc with e | e | e | e | e <;> rw [e] <;> first | exact Nat.le_refl _ | exact Nat.le_add_right _ _
    exact I1.fpOk le (I1.hok.fresh le)
theorem walk_zipM {K : PySem.W.Frag} {a b : Addr} {xs ys : List V} (e : xs.length = ys.length) : Walk (ItzM K a b) xs.length (fun H => SqL K H a xs ∧ SqT K H b ys) (YPair (fun i => xs[i]?) (fun i => ys[i]?)) where
  goes := fun i H hi g => ⟨xs, ys, xs[i], ys[i]'(by omega), ⟨g.1, List.getElem?_eq_getElem hi⟩, g.2, List.getElem?_eq_getElem (by omega)⟩
  stops := fun H g => ⟨xs, ys, g, rfl, e.symm⟩
  yields := fun i H v H' hi g h => by
    obtain ⟨c, x, y, rfl, n, rfl, hx, hy⟩ := h
    exact ⟨c, x, y, rfl, n, rfl, hx _ g.1, hy _ g.2⟩
end K18
/-! # bounds of powers; any() of a tuple of tuples -/
namespace K18
open PySem PySem.Spec PyProof.Rows L2 TL NumText RZ
theorem bi_abs (n : Int) : ∀ k : Nat, k ≤ 6 → (bi n k).natAbs ≤ (n.natAbs + 6) ^ k
  | 0, _ => by
    rw [bi_zero]
    exact Nat.le_refl _
  | k + 1, h => by
    have ih := bi_abs n k (by omega)
    have e := congrArg Int.natAbs (bi_step k n)
    rw [Int.natAbs_mul, Int.natAbs_mul] at e
    have a : (n - (k : Int)).natAbs ≤ n.natAbs + 6 := by omega
    have b := Nat.mul_le_mul a ih
    rw [← e] at b
    rw [Nat.pow_succ, Nat.mul_comm]
    refine Nat.le_trans ?_ b
    have c : 1 ≤ ((k : Int) + 1).natAbs := by omega
    have := Nat.mul_le_mul_right (bi n (k + 1)).natAbs c
    rwa [Nat.one_mul] at this
theorem btN_wt {ns : List Int} (S : Shp ns) {c : Nat} {F G : Tri → Int} (hf : WtB c F ns) (hg : WtB c G ns) : WtB (2 * c) (btN F G) ns := fun u m => by
  have z := sum_abs (fun d => F (midP u d).1 * G (midP u d).2) (c ^ dd u) ((u.2.2 - u.2.1 - 1).toNat) fun d hd => by
    have h1 := hf _ (mid_mem S m hd).1
    have h2 := hg _ (mid_mem S m hd).2
    show (F (midP u d).1 * G (midP u d).2).natAbs ≤ _
    rw [Int.natAbs_mul, ← dd_mid hd, Nat.pow_add]
    exact Nat.mul_le_mul h1 h2
  have p : (u.2.2 - u.2.1 - 1).toNat ≤ 2 ^ dd u := by
    have : dd u + 1 ≤ 2 ^ dd u := Nat.lt_two_pow_self
    unfold dd at this ⊢
    omega
  rw [Nat.mul_pow]
  exact Nat.le_trans z (Nat.mul_le_mul_right _ p)
theorem nP_wt {ns : List Int} (S : Shp ns) {c : Nat} {F : Tri → Int} (h : WtB c F ns) : ∀ k, WtB (2 ^ k * c) (nP F k) ns
  | 0 => by
    rw [Nat.pow_zero, Nat.one_mul]
    exact h
  | k + 1 => by
    rw [Nat.pow_succ, Nat.mul_comm (2 ^ k) 2, Nat.mul_assoc]
    exact btN_wt S (nP_wt S h k) (wt_up h (by
      have : 1 ≤ 2 ^ k := Nat.two_pow_pos k
      have := Nat.mul_le_mul_right c this
      omega))
theorem term_wt {ns : List Int} (S : Shp ns) {c : Nat} {F : Tri → Int} (h : WtB c F ns) (n : Int) (k : Nat) (hk : k < 6) : WtB ((n.natAbs + 6) * (32 * c)) (fun t => bi n (k + 1) * nP F k t) ns := fun t m => by
  show (bi n (k + 1) * nP F k t).natAbs ≤ _
  by_cases l : dd t ≤ k
  · rw [nP_zero S F k t m l, Int.mul_zero]
    exact Nat.zero_le _
  · have d5 := dd5 S m
    have a := Nat.le_trans (bi_abs n (k + 1) (by omega)) (Nat.pow_le_pow_right (show 0 < n.natAbs + 6 by omega) (show k + 1 ≤ dd t by omega))
    have b := nP_wt S h k t m
    have b2 := Nat.le_trans b (Nat.pow_le_pow_left (Nat.mul_le_mul_right c (show 2 ^ k ≤ 32 from Nat.pow_le_pow_right (n := 2) (by decide) (show k ≤ 5 by omega))) (dd t))
    rw [Int.natAbs_mul, Nat.mul_pow]
    exact Nat.mul_le_mul a b2
theorem pz_wt {ns : List Int} (S : Shp ns) {c : Nat} {F : Tri → Int} (h : WtB c F ns) (n : Int) (j : Nat) (hj : j ≤ 6) : WtB (6 * ((n.natAbs + 6) * (32 * c))) (fun t => sumR j fun k => bi n (k + 1) * nP F k t) ns := fun t m => by
  have z := sum_abs (fun k => bi n (k + 1) * nP F k t) (((n.natAbs + 6) * (32 * c)) ^ dd t) j fun k hk => term_wt S h n k (by omega) t m
  have d1 := dd1 S m
  rw [Nat.mul_pow]
  refine Nat.le_trans z (Nat.mul_le_mul_right _ ?_)
  calc j ≤ 6 ^ 1 := hj
    _ ≤ 6 ^ dd t := Nat.pow_le_pow_right (by decide) d1
theorem wt_wd {ns : List Int} (S : Shp ns) {c : Nat} {F : Tri → Int} (h : WtB c F ns) (l : c ≤ 2 ^ 1000) : WdN F ns := fun u m => by
  have d5 := dd5 S m
  have z := Nat.le_trans (h u m) (Nat.pow_le_pow_left l (dd u))
  rw [← Nat.pow_mul] at z
  exact Nat.lt_of_le_of_lt z (Nat.pow_lt_pow_right (by decide) (by omega))
section
variable {X : Cx}
/-- any() of a tuple of data -/
theorem cr_anyTD (hc : X.calm = true) : CallR X (.builtin "any") (fun vs H Q => ∃ (a : Addr) (xs : List V) (ds : List PyData), vs = [V.ref a] ∧ SqT X.K H a xs ∧ DpAll X.K H xs ds ∧ PyData.plainAll ds = true ∧ (∀ d ∈ ds, d.fits63) ∧ Q (.bl (ds.any PyData.truthy)) H) := by
  intro pins s σ H vs us Q I r h
  obtain ⟨a, xs, ds, rfl, hs, hd, hp, hf, q⟩ := h
  obtain ⟨its, rv, hl, _⟩ := I.tuple hs
  rw [Vals.ref1 r]
  obtain ⟨as, ra⟩ := Dp.readsAll I ds _ its hd rv
  refine PySem.W.any_tuple_data (I.ok.hd hc) (show s.heap.IsTuple a its.toArray from hl) (show ReadsAll s.heap its.toArray.toList _ _ from ra) hp hf fun h' tk hk => ?_
  exact ⟨.bl _, H, I.kept hk, rfl, q⟩
end
/-- whether a plan has a use -/
def anyU (us : List (List (Int × Int))) : Bool := us.any fun u => !u.isEmpty
def usDs (us : List (List (Int × Int))) : List PyData := us.map fun u => .tuple (u.map prD)
theorem us_any (us : List (List (Int × Int))) : (usDs us).any PyData.truthy = anyU us := by
  unfold usDs anyU
  rw [List.any_map]
  congr 1
  funext u
  show (!(u.map prD).isEmpty) = _
  cases u <;> rfl
theorem prD_plain : ∀ l : List (Int × Int), PyData.plainAll (l.map prD) = true
  | [] => rfl
  | p :: r => by
    show (PyData.plain (prD p) && PyData.plainAll (r.map prD)) = true
    rw [prD_plain r]
    rfl
theorem us_plain : ∀ us : List (List (Int × Int)), PyData.plainAll (usDs us) = true
  | [] => rfl
  | u :: r => by
    show (PyData.plainAll (u.map prD) && PyData.plainAll (usDs r)) = true
    rw [prD_plain u, us_plain r]
    rfl
theorem useN_le (ns : List Int) (t : Tri) (S : Shp ns) (m : t ∈ pl ns) : useN ns t ≤ 6 := by
  have M := ((tables3 ns (shp_mem S)).2.2 t m)
  unfold useN
  omega
theorem us_fits {ns : List Int} (S : Shp ns) : ∀ d ∈ usDs (usL ns), d.fits63 := fun d h => by
  unfold usDs at h
  obtain ⟨u, hu, rfl⟩ := List.mem_map.mp h
  unfold usL at hu
  obtain ⟨t, m, rfl⟩ := List.mem_map.mp hu
  show (((useP ns t (useN ns t)).map prD).length : Int) < 2 ^ 63
  rw [List.length_map, useP_T]
  unfold useT
  rw [List.length_map, List.length_map, List.length_range]
  have := useN_le ns t S m
  omega
/-- without a use no place lies between -/
theorem flat_of {ns : List Int} (S : Shp ns) (h : anyU (usL ns) = false) : ∀ t ∈ pl ns, (t.2.2 - t.2.1 - 1).toNat = 0 := fun t m => by
  have z : ∀ u ∈ pl ns, useT ns u = [] := fun u hu => by
    unfold anyU usL at h
    rw [List.any_map, List.any_eq_false] at h
    have y := h u hu
    have y : ¬ (!(useP ns u (useN ns u)).isEmpty) = true := y
    rw [useP_T] at y
    cases e : useT ns u with
    | nil => rfl
    | cons a b => rw [e] at y; exact absurd rfl y
  have e8 := tables8 ns (shp_mem S) t m
  have e0 : ((pl ns).flatMap fun u => ((useT ns u).filter fun p => p.1 == t).map fun p => (u, p.2)) = [] := List.flatMap_eq_nil_iff.mpr fun u hu => by rw [z u hu]; rfl
  rw [e0] at e8
  have l := congrArg List.length e8
  rw [List.length_map, List.length_range] at l
  exact l.symm
theorem flat_btN {ns : List Int} (h : ∀ t ∈ pl ns, (t.2.2 - t.2.1 - 1).toNat = 0) (F G : Tri → Int) : EqN ns (btN F G) (fun _ => 0) := fun t m => by
  unfold btN
  rw [h t m]
  rfl
end K18
/-! # times_between -/
namespace K18
open PySem PySem.Spec PyProof.Rows L2 TL NumText RZ
def betL (xs ys : List Int) (us : List (List (Int × Int))) : List Int := (xs.zip us).foldl (stepP ys) (List.replicate us.length (0 : Int))
theorem bet_nums {ns : List Int} (S : Shp ns) (num num2 : Tri → Int) : betL (numsL num ns) (numsL num2 ns) (usL ns) = numsL (btN num num2) ns := by
  have M := tables3 ns (shp_mem S)
  have l0 : List.replicate (usL ns).length (0 : Int) = (pl ns).map fun _ => (0 : Int) := by
    rw [usL_len]
    refine List.ext_getElem (by rw [List.length_map, List.length_replicate]) fun j h1 h2 => ?_
    rw [List.getElem_map, List.getElem_replicate]
  unfold betL
  rw [l0]
  unfold usL numsL
  rw [List.zip_map', List.foldl_map]
  have e1 : (fun (f : List Int) (t : Tri) => stepP ((pl ns).map num2) f (num t, useP ns t (useN ns t))) = fun f u => (useP ns u (useN ns u)).foldl (stepU ((pl ns).map num2) (num u)) f := by
    funext f u
    exact stepP_all _ _ _
  rw [e1]
  have lz : ((pl ns).map fun _ => (0 : Int)).length = (pl ns).length := List.length_map _
  have lF : ∀ (l : List Tri) (f : List Int), (l.foldl (fun f u => (useP ns u (useN ns u)).foldl (stepU ((pl ns).map num2) (num u)) f) f).length = f.length := by
    intro l
    induction l with
    | nil => intro f; rfl
    | cons u r ih => intro f; rw [List.foldl_cons, ih, stepU_len]
  refine List.ext_getElem (by rw [lF, lz, List.length_map]) fun i h1 h2 => ?_
  have il : i < (pl ns).length := by rw [List.length_map] at h2; exact h2
  have ht : (pl ns)[i] ∈ pl ns := List.getElem_mem il
  have hi : (pl ns).idxOf (pl ns)[i] = i := idx_of M.1 (List.getElem?_eq_getElem il)
  have z := fold_at S num ((pl ns).map num2) ht (pl ns) _ lz (fun u h => h)
  rw [hi, tables8 ns (shp_mem S) _ ht, List.getD_eq_getElem?_getD, List.getElem?_eq_getElem h1, List.getD_eq_getElem?_getD, List.getElem?_map, List.getElem?_eq_getElem il, List.map_map] at z
  have z : _ = (0 : Int) + _ := z
  rw [Int.zero_add] at z
  rw [List.getElem_map]
  refine Eq.trans z ?_
  unfold btN sumR
  congr 1
  refine List.map_congr_left fun d hd => ?_
  show num _ * ((pl ns).map num2).getD ((pl ns).idxOf (midP (pl ns)[i] d).2) 0 = _
  rw [List.getD_eq_getElem?_getD, List.getElem?_map, at_idx (mid_mem S ht (List.mem_range.mp hd)).2]
  rfl
section
variable {P : Program} {w : World} {K : PySem.W.Frag} {mg : Str → Option Value} {base : Heap} {C CS TL : Addr}
abbrev s_tbt : Stmt := topS 31
theorem sc_tbt : FnScope ["plan", "one", "other", "modulus", "found", "number", "uses", "at", "high", "_"] ["plan", "one", "other", "modulus"] (defScope s_tbt) := ⟨rfl, rfl, rfl, by decide +kernel, rfl, by decide +kernel, by decide +kernel⟩
def spTbt (K : PySem.W.Frag) : Sp := fun vs H Q _ => ∃ (pln : V) (a b : Addr) (xs ys : List Int) (us : List (List (Int × Int))), vs = [pln, .ref a, .ref b, .int 0] ∧ Tv K H pln (usD us) ∧ H a = some (.tup (xs.map V.int)) ∧ H b = some (.tup (ys.map V.int)) ∧
  xs.length = us.length ∧ ys.length = xs.length ∧ xs.length ≤ 100 ∧ InR xs.length us ∧ (∀ x ∈ xs, x.natAbs < 2 ^ 100000) ∧ (∀ y ∈ ys, y.natAbs < 2 ^ 100000) ∧
  ∀ H' p, Same H H' → H p = none → H' p = some (.tup ((betL xs ys us).map V.int)) → Q (.ref p) H'
theorem ok_tbt {f f1 : Addr} {fd fd1 : FuncData} {k : Nat} (T : Txt mg) (nz : mg "zip" = none) (d : D K mg "times_between" s_tbt ["plan", "one", "other", "modulus"] f fd) (d1 : D K mg "rest" s_rest ["numbers", "modulus"] f1 fd1) : FnOk P w K mg base CX0 (k + 2) f fd ["plan", "one", "other", "modulus"] (spTbt K) := by
  have G1 : FnOk P w K mg base CX0 (k + 1) f1 fd1 ["numbers", "modulus"] spRest := ok_rest T d1
  refine d.F.ok sc_tbt (fun vs H Q E h => ?_) (fun cdv A outer s H vs Q E hr h => ?_)
  · obtain ⟨pln, a, b, xs, ys, us, rfl, _⟩ := h
    rfl
  · obtain ⟨pln, a, b, xs, ys, us, rfl, tp, ea, eb, lu, ly, l100, inr, bx, by_, q⟩ := h
    refine ⟨_, (pss_cons (ps_setLc (i := 4) (own := [("_", 9)]) (g := gName 9) (tt := tYes) rfl sc_tbt.nd rfl rfl rfl (pi_tup (pv 0)) (blkOk_by (own := [("_", 9)]) (N := ["plan", "one", "other", "modulus", "found", "number", "uses", "at", "high", "_"]) (sc := defScope s_tbt) (by decide +kernel))
            (fun _ _ _ _ _ => (pg_name (i := 9) sc_tbt.nd rfl (Or.inl rfl))) (fun _ _ _ _ _ => pts_nil) (fun _ _ _ _ _ => pe_int))
      (pss_cons (ps_for PassesOwn.never rfl (pi_zipA (by rfl) nz (pa_cons (pv 1) (pa_cons (pv 0) pa_nil))) (pg_tup rfl (pgs_cons (pg_name (i := 5) sc_tbt.nd rfl (.inl rfl)) (pgs_cons (pg_name (i := 6) sc_tbt.nd rfl (.inl rfl)) pgs_nil)))
        (pss_one (ps_if (pt_truth (pv 5) (fun _ => rfl)) (pss_one (ps_for PassesOwn.never rfl (pi_tup (pv 6)) (pg_tup rfl (pgs_cons (pg_name (i := 7) sc_tbt.nd rfl (.inl rfl)) (pgs_cons (pg_name (i := 8) sc_tbt.nd rfl (.inl rfl)) pgs_nil)))
        (pss_one (ps_asg (pe_op op_add (pe_ix ix_list (pv 4) (pv 7) (fun _ _ => rfl)) (pe_op op_mulW (pv 5) (pe_ix ix_tup (pv 2) (pv 8) (fun _ _ => rfl)))) (pg_sub (pv 4) (pv 7) set_list))))) pss_nil)))
      (pss_one (ps_ret (pe_call G1 hr (by rfl) d1.g d1.F.kp d1.b .nil pass0 (pa_cons (pv 4) (pa_cons (pv 3) pa_nil))))))), ?_⟩
    obtain ⟨o, ws, rfl, eo, tl⟩ : ∃ o ws, pln = .ref o ∧ SqT K H o ws ∧ TvL K H ws (us.map fun u => .tuple (u.map prD)) := by
      cases tp with
      | tup e l => exact ⟨_, _, rfl, e, l⟩
    have lw : ws.length = us.length := by rw [tl.len, List.length_map]
    refine ⟨_, rfl, o, rfl, ⟨_, eo⟩, fun L nL => ?_⟩
    refine lc_tup (K := K) (a := o) (xs := ws) (fun i Z => Same H Z ∧ Z L = some (.lst ((List.replicate i (0 : Int)).map V.int))) ⟨sub_same nL, upd_same⟩ (fun i Z _ h => sqt_same eo h.1) ?_ ?_
    · rintro i x Z hx ⟨sm, hl⟩
      have il := (List.getElem?_eq_some_iff.mp hx).1
      refine ⟨rfl, yesT ⟨_, hl, ?_, fun k ob e => ?_, ?_⟩⟩
      · rw [List.length_map, List.length_replicate, sizeLine_eq]
        omega
      · rw [upd_ne (fun z => by rw [z, nL] at e; cases e)]
        exact sm _ _ e
      · rw [upd_same, List.replicate_succ', List.map_append]
        rfl
    · rintro Z ⟨sm, hl⟩
      rw [lw] at hl
      have lxw : (xs.map V.int).length = ws.length := by rw [List.length_map, lw, lu]
      refine ⟨_, rfl, _, rfl, a, o, _, _, rfl, .inr ⟨sqt_same (sqt_new ea) sm, sqt_same eo sm, ?_⟩⟩
      refine for_it (walk_zipT (K := K) (a := a) (b := o) lxw) (fun i σ Y => (∃ y5 y6 y7 y8, σ = [some (.ref o), some (.ref a), some (.ref b), some (.int 0), some (.ref L), y5, y6, y7, y8, none]) ∧ Same H Y ∧ Y L = some (.lst ((((xs.zip us).take i).foldl (stepP ys) (List.replicate us.length (0 : Int))).map V.int)))
        ⟨⟨_, _, _, _, rfl⟩, sm, hl⟩ (fun i σ Y _ h => ⟨sqt_same (sqt_new ea) h.2.1, sqt_same eo h.2.1⟩) ?_ ?_
      · rintro i v σ Y Y' hi ⟨⟨y5, y6, y7, y8, rfl⟩, sy, hy⟩ ⟨Tp, x0, y0, rfl, nT, rfl, ex, ey⟩
        obtain ⟨x, ex2, rfl⟩ := int_at ex
        obtain ⟨d, ed, td⟩ := tl.get ey
        rw [List.getElem?_map] at ed
        obtain ⟨u, eu, rfl⟩ := Option.map_eq_some_iff.mp ed
        have eq : (xs.zip us)[i]? = some (x, u) := by rw [List.getElem?_zip_eq_some]; exact ⟨ex2, eu⟩
        have s2 := sub_same (o := .tup [V.int x, y0]) nT
        have hy2 := s2 _ _ hy
        have sy2 := sy.trans s2
        have hT : upd Y Tp (.tup [V.int x, y0]) Tp = some (.tup [V.int x, y0]) := upd_same
        revert hy2 sy2 hT
        generalize upd Y Tp (.tup [V.int x, y0]) = Y2
        intro hy2 sy2 hT
        refine ⟨Tp, _, rfl, .inl (.inl hT), rfl, _, _, rfl, _, _, rfl, rfl, _, rfl, _, rfl, ?_⟩
        have next : ((xs.zip us).take (i + 1)).foldl (stepP ys) (List.replicate us.length (0 : Int)) = stepP ys (((xs.zip us).take i).foldl (stepP ys) (List.replicate us.length (0 : Int))) (x, u) := by
          rw [List.take_succ, eq, List.foldl_append]
          rfl
        have lF : (((xs.zip us).take i).foldl (stepP ys) (List.replicate us.length (0 : Int))).length = xs.length := by rw [stepP_len, List.length_replicate, lu]
        rw [next]
        revert hy2 lF
        generalize ((xs.zip us).take i).foldl (stepP ys) (List.replicate us.length (0 : Int)) = F
        intro hy2 lF
        have bx1 := bx x (List.mem_of_getElem? ex2)
        refine ite2 (fun e => ?_) (fun e => ?_)
        · have hx : x ≠ 0 := fun z => by rw [z] at e; exact absurd e (by decide)
          obtain ⟨ou, zs, rfl, eou, tlu⟩ : ∃ ou zs, y0 = .ref ou ∧ SqT K H ou zs ∧ TvL K H zs (u.map prD) := by
            cases td with
            | tup e l => exact ⟨_, _, rfl, e, l⟩
          have lzu : zs.length = u.length := by rw [tlu.len, List.length_map]
          have hF : stepP ys F (x, u) = u.foldl (stepU ys x) F := if_neg hx
          rw [hF]
          refine ⟨_, rfl, ou, rfl, ⟨zs, sqt_same eou sy2⟩, ?_⟩
          refine for_it (walk_tup (K := K) (a := ou) (xs := zs)) (fun j σ Z => (∃ y7 y8, σ = [some (.ref o), some (.ref a), some (.ref b), some (.int 0), some (.ref L), some (.int x), some (.ref ou), y7, y8, none]) ∧ Same H Z ∧ Z L = some (.lst (((u.take j).foldl (stepU ys x) F).map V.int)))
            ⟨⟨_, _, rfl⟩, sy2, hy2⟩ (fun j σ Z _ h => sqt_same eou h.2.1) ?_ ?_
          · rintro j v σ Z Z' hj ⟨⟨y7, y8, rfl⟩, sz, hz⟩ ⟨rfl, ev⟩
            obtain ⟨d, ed2, tdv⟩ := tlu.get ev
            rw [List.getElem?_map] at ed2
            obtain ⟨⟨p1, p2⟩, ep, rfl⟩ := Option.map_eq_some_iff.mp ed2
            obtain ⟨pa, rfl, spa⟩ : ∃ pa, v = .ref pa ∧ SqT K H pa [.int p1, .int p2] := by
              unfold prD at tdv
              cases tdv with
              | tup e l =>
                cases l with
                | cons h1 l =>
                  cases l with
                  | cons h2 l =>
                    cases l
                    cases h1
                    cases h2
                    exact ⟨_, rfl, e⟩
            obtain ⟨⟨a0, a1⟩, b0, b1⟩ := inr u (List.mem_of_getElem? eu) _ (List.mem_of_getElem? ep)
            dsimp only at a0 a1 b0 b1
            obtain ⟨n1, rfl⟩ := Int.eq_ofNat_of_zero_le a0
            obtain ⟨n2, rfl⟩ := Int.eq_ofNat_of_zero_le b0
            have nx2 : (u.take (j + 1)).foldl (stepU ys x) F = stepU ys x ((u.take j).foldl (stepU ys x) F) ((n1 : Int), (n2 : Int)) := by
              rw [List.take_succ, ep, List.foldl_append]
              rfl
            have lG : ((u.take j).foldl (stepU ys x) F).length = xs.length := by rw [stepU_len, lF]
            rw [nx2]
            revert hz lG
            generalize (u.take j).foldl (stepU ys x) F = G
            intro hz lG
            have i1 : n1 < G.length := by omega
            have i2 : n2 < ys.length := by omega
            have g1 : (G.map V.int)[n1]? = some (V.int (G.getD n1 0)) := by
              rw [List.getElem?_map, List.getD_eq_getElem?_getD, List.getElem?_eq_getElem i1]
              rfl
            have g2 : (ys.map V.int)[n2]? = some (V.int (ys.getD n2 0)) := by
              rw [List.getElem?_map, List.getD_eq_getElem?_getD, List.getElem?_eq_getElem i2]
              rfl
            have by1 : (ys.getD n2 0).natAbs < 2 ^ 100000 := by
              rw [List.getD_eq_getElem?_getD, List.getElem?_eq_getElem i2]
              exact by_ _ (List.getElem_mem i2)
            have hst : (G.set n1 (G.getD n1 0 + x * ys.getD n2 0)).map V.int = (G.map V.int).set n1 (V.int (G.getD n1 0 + x * ys.getD n2 0)) := by rw [List.map_set]
            refine ⟨pa, _, rfl, sqt_same spa sz, rfl, _, _, rfl, _, _, rfl, rfl, ?_⟩
            refine ⟨_, rfl, _, rfl, L, _, (n1 : Int), _, rfl, rfl, .inl (.inl hz), atI_nat g1, ?_⟩
            refine ⟨_, rfl, _, rfl, _, rfl, b, _, (n2 : Int), _, rfl, rfl, sqt_same (sqt_new eb) sz, atI_nat g2, ?_⟩
            refine ⟨_, _, rfl, rfl, wide_mul bx1 by1 (by decide) (by decide) (by decide), _, _, rfl, rfl, ?_⟩
            refine ⟨_, rfl, _, rfl, L, _, (n1 : Int), n1, rfl, rfl, hz, ixN_at (by rw [List.length_map]; exact i1), ⟨_, _, rfl⟩, fun k ob e => ?_, ?_⟩
            · rw [upd_ne (fun z => by rw [z, nL] at e; cases e)]
              exact sz _ _ e
            · rw [upd_same, ← hst]
              rfl
          · rintro σ Z ⟨⟨y7, y8, rfl⟩, sz, hz⟩
            rw [lzu, List.take_length] at hz
            exact ⟨⟨_, _, _, _, rfl⟩, sz, hz⟩
        · have hx : x = 0 := Decidable.byContradiction fun z => e (bne_iff_ne.mpr z)
          have hF : stepP ys F (x, u) = F := if_pos hx
          rw [hF]
          exact ⟨⟨_, _, _, _, rfl⟩, sy2, hy2⟩
      · rintro σ Y ⟨⟨y5, y6, y7, y8, rfl⟩, sy, hy⟩
        have lt : (xs.map V.int).length = (xs.zip us).length := by rw [List.length_map, List.length_zip, lu, Nat.min_self]
        rw [lt, List.take_length] at hy
        exact ⟨_, rfl, _, rfl, L, _, rfl, hy, fun p np => q _ p (sy.trans (sub_same np)) (sy.free np) upd_same⟩
end
end K18
/-! # bracket, led -/
namespace K18
open PySem PySem.Spec PyProof.Rows L2 TL NumText RZ
/-- the rule of a def with a default -/
def BodyK (P : Program) (w : World) (K : PySem.W.Frag) (mg : Str → Option Value) (base : Heap) (N ps : List Str) (x : Str) (st : Stmt) (f : Addr) (fd : FuncData) : Prop := ∀ (sp : Sp) (j : Nat), (∀ vs H Q E, sp vs H Q E → vs.length = ps.length) →
  (∀ (cdv : Value) (A : Around) (outer : List Env) (s : Shared) (H : Hp) (vs : List V) (Q : VK) (E : XK), Room j (A.deeper (envOfC x (defScope st) s.heap.objs.size f cdv)) → sp vs H Q E →
    ∃ t, PSs (cxOf CX0 P w K mg base N x (defScope st) f cdv A outer s H E).nox (defBody st) t ∧ t { nx := fun _ H' => Q .non H', rt := Q } (L2.start N vs) H) →
  FnOk P w K mg base CX0 (j + 1) f fd ps sp
theorem nums_len (F : Tri → Int) (ns : List Int) : (numsL F ns).length = (pl ns).length := List.length_map _
theorem nums_get {F : Tri → Int} {ns : List Int} {i : Nat} {t : Tri} (e : (pl ns)[i]? = some t) : (numsL F ns)[i]? = some (F t) := by
  unfold numsL
  rw [List.getElem?_map, e]
  rfl
theorem nums_wd {F : Tri → Int} {ns : List Int} (h : WdN F ns) : ∀ x ∈ numsL F ns, x.natAbs < 2 ^ 100000 := fun x hx => by
  obtain ⟨t, m, rfl⟩ := List.mem_map.mp hx
  exact h t m
theorem ones_nums {ns : List Int} : List.replicate (usL ns).length (0 : Int) = numsL (fun _ => 0) ns := by
  rw [usL_len]
  unfold numsL
  refine List.ext_getElem (by rw [List.length_map, List.length_replicate]) fun j h1 h2 => ?_
  rw [List.getElem_map, List.getElem_replicate]
theorem div_bd {ns : List Int} (S : Shp ns) (N F : Tri → Int) (h : WdN (gD N F ns) ns) : ∀ i, i < (usL ns).length → ((divP (numsL F ns) (usL ns) (numsL N ns) i).getD i 0).natAbs < 2 ^ 100000 := fun i hi => by
  rw [usL_len] at hi
  have M := tables3 ns (shp_mem S)
  have et : (pl ns)[i]? = some (pl ns)[i] := List.getElem?_eq_getElem hi
  have z := h _ (List.getElem_mem hi)
  unfold gD Wd at z
  rwa [idx_of M.1 et] at z
def subN (A B : Tri → Int) : Tri → Int := fun t => A t - B t
def brN (F G : Tri → Int) (ns : List Int) : Tri → Int := gD (subN (mulN F G) (mulN G F)) (mulN G F) ns
def ledN (F G : Tri → Int) (ns : List Int) : Tri → Int := gD (subN (mulN G F) G) G ns
theorem sub_wt {ns : List Int} (S : Shp ns) {c : Nat} {A B : Tri → Int} (a : WtB c A ns) (b : WtB c B ns) : WtB (2 * c) (subN A B) ns := fun t m => by
  have h1 := a t m
  have h2 := b t m
  have d1 := dd1 S m
  have p : 2 * c ^ dd t ≤ (2 * c) ^ dd t := by
    rw [Nat.mul_pow]
    refine Nat.mul_le_mul_right _ ?_
    calc 2 = 2 ^ 1 := rfl
      _ ≤ 2 ^ dd t := Nat.pow_le_pow_right (by decide) d1
  show (A t - B t).natAbs ≤ _
  omega
theorem br_mul {ns : List Int} (S : Shp ns) (F G : Tri → Int) : EqN ns (mulN (brN F G ns) (mulN G F)) (mulN F G) := (div_mul S _ _).trans fun t _ => by
  show mulN F G t - mulN G F t + mulN G F t = mulN F G t
  omega
theorem led_mul {ns : List Int} (S : Shp ns) (F G : Tri → Int) : EqN ns (mulN (ledN F G ns) G) (mulN G F) := (div_mul S _ _).trans fun t _ => by
  show mulN G F t - G t + G t = mulN G F t
  omega
theorem br_flat {ns : List Int} (S : Shp ns) (F G : Tri → Int) (h : anyU (usL ns) = false) : EqN ns (brN F G ns) (fun _ => 0) := by
  have fl := flat_of S h
  have ab : EqN ns (mulN F G) (mulN G F) := fun t m => by
    rw [mul_btN, mul_btN, flat_btN fl F G t m, flat_btN fl G F t m]
    omega
  exact cancel_r S ((br_mul S F G).trans (ab.trans m1l.symm))
theorem br_wt {ns : List Int} (S : Shp ns) {c : Nat} {F G : Tri → Int} (f : WtB c F ns) (g : WtB c G ns) : WtB (32 * c) (brN F G ns) ns := by
  have a := gD_wt S (sub_wt S (wt_mul S f g) (wt_mul S g f)) (wt_up (wt_mul S g f) (c2 := 2 * (2 * c)) (by omega))
  exact wt_up a (by omega)
theorem led_wt {ns : List Int} (S : Shp ns) {c : Nat} {F G : Tri → Int} (f : WtB c F ns) (g : WtB c G ns) : WtB (32 * c) (ledN F G ns) ns := by
  have a := gD_wt S (sub_wt S (wt_mul S g f) (wt_up g (c2 := 2 * c) (by omega))) (wt_up g (c2 := 2 * (2 * c)) (by omega))
  exact wt_up a (by omega)
theorem us_dp {K : PySem.W.Frag} {H : Hp} {y : V} {us : List (List (Int × Int))} (h : Tv K H y (usD us)) : ∃ o ws, y = .ref o ∧ SqT K H o ws ∧ DpAll K H ws (usDs us) := by
  unfold usD at h
  cases h with
  | tup e l => exact ⟨_, _, rfl, e, l.dp⟩
section
variable {P : Program} {w : World} {K : PySem.W.Frag} {mg : Str → Option Value} {base : Heap} {C CS TL : Addr}
abbrev s_brk : Stmt := topS 34
theorem sc_brk : FnScope ["plan", "one", "other", "modulus", "there", "back", "a", "b"] ["plan", "one", "other", "modulus"] (defScope s_brk) := ⟨rfl, rfl, rfl, by decide +kernel, rfl, by decide +kernel, by decide +kernel⟩
/-- two stairs' numbers beside their plan -/
structure Two (K : PySem.W.Frag) (H : Hp) (pln : V) (a b : Addr) (ns : List Int) (F G : Tri → Int) (c : Nat) : Prop where
  S : Shp ns
  p : Tv K H pln (usD (usL ns))
  a : H a = some (.tup ((numsL F ns).map V.int))
  b : H b = some (.tup ((numsL G ns).map V.int))
  wa : WtB c F ns
  wb : WtB c G ns
  c9 : c ≤ 2 ^ 900
theorem Two.wdA {H : Hp} {pln : V} {a b : Addr} {ns : List Int} {F G : Tri → Int} {c : Nat} (h : Two K H pln a b ns F G c) : WdN F ns := wt_wd h.S h.wa (Nat.le_trans h.c9 (Nat.pow_le_pow_right (by decide) (by decide)))
theorem Two.wdB {H : Hp} {pln : V} {a b : Addr} {ns : List Int} {F G : Tri → Int} {c : Nat} (h : Two K H pln a b ns F G c) : WdN G ns := wt_wd h.S h.wb (Nat.le_trans h.c9 (Nat.pow_le_pow_right (by decide) (by decide)))
def spBrk (K : PySem.W.Frag) : Sp := fun vs H Q _ => ∃ (pln : V) (a b : Addr) (ns : List Int) (F G : Tri → Int) (c : Nat), vs = [pln, .ref a, .ref b, .int 0] ∧ Two K H pln a b ns F G c ∧ ∀ H' p, Same H H' → H' p = some (.tup ((numsL (brN F G ns) ns).map V.int)) → Q (.ref p) H'
theorem ok_brk {f f1 f3 fT : Addr} {fd fd1 fd3 fdT : FuncData} (T : Txt mg) (N : Nam mg) (nz : mg "zip" = none)
    (body : BodyK P w K mg base ["plan", "one", "other", "modulus", "there", "back", "a", "b"] ["plan", "one", "other", "modulus"] "bracket" s_brk f fd)
    (d1 : D K mg "ones" s_ones ["plan"] f1 fd1) (G1 : FnOk P w K mg base CX0 1 f1 fd1 ["plan"] (spOnes K))
    (gT : mg "times" = some (.ref fT)) (kT : PySem.W.keepIn K (.ref fT) = true) (bT4 : Binds K fdT ["plan", "one", "other", "modulus"] []) (GT : FnOk P w K mg base CX0 2 fT fdT ["plan", "one", "other", "modulus"] (spTimes K))
    (d3 : D K mg "divided_by" s_div ["plan", "numbers", "other", "modulus"] f3 fd3) (G3 : FnOk P w K mg base CX0 1 f3 fd3 ["plan", "numbers", "other", "modulus"] (spDiv K)) :
    FnOk P w K mg base CX0 3 f fd ["plan", "one", "other", "modulus"] (spBrk K) := by
  refine body (spBrk K) 2 (fun vs H Q E h => ?_) (fun cdv A outer s H vs Q E hr h => ?_)
  · obtain ⟨pln, a, b, ns, F, G, c, rfl, _⟩ := h
    rfl
  · obtain ⟨pln, a, b, ns, F, G, c, rfl, tw, q⟩ := h
    refine ⟨_, (pss_cons (ps_if (pt_not (pt_val (pe_callB (cr_anyTD rfl) (by rfl) N.n_any (by decide +kernel) (pa_cons (pv 0) pa_nil)))) (pss_one (ps_ret (pe_call G1 (hr.mono (by decide)) (by rfl) d1.g d1.F.kp d1.b .nil pass0 (pa_cons (pv 0) pa_nil)))) pss_nil)
      (pss_cons (ps_set (i := 4) sc_brk.nd rfl (.inl rfl) (pe_call GT (hr.mono (by decide)) (by rfl) gT kT bT4 .nil pass0 (pa_cons (pv 0) (pa_cons (pv 1) (pa_cons (pv 2) (pa_cons (pv 3) pa_nil))))))
      (pss_cons (ps_set (i := 5) sc_brk.nd rfl (.inl rfl) (pe_call GT (hr.mono (by decide)) (by rfl) gT kT bT4 .nil pass0 (pa_cons (pv 0) (pa_cons (pv 2) (pa_cons (pv 1) (pa_cons (pv 3) pa_nil))))))
      (pss_one (ps_ret (pe_call G3 (hr.mono (by decide)) (by rfl) d3.g d3.F.kp d3.b .nil pass0 (pa_cons (pv 0) (pa_cons (pe_lc (own := [("a", 6), ("b", 7)]) (g := gTup K 2 (gCons (gName 6) (gCons (gName 7) gNil))) (tt := tYes) rfl sc_brk.nd (pi_zipA (by rfl) nz (pa_cons (pv 4) (pa_cons (pv 5) pa_nil))) (blkOk_by (own := [("a", 6), ("b", 7)]) (N := ["plan", "one", "other", "modulus", "there", "back", "a", "b"]) (sc := defScope s_brk) (by decide +kernel))
            (fun _ _ _ _ _ => (pg_tup rfl (pgs_cons (pg_name (i := 6) sc_brk.nd rfl (Or.inl rfl)) (pgs_cons (pg_name (i := 7) sc_brk.nd rfl (Or.inl rfl)) pgs_nil)))) (fun _ _ _ _ _ => pts_nil) (fun _ _ _ _ _ => (pe_op op_sub (pv 6) (pv 7)))) (pa_cons (pv 5) (pa_cons (pv 3) pa_nil)))))))))), ?_⟩
    have S := tw.S
    have M := tables3 ns (shp_mem S)
    have l30 := M.2.1
    obtain ⟨o, ws, rfl, eo, dp⟩ := us_dp tw.p
    refine ⟨_, rfl, o, ws, _, rfl, eo, dp, us_plain _, us_fits S, ?_⟩
    rw [us_any]
    refine ⟨_, rfl, ?_⟩
    have u9 := usL_len ns
    have wf := tw.wdA
    have wg := tw.wdB
    cases eu : anyU (usL ns) with
    | false =>
      refine ite2 (fun _ => ?_) (fun z => absurd rfl z)
      refine ⟨_, rfl, .ref o, usL ns, rfl, tw.p, by omega, fun H1 p s1 np ep => ?_⟩
      rw [ones_nums, ← nums_congr (br_flat S F G eu)] at ep
      exact q H1 p s1 ep
    | true =>
      refine ite2 (fun z => absurd z Bool.false_ne_true) (fun _ => ?_)
      refine ⟨_, rfl, _, rfl, _, rfl, _, rfl, .ref o, a, b, numsL F ns, numsL G ns, usL ns, rfl, tw.p, tw.a, tw.b, by rw [nums_len, u9], by rw [nums_len, nums_len], by rw [nums_len]; omega, by rw [nums_len]; exact inR_plan S, nums_wd wf, nums_wd wg, fun H1 p1 s1 n1 e1 => ?_⟩
      rw [prod_mulN S] at e1
      refine ⟨_, rfl, _, rfl, _, rfl, _, rfl, .ref o, b, a, numsL G ns, numsL F ns, usL ns, rfl, tw.p.same s1, s1 _ _ tw.b, s1 _ _ tw.a, by rw [nums_len, u9], by rw [nums_len, nums_len], by rw [nums_len]; omega, by rw [nums_len]; exact inR_plan S, nums_wd wg, nums_wd wf, fun H2 p2 s2 n2 e2 => ?_⟩
      rw [prod_mulN S] at e2
      have e1 := s2 _ _ e1
      have tp := tw.p.same (s1.trans s2)
      refine ⟨_, rfl, _, rfl, _, rfl, p1, p2, _, _, rfl, .inr ⟨sqt_new e1, sqt_new e2, fun L nL => ?_⟩⟩
      refine lc_it (walk_zipT (K := K) (a := p1) (b := p2) (by simp only [List.length_map, nums_len])) (fun i Z => Same H2 Z ∧ Z L = some (.lst (((numsL (subN (mulN F G) (mulN G F)) ns).take i).map V.int))) ⟨sub_same nL, upd_same⟩ (fun i Z _ h => ⟨sqt_same (sqt_new e1) h.1, sqt_same (sqt_new e2) h.1⟩) ?_ ?_
      · rintro i v Z Z' hi ⟨sm, hl⟩ ⟨Tp, x0, y0, rfl, nT, rfl, ex, ey⟩
        obtain ⟨x, ex2, rfl⟩ := int_at ex
        obtain ⟨y, ey2, rfl⟩ := int_at ey
        rw [List.length_map, nums_len] at hi
        have et : (pl ns)[i]? = some (pl ns)[i] := List.getElem?_eq_getElem hi
        have z1 := nums_get (F := mulN F G) et
        rw [ex2] at z1
        obtain rfl := Option.some.inj z1
        have z2 := nums_get (F := mulN G F) et
        rw [ey2] at z2
        obtain rfl := Option.some.inj z2
        have z3 := nums_get (F := subN (mulN F G) (mulN G F)) et
        have s3 := sub_same (o := .tup [V.int (mulN F G (pl ns)[i]), V.int (mulN G F (pl ns)[i])]) nT
        have hl2 := s3 _ _ hl
        have sm2 := sm.trans s3
        have hT : upd Z Tp (.tup [V.int (mulN F G (pl ns)[i]), V.int (mulN G F (pl ns)[i])]) Tp = some (.tup [V.int (mulN F G (pl ns)[i]), V.int (mulN G F (pl ns)[i])]) := upd_same
        revert hl2 sm2 hT
        generalize upd Z Tp (.tup [V.int (mulN F G (pl ns)[i]), V.int (mulN G F (pl ns)[i])]) = Z2
        intro hl2 sm2 hT
        refine ⟨Tp, _, rfl, .inl (.inl hT), rfl, _, _, rfl, _, _, rfl, rfl, rfl, yesT ?_⟩
        refine ⟨_, rfl, _, rfl, _, _, rfl, rfl, _, hl2, ?_, fun k ob e => ?_, ?_⟩
        · rw [List.length_map, List.length_take, nums_len, sizeLine_eq]
          omega
        · rw [upd_ne (fun z => by rw [z, nL] at e; cases e)]
          exact sm2 _ _ e
        · rw [upd_same, List.take_succ, z3, List.map_append]
          rfl
      · rintro Z ⟨sm, hl⟩
        rw [List.length_map, nums_len, ← nums_len (subN (mulN F G) (mulN G F)) ns, List.take_length] at hl
        refine ⟨_, rfl, _, rfl, .ref o, L, p2, _, _, usL ns, rfl, tp.same sm, hl, sm _ _ e2, by rw [nums_len, u9], by rw [nums_len, u9], by omega, by rw [u9]; exact inR_plan S, div_bd S _ _ (wt_wd S (br_wt S tw.wa tw.wb) ?_), nums_wd (wt_wd S (wt_mul S tw.wb tw.wa) ?_), fun H3 p3 s4 n4 e4 => ?_⟩
        · exact Nat.le_trans (Nat.mul_le_mul_left 32 tw.c9) (by decide +kernel)
        · exact Nat.le_trans (Nat.mul_le_mul_left 2 tw.c9) (by decide +kernel)
        · rw [u9, div_nums S] at e4
          exact q H3 p3 ((s1.trans s2).trans (sm.trans s4)) e4
abbrev s_led : Stmt := topS 36
theorem sc_led : FnScope ["plan", "numbers", "other", "modulus", "there", "a", "b"] ["plan", "numbers", "other", "modulus"] (defScope s_led) := ⟨rfl, rfl, rfl, by decide +kernel, rfl, by decide +kernel, by decide +kernel⟩
def spLed (K : PySem.W.Frag) : Sp := fun vs H Q _ => ∃ (pln : V) (a b : Addr) (ns : List Int) (F G : Tri → Int) (c : Nat), vs = [pln, .ref a, .ref b, .int 0] ∧ Two K H pln a b ns F G c ∧ ∀ H' p, Same H H' → H' p = some (.tup ((numsL (ledN F G ns) ns).map V.int)) → Q (.ref p) H'
theorem ok_led {f f3 fT : Addr} {fd fd3 fdT : FuncData} (nz : mg "zip" = none)
    (body : BodyK P w K mg base ["plan", "numbers", "other", "modulus", "there", "a", "b"] ["plan", "numbers", "other", "modulus"] "led" s_led f fd)
    (gT : mg "times" = some (.ref fT)) (kT : PySem.W.keepIn K (.ref fT) = true) (bT4 : Binds K fdT ["plan", "one", "other", "modulus"] []) (GT : FnOk P w K mg base CX0 2 fT fdT ["plan", "one", "other", "modulus"] (spTimes K))
    (d3 : D K mg "divided_by" s_div ["plan", "numbers", "other", "modulus"] f3 fd3) (G3 : FnOk P w K mg base CX0 1 f3 fd3 ["plan", "numbers", "other", "modulus"] (spDiv K)) :
    FnOk P w K mg base CX0 3 f fd ["plan", "numbers", "other", "modulus"] (spLed K) := by
  refine body (spLed K) 2 (fun vs H Q E h => ?_) (fun cdv A outer s H vs Q E hr h => ?_)
  · obtain ⟨pln, a, b, ns, F, G, c, rfl, _⟩ := h
    rfl
  · obtain ⟨pln, a, b, ns, F, G, c, rfl, tw, q⟩ := h
    refine ⟨_, (pss_cons (ps_set (i := 4) sc_led.nd rfl (.inl rfl) (pe_call GT (hr.mono (by decide)) (by rfl) gT kT bT4 .nil pass0 (pa_cons (pv 0) (pa_cons (pv 2) (pa_cons (pv 1) (pa_cons (pv 3) pa_nil))))))
      (pss_one (ps_ret (pe_call G3 (hr.mono (by decide)) (by rfl) d3.g d3.F.kp d3.b .nil pass0 (pa_cons (pv 0) (pa_cons (pe_lc (own := [("a", 5), ("b", 6)]) (g := gTup K 2 (gCons (gName 5) (gCons (gName 6) gNil))) (tt := tYes) rfl sc_led.nd (pi_zipA (by rfl) nz (pa_cons (pv 4) (pa_cons (pv 2) pa_nil))) (blkOk_by (own := [("a", 5), ("b", 6)]) (N := ["plan", "numbers", "other", "modulus", "there", "a", "b"]) (sc := defScope s_led) (by decide +kernel))
            (fun _ _ _ _ _ => (pg_tup rfl (pgs_cons (pg_name (i := 5) sc_led.nd rfl (Or.inl rfl)) (pgs_cons (pg_name (i := 6) sc_led.nd rfl (Or.inl rfl)) pgs_nil)))) (fun _ _ _ _ _ => pts_nil) (fun _ _ _ _ _ => (pe_op op_sub (pv 5) (pv 6)))) (pa_cons (pv 2) (pa_cons (pv 3) pa_nil)))))))), ?_⟩
    have S := tw.S
    have M := tables3 ns (shp_mem S)
    have l30 := M.2.1
    have u9 := usL_len ns
    have wf := tw.wdA
    have wg := tw.wdB
    refine ⟨_, rfl, _, rfl, _, rfl, _, rfl, pln, b, a, numsL G ns, numsL F ns, usL ns, rfl, tw.p, tw.b, tw.a, by rw [nums_len, u9], by rw [nums_len, nums_len], by rw [nums_len]; omega, by rw [nums_len]; exact inR_plan S, nums_wd wg, nums_wd wf, fun H2 p1 s2 n2 e1 => ?_⟩
    rw [prod_mulN S] at e1
    have tp := tw.p.same s2
    have e2 := s2 _ _ tw.b
    refine ⟨_, rfl, _, rfl, _, rfl, p1, b, _, _, rfl, .inr ⟨sqt_new e1, sqt_new e2, fun L nL => ?_⟩⟩
    refine lc_it (walk_zipT (K := K) (a := p1) (b := b) (by simp only [List.length_map, nums_len])) (fun i Z => Same H2 Z ∧ Z L = some (.lst (((numsL (subN (mulN G F) G) ns).take i).map V.int))) ⟨sub_same nL, upd_same⟩ (fun i Z _ h => ⟨sqt_same (sqt_new e1) h.1, sqt_same (sqt_new e2) h.1⟩) ?_ ?_
    · rintro i v Z Z' hi ⟨sm, hl⟩ ⟨Tp, x0, y0, rfl, nT, rfl, ex, ey⟩
      obtain ⟨x, ex2, rfl⟩ := int_at ex
      obtain ⟨y, ey2, rfl⟩ := int_at ey
      rw [List.length_map, nums_len] at hi
      have et : (pl ns)[i]? = some (pl ns)[i] := List.getElem?_eq_getElem hi
      have z1 := nums_get (F := mulN G F) et
      rw [ex2] at z1
      obtain rfl := Option.some.inj z1
      have z2 := nums_get (F := G) et
      rw [ey2] at z2
      obtain rfl := Option.some.inj z2
      have z3 := nums_get (F := subN (mulN G F) G) et
      have s3 := sub_same (o := .tup [V.int (mulN G F (pl ns)[i]), V.int (G (pl ns)[i])]) nT
      have hl2 := s3 _ _ hl
      have sm2 := sm.trans s3
      have hT : upd Z Tp (.tup [V.int (mulN G F (pl ns)[i]), V.int (G (pl ns)[i])]) Tp = some (.tup [V.int (mulN G F (pl ns)[i]), V.int (G (pl ns)[i])]) := upd_same
      revert hl2 sm2 hT
      generalize upd Z Tp (.tup [V.int (mulN G F (pl ns)[i]), V.int (G (pl ns)[i])]) = Z2
      intro hl2 sm2 hT
      refine ⟨Tp, _, rfl, .inl (.inl hT), rfl, _, _, rfl, _, _, rfl, rfl, rfl, yesT ?_⟩
      refine ⟨_, rfl, _, rfl, _, _, rfl, rfl, _, hl2, ?_, fun k ob e => ?_, ?_⟩
      · rw [List.length_map, List.length_take, nums_len, sizeLine_eq]
        omega
      · rw [upd_ne (fun z => by rw [z, nL] at e; cases e)]
        exact sm2 _ _ e
      · rw [upd_same, List.take_succ, z3, List.map_append]
        rfl
    · rintro Z ⟨sm, hl⟩
      rw [List.length_map, nums_len, ← nums_len (subN (mulN G F) G) ns, List.take_length] at hl
      refine ⟨_, rfl, _, rfl, pln, L, b, _, _, usL ns, rfl, tp.same sm, hl, sm _ _ e2, by rw [nums_len, u9], by rw [nums_len, u9], by omega, by rw [u9]; exact inR_plan S, div_bd S _ _ (wt_wd S (led_wt S tw.wa tw.wb) ?_), nums_wd wg, fun H3 p3 s4 n4 e4 => ?_⟩
      · exact Nat.le_trans (Nat.mul_le_mul_left 32 tw.c9) (by decide +kernel)
      · rw [u9, div_nums S] at e4
        exact q H3 p3 (s2.trans (sm.trans s4)) e4
end
end K18
/-! # raised -/
namespace K18
open PySem PySem.Spec PyProof.Rows L2 TL NumText RZ
def partS (F : Tri → Int) (n : Int) (j : Nat) (t : Tri) : Int := sumR j fun k => bi n (k + 1) * nP F k t
theorem bi_one (n : Int) : bi n 1 = n := by
  have e := bi_step 0 n
  rw [bi_zero] at e
  have e : (0 + 1) * bi n 1 = (n - 0) * 1 := e
  omega
theorem bi_none {n : Int} {k : Nat} (h : bi n (k + 1) = 0) : ∀ j, bi n (k + j + 1) = 0
  | 0 => h
  | j + 1 => by
    have e := bi_step (k + j + 1) n
    rw [bi_none h j, Int.mul_zero] at e
    have c : (((k + j + 1 : Nat) : Int)) + 1 ≠ 0 := by omega
    exact (Int.mul_eq_zero.mp e).resolve_left c
theorem part_bi {F : Tri → Int} {n : Int} {k : Nat} (h : bi n (k + 1) = 0) (t : Tri) : ∀ j, partS F n (k + j) t = partS F n k t
  | 0 => rfl
  | j + 1 => by
    unfold partS
    rw [← Nat.add_assoc, sumR_succ, bi_none h j, Int.zero_mul, Int.add_zero]
    exact part_bi h t j
theorem nP_none {ns : List Int} (S : Shp ns) {F : Tri → Int} {k : Nat} (h : EqN ns (nP F k) (fun _ => 0)) : ∀ j, EqN ns (nP F (k + j)) (fun _ => 0)
  | 0 => h
  | j + 1 => (btN_congr S (nP_none S h j) (EqN.rfl' (x := F))).trans fun t m => sum_none _ _ fun d => Int.zero_mul _
theorem part_nP {ns : List Int} (S : Shp ns) {F : Tri → Int} {n : Int} {k : Nat} (h : EqN ns (nP F k) (fun _ => 0)) {t : Tri} (m : t ∈ pl ns) : ∀ j, partS F n (k + j) t = partS F n k t
  | 0 => rfl
  | j + 1 => by
    unfold partS
    rw [← Nat.add_assoc, sumR_succ, nP_none S h j t m, Int.mul_zero, Int.add_zero]
    exact part_nP S h m j
theorem part_six {ns : List Int} (S : Shp ns) {F : Tri → Int} {n : Int} {k : Nat} (l : k ≤ 6) (h : bi n (k + 1) = 0 ∨ EqN ns (nP F k) (fun _ => 0)) : EqN ns (partS F n k) (powZ F n) := fun t m => by
  have e : partS F n (k + (6 - k)) t = partS F n k t := by
    rcases h with h | h
    · exact part_bi h t _
    · exact part_nP S h m _
  rw [← e, show k + (6 - k) = 6 by omega]
  rfl
theorem part_one (F : Tri → Int) (n : Int) (t : Tri) : partS F n 1 t = n * F t := by
  unfold partS
  rw [sumR_succ, bi_one]
  show (0 : Int) + n * F t = n * F t
  omega
theorem flat_nP {ns : List Int} (h : ∀ t ∈ pl ns, (t.2.2 - t.2.1 - 1).toNat = 0) (F : Tri → Int) : EqN ns (nP F 1) (fun _ => 0) := flat_btN h F F
theorem nP_small {ns : List Int} (S : Shp ns) {F : Tri → Int} {k : Nat} (h : ¬ EqN ns (nP F k) (fun _ => 0)) : k ≤ 4 := by
  by_cases z : k ≤ 4
  · exact z
  · exact absurd (fun t m => nP_zero S F k t m (by have := dd5 S m; omega)) h
theorem und_bd {ns : List Int} (S : Shp ns) {F : Tri → Int} (h : WdN (gU F ns) ns) : UndOk (numsL F ns) (usL ns) := fun i hi => by
  have e : (numsL F ns).map (fun y => -y) = numsL (fun t => -F t) ns := by
    unfold numsL
    rw [List.map_map]
    rfl
  rw [e]
  exact div_bd S _ F h i hi
theorem gU_wt {ns : List Int} (S : Shp ns) {c : Nat} {F : Tri → Int} (h : WtB c F ns) : WtB (8 * c) (gU F ns) ns := gD_wt S (fun t m => by
  have := h t m
  show (-F t).natAbs ≤ _
  omega) h
theorem any_none {F : Tri → Int} {ns : List Int} (h : ((numsL F ns).any fun n => n != 0) = false) : EqN ns F (fun _ => 0) := fun t m => by
  rw [List.any_eq_false] at h
  have y := h (F t) (List.mem_map.mpr ⟨t, m, rfl⟩)
  exact Decidable.byContradiction fun z => y (bne_iff_ne.mpr z)
theorem any_some {F : Tri → Int} {ns : List Int} (h : ((numsL F ns).any fun n => n != 0) = true) : ¬ EqN ns F (fun _ => 0) := fun e => by
  obtain ⟨x, hx, nx⟩ := List.any_eq_true.mp h
  obtain ⟨t, m, rfl⟩ := List.mem_map.mp hx
  exact bne_iff_ne.mp nx (e t m)
section
variable {P : Program} {w : World} {K : PySem.W.Frag} {mg : Str → Option Value} {base : Heap} {C CS TL : Addr}
abbrev s_rsd : Stmt := topS 38
theorem sc_rsd : FnScope ["plan", "numbers", "many", "modulus", "found", "part", "share", "taken", "factor", "number", "entry"] ["plan", "numbers", "many", "modulus"] (defScope s_rsd) := ⟨rfl, rfl, rfl, by decide +kernel, rfl, by decide +kernel, by decide +kernel⟩
def spRsd (K : PySem.W.Frag) : Sp := fun vs H Q _ => ∃ (pln : V) (a : Addr) (ns : List Int) (F : Tri → Int) (n : Int) (c : Nat), vs = [pln, .ref a, .int n, .int 0] ∧ Shp ns ∧ Tv K H pln (usD (usL ns)) ∧ H a = some (.tup ((numsL F ns).map V.int)) ∧ WtB c F ns ∧ c ≤ 2 ^ 300 ∧ n.natAbs ≤ 2 ^ 300 ∧
  ∀ H' p, Same H H' → H' p = some (.tup ((numsL (powZ F n) ns).map V.int)) → Q (.ref p) H'
theorem ok_rsd {f f1 f2 fU : Addr} {fd fd1 fd2 fdU : FuncData} (T : Txt mg) (N : Nam mg) (nz : mg "zip" = none)
    (body : BodyK P w K mg base ["plan", "numbers", "many", "modulus", "found", "part", "share", "taken", "factor", "number", "entry"] ["plan", "numbers", "many", "modulus"] "raised" s_rsd f fd)
    (d1 : D K mg "rest" s_rest ["numbers", "modulus"] f1 fd1) (d2 : D K mg "times_between" s_tbt ["plan", "one", "other", "modulus"] f2 fd2) (G2 : FnOk P w K mg base CX0 2 f2 fd2 ["plan", "one", "other", "modulus"] (spTbt K))
    (gU_ : mg "undone" = some (.ref fU)) (kU : PySem.W.keepIn K (.ref fU) = true) (bU3 : Binds K fdU ["plan", "numbers", "modulus"] []) (GU : FnOk P w K mg base CX0 2 fU fdU ["plan", "numbers", "modulus"] (spUnd K)) :
    FnOk P w K mg base CX0 3 f fd ["plan", "numbers", "many", "modulus"] (spRsd K) := by
  have G1 : FnOk P w K mg base CX0 1 f1 fd1 ["numbers", "modulus"] spRest := ok_rest T d1
  refine body (spRsd K) 2 (fun vs H Q E h => ?_) (fun cdv A outer s H vs Q E hr h => ?_)
  · obtain ⟨pln, a, ns, F, n, c, rfl, _⟩ := h
    rfl
  · obtain ⟨pln, a, ns, F, n, c, rfl, S, tp, ea, wt, c3, n3, q⟩ := h
    refine ⟨_, (pss_cons (ps_if (pt_cmpR op_eq (pv 2) pe_int (nomark _)) (pss_one (ps_ret (pv 1))) pss_nil)
      (pss_cons (ps_if (pt_cmpR op_eq (pv 2) (pe_un un_neg pe_int) (nomark _)) (pss_one (ps_ret (pe_call GU (hr.mono (by decide)) (by rfl) gU_ kU bU3 .nil pass0 (pa_cons (pv 0) (pa_cons (pv 1) (pa_cons (pv 3) pa_nil)))))) pss_nil)
      (pss_cons (ps_setLc (i := 4) (own := [("number", 9)]) (g := gName 9) (tt := tYes) rfl sc_rsd.nd rfl rfl rfl (pi_tup (pv 1)) (blkOk_by (own := [("number", 9)]) (N := ["plan", "numbers", "many", "modulus", "found", "part", "share", "taken", "factor", "number", "entry"]) (sc := defScope s_rsd) (by decide +kernel))
            (fun _ _ _ _ _ => (pg_name (i := 9) sc_rsd.nd rfl (Or.inl rfl))) (fun _ _ _ _ _ => pts_nil) (fun _ _ _ _ _ => (pe_op op_mulW (pv 2) (pv 9))))
      (pss_cons (ps_if (pt_not (pt_val (pe_callB (cr_anyTD rfl) (by rfl) N.n_any (by decide +kernel) (pa_cons (pv 0) pa_nil)))) (pss_one (ps_ret (pe_call G1 (hr.mono (by decide)) (by rfl) d1.g d1.F.kp d1.b .nil pass0 (pa_cons (pv 4) (pa_cons (pv 3) pa_nil))))) pss_nil)
      (pss_cons (ps_set (i := 5) sc_rsd.nd rfl (.inl rfl) (pv 1))
      (pss_cons (ps_set (i := 6) sc_rsd.nd rfl (.inl rfl) (pv 2))
      (pss_cons (ps_set (i := 7) sc_rsd.nd rfl (.inl rfl) pe_int)
      (pss_cons (ps_while PassesOwn.never (pt_truth (pv 6) (fun _ => rfl))
        (pss_cons (ps_set (i := 5) sc_rsd.nd rfl (.inl rfl) (pe_call G2 (hr.mono (by decide)) (by rfl) d2.g d2.F.kp d2.b .nil pass0 (pa_cons (pv 0) (pa_cons (pv 5) (pa_cons (pv 1) (pa_cons (pv 3) pa_nil))))))
      (pss_cons (ps_if (pt_not (pt_val (pe_callB (cr_anyT rfl) (by rfl) N.n_any (by decide +kernel) (pa_cons (pv 5) pa_nil)))) (pss_one ps_break) pss_nil)
      (pss_cons (ps_set (i := 6) sc_rsd.nd rfl (.inl rfl) (pe_op op_fdivW (pe_op op_mulW (pv 6) (pe_op op_sub (pv 2) (pv 7))) (pe_op op_add (pv 7) pe_int)))
      (pss_cons (ps_aug (i := 7) sc_rsd.nd rfl (.inl rfl) pe_int ip_add)
      (pss_cons (ps_set (i := 8) sc_rsd.nd rfl (.inr rfl) (pe_ifExp (pt_truth (pv 3) (fun _ => rfl)) (pe_op op_mod (pv 6) (pv 3)) (pv 6)))
      (pss_one (ps_setLc (i := 4) (own := [("number", 9), ("entry", 10)]) (g := gTup K 2 (gCons (gName 9) (gCons (gName 10) gNil))) (tt := tYes) rfl sc_rsd.nd rfl rfl rfl (pi_zipM (by rfl) nz (pa_cons (pv 4) (pa_cons (pv 5) pa_nil))) (blkOk_by (own := [("number", 9), ("entry", 10)]) (N := ["plan", "numbers", "many", "modulus", "found", "part", "share", "taken", "factor", "number", "entry"]) (sc := defScope s_rsd) (by decide +kernel))
            (fun _ _ _ _ _ => (pg_tup rfl (pgs_cons (pg_name (i := 9) sc_rsd.nd rfl (Or.inl rfl)) (pgs_cons (pg_name (i := 10) sc_rsd.nd rfl (Or.inl rfl)) pgs_nil)))) (fun _ _ _ _ _ => pts_nil) (fun _ _ _ _ _ => (pe_op op_add (pv 9) (pe_op op_mulW (pv 8) (pv 10))))))))))))
      (pss_one (ps_ret (pe_call G1 (hr.mono (by decide)) (by rfl) d1.g d1.F.kp d1.b .nil pass0 (pa_cons (pv 4) (pa_cons (pv 3) pa_nil))))))))))))), ?_⟩
    have M := tables3 ns (shp_mem S)
    have l30 := M.2.1
    have u9 := usL_len ns
    have wf : WdN F ns := wt_wd S wt (Nat.le_trans c3 (Nat.pow_le_pow_right (by decide) (by decide)))
    refine ⟨_, rfl, rfl, _, rfl, ite2 (fun z => ?_) (fun z1 => ?_)⟩
    · have n1 : n = 1 := V.int.inj (of_decide_eq_true z)
      subst n1
      refine ⟨_, rfl, q H a (fun _ _ h => h) ?_⟩
      rw [nums_congr (pz_one S F)]
      exact ea
    refine ⟨_, rfl, _, rfl, rfl, _, rfl, ite2 (fun z => ?_) (fun z2 => ?_)⟩
    · have n1 : n = -1 := V.int.inj (of_decide_eq_true z)
      subst n1
      refine ⟨_, rfl, _, rfl, _, rfl, pln, a, numsL F ns, usL ns, rfl, tp, ea, by rw [nums_len, u9], by omega, by rw [u9]; exact inR_plan S, und_bd S (wt_wd S (gU_wt S wt) ?_), nums_wd wf, fun H1 p s1 np ep => ?_⟩
      · exact Nat.le_trans (Nat.mul_le_mul_left 8 c3) (by decide +kernel)
      · rw [und_nums S, ← nums_congr (pz_und S F)] at ep
        exact q H1 p s1 ep
    have nW : n.natAbs < 2 ^ 301 := Nat.lt_of_le_of_lt n3 (by decide +kernel)
    refine ⟨_, rfl, a, rfl, ⟨_, sqt_new ea⟩, fun L nL => ?_⟩
    refine lc_tup (K := K) (a := a) (xs := (numsL F ns).map V.int) (fun i Z => Same H Z ∧ Z L = some (.lst (((numsL (partS F n 1) ns).take i).map V.int))) ⟨sub_same nL, upd_same⟩ (fun i Z _ h => sqt_same (sqt_new ea) h.1) ?_ ?_
    · rintro i x Z hx ⟨sz, hl⟩
      obtain ⟨y, ey, rfl⟩ := int_at hx
      have il := (List.getElem?_eq_some_iff.mp ey).1
      rw [nums_len] at il
      have et : (pl ns)[i]? = some (pl ns)[i] := List.getElem?_eq_getElem il
      have z1 := nums_get (F := F) et
      rw [ey] at z1
      obtain rfl := Option.some.inj z1
      have z3 := nums_get (F := partS F n 1) et
      refine ⟨rfl, yesT ⟨_, rfl, _, rfl, _, _, rfl, rfl, wide_mul nW (wf _ (List.getElem_mem il)) (by decide) (by decide) (by decide), _, hl, ?_, fun k ob e => ?_, ?_⟩⟩
      · rw [List.length_map, List.length_take, nums_len, sizeLine_eq]
        omega
      · rw [upd_ne (fun z => by rw [z, nL] at e; cases e)]
        exact sz _ _ e
      · rw [upd_same, List.take_succ, z3, List.map_append, part_one]
        rfl
    rintro Z ⟨sz, hl⟩
    rw [List.length_map, nums_len, ← nums_len (partS F n 1) ns, List.take_length] at hl
    obtain ⟨o, ws, rfl, eo, dp⟩ := us_dp (tp.same sz)
    refine ⟨_, rfl, o, ws, _, rfl, eo, dp, us_plain _, us_fits S, ?_⟩
    rw [us_any]
    have tail : ∀ (Y : Hp) (l : Addr) (G : Tri → Int), Same H Y → Y l = some (.lst ((numsL G ns).map V.int)) → EqN ns G (powZ F n) → ∀ p, Y p = none → Q (.ref p) (upd Y p (.tup ((numsL G ns).map V.int))) := fun Y l G sy hl e p np => by
      refine q _ p (sy.trans (sub_same np)) ?_
      rw [upd_same, nums_congr e]
    refine ⟨_, rfl, ?_⟩
    cases eu : anyU (usL ns) with
    | false =>
      refine ite2 (fun _ => ?_) (fun z => absurd rfl z)
      exact ⟨_, rfl, _, rfl, L, _, rfl, hl, tail Z L _ sz hl (part_six S (by decide) (.inr (flat_nP (flat_of S eu) F)))⟩
    | true =>
      refine ite2 (fun z => absurd z Bool.false_ne_true) (fun _ => ?_)
      refine ⟨_, rfl, _, rfl, ?_⟩
      refine ⟨fun m σ Y => ∃ (k : Nat) (l p : Addr) (y8 : Option V), m = 6 - k ∧ k ≤ 4 ∧ σ = [some (.ref o), some (.ref a), some (.int n), some (.int 0), some (.ref l), some (.ref p), some (.int (bi n (k + 1))), some (.int ((k : Int) + 1)), y8, none, none] ∧ Same H Y ∧ Y p = some (.tup ((numsL (nP F k) ns).map V.int)) ∧ Y l = some (.lst ((numsL (partS F n (k + 1)) ns).map V.int)), ⟨_, 0, L, a, none, rfl, by decide, ?_, sz, sz _ _ ea, hl⟩, ?_⟩
      · rw [bi_one]
        rfl
      · rintro m σ Y ⟨k, l, p, y8, rfl, k4, rfl, sy, ep, hl⟩
        have nb := bi_abs n
        have bW : ∀ j, j ≤ 6 → (bi n j).natAbs < 2 ^ 2000 := fun j hj => by
          refine Nat.lt_of_le_of_lt (Nat.le_trans (bi_abs n j hj) (Nat.pow_le_pow_left (show n.natAbs + 6 ≤ 2 ^ 301 from Nat.le_trans (Nat.add_le_add_right n3 6) (by decide +kernel)) j)) ?_
          rw [← Nat.pow_mul]
          exact Nat.pow_lt_pow_right (by decide) (by omega)
        refine ⟨_, rfl, _, rfl, ite2 (fun e => ?_) (fun e => ?_)⟩
        · refine ⟨fun σ2 Y2 => ∃ m', m' < 6 - k ∧ _, fun σ' H' h => h, ?_⟩
          have tpY : Tv K Y (.ref o) (usD (usL ns)) := tp.same sy
          have wp : WdN (nP F k) ns := wt_wd S (nP_wt S wt k) (Nat.le_trans (Nat.mul_le_mul (Nat.pow_le_pow_right (by decide) k4) c3) (by decide +kernel))
          refine ⟨_, rfl, _, rfl, _, rfl, _, rfl, .ref o, p, a, numsL (nP F k) ns, numsL F ns, usL ns, rfl, tpY, ep, sy _ _ ea, by rw [nums_len, u9], by rw [nums_len, nums_len], by rw [nums_len]; omega, by rw [nums_len]; exact inR_plan S, nums_wd wp, nums_wd wf, fun Y2 p2 s2 n2 e2 => ?_⟩
          rw [bet_nums S] at e2
          have e2 : Y2 p2 = some (.tup ((numsL (nP F (k + 1)) ns).map V.int)) := e2
          have hl := s2 _ _ hl
          have sy := sy.trans s2
          refine ⟨_, rfl, p2, numsL (nP F (k + 1)) ns, rfl, sqt_new e2, _, rfl, ?_⟩
          cases an : (numsL (nP F (k + 1)) ns).any fun n => n != 0 with
          | false =>
            refine ite2 (fun _ => ?_) (fun z => absurd rfl z)
            exact ⟨_, rfl, _, rfl, l, _, rfl, hl, tail Y2 l _ sy hl (part_six S (by omega) (.inr (any_none an)))⟩
          | true =>
            have k3 : k + 1 ≤ 4 := nP_small S (any_some an)
            refine ite2 (fun z => absurd z Bool.false_ne_true) (fun _ => ?_)
            have nk : (n - ((k : Int) + 1)).natAbs < 2 ^ 302 := by
              have : n.natAbs ≤ 2 ^ 300 := n3
              have : (2 : Nat) ^ 302 = 4 * 2 ^ 300 := by decide +kernel
              have : 16 ≤ 2 ^ 300 := by decide +kernel
              omega
            have bs : bi n (k + 1) * (n - ((k : Int) + 1)) / ((k : Int) + 1 + 1) = bi n (k + 1 + 1) := bi_next (k + 1) n
            refine ⟨_, rfl, _, rfl, _, rfl, _, _, rfl, rfl, _, _, rfl, rfl, wide_mul (bW _ (by omega)) nk (by decide) (by decide) (by decide), _, rfl, _, _, rfl, rfl, _, _, rfl, rfl, wide_div (b := 64) (by omega) (by omega) (by decide) (by decide), ?_⟩
            dsimp only
            rw [bs]
            refine ⟨_, rfl, _, _, rfl, rfl, ?_⟩
            refine ⟨_, rfl, _, rfl, ite2 (fun z => absurd z (by decide)) (fun _ => ?_)⟩
            refine ⟨_, rfl, ?_⟩
            have w1 : WdN (nP F (k + 1)) ns := wt_wd S (nP_wt S wt (k + 1)) (Nat.le_trans (Nat.mul_le_mul (Nat.pow_le_pow_right (by decide) k3) c3) (by decide +kernel))
            refine ⟨_, rfl, _, rfl, l, p2, _, _, rfl, .inl (.inl hl), sqt_new e2, fun L2 nL2 => ?_⟩
            have lL : l ≠ L2 := fun z => by rw [z, nL2] at hl; cases hl
            refine lc_it (walk_zipM (K := K) (a := l) (b := p2) (by simp only [List.length_map, nums_len])) (fun i Z2 => Same Y2 Z2 ∧ Z2 L2 = some (.lst (((numsL (partS F n (k + 2)) ns).take i).map V.int))) ⟨sub_same nL2, upd_same⟩ (fun i Z _ h => ⟨.inl (.inl (h.1 _ _ hl)), sqt_same (sqt_new e2) h.1⟩) ?_ ?_
            · rintro i v Z3 Z3' hi ⟨sm, hl2⟩ ⟨Tp, x0, y0, rfl, nT, rfl, ex, ey⟩
              obtain ⟨x, ex2, rfl⟩ := int_at ex
              obtain ⟨y, ey2, rfl⟩ := int_at ey
              rw [List.length_map, nums_len] at hi
              have et : (pl ns)[i]? = some (pl ns)[i] := List.getElem?_eq_getElem hi
              have z1 := nums_get (F := partS F n (k + 1)) et
              rw [ex2] at z1
              obtain rfl := Option.some.inj z1
              have z2 := nums_get (F := nP F (k + 1)) et
              rw [ey2] at z2
              obtain rfl := Option.some.inj z2
              have z3 := nums_get (F := partS F n (k + 2)) et
              have val : partS F n (k + 2) (pl ns)[i] = partS F n (k + 1) (pl ns)[i] + bi n (k + 1 + 1) * nP F (k + 1) (pl ns)[i] := sumR_succ (k + 1) _
              have s3 := sub_same (o := .tup [V.int (partS F n (k + 1) (pl ns)[i]), V.int (nP F (k + 1) (pl ns)[i])]) nT
              have hl3 := s3 _ _ hl2
              have sm2 := sm.trans s3
              have hT : upd Z3 Tp (.tup [V.int (partS F n (k + 1) (pl ns)[i]), V.int (nP F (k + 1) (pl ns)[i])]) Tp = some (.tup [V.int (partS F n (k + 1) (pl ns)[i]), V.int (nP F (k + 1) (pl ns)[i])]) := upd_same
              revert hl3 sm2 hT
              generalize upd Z3 Tp (.tup [V.int (partS F n (k + 1) (pl ns)[i]), V.int (nP F (k + 1) (pl ns)[i])]) = Z4
              intro hl3 sm2 hT
              refine ⟨Tp, _, rfl, .inl (.inl hT), rfl, _, _, rfl, _, _, rfl, rfl, rfl, yesT ?_⟩
              refine ⟨_, rfl, _, rfl, _, rfl, _, _, rfl, rfl, wide_mul (bW _ (by omega)) (w1 _ (List.getElem_mem hi)) (by decide) (by decide) (by decide), _, _, rfl, rfl, _, hl3, ?_, fun b ob e => ?_, ?_⟩
              · rw [List.length_map, List.length_take, nums_len, sizeLine_eq]
                omega
              · rw [upd_ne (fun z => by rw [z, nL2] at e; cases e)]
                exact sm2 _ _ e
              · rw [upd_same, List.take_succ, z3, List.map_append, val]
                rfl
            · rintro Z3 ⟨sm, hl2⟩
              rw [List.length_map, nums_len, ← nums_len (partS F n (k + 2)) ns, List.take_length] at hl2
              exact ⟨6 - (k + 1), by omega, k + 1, L2, p2, _, rfl, k3, rfl, sy.trans sm, sm _ _ e2, hl2⟩
        · have b0 : bi n (k + 1) = 0 := Decidable.byContradiction fun z => e (bne_iff_ne.mpr z)
          exact ⟨_, rfl, _, rfl, l, _, rfl, hl, tail Y l _ sy hl (fun t m => (show partS F n (k + 1) t = partS F n k t from part_bi b0 t 1).trans (part_six S (by omega) (.inl b0) t m))⟩
end
end K18
/-! # power, bracket, led of a stair -/
namespace K18
open PySem PySem.Spec PyProof.Rows L2 TL NumText RZ
section
variable {P : Program} {w : World} {K : PySem.W.Frag} {mg : Str → Option Value} {base : Heap} {C CS TL : Addr}
abbrev s_ledm : Stmt := inClass (topS 41) 14
theorem sc_ledm : FnScope ["self", "other"] ["self", "other"] (defScope s_ledm) := ⟨rfl, rfl, rfl, by decide +kernel, rfl, by decide +kernel, by decide +kernel⟩
def spLedM (K : PySem.W.Frag) (C : Addr) : Sp := fun vs H Q _ => ∃ (a b : Addr) (ns : List Int) (F G : Tri → Int) (c : Nat), vs = [.ref a, .ref b] ∧ StairO K H a C ns (numsL F ns) ∧ StairO K H b C ns (numsL G ns) ∧ Shp ns ∧ WtB c F ns ∧ WtB c G ns ∧ c ≤ 2 ^ 900 ∧ ∀ H' b, Same H H' → StairO K H' b C ns (numsL (ledN F G ns) ns) → Q (.ref b) H'
theorem ok_ledm {f f1 f2 fB : Addr} {fd fd1 fd2 fdB : FuncData} {ds : List Value} (R : SC K mg C) (d : M K "led" "Stair.led" s_ledm ["self", "other"] f fd)
    (d1 : D K mg "check_stair" s_ckst ["shape", "value"] f1 fd1) (G1 : FnOk P w K mg base CX0 2 f1 fd1 ["shape", "value"] (spCkSt K C))
    (d2 : D K mg "stair_with" s_with ["shape", "plan", "numbers"] f2 fd2) (G2 : FnOk P w K mg base CX0 9 f2 fd2 ["shape", "plan", "numbers"] (spWith K C))
    (gL_ : mg "led_tables" = some (.ref fB)) (kL_ : PySem.W.keepIn K (.ref fB) = true) (bL_ : Binds K fdB ["plan", "numbers", "other", "modulus"] ds) (vL_ : Vals [.int 0] ds) (G3 : FnOk P w K mg base CX0 3 fB fdB ["plan", "numbers", "other", "modulus"] (spLed K)) :
    FnOk P w K mg base CX0 10 f fd ["self", "other"] (spLedM K C) := by
  refine d.F.ok sc_ledm (fun vs H Q E h => ?_) (fun cdv A outer s H vs Q E hr h => ?_)
  · obtain ⟨a, b, ns, F, G, c, rfl, _⟩ := h
    rfl
  · obtain ⟨a, b, ns, F, G, c, rfl, sa, sb, S, wa, wb, c9, q⟩ := h
    refine ⟨_, (pss_cons (ps_expr (pe_call G1 (hr.mono (by decide)) (by rfl) d1.g d1.F.kp d1.b .nil pass0 (pa_cons (pe_fld (pv 0) rfl) (pa_cons (pv 1) pa_nil))))
      (pss_one (ps_ret (pe_call G2 (hr.mono (by decide)) (by rfl) d2.g d2.F.kp d2.b .nil pass0 (pa_cons (pe_fld (pv 0) rfl) (pa_cons (pe_fld (pv 0) rfl) (pa_cons (pe_call G3 (hr.mono (by decide)) (by rfl) gL_ kL_ bL_ vL_ pass0 (pa_cons (pe_fld (pv 0) rfl) (pa_cons (pe_fld (pv 0) rfl) (pa_cons (pe_fld (pv 1) rfl) pa_nil)))) pa_nil))))))), ?_⟩
    have sb0 := sb
    obtain ⟨dx, sh, pln, nm, e1, e2, e3, e4⟩ := sa
    obtain ⟨dx2, sh2, pln2, nm2, b1, b2, b3, b4⟩ := sb
    refine ⟨_, rfl, a, C, dx, _, _, rfl, e1, R.cl, R.nS, stF_shape _ _ _, _, rfl, sh, b, ns, _, rfl, e2, sb0, ?_⟩
    refine ⟨_, rfl, a, C, dx, _, _, rfl, e1, R.cl, R.nS, stF_shape _ _ _, _, rfl, a, C, dx, _, _, rfl, e1, R.cl, R.nP, stF_plan _ _ _, ?_⟩
    refine ⟨_, rfl, a, C, dx, _, _, rfl, e1, R.cl, R.nP, stF_plan _ _ _, _, rfl, a, C, dx, _, _, rfl, e1, R.cl, R.nN, stF_numbers _ _ _, _, rfl, b, C, dx2, _, _, rfl, b1, R.cl, R.nN, stF_numbers _ _ _, ?_⟩
    have e4' := e4
    rw [planD_us] at e4'
    refine ⟨pln, nm, nm2, ns, F, G, c, rfl, ⟨S, e4', e3, b3, wa, wb, c9⟩, fun H2 p s2 ep => ?_⟩
    exact ⟨sh, p, pln, ns, _, rfl, sqt_same e2 s2, e4.same s2, ep, fun H3 b s3 _ st => q H3 b (s2.trans s3) st⟩
end
end K18
/-! # the jug -/
namespace K18
open PySem PySem.Spec PyProof.Rows L2
abbrev s_jug : Stmt := topS 65
theorem sc_jug : FnScope ["_law_script", "_law_spot", "_law_cell", "_law_great", "_law_mixed_here"] ["_law_script", "_law_spot"] (defScope s_jug) := ⟨rfl, rfl, rfl, by decide +kernel, rfl, by decide +kernel, by decide +kernel⟩
abbrev s_pour : Stmt := topS 66
theorem sc_pour : FnScope ["_law_jug_here", "_law_many", "_law_found", "_law_one", "_law_two"] ["_law_jug_here", "_law_many"] (defScope s_pour) := ⟨rfl, rfl, rfl, by decide +kernel, rfl, by decide +kernel, by decide +kernel⟩
abbrev s_of18 : Stmt := topS 67
theorem sc_of18 : FnScope ["_law_jug_here", "_law_items"] ["_law_jug_here", "_law_items"] (defScope s_of18) := ⟨rfl, rfl, rfl, by decide +kernel, rfl, by decide +kernel, by decide +kernel⟩
section
variable {P : Program} {w : World} {K : PySem.W.Frag} {mg : Str → Option Value} {base : Heap}
/-- a drawn number below the total -/
def spPour : Sp := fun vs H Q _ => ∃ (a : Addr) (t : Int), vs = [.ref a, .int t] ∧ Urn H a ∧ 0 < t ∧ t.natAbs.log2 < 9000 ∧
  ∀ (v : Int) (H' : Hp), 0 ≤ v → v < t → Urn H' a → But a H H' → Q (.int v) H'
theorem ok_pour {f : Addr} {fd : FuncData} {k : Nat} (T : Txt mg) (d : D K mg "_law_pour" s_pour ["_law_jug_here", "_law_many"] f fd) :
    FnOk P w K mg base CX0 (k + 1) f fd ["_law_jug_here", "_law_many"] spPour := by
  refine d.F.ok sc_pour (fun vs H Q E h => ?_) (fun cdv A outer s H vs Q E hr h => ?_)
  · obtain ⟨a, t, rfl, _⟩ := h
    rfl
  · obtain ⟨a, t, rfl, ⟨g, m, c, hu⟩, ht, hl, q⟩ := h
    refine ⟨_, (pss_cons (ps_if (pt_cmpR op_gt (pe_ix ix_list (pv 0) pe_int (fun _ _ => rfl)) pe_int (nomark _)) (pss_cons (ps_set (i := 2) sc_pour.nd rfl (.inl rfl) (pe_op op_mod (pe_callTy call_int1 (by rfl) T.n_int (by decide +kernel) (pa_cons (pe_ix ix_list (pv 0) pe_int (fun _ _ => rfl)) pa_nil)) (pv 1)))
      (pss_cons (ps_asg (pe_op op_fdivW (pe_ix ix_list (pv 0) pe_int (fun _ _ => rfl)) (pv 1)) (pg_sub (pv 0) pe_int set_list))
      (pss_one (ps_ret (pv 2))))) pss_nil)
      (pss_cons (ps_asg (pe_op op_add (pe_ix ix_list (pv 0) pe_int (fun _ _ => rfl)) pe_int) (pg_sub (pv 0) pe_int set_list))
      (pss_cons (ps_set (i := 3) sc_pour.nd rfl (.inl rfl) (pe_op op_mod (pe_callTy call_int1 (by rfl) T.n_int (by decide +kernel) (pa_cons (pe_op op_add (pe_ix ix_list (pv 0) pe_int (fun _ _ => rfl)) (pe_op op_mul pe_int (pe_ix ix_list (pv 0) pe_int (fun _ _ => rfl)))) pa_nil)) pe_int))
      (pss_cons (ps_set (i := 4) sc_pour.nd rfl (.inl rfl) (pe_op op_add (pe_op op_add (pe_op op_mul (pe_op op_mod (pe_callTy call_int1 (by rfl) T.n_int (by decide +kernel) (pa_cons (pe_op op_mul (pv 3) (pv 3)) pa_nil)) pe_int) pe_int) (pv 3)) (pe_op op_mul pe_int (pe_ix ix_list (pv 0) pe_int (fun _ _ => rfl)))))
      (pss_one (ps_ret (pe_op op_mod (pe_callTy call_int1 (by rfl) T.n_int (by decide +kernel) (pa_cons (pe_op op_fdivW (pv 4) pe_int) pa_nil)) (pv 1)))))))), ?_⟩
    refine ⟨.ref a, rfl, a, _, 0, .int g, rfl, rfl, Urn.seq hu, atI_nat (j := 0) rfl, g, 0, rfl, rfl, _, rfl, ite2 (fun e => ?_) (fun e => ?_)⟩
    · refine ⟨.ref a, rfl, ⟨a, _, 0, .int g, rfl, rfl, Urn.seq hu, atI_nat (j := 0) rfl, .inl ⟨g, rfl, .int t, rfl, g, t, rfl, rfl, ht, ?_⟩⟩⟩
      refine ⟨.ref a, rfl, ⟨a, _, 0, .int g, rfl, rfl, Urn.seq hu, atI_nat (j := 0) rfl, .int t, rfl, g, t, rfl, rfl, ⟨ht, hl⟩, ?_⟩⟩
      refine ⟨.ref a, rfl, a, _, 0, 0, rfl, rfl, hu, rfl, ?_⟩
      exact ⟨_, rfl, q _ _ (Int.emod_nonneg _ (by omega)) (Int.emod_lt_of_pos _ ht) ⟨_, _, _, upd_same⟩ (but_upd _ _ _)⟩
    · refine ⟨.ref a, rfl, ⟨a, _, 2, .int c, rfl, rfl, Urn.seq hu, atI_nat (j := 2) rfl, c, 1, rfl, rfl, ?_⟩⟩
      refine ⟨.ref a, rfl, a, _, 2, 2, rfl, rfl, hu, rfl, ?_⟩
      have h1 : (upd H a (.lst ([.int g, .int m, .int c].set 2 (.int (c + 1))))) a = some (.lst [.int g, .int m, .int (c + 1)]) := upd_same
      have b1 := but_upd a H (.lst ([.int g, .int m, .int c].set 2 (.int (c + 1))))
      revert h1 b1
      generalize upd H a (.lst ([.int g, .int m, .int c].set 2 (.int (c + 1)))) = H1
      intro h1 b1
      refine ⟨.ref a, rfl, ⟨a, _, 1, .int m, rfl, rfl, Urn.seq h1, atI_nat (j := 1) rfl, ?_⟩⟩
      refine ⟨.ref a, rfl, ⟨a, _, 2, .int (c + 1), rfl, rfl, Urn.seq h1, atI_nat (j := 2) rfl, ?_⟩⟩
      refine ⟨_, _, rfl, rfl, .inl (by decide), _, _, rfl, rfl, .inl ⟨_, rfl, _, _, rfl, rfl, (by show (0 : Int) < _; decide), ?_⟩⟩
      generalize ho : (m + 15485863 * (c + 1)) % 2305843009213693967 = o
      have o0 : 0 ≤ o := by omega
      have o1 : o < 2305843009213693967 := by omega
      refine ⟨_, rfl, _, rfl, _, _, rfl, rfl, .inl (by omega), .inl ⟨_, rfl, _, _, rfl, rfl, (by show (0 : Int) < _; decide), ?_⟩⟩
      generalize ho2 : o * o % 2305843009213693951 = r
      have r0 : 0 ≤ r := by omega
      have r1 : r < 2305843009213693951 := by omega
      refine ⟨_, _, rfl, rfl, .inr (by decide), _, rfl, _, _, rfl, rfl, ?_⟩
      refine ⟨.ref a, rfl, ⟨a, _, 2, .int (c + 1), rfl, rfl, Urn.seq h1, atI_nat (j := 2) rfl, ?_⟩⟩
      refine ⟨_, _, rfl, rfl, .inl (by decide), _, _, rfl, rfl, ?_⟩
      refine ⟨_, rfl, _, _, rfl, rfl, ⟨by decide, by decide⟩, .inl ⟨_, rfl, _, rfl, _, _, rfl, rfl, ht, ?_⟩⟩
      exact q _ _ (Int.emod_nonneg _ (by omega)) (Int.emod_lt_of_pos _ ht) ⟨_, _, _, h1⟩ b1
/-- one of the items, of a list or a tuple -/
def spOf18 (K : PySem.W.Frag) : Sp := fun vs H Q _ => ∃ (a b : Addr) (xs : List V), vs = [.ref a, .ref b] ∧ Urn H a ∧ (∀ H', But a H H' → SqL K H' b xs) ∧ xs ≠ [] ∧ xs.length ≤ 1000 ∧
  ∀ (i : Nat) (x : V) (H' : Hp), xs[i]? = some x → Urn H' a → But a H H' → Q x H'
theorem ok_of18 {f ft : Addr} {fd fdt : FuncData} {k : Nat} (T : Txt mg) (d : D K mg "_law_of" s_of18 ["_law_jug_here", "_law_items"] f fd) (dt : D K mg "_law_pour" s_pour ["_law_jug_here", "_law_many"] ft fdt) :
    FnOk P w K mg base CX0 (k + 2) f fd ["_law_jug_here", "_law_items"] (spOf18 K) := by
  have G : FnOk P w K mg base CX0 (k + 1) ft fdt ["_law_jug_here", "_law_many"] spPour := ok_pour T dt
  refine d.F.ok sc_of18 (fun vs H Q E h => ?_) (fun cdv A outer s H vs Q E hr h => ?_)
  · obtain ⟨a, b, xs, rfl, _⟩ := h
    rfl
  · obtain ⟨a, b, xs, rfl, hu, hb, hx, hz, q⟩ := h
    refine ⟨_, (pss_one (ps_ret (pe_ix ix_list (pv 1) (pe_call G hr (by rfl) dt.g dt.F.kp dt.b .nil pass0 (pa_cons (pv 0) (pa_cons (pe_callB call_len_seq (by rfl) T.n_len PySem.boot_len (pa_cons (pv 1) pa_nil)) pa_nil))) (fun _ _ => rfl)))), ?_⟩
    refine ⟨.ref b, rfl, .ref a, rfl, .ref b, rfl, b, xs, rfl, .inl (hb H (But.refl a H)), a, _, rfl, hu, ?_, ?_, fun v H' v0 v1 hu' hk => ?_⟩
    · cases xs with
      | nil => exact absurd rfl hx
      | cons x r => rw [List.length_cons]; omega
    · have e : ((xs.length : Int)).natAbs = xs.length := Int.natAbs_natCast _
      rw [e]
      exact Nat.lt_of_le_of_lt (Nat.log2_le_self _) (by omega)
    · obtain ⟨j, rfl⟩ : ∃ j : Nat, v = (j : Int) := ⟨v.toNat, by omega⟩
      have hv : j < xs.length := by omega
      exact ⟨b, xs, j, xs[j], rfl, rfl, hb H' hk, atI_nat (List.getElem?_eq_getElem hv), q j _ H' (List.getElem?_eq_getElem hv) hu' hk⟩
/-- a new jug -/
def spJug (K : PySem.W.Frag) : Sp := fun vs H Q _ => ∃ (a : Addr) (i : Nat) (ns : List Int), vs = [.ref a, .int i] ∧ SqL K H a (ns.map V.int) ∧ i ≤ 1000 ∧ (i < ns.length ∨ ns = []) ∧
  ∀ (H' : Hp) (p : Addr), Same H H' → H p = none → Urn H' p → Q (.ref p) H'
theorem ok_jug {f : Addr} {fd : FuncData} {k : Nat} (T : Txt mg) (d : D K mg "_law_jug" s_jug ["_law_script", "_law_spot"] f fd) : FnOk P w K mg base CX0 (k + 1) f fd ["_law_script", "_law_spot"] (spJug K) := by
  refine d.F.ok sc_jug (fun vs H Q E h => ?_) (fun cdv A outer s H vs Q E hr h => ?_)
  · obtain ⟨a, i, ns, rfl, _⟩ := h
    rfl
  · obtain ⟨a, i, ns, rfl, hS, hi, hor, q⟩ := h
    refine ⟨_, (pss_cons (ps_set (i := 2) sc_jug.nd rfl (.inl rfl) (pe_ifExp (pt_cmpR op_lt (pv 1) (pe_callB call_len_seq (by rfl) T.n_len PySem.boot_len (pa_cons (pv 0) pa_nil)) (nomark _)) (pe_callTy call_int1 (by rfl) T.n_int (by decide +kernel) (pa_cons (pe_ix ix_list (pv 0) (pv 1) (fun _ _ => rfl)) pa_nil)) (pe_op op_add (pe_op op_add (pe_op op_mul pe_int (pv 1)) pe_int) (pe_op op_mod (pe_callTy call_int1 (by rfl) T.n_int (by decide +kernel) (pa_cons (pe_callB (cr_sum rfl) (by rfl) T.n_sum (by decide +kernel) (pa_cons (pe_slice sl_list (pv 0) po_none (po_some pe_int)) pa_nil)) pa_nil)) pe_int))))
      (pss_cons (ps_set (i := 3) sc_jug.nd rfl (.inl rfl) (pe_op op_mod (pe_callTy call_int1 (by rfl) T.n_int (by decide +kernel) (pa_cons (pe_callB call_abs (by rfl) T.n_abs (by decide +kernel) (pa_cons (pv 2) pa_nil)) pa_nil)) (pe_op op_powW (pe_op op_powW pe_int pe_int) pe_int)))
      (pss_cons (ps_set (i := 4) sc_jug.nd rfl (.inl rfl) (pe_op op_mod (pe_callTy call_int1 (by rfl) T.n_int (by decide +kernel) (pa_cons (pe_op op_add (pe_op op_add (pe_op op_add (pe_op op_mul (pe_op op_mod (pv 3) pe_int) pe_int) (pe_op op_mul pe_int (pv 1))) (pe_op op_mul pe_int (pe_callTy call_int1 (by rfl) T.n_int (by decide +kernel) (pa_cons (pe_cmpR op_lt (pv 2) pe_int (nomark _)) pa_nil)))) pe_int) pa_nil)) pe_int))
      (pss_one (ps_ret (pe_lst (pa_cons (pe_callB (call_max2 rfl) (by rfl) T.n_max (by decide +kernel) (pa_cons pe_int (pa_cons (pe_op op_sub (pv 3) (pe_op op_powW pe_int pe_int)) pa_nil))) (pa_cons (pv 4) (pa_cons pe_int pa_nil))))))))), ?_⟩
    have fin : ∀ (g m : Int) (p : Addr) (H1 : Hp), Same H H1 → H1 p = none → Q (.ref p) (upd H1 p (.lst [.int g, .int m, .int 0])) := fun g m p H1 o np =>
      q _ p (o.trans (sub_same np)) (by
        cases hp : H p with
        | none => rfl
        | some x => exact absurd ((o p x hp).symm.trans np) (by simp)) ⟨_, _, _, upd_same⟩
    refine ⟨_, rfl, .ref a, rfl, a, _, rfl, .inl hS, _, _, rfl, rfl, _, rfl, ite2 (fun e => ?_) (fun e => ?_)⟩
    · have hlt : i < ns.length := by
        have z := of_decide_eq_true e
        rw [List.length_map] at z
        omega
      refine ⟨.ref a, rfl, _, rfl, a, _, _, .int ns[i], rfl, rfl, hS, atI_nat (by rw [List.getElem?_map, List.getElem?_eq_getElem hlt]; rfl), ?_⟩
      generalize ns[i] = z
      refine .inl ⟨z, rfl, ?_⟩
      refine ⟨_, rfl, _, rfl, .inl ⟨_, rfl, _, _, rfl, rfl, ⟨by decide, by decide +kernel⟩, _, _, rfl, rfl, ⟨by decide, by decide +kernel⟩, _, _, rfl, rfl, (by show (0 : Int) < _; decide), ?_⟩⟩
      refine ⟨_, rfl, _, _, rfl, rfl, (by show (0 : Int) < _; decide), _, _, rfl, rfl, .inr (by decide), ?_⟩
      refine ⟨_, rfl, _, _, rfl, rfl, .inl (by decide), _, _, rfl, rfl, _, rfl, _, _, rfl, rfl, .inr ⟨_, rfl, _, _, rfl, rfl, .inl (by decide), _, _, rfl, rfl, _, _, rfl, rfl, ?_⟩⟩
      refine .inl ⟨_, rfl, _, _, rfl, rfl, (by show (0 : Int) < _; decide), ?_⟩
      refine ⟨_, rfl, _, _, rfl, rfl, ⟨by decide, by decide +kernel⟩, _, _, rfl, rfl, _, _, rfl, ?_⟩
      exact ⟨_, rfl, (by show 3 ≤ sizeLine; decide), fun p np => fin _ _ p H (Same.refl H) np⟩
    · have he : ns = [] := by
        rcases hor with h | h
        · exact absurd (decide_eq_true (by rw [List.length_map]; omega : (i : Int) < ((ns.map V.int).length : Int))) e
        · exact h
      subst he
      refine ⟨_, rfl, _, _, rfl, rfl, .inl (by decide), _, _, rfl, rfl, ?_⟩
      refine ⟨.ref a, rfl, _, rfl, a, [], rfl, hS, fun p np => ?_⟩
      have o1 : Same H (upd H p (.lst (cutV [] none (some 1)))) := sub_same np
      have h1 : (upd H p (.lst (cutV [] none (some 1)))) p = some (.lst []) := upd_same
      revert o1 h1
      generalize upd H p (.lst (cutV [] none (some 1))) = H1
      intro o1 h1
      refine ⟨p, [], rfl, .inl (.inl h1), ?_⟩
      refine .inl ⟨_, rfl, _, _, rfl, rfl, (by show (0 : Int) < _; decide), _, _, rfl, rfl, ?_⟩
      generalize (677 * (i : Int) + 31 + ([] : List Int).sum % 1000033) = z
      refine ⟨_, rfl, _, rfl, .inl ⟨_, rfl, _, _, rfl, rfl, ⟨by decide, by decide +kernel⟩, _, _, rfl, rfl, ⟨by decide, by decide +kernel⟩, _, _, rfl, rfl, (by show (0 : Int) < _; decide), ?_⟩⟩
      refine ⟨_, rfl, _, _, rfl, rfl, (by show (0 : Int) < _; decide), _, _, rfl, rfl, .inr (by decide), ?_⟩
      refine ⟨_, rfl, _, _, rfl, rfl, .inl (by decide), _, _, rfl, rfl, _, rfl, _, _, rfl, rfl, .inr ⟨_, rfl, _, _, rfl, rfl, .inl (by decide), _, _, rfl, rfl, _, _, rfl, rfl, ?_⟩⟩
      refine .inl ⟨_, rfl, _, _, rfl, rfl, (by show (0 : Int) < _; decide), ?_⟩
      refine ⟨_, rfl, _, _, rfl, rfl, ⟨by decide, by decide +kernel⟩, _, _, rfl, rfl, _, _, rfl, ?_⟩
      exact ⟨_, rfl, (by show 3 ≤ sizeLine; decide), fun p np => fin _ _ p _ o1 np⟩
end
end K18
/-! # spots -/
namespace K18
open PySem PySem.Spec PyProof.Rows L2
def triI3 (t : Tri) : List Int := [t.1, t.2.1, t.2.2]
def triD3 (t : Tri) : PyData := .tuple ((triI3 t).map .int)
def rowS3 (b : Int) (r : Nat) : Nat → List Tri := fun k => (List.range k).map fun (c : Nat) => ((r : Int) + 1 + (c : Int) - (r : Int), b, (r : Int))
def blkS3 (b s : Int) (k : Nat) : List Tri := (List.range k).flatMap fun (r : Nat) => rowS3 b r (s - ((r : Int) + 1)).toNat
def allS3 (ns : List Int) (j : Nat) : List Tri := (List.range j).flatMap fun (b : Nat) => blkS3 b (ns.getD b 0) (ns.getD b 0).toNat
theorem rowS3_succ (b : Int) (r k : Nat) : rowS3 b r (k + 1) = rowS3 b r k ++ [((r : Int) + 1 + (k : Int) - (r : Int), b, (r : Int))] := by
  unfold rowS3
  rw [List.range_succ, List.map_append]
  rfl
theorem blkS3_succ (b s : Int) (k : Nat) : blkS3 b s (k + 1) = blkS3 b s k ++ rowS3 b k (s - ((k : Int) + 1)).toNat := by
  unfold blkS3
  rw [List.range_succ, List.flatMap_append, List.flatMap_singleton]
theorem allS3_succ (ns : List Int) (j : Nat) : allS3 ns (j + 1) = allS3 ns j ++ blkS3 j (ns.getD j 0) (ns.getD j 0).toNat := by
  unfold allS3
  rw [List.range_succ, List.flatMap_append, List.flatMap_singleton]
/-- the places with their distances ahead -/
def plS (ns : List Int) : List Tri := (pl ns).map fun t => (t.2.2 - t.2.1, t.1, t.2.1)
theorem tablesS : ∀ ns ∈ shapesL, (plS ns).Perm (allS3 ns ns.length) ∧ (plS ns).Pairwise (fun p q => TS.code 8 (triI3 p) ≤ TS.code 8 (triI3 q)) ∧ (∀ p ∈ plS ns, ∀ q ∈ plS ns, TS.code 8 (triI3 p) = TS.code 8 (triI3 q) → p = q) ∧ (∀ p ∈ plS ns, ∀ m ∈ triI3 p, 0 ≤ m ∧ m < 8) ∧ (plS ns).length < 64 ∧ 0 < (pl ns).length := by decide +kernel
theorem tri3_tup {K : PySem.W.Frag} {H : Hp} {x : V} {q : Tri} (h : Tv K H x (triD3 q)) : TupI K H x (triI3 q) := by
  cases h with
  | tup e l =>
    have z : TvL K H _ ((triI3 q).map .int) := l
    rw [z.ints] at e
    exact ⟨_, rfl, e⟩
theorem tri3s_pair {K : PySem.W.Frag} {H : Hp} : ∀ {ys : List V} {qs : List Tri}, TvL K H ys (qs.map triD3) → ys.Pairwise (fun x y => ∀ n m, TupI K H x n → TupI K H y m → TS.code 8 n ≤ TS.code 8 m) → qs.Pairwise fun p q => TS.code 8 (triI3 p) ≤ TS.code 8 (triI3 q)
  | [], [], _, _ => .nil
  | [], _ :: _, h, _ => by cases h
  | _ :: _, [], h, _ => by cases h
  | y :: ys, q :: qs, h, p => by
    cases h with
    | cons a t =>
      rw [List.pairwise_cons] at p
      refine List.pairwise_cons.mpr ⟨fun r hr => ?_, tri3s_pair t p.2⟩
      obtain ⟨i, hi⟩ := List.getElem?_of_mem hr
      have li : i < ys.length := by
        have z := t.len
        rw [List.length_map] at z
        have := (List.getElem?_eq_some_iff.mp hi).1
        omega
      obtain ⟨d, ed, td⟩ := t.get (List.getElem?_eq_getElem li)
      rw [List.getElem?_map, hi] at ed
      obtain rfl := Option.some.inj ed
      exact p.1 _ (List.getElem_mem li) _ _ (tri3_tup a) (tri3_tup td)
theorem rowS3_len (b : Int) (r k : Nat) : (rowS3 b r k).length = k := by
  unfold rowS3
  rw [List.length_map, List.length_range]
theorem blkS3_len {s : Int} (h : s ≤ 6) (b : Int) : ∀ k, (blkS3 b s k).length ≤ 6 * k
  | 0 => Nat.le_refl _
  | k + 1 => by
    rw [blkS3_succ, List.length_append, rowS3_len]
    have z := blkS3_len h b k
    omega
theorem allS3_len {ns : List Int} (b : ∀ n ∈ ns, 2 ≤ n ∧ n ≤ 6) : ∀ j, (allS3 ns j).length ≤ 36 * j
  | 0 => Nat.le_refl _
  | j + 1 => by
    rw [allS3_succ, List.length_append]
    have z := allS3_len b j
    have x : ns.getD j 0 ≤ 6 := by
      rw [List.getD_eq_getElem?_getD]
      cases e : ns[j]? with
      | none => show (0 : Int) ≤ 6; decide
      | some n => exact (b n (List.mem_of_getElem? e)).2
    have y := blkS3_len x j (ns.getD j 0).toNat
    omega
section
variable {P : Program} {w : World} {K : PySem.W.Frag} {mg : Str → Option Value} {base : Heap}
abbrev s_spots : Stmt := topS 68
theorem sc_spots : FnScope ["_law_sizes", "_law_found", "_law_box", "_law_row", "_law_column", "_law_spot"] ["_law_sizes"] (defScope s_spots) := ⟨rfl, rfl, rfl, by decide +kernel, rfl, by decide +kernel, by decide +kernel⟩
def spSpots (K : PySem.W.Frag) : Sp := fun vs H Q _ => ∃ (a : Addr) (ns : List Int), vs = [.ref a] ∧ SqT K H a (ns.map V.int) ∧ Shp ns ∧ ∀ H' p xs, Same H H' → H p = none → H' p = some (.lst xs) → TrL H' xs (pl ns) → Q (.ref p) H'
theorem ok_spots {f : Addr} {fd : FuncData} {k : Nat} (T : Txt mg) (N : Nam mg) (d : D K mg "_law_spots" s_spots ["_law_sizes"] f fd) : FnOk P w K mg base CX0 (k + 1) f fd ["_law_sizes"] (spSpots K) := by
  refine d.F.ok sc_spots (fun vs H Q E h => ?_) (fun cdv A outer s H vs Q E hr h => ?_)
  · obtain ⟨a, ns, rfl, _⟩ := h
    rfl
  · obtain ⟨a, ns, rfl, ea, S, q⟩ := h
    refine ⟨_, (pss_cons (ps_set (i := 1) sc_spots.nd rfl (.inl rfl) (pe_lst pa_nil))
      (pss_cons (ps_for PassesOwn.never rfl (pi_range1 (by rfl) T.n_range (pa_cons (pe_callB call_len_seq (by rfl) T.n_len PySem.boot_len (pa_cons (pv 0) pa_nil)) pa_nil)) (pg_name (i := 2) sc_spots.nd rfl (.inr rfl))
        (pss_one (ps_for PassesOwn.never rfl (pi_range1 (by rfl) T.n_range (pa_cons (pe_ix ix_tup (pv 0) (pv 2) (fun _ _ => rfl)) pa_nil)) (pg_name (i := 3) sc_spots.nd rfl (.inr rfl))
        (pss_one (ps_set (i := 1) sc_spots.nd rfl (.inl rfl) (pe_op op_cat (pv 1) (pe_lc (own := [("_law_column", 4)]) (g := gName 4) (tt := tYes) rfl sc_spots.nd (pi_range2 (by rfl) T.n_range (pa_cons (pe_op op_add (pv 3) pe_int) (pa_cons (pe_ix ix_tup (pv 0) (pv 2) (fun _ _ => rfl)) pa_nil))) (blkOk_by (own := [("_law_column", 4)]) (N := ["_law_sizes", "_law_found", "_law_box", "_law_row", "_law_column", "_law_spot"]) (sc := defScope s_spots) (by decide +kernel))
            (fun _ _ _ _ _ => (pg_name (i := 4) sc_spots.nd rfl (Or.inl rfl))) (fun _ _ _ _ _ => pts_nil) (fun _ _ _ _ _ => (pe_tup (pa_cons (pe_op op_sub (pv 4) (pv 3)) (pa_cons (pv 2) (pa_cons (pv 3) pa_nil))))))))))))
      (pss_one (ps_ret (pe_lc (own := [("_law_spot", 5)]) (g := gName 5) (tt := tYes) rfl sc_spots.nd (pi_list (pe_callB (cr_sortT (d := 3) (B := 8) (by decide)) (by rfl) N.n_sorted (by decide +kernel) (pa_cons (pv 1) pa_nil))) (blkOk_by (own := [("_law_spot", 5)]) (N := ["_law_sizes", "_law_found", "_law_box", "_law_row", "_law_column", "_law_spot"]) (sc := defScope s_spots) (by decide +kernel))
            (fun _ _ _ _ _ => (pg_name (i := 5) sc_spots.nd rfl (Or.inl rfl))) (fun _ _ _ _ _ => pts_nil) (fun _ _ _ _ _ => (pe_tup (pa_cons (pe_ix (ix_tupK (K := K) rfl) (pv 5) pe_int (fun _ _ => rfl)) (pa_cons (pe_ix (ix_tupK (K := K) rfl) (pv 5) pe_int (fun _ _ => rfl)) (pa_cons (pe_op op_add (pe_ix (ix_tupK (K := K) rfl) (pv 5) pe_int (fun _ _ => rfl)) (pe_ix (ix_tupK (K := K) rfl) (pv 5) pe_int (fun _ _ => rfl))) pa_nil)))))))))), ?_⟩
    refine ⟨(by show 0 ≤ sizeLine; decide), fun D0 nD0 => ?_⟩
    have sq : ∀ {Z : Hp}, Same H Z → SqT K Z a (ns.map V.int) := fun sz => sqt_same ea sz
    have b3 := S.1.2
    refine ⟨.ref a, rfl, a, _, rfl, .inr (sq (sub_same nD0)), _, rfl, by rw [List.length_map]; omega, by rw [List.length_map]; omega, ?_⟩
    refine for_range (lo := 0) (n := (ns.map V.int).length) (fun j σ H' => (∃ y2 y3 D, σ = [some (.ref a), some (.ref D), y2, y3, none, none] ∧ ∃ xs, H' D = some (.lst xs) ∧ TvL K H' xs ((allS3 ns j).map triD3)) ∧ Same H H') ⟨⟨_, _, D0, rfl, [], upd_same, .nil⟩, sub_same nD0⟩ ?_ ?_
    · rintro j σ H4 hj ⟨⟨y2, y3, D, rfl, xs, hv4, tv4⟩, s4⟩
      have j0 : (0 : Int) + (j : Int) = j := by omega
      rw [j0]
      rw [List.length_map] at hj
      obtain ⟨z, ez⟩ : ∃ z, ns[j]? = some z := ⟨_, List.getElem?_eq_getElem hj⟩
      have ez3 : (ns.map V.int)[j]? = some (V.int z) := by rw [List.getElem?_map, ez]; rfl
      have z6 := S.2.1 z (List.mem_of_getElem? ez)
      have ez2 : ns.getD j 0 = z := by rw [List.getD_eq_getElem?_getD, ez]; rfl
      refine ⟨.ref a, rfl, _, rfl, a, _, _, .int z, rfl, rfl, sq s4, atI_nat ez3, z, rfl, by omega, by omega, ?_⟩
      refine for_range (lo := 0) (n := z.toNat) (fun k σ H' => (∃ y3 D, σ = [some (.ref a), some (.ref D), some (.int (j : Nat)), y3, none, none] ∧ ∃ xs, H' D = some (.lst xs) ∧ TvL K H' xs ((allS3 ns j ++ blkS3 (j : Nat) z k).map triD3)) ∧ Same H H') ⟨⟨_, D, rfl, xs, hv4, by rw [show blkS3 (j : Nat) z 0 = [] from rfl, List.append_nil]; exact tv4⟩, s4⟩ ?_ ?_
      · rintro k σ H5 hk ⟨⟨y4, D, rfl, xs, hv, tv⟩, s5⟩
        have k0 : (0 : Int) + (k : Int) = k := by omega
        rw [k0]
        refine ⟨_, rfl, _, rfl, _, _, rfl, rfl, .ref a, rfl, _, rfl, a, _, _, .int z, rfl, rfl, sq s5, atI_nat ez3, _, _, rfl, ⟨by omega, by omega, by omega, by omega⟩, fun D2 nD2 => ?_⟩
        have off : ∀ {Z : Hp} {o : HO}, Same H5 Z → Same H5 (upd Z D2 o) := fun sz b o h => by
          rw [upd_ne (ne_of_none h nD2)]
          exact sz b o h
        refine lc_range (lo := (k : Int) + 1) (n := (z - ((k : Int) + 1)).toNat) (fun c H' => Same H5 H' ∧ ∃ xs2, H' D2 = some (.lst xs2) ∧ TvL K H' xs2 ((rowS3 (j : Nat) k c).map triD3)) ⟨sub_same nD2, [], upd_same, .nil⟩ ?_ ?_
        · rintro c H6 hc ⟨s6, xs2, hv2, tv2⟩
          refine ⟨rfl, ?_⟩
          unfold tYes
          refine ite2 (fun _ => ?_) (fun q => absurd rfl q)
          refine ⟨_, rfl, _, rfl, _, _, rfl, rfl, _, rfl, _, rfl, (by show 3 ≤ sizeLine; decide), fun p np => ?_⟩
          have s7 := sub_same (o := .tup [V.int ((k : Int) + 1 + (c : Int) - (k : Int)), V.int (j : Nat), V.int (k : Int)]) np
          refine ⟨xs2, s7 _ _ hv2, ?_, off (s6.trans s7), _, upd_same, ?_⟩
          · rw [tv2.len, List.length_map, rowS3_len]
            exact Nat.lt_of_lt_of_le (show c < 10 by omega) (by decide)
          rw [rowS3_succ, List.map_append]
          exact ((tv2.same s7).snoc (.tup (sqt_new upd_same) (.cons (.int _) (.cons (.int _) (.cons (.int _) .nil))))).put (s7 _ _ hv2)
        · rintro H6 ⟨s6, xs2, hv2, tv2⟩
          refine ⟨D, D2, xs, xs2, rfl, rfl, s6 _ _ hv, hv2, ?_, fun D3 nD3 => ?_⟩
          · rw [tv.len, tv2.len, List.length_map, List.length_map, List.length_append, rowS3_len]
            have b1 := allS3_len S.2.1 j
            have b2 := blkS3_len z6.2 (j : Nat) k
            exact Nat.le_trans (show _ ≤ 1000 by omega) (by decide)
          have s7 := sub_same (o := .lst (xs ++ xs2)) nD3
          have app : ∀ {Z : Hp} {us vs : List V} {ds es : List PyData}, TvL K Z us ds → TvL K Z vs es → TvL K Z (us ++ vs) (ds ++ es) := fun {Z us vs ds es} h g => by
            induction us generalizing ds with
            | nil => cases h; exact g
            | cons u us ih =>
              cases h with
              | cons a t => exact .cons a (ih t)
          refine ⟨⟨_, D3, rfl, xs ++ xs2, upd_same, ?_⟩, (s5.trans s6).trans s7⟩
          rw [blkS3_succ, ← List.append_assoc, List.map_append]
          exact app ((tv.same s6).same s7) (tv2.same s7)
      · rintro σ H5 ⟨⟨y4, D, rfl, xs, hv, tv⟩, s5⟩
        refine ⟨⟨_, _, D, rfl, xs, hv, ?_⟩, s5⟩
        rw [allS3_succ, ez2]
        exact tv
    · rintro σ H2 ⟨⟨y2, y3, D, rfl, xs, hv, tv⟩, s2⟩
      rw [List.length_map] at tv
      obtain ⟨h1, h2, h3, h4, h5, _⟩ := tablesS ns (shp_mem S)
      have lx : xs.length < 64 := by
        rw [tv.len, List.length_map, ← h1.length_eq]
        exact h5
      refine ⟨_, rfl, D, xs, rfl, .inl (.inl hv), lx, fun x hx => ?_, fun ys p pm pw np => ?_⟩
      · obtain ⟨i, hi⟩ := List.getElem?_of_mem hx
        obtain ⟨d0, e0, t0⟩ := tv.get hi
        rw [List.getElem?_map] at e0
        obtain ⟨q0, eq, rfl⟩ := Option.map_eq_some_iff.mp e0
        exact ⟨_, tri3_tup t0, rfl, fun m hm => h4 q0 (h1.mem_iff.mpr (List.mem_of_getElem? eq)) m hm⟩
      obtain ⟨qs, pq, tq⟩ := TvL.perm triD3 pm.symm tv
      have eq : plS ns = qs := uniq (fun q => TS.code 8 (triI3 q)) (h1.trans pq.symm) h2 (tri3s_pair tq pw) h3
      subst eq
      have s3 := sub_same (o := .lst ys) np
      have hp : upd H2 p (.lst ys) p = some (.lst ys) := upd_same
      have tq3 := tq.same s3
      have s4 := s2.trans s3
      revert hp tq3 s4
      generalize upd H2 p (.lst ys) = H3
      intro hp tq3 s4
      refine ⟨p, rfl, ⟨_, .inl (.inl hp)⟩, fun D3 nD3 => ?_⟩
      have off : ∀ {Z : Hp} {o : HO}, Same H3 Z → Same H3 (upd Z D3 o) := fun sz b o h => by
        rw [upd_ne (ne_of_none h nD3)]
        exact sz b o h
      have ly := tq3.len
      rw [List.length_map] at ly
      have lp : (plS ns).length = (pl ns).length := by unfold plS; rw [List.length_map]
      refine lc_list (K := K) (a := p) (xs := ys) (fun i H' => Same H3 H' ∧ ∃ zs, H' D3 = some (.lst zs) ∧ TrL H' zs ((pl ns).take i)) ⟨sub_same nD3, [], upd_same, .nil⟩ (fun i H' _ h => .inl (.inl (h.1 _ _ hp))) ?_ ?_
      · rintro i x H4 hx ⟨s5, zs, hz, tz⟩
        obtain ⟨d0, e0, t0⟩ := tq3.get hx
        rw [List.getElem?_map] at e0
        obtain ⟨q0, eq0, rfl⟩ := Option.map_eq_some_iff.mp e0
        unfold plS at eq0
        rw [List.getElem?_map] at eq0
        obtain ⟨t, et, rfl⟩ := Option.map_eq_some_iff.mp eq0
        obtain ⟨c, rfl, ec⟩ : ∃ c, x = .ref c ∧ SqT K H3 c [.int (t.2.2 - t.2.1), .int t.1, .int t.2.1] := by
          cases t0 with
          | tup e l =>
            have z : TvL K H3 _ ((triI3 (t.2.2 - t.2.1, t.1, t.2.1)).map .int) := l
            rw [z.ints] at e
            exact ⟨_, rfl, e⟩
        refine ⟨rfl, ?_⟩
        unfold tYes
        refine ite2 (fun _ => ?_) (fun q => absurd rfl q)
        have ec5 := sqt_same ec s5
        refine ⟨.ref c, rfl, c, _, _, _, rfl, rfl, ec5, atI_nat (j := 1) rfl, .ref c, rfl, c, _, _, _, rfl, rfl, ec5, atI_nat (j := 2) rfl, .ref c, rfl, c, _, _, _, rfl, rfl, ec5, atI_nat (j := 2) rfl, .ref c, rfl, c, _, _, _, rfl, rfl, ec5, atI_nat (j := 0) rfl, _, _, rfl, rfl, (by show 3 ≤ sizeLine; decide), fun r nr => ?_⟩
        have e3 : t.2.1 + (t.2.2 - t.2.1) = t.2.2 := by omega
        dsimp only
        rw [e3]
        have s6 := sub_same (o := .tup [V.int t.1, V.int t.2.1, V.int t.2.2]) nr
        refine ⟨zs, s6 _ _ hz, ?_, off (s5.trans s6), _, upd_same, ?_⟩
        · rw [tz.len, List.length_take]
          exact Nat.lt_of_lt_of_le (show _ < 64 by omega) (by decide)
        · have tk : (pl ns).take (i + 1) = (pl ns).take i ++ [t] := by rw [List.take_succ, et]; rfl
          rw [tk]
          exact ((tz.same s6).snoc upd_same).put (s6 _ _ hz)
      · rintro H4 ⟨s5, zs, hz, tz⟩
        rw [ly, lp, List.take_length] at tz
        exact q H4 D3 zs (s4.trans s5) (s4.free nD3) hz tz
end
end K18
/-! # terms -/
namespace K18
open PySem PySem.Spec PyProof.Rows L2 TL NumText RZ
/-- the pairs of places between -/
def tm1 (ns : List Int) (t : Tri) : List (Int × Int) := (List.range (t.2.2 - t.2.1 - 1).toNat).map fun d => (ix ns (midP t d).1, ix ns (midP t d).2)
def tmL (ns : List Int) : List (List (Int × Int)) := (pl ns).map (tm1 ns)
/-- lists of pairs, none of them the list at D -/
inductive PmL (K : PySem.W.Frag) (H : Hp) (D : Addr) : List V → List (List (Int × Int)) → Prop
  | nil : PmL K H D [] []
  | cons {c : Addr} {ys : List V} {xs : List V} {p : List (Int × Int)} {us : List (List (Int × Int))} : H c = some (.lst ys) → c ≠ D → TvL K H ys (p.map prD) → PmL K H D xs us → PmL K H D (.ref c :: xs) (p :: us)
theorem PmL.same {K : PySem.W.Frag} {H H' : Hp} {D : Addr} (o : Same H H') : ∀ {xs : List V} {us : List (List (Int × Int))}, PmL K H D xs us → PmL K H' D xs us
  | _, _, .nil => .nil
  | _, _, .cons e n t l => .cons (o _ _ e) n (t.same o) (l.same o)
theorem PmL.put {K : PySem.W.Frag} {H : Hp} {D : Addr} {ws ys : List V} (hd : H D = some (.lst ws)) : ∀ {xs : List V} {us : List (List (Int × Int))}, PmL K H D xs us → PmL K (upd H D (.lst ys)) D xs us
  | _, _, .nil => .nil
  | _, _, .cons e n t l => .cons ((upd_ne n).trans e) n (t.put hd) (l.put hd)
theorem PmL.snoc {K : PySem.W.Frag} {H : Hp} {D c : Addr} {ys : List V} {p : List (Int × Int)} (e : H c = some (.lst ys)) (n : c ≠ D) (t : TvL K H ys (p.map prD)) : ∀ {xs : List V} {us : List (List (Int × Int))}, PmL K H D xs us → PmL K H D (xs ++ [.ref c]) (us ++ [p])
  | _, _, .nil => .cons e n t .nil
  | _, _, .cons e2 n2 t2 l => .cons e2 n2 t2 (l.snoc e n t)
theorem PmL.len {K : PySem.W.Frag} {H : Hp} {D : Addr} : ∀ {xs : List V} {us : List (List (Int × Int))}, PmL K H D xs us → xs.length = us.length
  | _, _, .nil => rfl
  | _, _, .cons _ _ _ l => by rw [List.length_cons, List.length_cons, l.len]
theorem PmL.get {K : PySem.W.Frag} {H : Hp} {D : Addr} : ∀ {xs : List V} {us : List (List (Int × Int))} {i : Nat} {x : V}, PmL K H D xs us → xs[i]? = some x → ∃ c ys p, us[i]? = some p ∧ x = .ref c ∧ H c = some (.lst ys) ∧ TvL K H ys (p.map prD)
  | _, _, _, _, .nil, h => by simp at h
  | _, _, 0, _, .cons e n t l, h => by
    rw [List.getElem?_cons_zero] at h
    obtain rfl := Option.some.inj h
    exact ⟨_, _, _, rfl, rfl, e, t⟩
  | _, _, i + 1, _, .cons e n t l, h => by
    rw [List.getElem?_cons_succ] at h ⊢
    exact l.get h
/-- the list of lists of pairs at D -/
def Tms (K : PySem.W.Frag) (H : Hp) (D : Addr) (us : List (List (Int × Int))) : Prop := ∃ xs, H D = some (.lst xs) ∧ PmL K H D xs us
theorem Tms.same {K : PySem.W.Frag} {H H' : Hp} {D : Addr} {us : List (List (Int × Int))} (h : Tms K H D us) (o : Same H H') : Tms K H' D us := let ⟨xs, e, l⟩ := h; ⟨xs, o _ _ e, l.same o⟩
theorem tri_first {ns : List Int} {t : Tri} (m : t ∈ pl ns) : ((pl ns).map triD)[(pl ns).idxOf t]? = some (triD t) ∧ ∀ (k : Nat) (z : PyData), k < (pl ns).idxOf t → ((pl ns).map triD)[k]? = some z → PyData.eqv z (triD t) = false := by
  refine ⟨by rw [List.getElem?_map, at_idx m]; rfl, fun k z lk e => ?_⟩
  rw [List.getElem?_map] at e
  obtain ⟨u, eu, rfl⟩ := Option.map_eq_some_iff.mp e
  have ne : u ≠ t := fun q => by
    subst q
    exact absurd lk (by
      intro lk
      have z := List.not_of_lt_findIdx (p := (· == u)) (xs := pl ns) (i := k) lk
      rw [(List.getElem?_eq_some_iff.mp eu).2] at z
      simp at z)
  have e3 : PyData.eqv (triD u) (triD t) = (decide (u.1 = t.1) && (decide (u.2.1 = t.2.1) && decide (u.2.2 = t.2.2))) := by
    simp only [triD, PyData.eqv, PyData.eqvAll, Bool.and_true]
    rfl
  rw [e3]
  refine Bool.eq_false_iff.mpr fun z => ne ?_
  simp only [Bool.and_eq_true, decide_eq_true_eq] at z
  exact Prod.ext z.1 (Prod.ext z.2.1 z.2.2)
theorem trl_off {H H' : Hp} {D : Addr} {ws : List V} (hd : H D = some (.lst ws)) (o : Old D H H') : ∀ {xs : List V} {ts : List Tri}, TrL H xs ts → TrL H' xs ts
  | _, _, .nil => .nil
  | _, _, .cons e l => .cons (o _ _ (fun z => by rw [z, hd] at e; cases e) e) (trl_off hd o l)
theorem shaped_tri (t : Tri) : SeqAt.shaped (triD t) = true := rfl
theorem idxD {K : PySem.W.Frag} {H : Hp} {p c : Addr} {xs : List V} {ns : List Int} {t : Tri} {Q : VK} (ep : H p = some (.lst xs)) (tr : TrL H xs (pl ns)) (m : t ∈ pl ns) (ec : H c = some (.tup (triV t))) (q : Q (.int (ix ns t)) H) : rIndexD K (.ref p) [.ref c] H Q :=
  ⟨p, .ref c, triD t, (pl ns).map triD, (pl ns).idxOf t, triD t, rfl, rfl, .lst (.inl (.inl ep)) (trl_dp tr), .tup (.inl (.inl ec)) (dp_ints K H (triI t)), shaped_trl _, shaped_tri t, (tri_first m).1, eqv_own (shaped_tri t), (tri_first m).2, q⟩
theorem tyl {K : PySem.W.Frag} {H : Hp} {D : Addr} {ws : List V} (hd : H D = some (.lst ws)) : tyV K "list" (.ref D) H := .inl ⟨rfl, _, .inl (.inl hd)⟩
theorem mt_indexDK {X : Cx} {K : PySem.W.Frag} (h : X.K = K) (hu : X.A.units + 65 < cLine) : MtR X "list.index" (rIndexD K) := by
  rw [← h]
  exact mt_indexD hu
section
variable {P : Program} {w : World} {K : PySem.W.Frag} {mg : Str → Option Value} {base : Heap}
abbrev s_terms : Stmt := topS 69
theorem sc_terms : FnScope ["_law_sizes", "_law_spots_here", "_law_found", "_law_box", "_law_row", "_law_column", "_law_at"] ["_law_sizes"] (defScope s_terms) := ⟨rfl, rfl, rfl, by decide +kernel, rfl, by decide +kernel, by decide +kernel⟩
def spTerms (K : PySem.W.Frag) : Sp := fun vs H Q _ => ∃ (a : Addr) (ns : List Int), vs = [.ref a] ∧ SqT K H a (ns.map V.int) ∧ Shp ns ∧ ∀ H' D, Same H H' → H D = none → Tms K H' D (tmL ns) → Q (.ref D) H'
theorem ok_terms {f f1 : Addr} {fd fd1 : FuncData} (T : Txt mg) (N : Nam mg) (d : D K mg "_law_terms" s_terms ["_law_sizes"] f fd) (d1 : D K mg "_law_spots" s_spots ["_law_sizes"] f1 fd1) (G1 : FnOk P w K mg base CX0 1 f1 fd1 ["_law_sizes"] (spSpots K)) :
    FnOk P w K mg base CX0 2 f fd ["_law_sizes"] (spTerms K) := by
  refine d.F.ok sc_terms (fun vs H Q E h => ?_) (fun cdv A outer s H vs Q E hr h => ?_)
  · obtain ⟨a, ns, rfl, _⟩ := h
    rfl
  · obtain ⟨a, ns, rfl, ea, S, q⟩ := h
    have un : (A.deeper (envOfC "_law_terms" (defScope s_terms) s.heap.objs.size f cdv)).units + 65 < cLine := by have := hr.un; omega
    refine ⟨_, (pss_cons (ps_asg (pe_tup (pa_cons (pe_call G1 (hr.mono (by decide)) (by rfl) d1.g d1.F.kp d1.b .nil pass0 (pa_cons (pv 0) pa_nil)) (pa_cons (pe_lst pa_nil) pa_nil))) (pg_tup rfl (pgs_cons (pg_name (i := 1) sc_terms.nd rfl (.inr rfl)) (pgs_cons (pg_name (i := 2) sc_terms.nd rfl (.inl rfl)) pgs_nil))))
      (pss_cons (ps_for PassesOwn.never rfl (pi_list (pv 1)) (pg_tup rfl (pgs_cons (pg_name (i := 3) sc_terms.nd rfl (.inr rfl)) (pgs_cons (pg_name (i := 4) sc_terms.nd rfl (.inr rfl)) (pgs_cons (pg_name (i := 5) sc_terms.nd rfl (.inr rfl)) pgs_nil))))
        (pss_one (ps_expr (pe_bm PySem.F.plainAttrs_list PySem.F.slot_list_append PySem.F.type_list_append mt_append (pv 2) (pa_cons (pe_lc (own := [("_law_at", 6)]) (g := gName 6) (tt := tYes) rfl sc_terms.nd (pi_range2 (by rfl) T.n_range (pa_cons (pe_op op_add (pv 4) pe_int) (pa_cons (pv 5) pa_nil))) (blkOk_by (own := [("_law_at", 6)]) (N := ["_law_sizes", "_law_spots_here", "_law_found", "_law_box", "_law_row", "_law_column", "_law_at"]) (sc := defScope s_terms) (by decide +kernel))
            (fun _ _ _ _ _ => (pg_name (i := 6) sc_terms.nd rfl (Or.inl rfl))) (fun _ _ _ _ _ => pts_nil) (fun _ _ _ _ _ => (pe_tup (pa_cons (pe_bmK (K := K) rfl PySem.F.plainAttrs_list PySem.F.slot_list_index PySem.F.type_list_index (mt_indexDK (K := K) rfl un) (pv 1) (pa_cons (pe_tup (pa_cons (pv 3) (pa_cons (pv 4) (pa_cons (pv 6) pa_nil)))) pa_nil)) (pa_cons (pe_bmK (K := K) rfl PySem.F.plainAttrs_list PySem.F.slot_list_index PySem.F.type_list_index (mt_indexDK (K := K) rfl un) (pv 1) (pa_cons (pe_tup (pa_cons (pv 3) (pa_cons (pv 6) (pa_cons (pv 5) pa_nil)))) pa_nil)) pa_nil))))) pa_nil)))))
      (pss_one (ps_ret (pv 2))))), ?_⟩
    refine ⟨.ref a, rfl, a, ns, rfl, ea, S, fun H2 p xs s2 np ep tr => ?_⟩
    refine ⟨(by show 0 ≤ sizeLine; decide), fun D nD => ?_⟩
    have s0 := sub_same (o := .lst []) nD
    refine ⟨(by show 2 ≤ sizeLine; decide), fun Z nZ => ?_⟩
    have s1 := sub_same (o := .tup [V.ref p, V.ref D]) nZ
    have hZ : upd (upd H2 D (.lst [])) Z (.tup [V.ref p, V.ref D]) Z = some (.tup [V.ref p, V.ref D]) := upd_same
    have hD : upd (upd H2 D (.lst [])) Z (.tup [V.ref p, V.ref D]) D = some (.lst []) := s1 _ _ upd_same
    have s2' := s2.trans (s0.trans s1)
    have ep4 := s1 _ _ (s0 _ _ ep)
    have tr4 := (tr.same s0).same s1
    have pD : p ≠ D := fun z => by rw [z, nD] at ep; cases ep
    have oH : Old D H (upd (upd H2 D (.lst [])) Z (.tup [V.ref p, V.ref D])) := fun _ _ _ h => s2' _ _ h
    have nDH : H D = none := s2.free nD
    revert hZ hD ep4 tr4 s2' oH
    generalize upd (upd H2 D (.lst [])) Z (.tup [V.ref p, V.ref D]) = H4
    intro hZ hD s2' ep4 tr4 oH
    refine ⟨Z, _, rfl, .inl (.inl hZ), rfl, _, _, rfl, _, _, rfl, rfl, ?_⟩
    refine ⟨_, rfl, p, rfl, ⟨_, .inl (.inl ep4)⟩, ?_⟩
    refine for_it (walk_list (K := K) (a := p) (xs := xs)) (fun i σ Y => (∃ y3 y4 y5, σ = [some (.ref a), some (.ref p), some (.ref D), y3, y4, y5, none]) ∧ Old D H4 Y ∧ ∃ zs, Y D = some (.lst zs) ∧ PmL K Y D zs (((pl ns).take i).map (tm1 ns)))
      ⟨⟨_, _, _, rfl⟩, fun _ _ _ h => h, [], hD, .nil⟩ (fun i σ Y _ h => .inl (.inl (h.2.1 _ _ pD ep4))) ?_ ?_
    · rintro i v σ Y Y' hi ⟨⟨y3, y4, y5, rfl⟩, oy, zs, hd, pm⟩ ⟨rfl, ev⟩
      obtain ⟨t, c, et, rfl, ec⟩ := tr4.tri ev
      have mt : t ∈ pl ns := List.mem_of_getElem? et
      have M := tables3 ns (shp_mem S)
      obtain ⟨b, ii, j, rfl, hb, ij, hj⟩ := pl_mem S mt
      have gj := (M.2.2 _ mt).2.1
      have j6 : (j : Int) < 6 := gj.2.2
      have cD : c ≠ D := fun z => by rw [z, hD] at ec; cases ec
      have ecY := oy _ _ cD ec
      refine ⟨c, _, rfl, .inl (.inl ecY), rfl, _, _, rfl, _, _, rfl, _, _, rfl, rfl, ?_⟩
      refine ⟨.ref D, rfl, tyl hd, ?_⟩
      refine ⟨_, rfl, _, _, rfl, rfl, _, rfl, (ii : Int) + 1, (j : Int), rfl, ⟨by omega, by omega, by omega, by omega⟩, fun L nL => ?_⟩
      have e2 : ((j : Int) - ((ii : Int) + 1)).toNat = j - 1 - ii := by omega
      rw [e2]
      have LD : L ≠ D := fun z => by rw [z, hd] at nL; cases nL
      have trY := trl_off hD oy tr4
      have epY := oy _ _ pD ep4
      have lz : zs.length = i := by
        rw [pm.len, List.length_map, List.length_take]
        have := (List.getElem?_eq_some_iff.mp et).1
        omega
      have l30 := M.2.1
      have il := (List.getElem?_eq_some_iff.mp et).1
      refine lc_range (lo := (ii : Int) + 1) (n := j - 1 - ii) (fun k Z => Same Y' Z ∧ ∃ ws, Z L = some (.lst ws) ∧ TvL K Z ws (((List.range k).map fun d => (ix ns (midP ((b : Int), (ii : Int), (j : Int)) d).1, ix ns (midP ((b : Int), (ii : Int), (j : Int)) d).2)).map prD)) ⟨sub_same nL, [], upd_same, .nil⟩ ?_ ?_
      · rintro k Z hk ⟨sz, ws, hl, tv⟩
        obtain ⟨m1, m2⟩ := mid_mem S mt (d := k) (by show k < ((j : Int) - (ii : Int) - 1).toNat; omega)
        refine ⟨rfl, ?_⟩
        unfold tYes
        refine ite2 (fun _ => ?_) (fun q => absurd rfl q)
        refine ⟨.ref p, rfl, tyl (sz _ _ epY), _, rfl, _, rfl, _, rfl, (by show 3 ≤ sizeLine; decide), fun q1 n1 => ?_⟩
        have s7 := sub_same (o := .tup [V.int (b : Nat), V.int (ii : Nat), V.int ((ii : Int) + 1 + (k : Int))]) n1
        have h7 : upd Z q1 (.tup [V.int (b : Nat), V.int (ii : Nat), V.int ((ii : Int) + 1 + (k : Int))]) q1 = some (.tup (triV (midP ((b : Int), (ii : Int), (j : Int)) k).1)) := upd_same
        have tr7 := (trY.same sz).same s7
        have ep7 := s7 _ _ (sz _ _ epY)
        dsimp only [tNil]
        refine idxD ep7 tr7 m1 h7 ?_
        have hl7 := s7 _ _ hl
        have tv7 := tv.same s7
        have sz7 := sz.trans s7
        revert tr7 ep7 hl7 tv7 sz7
        generalize upd Z q1 (.tup [V.int (b : Nat), V.int (ii : Nat), V.int ((ii : Int) + 1 + (k : Int))]) = Z7
        intro tr7 ep7 hl7 tv7 sz7
        refine ⟨.ref p, rfl, tyl ep7, _, rfl, _, rfl, _, rfl, (by show 3 ≤ sizeLine; decide), fun q2 n2 => ?_⟩
        have s8 := sub_same (o := .tup [V.int (b : Nat), V.int ((ii : Int) + 1 + (k : Int)), V.int (j : Nat)]) n2
        have h8 : upd Z7 q2 (.tup [V.int (b : Nat), V.int ((ii : Int) + 1 + (k : Int)), V.int (j : Nat)]) q2 = some (.tup (triV (midP ((b : Int), (ii : Int), (j : Int)) k).2)) := upd_same
        dsimp only [tNil]
        refine idxD (s8 _ _ ep7) (tr7.same s8) m2 h8 ?_
        have hl8 := s8 _ _ hl7
        have tv8 := tv7.same s8
        have sz8 := sz7.trans s8
        revert hl8 tv8 sz8
        generalize upd Z7 q2 (.tup [V.int (b : Nat), V.int ((ii : Int) + 1 + (k : Int)), V.int (j : Nat)]) = Z8
        intro hl8 tv8 sz8
        refine ⟨(by show 2 ≤ sizeLine; decide), fun q3 n3 => ?_⟩
        have s9 := sub_same (o := .tup [V.int (ix ns (midP ((b : Int), (ii : Int), (j : Int)) k).1), V.int (ix ns (midP ((b : Int), (ii : Int), (j : Int)) k).2)]) n3
        have off : ∀ {W : Hp} {o : HO}, Same Y' W → Same Y' (upd W L o) := fun sz b o h => by
          rw [upd_ne (ne_of_none h nL)]
          exact sz b o h
        refine ⟨ws, s9 _ _ hl8, ?_, off (sz8.trans s9), _, upd_same, ?_⟩
        · rw [tv.len, List.length_map, List.length_map, List.length_range]
          exact Nat.lt_of_lt_of_le (show _ < 64 by omega) (by decide)
        · rw [List.range_succ, List.map_append, List.map_append]
          exact ((tv8.same s9).snoc (.tup (sqt_new upd_same) (.cons (.int _) (.cons (.int _) .nil)))).put (s9 _ _ hl8)
      · rintro Z ⟨sz, ws, hl, tv⟩
        refine ⟨D, zs, .ref L, rfl, rfl, sz _ _ hd, ?_, ?_⟩
        · exact Nat.lt_of_lt_of_le (show _ < 64 by omega) (by decide)
        have pmZ : PmL K Z D zs (((pl ns).take i).map (tm1 ns)) := pm.same sz
        have tk : (pl ns).take (i + 1) = (pl ns).take i ++ [((b : Int), (ii : Int), (j : Int))] := by rw [List.take_succ, et]; rfl
        refine ⟨⟨_, _, _, rfl⟩, ?_, zs ++ [.ref L], upd_same, ?_⟩
        · exact fun x o ne h => (upd_ne ne).trans (sz _ _ (oy x o ne h))
        · rw [tk, List.map_append]
          have en : ((j : Int) - (ii : Int) - 1).toNat = j - 1 - ii := by omega
          have e1 : tm1 ns ((b : Int), (ii : Int), (j : Int)) = (List.range (j - 1 - ii)).map fun d => (ix ns (midP ((b : Int), (ii : Int), (j : Int)) d).1, ix ns (midP ((b : Int), (ii : Int), (j : Int)) d).2) := by
            unfold tm1
            rw [en]
          refine (pmZ.snoc hl LD (p := tm1 ns ((b : Int), (ii : Int), (j : Int))) ?_).put (sz _ _ hd)
          rw [e1]
          exact tv
    · rintro σ Y ⟨⟨y3, y4, y5, rfl⟩, oy, zs, hd, pm⟩
      have lx : xs.length = (pl ns).length := tr.len
      rw [lx, List.take_length] at pm
      exact ⟨_, rfl, q Y D (fun b o h => by
        by_cases e : b = D
        · rw [e, nDH] at h; cases h
        · exact oy b o e (oH b o e h)) nDH ⟨zs, hd, pm⟩⟩
end
end K18
/-! # the law: times -/
namespace K18
open PySem PySem.Spec PyProof.Rows L2 TL NumText RZ
theorem nums_getV {F : Tri → Int} {ns : List Int} {t : Tri} (m : t ∈ pl ns) : ((numsL F ns).map V.int)[(pl ns).idxOf t]? = some (.int (F t)) := by
  unfold numsL
  rw [List.getElem?_map, List.getElem?_map, at_idx m]
  rfl
section
variable {P : Program} {w : World} {K : PySem.W.Frag} {mg : Str → Option Value} {base : Heap}
abbrev s_mixed : Stmt := topS 70
theorem sc_mixed : FnScope ["_law_terms_here", "_law_one", "_law_other", "_law_found", "_law_at", "_law_pairs_here", "_law_left", "_law_right_here"] ["_law_terms_here", "_law_one", "_law_other"] (defScope s_mixed) := ⟨rfl, rfl, rfl, by decide +kernel, rfl, by decide +kernel, by decide +kernel⟩
def spMixed (K : PySem.W.Frag) : Sp := fun vs H Q _ => ∃ (TM a b : Addr) (ns : List Int) (F G : Tri → Int), vs = [.ref TM, .ref a, .ref b] ∧ Tms K H TM (tmL ns) ∧ SqT K H a ((numsL F ns).map V.int) ∧ SqT K H b ((numsL G ns).map V.int) ∧ Shp ns ∧ WdN F ns ∧ WdN G ns ∧
  ∀ H' c, Same H H' → H c = none → H' c = some (.tup ((numsL (mulN F G) ns).map V.int)) → Q (.ref c) H'
theorem ok_mixed {f : Addr} {fd : FuncData} {k : Nat} (T : Txt mg) (N : Nam mg) (d : D K mg "_law_mixed" s_mixed ["_law_terms_here", "_law_one", "_law_other"] f fd) : FnOk P w K mg base CX0 (k + 1) f fd ["_law_terms_here", "_law_one", "_law_other"] (spMixed K) := by
  refine d.F.ok sc_mixed (fun vs H Q E h => ?_) (fun cdv A outer s H vs Q E hr h => ?_)
  · obtain ⟨TM, a, b, ns, F, G, rfl, _⟩ := h
    rfl
  · obtain ⟨TM, a, b, ns, F, G, rfl, ⟨us, eu, pm⟩, ea, eb, S, wF, wG, q⟩ := h
    refine ⟨_, (pss_cons (ps_set (i := 3) sc_mixed.nd rfl (.inl rfl) (pe_lst pa_nil))
      (pss_cons (ps_for PassesOwn.never rfl (pi_enum (by rfl) N.n_enumerate (pa_cons (pv 0) pa_nil)) (pg_tup rfl (pgs_cons (pg_name (i := 4) sc_mixed.nd rfl (.inl rfl)) (pgs_cons (pg_name (i := 5) sc_mixed.nd rfl (.inl rfl)) pgs_nil)))
        (pss_one (ps_expr (pe_bm PySem.F.plainAttrs_list PySem.F.slot_list_append PySem.F.type_list_append mt_append (pv 3) (pa_cons (pe_op op_add (pe_op op_add (pe_ix ix_tup (pv 1) (pv 4) (fun _ _ => rfl)) (pe_ix ix_tup (pv 2) (pv 4) (fun _ _ => rfl))) (pe_callB (cr_sum rfl) (by rfl) T.n_sum (by decide +kernel) (pa_cons (pe_lc (own := [("_law_left", 6), ("_law_right_here", 7)]) (g := gTup K 2 (gCons (gName 6) (gCons (gName 7) gNil))) (tt := tYes) rfl sc_mixed.nd (pi_list (pv 5)) (blkOk_by (own := [("_law_left", 6), ("_law_right_here", 7)]) (N := ["_law_terms_here", "_law_one", "_law_other", "_law_found", "_law_at", "_law_pairs_here", "_law_left", "_law_right_here"]) (sc := defScope s_mixed) (by decide +kernel))
            (fun _ _ _ _ _ => (pg_tup rfl (pgs_cons (pg_name (i := 6) sc_mixed.nd rfl (Or.inl rfl)) (pgs_cons (pg_name (i := 7) sc_mixed.nd rfl (Or.inl rfl)) pgs_nil)))) (fun _ _ _ _ _ => pts_nil) (fun _ _ _ _ _ => (pe_op op_mulW (pe_ix (ix_tupK (K := K) rfl) (pv 1) (pv 6) (fun _ _ => rfl)) (pe_ix (ix_tupK (K := K) rfl) (pv 2) (pv 7) (fun _ _ => rfl))))) pa_nil))) pa_nil)))))
      (pss_one (ps_ret (pe_tupleOf (by rfl) T.n_tuple (pv 3)))))), ?_⟩
    have M := tables3 ns (shp_mem S)
    have l30 := M.2.1
    refine ⟨(by show 0 ≤ sizeLine; decide), fun D nD => ?_⟩
    have s0 := sub_same (o := .lst []) nD
    have UD : TM ≠ D := fun z => by rw [z, nD] at eu; cases eu
    have lu : us.length = (pl ns).length := by rw [pm.len]; unfold tmL; rw [List.length_map]
    refine ⟨_, rfl, TM, _, rfl, .inl (.inl (s0 _ _ eu)), ?_⟩
    refine for_it (walk_enum (K := K) (a := TM) (xs := us)) (fun i σ Y => (∃ y4 y5, σ = [some (.ref TM), some (.ref a), some (.ref b), some (.ref D), y4, y5, none, none]) ∧ Same H Y ∧ Y D = some (.lst (((numsL (mulN F G) ns).take i).map V.int)))
      ⟨⟨_, _, rfl⟩, s0, upd_same⟩ (fun i σ Y _ h => .inl (.inl (h.2.1 _ _ eu))) ?_ ?_
    · rintro i v σ Y Y' hi ⟨⟨y4, y5, rfl⟩, sy, hd⟩ ⟨T1, x0, y0, rfl, nT, rfl, ex, ey⟩
      obtain rfl := Option.some.inj ex
      obtain ⟨c, ys, p, ep, rfl, ec, tv⟩ := (pm.same sy).get ey
      unfold tmL at ep
      rw [List.getElem?_map] at ep
      obtain ⟨t, et, rfl⟩ := Option.map_eq_some_iff.mp ep
      have mt : t ∈ pl ns := List.mem_of_getElem? et
      have il := (List.getElem?_eq_some_iff.mp et).1
      have iF : ((numsL F ns).map V.int)[i]? = some (.int (F t)) := by
        unfold numsL
        rw [List.getElem?_map, List.getElem?_map, et]
        rfl
      have iG : ((numsL G ns).map V.int)[i]? = some (.int (G t)) := by
        unfold numsL
        rw [List.getElem?_map, List.getElem?_map, et]
        rfl
      have s4 := sub_same (o := .tup [V.int (i : Nat), V.ref c]) nT
      have hT : upd Y T1 (.tup [V.int (i : Nat), V.ref c]) T1 = some (.tup [V.int (i : Nat), V.ref c]) := upd_same
      have sy4 := sy.trans s4
      have hd4 := s4 _ _ hd
      have ec4 := s4 _ _ ec
      have tv4 := tv.same s4
      clear hd ec tv nT
      revert hT sy4 hd4 ec4 tv4 s4
      generalize upd Y T1 (.tup [V.int (i : Nat), V.ref c]) = H4
      intro s4 hT sy4 hd4 ec4 tv4
      refine ⟨T1, _, rfl, .inl (.inl hT), rfl, _, _, rfl, _, _, rfl, rfl, ?_⟩
      refine ⟨.ref D, rfl, tyl hd4, ?_⟩
      refine ⟨.ref a, rfl, _, rfl, a, _, _, .int (F t), rfl, rfl, sqt_same ea sy4, atI_nat iF, .ref b, rfl, _, rfl, b, _, _, .int (G t), rfl, rfl, sqt_same eb sy4, atI_nat iG, _, _, rfl, rfl, ?_⟩
      refine ⟨_, rfl, c, rfl, ⟨_, .inl (.inl ec4)⟩, fun L nL => ?_⟩
      have LD : L ≠ D := fun z => by rw [z, hd4] at nL; cases nL
      refine lc_list (K := K) (a := c) (xs := ys) (fun k Z => Same H4 Z ∧ Z L = some (.lst (((List.range k).map fun d => F (midP t d).1 * G (midP t d).2).map V.int))) ⟨sub_same nL, upd_same⟩ (fun k Z _ h => .inl (.inl (h.1 _ _ ec4))) ?_ ?_
      · rintro k x Z hx ⟨sz, hl⟩
        obtain ⟨d0, e0, t0⟩ := tv4.get hx
        unfold tm1 at e0
        rw [List.map_map, List.getElem?_map] at e0
        obtain ⟨k2, ek, rfl⟩ := Option.map_eq_some_iff.mp e0
        obtain ⟨hk, rfl⟩ : k < (t.2.2 - t.2.1 - 1).toNat ∧ k = k2 := by
          have z := List.getElem?_eq_some_iff.mp ek
          obtain ⟨z1, z2⟩ := z
          rw [List.getElem_range] at z2
          rw [List.length_range] at z1
          exact ⟨z1, z2⟩
        obtain ⟨m1, m2⟩ := mid_mem S mt hk
        obtain ⟨r, rfl, er⟩ : ∃ r, x = .ref r ∧ SqT K H4 r [.int (ix ns (midP t k).1), .int (ix ns (midP t k).2)] := by
          cases t0 with
          | tup e l =>
            have z : TvL K H4 _ ([ix ns (midP t k).1, ix ns (midP t k).2].map .int) := l
            rw [z.ints] at e
            exact ⟨_, rfl, e⟩
        refine ⟨r, _, rfl, sqt_same er sz, rfl, _, _, rfl, _, _, rfl, rfl, rfl, yesT ?_⟩
        refine ⟨.ref a, rfl, _, rfl, a, _, _, .int (F (midP t k).1), rfl, rfl, sqt_same (sqt_same ea sy4) sz, atI_nat (nums_getV m1), .ref b, rfl, _, rfl, b, _, _, .int (G (midP t k).2), rfl, rfl, sqt_same (sqt_same eb sy4) sz, atI_nat (nums_getV m2), ?_⟩
        refine ⟨_, _, rfl, rfl, wide_mul (wF _ m1) (wG _ m2) (by decide) (by decide) (by decide), ?_⟩
        refine ⟨_, hl, ?_, fun bb ob e => ?_, ?_⟩
        · rw [List.length_map, List.length_map, List.length_range, sizeLine_eq]
          have := dd5 S mt
          unfold dd at this
          omega
        · rw [upd_ne (fun z => by rw [z, nL] at e; cases e)]
          exact sz _ _ e
        · rw [upd_same, List.range_succ, List.map_append, List.map_append]
          rfl
      · rintro Z ⟨sz, hl⟩
        have ly : ys.length = (t.2.2 - t.2.1 - 1).toNat := by
          rw [tv4.len, List.length_map]
          unfold tm1
          rw [List.length_map, List.length_range]
        rw [ly] at hl
        refine ⟨L, _, rfl, .inl (.inl hl), _, _, rfl, rfl, ?_⟩
        refine ⟨D, _, _, rfl, rfl, sz _ _ hd4, ?_, ?_⟩
        · rw [List.length_map, List.length_take, sizeLine_eq]
          omega
        refine ⟨⟨_, _, rfl⟩, fun bb ob e => ?_, ?_⟩
        · rw [upd_ne (ne_of_none e nD)]
          exact sz _ _ (sy4 _ _ e)
        · have tk : (numsL (mulN F G) ns).take (i + 1) = (numsL (mulN F G) ns).take i ++ [mulN F G t] := by
            rw [List.take_succ]
            unfold numsL
            rw [List.getElem?_map, et]
            rfl
          rw [upd_same, tk, List.map_append]
          rfl
    · rintro σ Y ⟨⟨y4, y5, rfl⟩, sy, hd⟩
      have lx : us.length = (numsL (mulN F G) ns).length := by rw [lu]; unfold numsL; rw [List.length_map]
      rw [lx, List.take_length] at hd
      exact ⟨_, rfl, .inl ⟨D, _, rfl, .inl (.inl hd), fun p np => q _ p (sy.trans (sub_same np)) (sy.free np) upd_same⟩⟩
end
end K18
/-! # the law: undone -/
namespace K18
open PySem PySem.Spec PyProof.Rows L2 TL NumText RZ
section
variable {P : Program} {w : World} {K : PySem.W.Frag} {mg : Str → Option Value} {base : Heap}
abbrev s_back : Stmt := topS 71
theorem sc_back : FnScope ["_law_terms_here", "_law_one", "_law_found", "_law_at", "_law_pairs_here", "_law_left", "_law_right_here"] ["_law_terms_here", "_law_one"] (defScope s_back) := ⟨rfl, rfl, rfl, by decide +kernel, rfl, by decide +kernel, by decide +kernel⟩
def spBack (K : PySem.W.Frag) : Sp := fun vs H Q _ => ∃ (TM a : Addr) (ns : List Int) (F : Tri → Int), vs = [.ref TM, .ref a] ∧ Tms K H TM (tmL ns) ∧ SqT K H a ((numsL F ns).map V.int) ∧ Shp ns ∧ WdN F ns ∧ WdN (gU F ns) ns ∧
  ∀ H' c, Same H H' → H c = none → H' c = some (.tup ((numsL (gU F ns) ns).map V.int)) → Q (.ref c) H'
theorem ok_back {f : Addr} {fd : FuncData} {k : Nat} (T : Txt mg) (N : Nam mg) (d : D K mg "_law_back" s_back ["_law_terms_here", "_law_one"] f fd) : FnOk P w K mg base CX0 (k + 1) f fd ["_law_terms_here", "_law_one"] (spBack K) := by
  refine d.F.ok sc_back (fun vs H Q E h => ?_) (fun cdv A outer s H vs Q E hr h => ?_)
  · obtain ⟨TM, a, ns, F, rfl, _⟩ := h
    rfl
  · obtain ⟨TM, a, ns, F, rfl, ⟨us, eu, pm⟩, ea, S, wF, wG, q⟩ := h
    refine ⟨_, (pss_cons (ps_set (i := 2) sc_back.nd rfl (.inr rfl) (pe_lst pa_nil))
      (pss_cons (ps_for PassesOwn.never rfl (pi_enum (by rfl) N.n_enumerate (pa_cons (pv 0) pa_nil)) (pg_tup rfl (pgs_cons (pg_name (i := 3) sc_back.nd rfl (.inl rfl)) (pgs_cons (pg_name (i := 4) sc_back.nd rfl (.inl rfl)) pgs_nil)))
        (pss_one (ps_expr (pe_bm PySem.F.plainAttrs_list PySem.F.slot_list_append PySem.F.type_list_append mt_append (pv 2) (pa_cons (pe_op op_sub (pe_op op_sub pe_int (pe_ix ix_tup (pv 1) (pv 3) (fun _ _ => rfl))) (pe_callB (cr_sum rfl) (by rfl) T.n_sum (by decide +kernel) (pa_cons (pe_lc (own := [("_law_left", 5), ("_law_right_here", 6)]) (g := gTup K 2 (gCons (gName 5) (gCons (gName 6) gNil))) (tt := tYes) rfl sc_back.nd (pi_list (pv 4)) (blkOk_by (own := [("_law_left", 5), ("_law_right_here", 6)]) (N := ["_law_terms_here", "_law_one", "_law_found", "_law_at", "_law_pairs_here", "_law_left", "_law_right_here"]) (sc := defScope s_back) (by decide +kernel))
            (fun _ _ _ _ _ => (pg_tup rfl (pgs_cons (pg_name (i := 5) sc_back.nd rfl (Or.inl rfl)) (pgs_cons (pg_name (i := 6) sc_back.nd rfl (Or.inl rfl)) pgs_nil)))) (fun _ _ _ _ _ => pts_nil) (fun _ _ _ _ _ => (pe_op op_mulW (pe_ix (ix_tupK (K := K) rfl) (pv 1) (pv 5) (fun _ _ => rfl)) (pe_ix (ix_listK (K := K) rfl) (pv 2) (pv 6) (fun _ _ => rfl))))) pa_nil))) pa_nil)))))
      (pss_one (ps_ret (pe_tupleOf (by rfl) T.n_tuple (pv 2)))))), ?_⟩
    have M := tables3 ns (shp_mem S)
    have l30 := M.2.1
    refine ⟨(by show 0 ≤ sizeLine; decide), fun D nD => ?_⟩
    have s0 := sub_same (o := .lst []) nD
    have UD : TM ≠ D := fun z => by rw [z, nD] at eu; cases eu
    have lu : us.length = (pl ns).length := by rw [pm.len]; unfold tmL; rw [List.length_map]
    refine ⟨_, rfl, TM, _, rfl, .inl (.inl (s0 _ _ eu)), ?_⟩
    refine for_it (walk_enum (K := K) (a := TM) (xs := us)) (fun i σ Y => (∃ y4 y5, σ = [some (.ref TM), some (.ref a), some (.ref D), y4, y5, none, none]) ∧ Same H Y ∧ Y D = some (.lst (((numsL (gU F ns) ns).take i).map V.int)))
      ⟨⟨_, _, rfl⟩, s0, upd_same⟩ (fun i σ Y _ h => .inl (.inl (h.2.1 _ _ eu))) ?_ ?_
    · rintro i v σ Y Y' hi ⟨⟨y4, y5, rfl⟩, sy, hd⟩ ⟨T1, x0, y0, rfl, nT, rfl, ex, ey⟩
      obtain rfl := Option.some.inj ex
      obtain ⟨c, ys, p, ep, rfl, ec, tv⟩ := (pm.same sy).get ey
      unfold tmL at ep
      rw [List.getElem?_map] at ep
      obtain ⟨t, et, rfl⟩ := Option.map_eq_some_iff.mp ep
      have mt : t ∈ pl ns := List.mem_of_getElem? et
      have il := (List.getElem?_eq_some_iff.mp et).1
      have iF : ((numsL F ns).map V.int)[i]? = some (.int (F t)) := by
        unfold numsL
        rw [List.getElem?_map, List.getElem?_map, et]
        rfl
      have s4 := sub_same (o := .tup [V.int (i : Nat), V.ref c]) nT
      have hT : upd Y T1 (.tup [V.int (i : Nat), V.ref c]) T1 = some (.tup [V.int (i : Nat), V.ref c]) := upd_same
      have sy4 := sy.trans s4
      have hd4 := s4 _ _ hd
      have ec4 := s4 _ _ ec
      have tv4 := tv.same s4
      clear hd ec tv nT
      revert hT sy4 hd4 ec4 tv4 s4
      generalize upd Y T1 (.tup [V.int (i : Nat), V.ref c]) = H4
      intro s4 hT sy4 hd4 ec4 tv4
      refine ⟨T1, _, rfl, .inl (.inl hT), rfl, _, _, rfl, _, _, rfl, rfl, ?_⟩
      refine ⟨.ref D, rfl, tyl hd4, ?_⟩
      refine ⟨.ref a, rfl, _, rfl, a, _, _, .int (F t), rfl, rfl, sqt_same ea sy4, atI_nat iF, _, _, rfl, rfl, ?_⟩
      refine ⟨_, rfl, c, rfl, ⟨_, .inl (.inl ec4)⟩, fun L nL => ?_⟩
      have LD : L ≠ D := fun z => by rw [z, hd4] at nL; cases nL
      refine lc_list (K := K) (a := c) (xs := ys) (fun k Z => Same H4 Z ∧ Z L = some (.lst (((List.range k).map fun d => F (midP t d).1 * gU F ns (midP t d).2).map V.int))) ⟨sub_same nL, upd_same⟩ (fun k Z _ h => .inl (.inl (h.1 _ _ ec4))) ?_ ?_
      · rintro k x Z hx ⟨sz, hl⟩
        obtain ⟨d0, e0, t0⟩ := tv4.get hx
        unfold tm1 at e0
        rw [List.map_map, List.getElem?_map] at e0
        obtain ⟨k2, ek, rfl⟩ := Option.map_eq_some_iff.mp e0
        obtain ⟨hk, rfl⟩ : k < (t.2.2 - t.2.1 - 1).toNat ∧ k = k2 := by
          have z := List.getElem?_eq_some_iff.mp ek
          obtain ⟨z1, z2⟩ := z
          rw [List.getElem_range] at z2
          rw [List.length_range] at z1
          exact ⟨z1, z2⟩
        obtain ⟨m1, m2⟩ := mid_mem S mt hk
        have k2 := (mid_idx S mt hk).2
        rw [idx_of M.1 et] at k2
        have ek2 : (((numsL (gU F ns) ns).take i).map V.int)[(pl ns).idxOf (midP t k).2]? = some (.int (gU F ns (midP t k).2)) := by
          have z := nums_getV (F := gU F ns) m2
          rw [List.getElem?_map] at z ⊢
          rw [List.getElem?_take, if_pos k2]
          exact z
        obtain ⟨r, rfl, er⟩ : ∃ r, x = .ref r ∧ SqT K H4 r [.int (ix ns (midP t k).1), .int (ix ns (midP t k).2)] := by
          cases t0 with
          | tup e l =>
            have z : TvL K H4 _ ([ix ns (midP t k).1, ix ns (midP t k).2].map .int) := l
            rw [z.ints] at e
            exact ⟨_, rfl, e⟩
        refine ⟨r, _, rfl, sqt_same er sz, rfl, _, _, rfl, _, _, rfl, rfl, rfl, yesT ?_⟩
        refine ⟨.ref a, rfl, _, rfl, a, _, _, .int (F (midP t k).1), rfl, rfl, sqt_same (sqt_same ea sy4) sz, atI_nat (nums_getV m1), .ref D, rfl, _, rfl, D, _, _, .int (gU F ns (midP t k).2), rfl, rfl, .inl (.inl (sz _ _ hd4)), atI_nat ek2, ?_⟩
        refine ⟨_, _, rfl, rfl, wide_mul (wF _ m1) (wG _ m2) (by decide) (by decide) (by decide), ?_⟩
        refine ⟨_, hl, ?_, fun bb ob e => ?_, ?_⟩
        · rw [List.length_map, List.length_map, List.length_range, sizeLine_eq]
          have := dd5 S mt
          unfold dd at this
          omega
        · rw [upd_ne (fun z => by rw [z, nL] at e; cases e)]
          exact sz _ _ e
        · rw [upd_same, List.range_succ, List.map_append, List.map_append]
          rfl
      · rintro Z ⟨sz, hl⟩
        have ly : ys.length = (t.2.2 - t.2.1 - 1).toNat := by
          rw [tv4.len, List.length_map]
          unfold tm1
          rw [List.length_map, List.length_range]
        rw [ly] at hl
        have hv : 0 - F t - ((List.range (t.2.2 - t.2.1 - 1).toNat).map fun d => F (midP t d).1 * gU F ns (midP t d).2).sum = gU F ns t := by
          have z : mulN F (gU F ns) t = 0 := inv_r S F _ mt
          rw [mul_btN] at z
          unfold btN sumR at z
          omega
        refine ⟨L, _, rfl, .inl (.inl hl), _, _, rfl, rfl, ?_⟩
        dsimp only
        rw [hv]
        refine ⟨D, _, _, rfl, rfl, sz _ _ hd4, ?_, ?_⟩
        · rw [List.length_map, List.length_take, sizeLine_eq]
          omega
        refine ⟨⟨_, _, rfl⟩, fun bb ob e => ?_, ?_⟩
        · rw [upd_ne (ne_of_none e nD)]
          exact sz _ _ (sy4 _ _ e)
        · have tk : (numsL (gU F ns) ns).take (i + 1) = (numsL (gU F ns) ns).take i ++ [gU F ns t] := by
            rw [List.take_succ]
            unfold numsL
            rw [List.getElem?_map, et]
            rfl
          rw [upd_same, tk, List.map_append]
          rfl
    · rintro σ Y ⟨⟨y4, y5, rfl⟩, sy, hd⟩
      have lx : us.length = (numsL (gU F ns) ns).length := by rw [lu]; unfold numsL; rw [List.length_map]
      rw [lx, List.take_length] at hd
      exact ⟨_, rfl, .inl ⟨D, _, rfl, .inl (.inl hd), fun p np => q _ p (sy.trans (sub_same np)) (sy.free np) upd_same⟩⟩
end
end K18
/-! # the law: powers -/
namespace K18
open PySem PySem.Spec PyProof.Rows L2 TL NumText RZ
theorem pz_wt2 {ns : List Int} (S : Shp ns) {c : Nat} {F : Tri → Int} (h : WtB c F ns) (n : Int) : WtB (6 * ((n.natAbs + 6) * (32 * c))) (powZ F n) ns := pz_wt S h n 6 (Nat.le_refl _)
theorem pz_wd {ns : List Int} (S : Shp ns) {c : Nat} {F : Tri → Int} (h : WtB c F ns) {n : Int} (c3 : c ≤ 2 ^ 310) (n3 : n.natAbs ≤ 2 ^ 310) : WdN (powZ F n) ns :=
  wt_wd S (pz_wt2 S h n) (Nat.le_trans (Nat.mul_le_mul_left 6 (Nat.mul_le_mul (Nat.add_le_add_right n3 6) (Nat.mul_le_mul_left 32 c3))) (by decide +kernel))
theorem half_odd {r e m n : Nat} (h : r + e * m = n) (o : m % 2 = 1) : (r + e) + (e + e) * (m / 2) = n := by
  obtain ⟨k, rfl⟩ : ∃ k, m = 2 * k + 1 := ⟨m / 2, by omega⟩
  rw [show (2 * k + 1) / 2 = k by omega, Nat.add_mul]
  rw [Nat.mul_add, Nat.mul_one, Nat.mul_left_comm] at h
  omega
theorem half_even {r e m n : Nat} (h : r + e * m = n) (o : m % 2 = 0) : r + (e + e) * (m / 2) = n := by
  obtain ⟨k, rfl⟩ : ∃ k, m = 2 * k := ⟨m / 2, by omega⟩
  rw [show (2 * k) / 2 = k by omega, Nat.add_mul]
  rw [Nat.mul_left_comm] at h
  omega
theorem zeros_nums (ns : List Int) {m : Nat} (e : m = (pl ns).length) : (List.replicate m [V.int 0]).flatten = (numsL (fun _ => 0) ns).map V.int := by
  rw [List.flatten_replicate_singleton, e]
  unfold numsL
  rw [List.map_map]
  exact (List.map_const' ..).symm
section
variable {P : Program} {w : World} {K : PySem.W.Frag} {mg : Str → Option Value} {base : Heap}
abbrev s_raised : Stmt := topS 72
theorem sc_raised : FnScope ["_law_terms_here", "_law_one", "_law_many", "_law_base", "_law_left", "_law_found"] ["_law_terms_here", "_law_one", "_law_many"] (defScope s_raised) := ⟨rfl, rfl, rfl, by decide +kernel, rfl, by decide +kernel, by decide +kernel⟩
/-- a tuple of the numbers -/
abbrev NT (K : PySem.W.Frag) (H : Hp) (a : Addr) (F : Tri → Int) (ns : List Int) : Prop := SqT K H a ((numsL F ns).map V.int)
def spRaised (K : PySem.W.Frag) : Sp := fun vs H Q _ => ∃ (TM a : Addr) (ns : List Int) (F : Tri → Int) (n : Int) (c : Nat), vs = [.ref TM, .ref a, .int n] ∧ Tms K H TM (tmL ns) ∧ NT K H a F ns ∧ Shp ns ∧ WtB c F ns ∧ c ≤ 2 ^ 200 ∧ n.natAbs ≤ 2 ^ 200 ∧
  ∀ H' b, Same H H' → NT K H' b (powZ F n) ns → Q (.ref b) H'
theorem ok_raised {f f1 f2 : Addr} {fd fd1 fd2 : FuncData} (T : Txt mg) (N : Nam mg) (d : D K mg "_law_raised" s_raised ["_law_terms_here", "_law_one", "_law_many"] f fd)
    (d1 : D K mg "_law_back" s_back ["_law_terms_here", "_law_one"] f1 fd1) (G1 : FnOk P w K mg base CX0 1 f1 fd1 ["_law_terms_here", "_law_one"] (spBack K))
    (d2 : D K mg "_law_mixed" s_mixed ["_law_terms_here", "_law_one", "_law_other"] f2 fd2) (G2 : FnOk P w K mg base CX0 1 f2 fd2 ["_law_terms_here", "_law_one", "_law_other"] (spMixed K)) :
    FnOk P w K mg base CX0 2 f fd ["_law_terms_here", "_law_one", "_law_many"] (spRaised K) := by
  refine d.F.ok sc_raised (fun vs H Q E h => ?_) (fun cdv A outer s H vs Q E hr h => ?_)
  · obtain ⟨TM, a, ns, F, n, c, rfl, _⟩ := h
    rfl
  · obtain ⟨TM, a, ns, F, n, c, rfl, tm, ea, S, wt, c2, n2, q⟩ := h
    refine ⟨_, (pss_cons (ps_if (pt_cmpR op_eq (pv 2) pe_int (nomark _)) (pss_one (ps_ret (pv 1))) pss_nil)
      (pss_cons (ps_asg (pe_ifExp (pt_cmpR op_ge (pv 2) pe_int (nomark _)) (pe_tup (pa_cons (pv 1) (pa_cons (pv 2) pa_nil))) (pe_tup (pa_cons (pe_call G1 (hr.mono (by decide)) (by rfl) d1.g d1.F.kp d1.b .nil pass0 (pa_cons (pv 0) (pa_cons (pv 1) pa_nil))) (pa_cons (pe_op op_sub pe_int (pv 2)) pa_nil)))) (pg_tup rfl (pgs_cons (pg_name (i := 3) sc_raised.nd rfl (.inl rfl)) (pgs_cons (pg_name (i := 4) sc_raised.nd rfl (.inl rfl)) pgs_nil))))
      (pss_cons (ps_set (i := 5) sc_raised.nd rfl (.inl rfl) (pe_tupleOf (by rfl) T.n_tuple (pe_op op_rep (pe_lst (pa_cons pe_int pa_nil)) (pe_callB call_len_seq (by rfl) T.n_len PySem.boot_len (pa_cons (pv 0) pa_nil)))))
      (pss_cons (ps_while PassesOwn.never (pt_cmpR op_gt (pv 4) pe_int (nomark _))
        (pss_cons (ps_if (pt_cmpR op_eq (pe_op op_mod (pe_callTy call_int1 (by rfl) T.n_int (by decide +kernel) (pa_cons (pv 4) pa_nil)) pe_int) pe_int (nomark _)) (pss_one (ps_set (i := 5) sc_raised.nd rfl (.inl rfl) (pe_call G2 (hr.mono (by decide)) (by rfl) d2.g d2.F.kp d2.b .nil pass0 (pa_cons (pv 0) (pa_cons (pv 5) (pa_cons (pv 3) pa_nil)))))) pss_nil)
      (pss_cons (ps_set (i := 4) sc_raised.nd rfl (.inl rfl) (pe_op op_fdivW (pv 4) pe_int))
      (pss_one (ps_set (i := 3) sc_raised.nd rfl (.inl rfl) (pe_ifExp (pt_cmpR op_gt (pv 4) pe_int (nomark _)) (pe_call G2 (hr.mono (by decide)) (by rfl) d2.g d2.F.kp d2.b .nil pass0 (pa_cons (pv 0) (pa_cons (pv 3) (pa_cons (pv 3) pa_nil)))) (pv 3)))))))
      (pss_one (ps_ret (pv 5))))))), ?_⟩
    have M := tables3 ns (shp_mem S)
    have l30 := M.2.1
    refine ⟨_, rfl, rfl, _, rfl, ite2 (fun z => ?_) (fun z => ?_)⟩
    · have e1 : n = 1 := V.int.inj (of_decide_eq_true z)
      subst e1
      exact ⟨_, rfl, q H a (Same.refl H) (by
        show SqT K H a ((numsL (powZ F 1) ns).map V.int)
        rw [nums_congr (pz_one S F)]
        exact ea)⟩
    · have u8 : WtB (8 * c) (gU F ns) ns := gU_wt S wt
      have c8 : 8 * c ≤ 2 ^ 310 := Nat.le_trans (Nat.mul_le_mul_left 8 c2) (by decide +kernel)
      have c1 : c ≤ 2 ^ 310 := Nat.le_trans c2 (Nat.pow_le_pow_right (by decide) (by decide))
      have wn : WdN F ns := wt_wd S wt (Nat.le_trans c2 (Nat.pow_le_pow_right (by decide) (by decide)))
      have wg : WdN (gU F ns) ns := wt_wd S u8 (Nat.le_trans c8 (Nat.pow_le_pow_right (by decide) (by decide)))
      refine ⟨_, rfl, _, _, rfl, rfl, _, rfl, ite2 (fun z => ?pos) (fun z => ?neg)⟩
      case' pos =>
        have en : n = ((n.natAbs : Nat) : Int) := by
          have := of_decide_eq_true z
          omega
        have fin : EqN ns (powZ F (n.natAbs : Nat)) (powZ F n) := by
          rw [← en]
          exact EqN.rfl'
        refine ⟨_, rfl, _, rfl, (by show 2 ≤ sizeLine; decide), fun Z nZ => ?_⟩
        have s3 := sub_same (o := .tup [V.ref a, V.int n]) nZ
        have hZ : upd H Z (.tup [V.ref a, V.int n]) Z = some (.tup [V.ref a, V.int n]) := upd_same
        have eb := sqt_same ea s3
        revert s3 hZ eb
        generalize upd H Z (.tup [V.ref a, V.int n]) = H3
        intro s3 hZ eb
        rw [en] at hZ
        obtain ⟨y, B, eB, w8, fin, eb⟩ : ∃ y B, B = a ∧ WtB (8 * c) y ns ∧ EqN ns (powZ y (n.natAbs : Nat)) (powZ F n) ∧ NT K H3 B y ns := ⟨F, a, rfl, wt_up wt (by omega), fin, eb⟩
        rw [← eB] at hZ
        clear eB
      case' neg =>
        refine ⟨_, rfl, _, rfl, TM, a, ns, F, rfl, tm, ea, S, wn, wg, fun H1 B s1 nB eB => ?_⟩
        refine ⟨_, rfl, _, _, rfl, rfl, (by show 2 ≤ sizeLine; decide), fun Z nZ => ?_⟩
        have en : 0 - n = ((n.natAbs : Nat) : Int) := by
          have := of_decide_eq_false (Bool.eq_false_iff.mpr z)
          omega
        have fin : EqN ns (powZ (gU F ns) (n.natAbs : Nat)) (powZ F n) := by
          have e : (-1 : Int) * ((n.natAbs : Nat) : Int) = n := by
            have := of_decide_eq_false (Bool.eq_false_iff.mpr z)
            omega
          have z := (pz_congr S (pz_und S F).symm (n.natAbs : Nat)).trans (pz_mul S F (-1) (n.natAbs : Nat))
          rwa [e] at z
        have s3 := s1.trans (sub_same (o := .tup [V.ref B, V.int (0 - n)]) nZ)
        have hZ : upd H1 Z (.tup [V.ref B, V.int (0 - n)]) Z = some (.tup [V.ref B, V.int (0 - n)]) := upd_same
        have eb : NT K (upd H1 Z (.tup [V.ref B, V.int (0 - n)])) B (gU F ns) ns := sqt_same (.inl (.inl eB)) (sub_same (o := .tup [V.ref B, V.int (0 - n)]) nZ)
        dsimp only
        revert s3 hZ eb
        generalize upd H1 Z (.tup [V.ref B, V.int (0 - n)]) = H3
        intro s3 hZ eb
        rw [en] at hZ
        obtain ⟨y, w8, fin, eb⟩ : ∃ y, WtB (8 * c) y ns ∧ EqN ns (powZ y (n.natAbs : Nat)) (powZ F n) ∧ NT K H3 B y ns := ⟨_, u8, fin, eb⟩
      all_goals (
        refine ⟨Z, _, rfl, .inl (.inl hZ), rfl, _, _, rfl, _, _, rfl, rfl, ?_⟩
        have tm3 := tm.same s3
        obtain ⟨us, eu, pm⟩ := id tm3
        have lu : us.length = (pl ns).length := by rw [pm.len]; unfold tmL; rw [List.length_map]
        have wpz : ∀ k : Nat, k ≤ 2 ^ 201 → WdN (powZ y (k : Nat)) ns := fun k hk => pz_wd S w8 c8 (n := ((k : Nat) : Int)) (by rw [Int.natAbs_natCast]; exact Nat.le_trans hk (Nat.pow_le_pow_right (by decide) (by decide)))
        refine ⟨(by show 1 ≤ sizeLine; decide), fun L nL => ?_⟩
        have s4 := sub_same (o := .lst [V.int 0]) nL
        refine ⟨_, rfl, TM, us, rfl, .inl (.inl (.inl (s4 _ _ eu))), ?_⟩
        refine ⟨L, _, _, rfl, rfl, upd_same, ?_, ?_, ?_, fun p np => .inl ⟨p, _, rfl, .inl (.inl upd_same), fun r nr => ?_⟩⟩
        · omega
        · omega
        · rw [sizeLine_eq, lu]
          show 1 * _ ≤ _
          omega
        have z0 : (List.replicate ((us.length : Int)).toNat [V.int 0]).flatten = (numsL (fun _ => 0) ns).map V.int := zeros_nums ns (by rw [Int.toNat_natCast]; exact lu)
        rw [z0] at nr ⊢
        have s5 := (s4.trans (sub_same (o := .lst ((numsL (fun _ => 0) ns).map V.int)) np)).trans (sub_same (o := .tup ((numsL (fun _ => 0) ns).map V.int)) nr)
        have er : NT K (upd (upd (upd H3 L (.lst [V.int 0])) p (.lst ((numsL (fun _ => 0) ns).map V.int))) r (.tup ((numsL (fun _ => 0) ns).map V.int))) r (fun _ => 0) ns := .inl (.inl upd_same)
        revert s5 er
        generalize upd (upd (upd H3 L (.lst [V.int 0])) p (.lst ((numsL (fun _ => 0) ns).map V.int))) r (.tup ((numsL (fun _ => 0) ns).map V.int)) = H5
        intro s5 er
        have s1 := s3.trans s5
        have eb := sqt_same eb s5
        refine ⟨fun m σ Y => ∃ (Bb R : Addr) (r e : Nat), σ = [some (.ref TM), some (.ref a), some (.int n), some (.ref Bb), some (.int (m : Nat)), some (.ref R)] ∧ Same H Y ∧ NT K Y R (powZ y (r : Nat)) ns ∧ NT K Y Bb (powZ y (e : Nat)) ns ∧ (m = 0 ∨ e ≤ n.natAbs) ∧ (0 < m → r + e * m = n.natAbs) ∧ (m = 0 → r = n.natAbs) ∧ 1 ≤ e, ⟨_, B, r, 0, 1, rfl, s1, ?_, ?_, ?_, ?_, ?_, Nat.le_refl _⟩, ?_⟩
        · show SqT K H5 r ((numsL (powZ y 0) ns).map V.int)
          rw [nums_congr (show EqN ns (powZ y 0) (fun _ => 0) from fun t _ => pz_zero y t)]
          exact er
        · show SqT K H5 B ((numsL (powZ y 1) ns).map V.int)
          rw [nums_congr (pz_one S y)]
          exact eb
        · omega
        · intro _; omega
        · intro h; omega
        rintro m σ Y ⟨Bb, R, r, e, rfl, sy, xf, xb, eN, sum, sum0, e1⟩
        refine ⟨_, rfl, _, _, rfl, rfl, _, rfl, ite2 (fun z => ?_) (fun z => ?_)⟩
        · have l0 : 0 < m := by
            have := of_decide_eq_true z
            omega
          have sum := sum l0
          have eN : e ≤ n.natAbs := by omega
          have w1 := wpz e (Nat.le_trans eN (Nat.le_trans n2 (Nat.pow_le_pow_right (by decide) (by decide))))
          have w2 := wpz r (Nat.le_trans (by omega : r ≤ n.natAbs) (Nat.le_trans n2 (Nat.pow_le_pow_right (by decide) (by decide))))
          have sq : EqN ns (mulN (powZ y (e : Nat)) (powZ y (e : Nat))) (powZ y ((e + e : Nat) : Int)) := by
            rw [Int.natCast_add]
            exact (pz_add S y _ _).symm
          have tmY := tm.same sy
          refine ⟨_, fun σ' H' h => h, ?_⟩
          refine ⟨_, rfl, .inl ⟨_, rfl, _, _, rfl, rfl, (by show (0 : Int) < 2; decide), rfl, _, rfl, ite2 (fun zo => ?_) (fun zo => ?_)⟩⟩
          · have odd : m % 2 = 1 := by
              have := V.int.inj (of_decide_eq_true zo)
              omega
            refine ⟨_, rfl, _, rfl, _, rfl, TM, R, Bb, ns, _, _, rfl, tmY, xf, xb, S, w2, w1, fun Y2 D2 s2 n2 x2 => ?_⟩
            have xf2 : NT K Y2 D2 (powZ y ((r + e : Nat) : Int)) ns := by
              show SqT K Y2 D2 ((numsL (powZ y ((r + e : Nat) : Int)) ns).map V.int)
              rw [Int.natCast_add, nums_congr (pz_add S y (r : Nat) (e : Nat))]
              exact .inl (.inl x2)
            have sy2 := sy.trans s2
            have xb := sqt_same xb s2
            have sumh := half_odd sum odd
            refine ⟨_, rfl, _, _, rfl, rfl, ⟨by decide, by decide⟩, ?_⟩
            refine ⟨_, rfl, _, _, rfl, rfl, _, rfl, ite2 (fun zz => ?_) (fun zz => ?_)⟩
            · have l2 : 0 < m / 2 := by
                have := of_decide_eq_true zz
                omega
              have e2N : e + e ≤ n.natAbs := by
                have : (e + e) * 1 ≤ (e + e) * (m / 2) := Nat.mul_le_mul_left (e + e) l2
                omega
              refine ⟨_, rfl, _, rfl, _, rfl, TM, Bb, Bb, ns, _, _, rfl, tm.same sy2, xb, xb, S, w1, w1, fun Y3 D3 s3 n3 e3 => ?_⟩
              refine ⟨m / 2, by omega, D3, D2, r + e, e + e, rfl, sy2.trans s3, sqt_same xf2 s3, ?_, .inr e2N, fun _ => sumh, fun h => absurd h (by omega), by omega⟩
              show SqT K Y3 D3 ((numsL (powZ y ((e + e : Nat) : Int)) ns).map V.int)
              rw [← nums_congr sq]
              exact .inl (.inl e3)
            · have l2 : m / 2 = 0 := by
                have := of_decide_eq_false (Bool.eq_false_iff.mpr zz)
                omega
              refine ⟨_, rfl, m / 2, by omega, Bb, D2, r + e, e, rfl, sy2, xf2, xb, .inl l2, fun h => absurd h (by omega), fun _ => ?_, e1⟩
              rw [l2, Nat.mul_zero, Nat.add_zero] at sumh
              exact sumh
          · have even : m % 2 = 0 := by
              have : ¬ ((m : Int) % 2 = 1) := fun y => zo (decide_eq_true (congrArg V.int y))
              omega
            have sumh := half_even sum even
            refine ⟨_, rfl, _, _, rfl, rfl, ⟨by decide, by decide⟩, ?_⟩
            refine ⟨_, rfl, _, _, rfl, rfl, _, rfl, ite2 (fun zz => ?_) (fun zz => ?_)⟩
            · have l2 : 0 < m / 2 := by
                have := of_decide_eq_true zz
                omega
              have e2N : e + e ≤ n.natAbs := by
                have : (e + e) * 1 ≤ (e + e) * (m / 2) := Nat.mul_le_mul_left (e + e) l2
                omega
              refine ⟨_, rfl, _, rfl, _, rfl, TM, Bb, Bb, ns, _, _, rfl, tm.same sy, xb, xb, S, w1, w1, fun Y3 D3 s3 n3 e3 => ?_⟩
              refine ⟨m / 2, by omega, D3, R, r, e + e, rfl, sy.trans s3, sqt_same xf s3, ?_, .inr e2N, fun _ => sumh, fun h => absurd h (by omega), by omega⟩
              show SqT K Y3 D3 ((numsL (powZ y ((e + e : Nat) : Int)) ns).map V.int)
              rw [← nums_congr sq]
              exact .inl (.inl e3)
            · have l2 : m / 2 = 0 := by
                have := of_decide_eq_false (Bool.eq_false_iff.mpr zz)
                omega
              refine ⟨_, rfl, m / 2, by omega, Bb, R, r, e, rfl, sy, xf, xb, .inl l2, fun h => absurd h (by omega), fun _ => ?_, e1⟩
              rw [l2, Nat.mul_zero, Nat.add_zero] at sumh
              exact sumh
        · have l0 : m = 0 := by
            have := of_decide_eq_false (Bool.eq_false_iff.mpr z)
            omega
          refine ⟨_, rfl, q Y R sy ?_⟩
          show SqT K Y R ((numsL (powZ F n) ns).map V.int)
          rw [← nums_congr fin, ← sum0 l0]
          exact xf)
end
end K18
/-! # the law: brackets -/
namespace K18
open PySem PySem.Spec PyProof.Rows L2 TL NumText RZ
theorem br_way {ns : List Int} (S : Shp ns) (F G : Tri → Int) : EqN ns (mulN (mulN F G) (gU (mulN G F) ns)) (brN F G ns) := by
  refine cancel_r S (F := mulN G F) ?_
  exact (EqN.assoc S _ _ _).trans (((EqN.mul S EqN.rfl' (inv_l S _)).trans m1r).trans (br_mul S F G).symm)
section
variable {P : Program} {w : World} {K : PySem.W.Frag} {mg : Str → Option Value} {base : Heap}
abbrev s_twist : Stmt := topS 76
theorem sc_twist : FnScope ["_law_terms_here", "_law_one", "_law_other"] ["_law_terms_here", "_law_one", "_law_other"] (defScope s_twist) := ⟨rfl, rfl, rfl, by decide +kernel, rfl, by decide +kernel, by decide +kernel⟩
def spTwist (K : PySem.W.Frag) : Sp := fun vs H Q _ => ∃ (TM a b : Addr) (ns : List Int) (F G : Tri → Int) (c : Nat), vs = [.ref TM, .ref a, .ref b] ∧ Tms K H TM (tmL ns) ∧ NT K H a F ns ∧ NT K H b G ns ∧ Shp ns ∧ WtB c F ns ∧ WtB c G ns ∧ c ≤ 2 ^ 500 ∧
  ∀ H' b, Same H H' → NT K H' b (brN F G ns) ns → Q (.ref b) H'
theorem ok_twist {f f1 f2 : Addr} {fd fd1 fd2 : FuncData} (d : D K mg "_law_twist" s_twist ["_law_terms_here", "_law_one", "_law_other"] f fd)
    (d1 : D K mg "_law_back" s_back ["_law_terms_here", "_law_one"] f1 fd1) (G1 : FnOk P w K mg base CX0 1 f1 fd1 ["_law_terms_here", "_law_one"] (spBack K))
    (d2 : D K mg "_law_mixed" s_mixed ["_law_terms_here", "_law_one", "_law_other"] f2 fd2) (G2 : FnOk P w K mg base CX0 1 f2 fd2 ["_law_terms_here", "_law_one", "_law_other"] (spMixed K)) :
    FnOk P w K mg base CX0 2 f fd ["_law_terms_here", "_law_one", "_law_other"] (spTwist K) := by
  refine d.F.ok sc_twist (fun vs H Q E h => ?_) (fun cdv A outer s H vs Q E hr h => ?_)
  · obtain ⟨TM, a, b, ns, F, G, c, rfl, _⟩ := h
    rfl
  · obtain ⟨TM, a, b, ns, F, G, c, rfl, tm, ea, eb, S, wa, wb, c5, q⟩ := h
    refine ⟨_, (pss_one (ps_ret (pe_call G2 (hr.mono (by decide)) (by rfl) d2.g d2.F.kp d2.b .nil pass0 (pa_cons (pv 0) (pa_cons (pe_call G2 (hr.mono (by decide)) (by rfl) d2.g d2.F.kp d2.b .nil pass0 (pa_cons (pv 0) (pa_cons (pv 1) (pa_cons (pv 2) pa_nil)))) (pa_cons (pe_call G1 (hr.mono (by decide)) (by rfl) d1.g d1.F.kp d1.b .nil pass0 (pa_cons (pv 0) (pa_cons (pe_call G2 (hr.mono (by decide)) (by rfl) d2.g d2.F.kp d2.b .nil pass0 (pa_cons (pv 0) (pa_cons (pv 2) (pa_cons (pv 1) pa_nil)))) pa_nil))) pa_nil)))))), ?_⟩
    have big : ∀ k : Nat, k ≤ 64 → k * c ≤ 2 ^ 1000 := fun k hk => Nat.le_trans (Nat.mul_le_mul hk c5) (by decide +kernel)
    have c9 : c ≤ 2 ^ 1000 := Nat.le_trans c5 (Nat.pow_le_pow_right (by decide) (by decide))
    have wF := wt_wd S wa c9
    have wG := wt_wd S wb c9
    have wFG := wt_wd S (wt_mul S wa wb) (big 2 (by decide))
    have wGF := wt_wd S (wt_mul S wb wa) (big 2 (by decide))
    have wU := wt_wd S (gU_wt S (wt_mul S wb wa)) (by rw [← Nat.mul_assoc]; exact big 16 (by decide))
    refine ⟨_, rfl, _, rfl, _, rfl, _, rfl, TM, a, b, ns, F, G, rfl, tm, ea, eb, S, wF, wG, fun H1 p1 s1 n1 e1 => ?_⟩
    refine ⟨_, rfl, _, rfl, _, rfl, _, rfl, TM, b, a, ns, G, F, rfl, tm.same s1, sqt_same eb s1, sqt_same ea s1, S, wG, wF, fun H2 p2 s2 n2 e2 => ?_⟩
    refine ⟨TM, p2, ns, _, rfl, (tm.same s1).same s2, .inl (.inl e2), S, wGF, wU, fun H3 p3 s3 n3 e3 => ?_⟩
    refine ⟨TM, p1, p3, ns, _, _, rfl, ((tm.same s1).same s2).same s3, .inl (.inl (s3 _ _ (s2 _ _ e1))), .inl (.inl e3), S, wFG, wU, fun H4 p4 s4 n4 e4 => ?_⟩
    refine q H4 p4 (s1.trans (s2.trans (s3.trans s4))) ?_
    show SqT K H4 p4 ((numsL (brN F G ns) ns).map V.int)
    rw [← nums_congr (br_way S F G)]
    exact .inl (.inl e4)
end
end K18
/-! # list(zip(list, tuple)) -/
namespace K18W
open PySem PySem.Spec PyProof.Rows
open Sem (wp)
theorem zip_no_len : typeLookup (.type "zip") "__len__" = pure none := by rw [typeLookup_type, builtinLookup_eq_fast]; kernel_rfl
theorem zip_no_hint : typeLookup (.type "zip") "__length_hint__" = pure none := by rw [typeLookup_type, builtinLookup_eq_fast]; kernel_rfl
section
variable {prog : Program} {w : World} {A : Around} {E : Value → Shared → Prop} {s : Shared} {z TI TO T i1 i2 l1 l2 : Addr} {f : Bool} {oT : Obj} {k : Nat} {xs ys : Array Value} {x y : Value}
/-- a zip over a list and a tuple between two turns -/
structure ZM (h : Heap) (z TI TO i1 i2 l1 l2 : Addr) (k : Nat) (xs ys : Array Value) : Prop where
  zz : (IsZip h z TI TO .none ∧ ∃ a b, IsPair h TO a b) ∨ ∃ T f oT, IsZipHeld h z TI TO T f ∧ h.get? T = some oT ∧ T ≠ z ∧ T ≠ i1 ∧ T ≠ i2
  tI : IsPair h TI (.ref i1) (.ref i2)
  u1 : h.IsListIter i1 l1 k
  u2 : h.IsTupleIter i2 l2 k
  t1 : h.IsList l1 xs
  t2 : h.IsTuple l2 ys
theorem ZM.ty (S : ZM s.heap z TI TO i1 i2 l1 l2 k xs ys) : s.TypeIs (.ref z) "zip" := by
  rcases S.zz with ⟨h, _⟩ | ⟨_, _, _, h, _⟩ <;> exact ⟨_, h, rfl⟩
/-- what is put elsewhere -/
theorem ZM.put {h h' : Heap} {L : Addr} (S : ZM h z TI TO i1 i2 l1 l2 k xs ys) (n : L ∉ [z, TI, TO, i1, i2, l1, l2]) (there : ∃ o, h'.get? L = some o) (kk : ∀ b o, b ≠ L → h.get? b = some o → h'.get? b = some o) : ZM h' z TI TO i1 i2 l1 l2 k xs ys := by
  simp only [List.mem_cons, List.not_mem_nil, or_false, not_or] at n
  obtain ⟨nz, nI, nO, n1, n2, n3, n4⟩ := n
  refine ⟨?_, kk _ _ (Ne.symm nI) S.tI, S.u1.at fun o e => kk _ o (Ne.symm n1) e, S.u2.at fun o e => kk _ o (Ne.symm n2) e, S.t1.at fun o e => kk _ o (Ne.symm n3) e, S.t2.at fun o e => kk _ o (Ne.symm n4) e⟩
  rcases S.zz with ⟨a, x, y, b⟩ | ⟨T, f, oT, a, b, c⟩
  · exact .inl ⟨kk _ _ (Ne.symm nz) a, x, y, kk _ _ (Ne.symm nO) b⟩
  · by_cases e : T = L
    · obtain ⟨o, ho⟩ := there
      exact .inr ⟨T, f, o, kk _ _ (Ne.symm nz) a, by rw [e]; exact ho, c⟩
    · exact .inr ⟨T, f, oT, kk _ _ (Ne.symm nz) a, kk _ _ e b, c⟩
theorem zm_item {Q : Value → Shared → Prop} (D : ZipApart z TI TO i1 i2 l1 l2) (zh : IsZipHeld s.heap z TI TO T f) (tT : s.heap.get? T = some oT) (tI : IsPair s.heap TI (.ref i1) (.ref i2)) (u1 : s.heap.IsListIter i1 l1 k) (u2 : s.heap.IsTupleIter i2 l2 k) (t1 : s.heap.IsList l1 xs) (t2 : s.heap.IsTuple l2 ys) (ex : xs[k]? = some x) (ey : ys[k]? = some y)
    (q : ∀ h', IsZipHeld h' z TI TO T true → h'.IsListIter i1 l1 (k + 1) → h'.IsTupleIter i2 l2 (k + 1) → IsPair h' s.heap.objs.size x y →
      (∀ c o, c ≠ z → c ≠ i1 → c ≠ i2 → s.heap.get? c = some o → h'.get? c = some o) → Q (.ref s.heap.objs.size) { s with heap := h' }) :
    wpAny (model prog w) A (Builtin.«zip.__next__» ⟨[.ref z], []⟩) (fun fin s' => ∃ v, fin = .done (.ret v) ∧ Q v s') E s := by
  show wpAny (model prog w) A (field (.ref z) 2 >>= _) _ E s
  refine wpAny_bind (wpAny_field zh rfl (x := .bool false) rfl ?_)
  show wpAny (model prog w) A (field (.ref z) 3 >>= _) _ E s
  refine wpAny_bind (wpAny_field zh rfl (x := .ref TI) rfl ?_)
  refine wpAny_bind (wpAny_seqItems tI rfl ?_)
  show wpAny (model prog w) A (Builtin.SmallTypes.ownedTupleIsFree (.ref z) >>= _) _ E s
  refine wpAny_bind (wpAny_tupleHeld_zip zh tT fun g1 za sa => ?_)
  simp only [if_false, Bool.false_eq_true]
  refine wpAny_bind ?_
  rw [← Array.forIn_toList]
  simp only [List.forIn_nil, List.forIn_cons]
  refine wpAny_bind (wpAny_bind (wpAny_holding (?_)))
  show wpAny (model prog w) _ (Builtin.SmallTypes.nextOf (.ref i1) >>= _) _ _ _
  refine wpAny_bind (wpAny_nextOf_list_item (s := { s with heap := g1 }) (u1.extBut sa.extBut D.i1z) (t1.extBut sa.extBut D.l1z) ex fun g2 ua sb => wpAny_pure ?_)
  refine wpAny_pure (?_)
  refine wpAny_bind (wpAny_bind (wpAny_holding (?_)))
  show wpAny (model prog w) _ (Builtin.SmallTypes.nextOf (.ref i2) >>= _) _ _ _
  refine wpAny_bind (wpAny_nextOf_tuple_item (s := { s with heap := g2 }) ((u2.extBut sa.extBut D.i2z).extBut sb.extBut D.i12.symm) ((t2.extBut sa.extBut D.l2z).extBut sb.extBut D.l2i1) ey fun g3 ub sc => wpAny_pure ?_)
  refine wpAny_pure (wpAny_pure (?_))
  show wpAny (model prog w) _ (newTuple [x, y] >>= _) _ _ _
  refine wpAny_bind (wpAny_newTuple (?_))
  have sz : g3.objs.size = s.heap.objs.size := by rw [sc.1, sb.1, sa.1]
  have z3 : IsZipHeld g3 z TI TO T true := sc.extBut _ _ D.i2z.symm (sb.extBut _ _ D.i1z.symm za)
  have kk : ∀ c o, c ≠ z → c ≠ i1 → c ≠ i2 → s.heap.get? c = some o → g3.get? c = some o := fun c o a b d e => sc.extBut _ _ d (sb.extBut _ _ b (sa.extBut _ _ a e))
  have v1 : g3.IsListIter i1 l1 (k + 1) := ua.extBut sc.extBut D.i12
  refine wpAny_pure ⟨_, rfl, (?_)⟩
  show Q (.ref g3.objs.size) _
  have pr : IsPair (g3.push { cls := .type "tuple", data := .seq #[x, y] }) g3.objs.size x y := Heap.get?_push_size _ rfl
  rw [sz] at pr ⊢
  exact q _ (Heap.get?_push_of_some _ z3) (v1.at fun o e => Heap.get?_push_of_some _ e) (ub.at fun o e => Heap.get?_push_of_some _ e) pr fun c o a b d e => Heap.get?_push_of_some _ (kk c o a b d e)
theorem zm_end {Q : Fin → Shared → Prop} (hh : A.handled = none) (D : ZipApart z TI TO i1 i2 l1 l2) (zh : IsZipHeld s.heap z TI TO T f) (tT : s.heap.get? T = some oT) (tI : IsPair s.heap TI (.ref i1) (.ref i2)) (u1 : s.heap.IsListIter i1 l1 k) (t1 : s.heap.IsList l1 xs) (hx : xs[k]? = none)
    (q : ∀ h' e, (∀ c o, c ≠ z → c ≠ i1 → c ≠ i2 → s.heap.get? c = some o → h'.get? c = some o) → (∃ o, h'.get? e = some o ∧ o.cls = .type "StopIteration") → E (.ref e) { s with heap := h' }) :
    wpAny (model prog w) A (Builtin.«zip.__next__» ⟨[.ref z], []⟩) Q E s := by
  show wpAny (model prog w) A (field (.ref z) 2 >>= _) _ E s
  refine wpAny_bind (wpAny_field zh rfl (x := .bool false) rfl ?_)
  show wpAny (model prog w) A (field (.ref z) 3 >>= _) _ E s
  refine wpAny_bind (wpAny_field zh rfl (x := .ref TI) rfl ?_)
  refine wpAny_bind (wpAny_seqItems tI rfl ?_)
  show wpAny (model prog w) A (Builtin.SmallTypes.ownedTupleIsFree (.ref z) >>= _) _ E s
  refine wpAny_bind (wpAny_tupleHeld_zip zh tT fun g1 za sa => ?_)
  simp only [if_false, Bool.false_eq_true]
  refine wpAny_bind ?_
  rw [← Array.forIn_toList]
  simp only [List.forIn_nil, List.forIn_cons]
  refine wpAny_bind (wpAny_bind (wpAny_holding (?_)))
  show wpAny (model prog w) _ (Builtin.SmallTypes.nextOf (.ref i1) >>= _) _ _ _
  refine wpAny_bind (wpAny_nextOf_list_end (s := { s with heap := g1 }) hh (u1.extBut sa.extBut D.i1z) (t1.extBut sa.extBut D.l1z) hx fun g2 e sb he => ?_)
  exact q g2 e (fun c o a b _ e => sb _ _ b (sa.extBut _ _ a e)) he
/-- the next item: a new tuple -/
theorem zm_next {Q : Option Value → Shared → Prop} (hd : A.in1.handled = none) (D : ZipApart z TI TO i1 i2 l1 l2) (S : ZM s.heap z TI TO i1 i2 l1 l2 k xs ys) (ex : xs[k]? = some x) (ey : ys[k]? = some y)
    (q : ∀ h' tk, ZM h' z TI TO i1 i2 l1 l2 (k + 1) xs ys → IsPair h' s.heap.objs.size x y → (∀ c o, c ≠ z → c ≠ TO → c ≠ i1 → c ≠ i2 → s.heap.get? c = some o → h'.get? c = some o) → Q (some (.ref s.heap.objs.size)) { s with heap := h', toks := tk }) : wpAny (model prog w) A (pyNext (.ref z)) Q E s := by
  have lz : z < s.heap.objs.size := let ⟨_, e, _⟩ := S.ty; Heap.lt_size e
  rcases S.zz with ⟨zh, x0, y0, hTO⟩ | ⟨T, f, oT, zh, tT, nT⟩
  · refine wpAny_pyNext_zipD2_item (K18.sep_of D) (Draws.list (A := A.in1) hd i1 l1 D.l1i1 xs) (Draws.tuple (A := A.in1) hd i2 l2 D.l2i2 ys) zh S.tI hTO ⟨S.u1, S.t1⟩ ⟨S.u2, S.t2⟩ (Array.getElem?_eq_some_iff.mp ex).1 (Array.getElem?_eq_some_iff.mp ey).1 ?_
    intro u9 v9 h' tk eu ev z' TO' s1 s2 hT hsz hk
    rw [ex] at eu
    rw [ey] at ev
    obtain rfl := Option.some.inj eu
    obtain rfl := Option.some.inj ev
    have k1 : i1 < s.heap.objs.size := let ⟨_, e, _⟩ := S.u1; Heap.lt_size e
    have k2 : i2 < s.heap.objs.size := let ⟨_, e, _⟩ := S.u2; Heap.lt_size e
    refine q h' tk ⟨.inr ⟨_, false, _, z', hT, Nat.ne_of_gt lz, Nat.ne_of_gt k1, Nat.ne_of_gt k2⟩, hk _ _ D.TIz D.TITO D.TIi1 D.TIi2 S.tI, s1.1, s2.1, s1.2, s2.2⟩ hT hk
  · have ty := S.ty
    unfold pyNext
    exact wpAny_bind (wpAny_attempt (wpAny_callSpecial?_slot (name := Str.ofString "__next__") ty F.slot_zip_next (wpAny_call_entry F.slot_zip_next ty F.entry_zip_next
      (zm_item D zh tT S.tI S.u1 S.u2 S.t1 S.t2 ex ey fun h' a b c d e => wpAny_pure (q h' s.toks ⟨.inr ⟨_, true, _, a, e _ _ nT.1 nT.2.1 nT.2.2 tT, nT⟩, e _ _ D.TIz D.TIi1 D.TIi2 S.tI, b, c, S.t1.at fun o g => e _ o D.l1z D.l1i1 D.l1i2 g, S.t2.at fun o g => e _ o D.l2z D.l2i1 D.l2i2 g⟩ d fun c o a _ b d => e c o a b d)) (F.args_zip_next_1 _))))
theorem zm_stop {Q : Option Value → Shared → Prop} (hh : A.handled = none) (hd : A.in1.handled = none) (D : ZipApart z TI TO i1 i2 l1 l2) (S : ZM s.heap z TI TO i1 i2 l1 l2 k xs ys) (e1 : k = xs.size) (e2 : k = ys.size)
    (q : ∀ h' tk, (∀ c o, c ≠ z → c ≠ TO → c ≠ i1 → c ≠ i2 → s.heap.get? c = some o → h'.get? c = some o) → Q none { s with heap := h', toks := tk }) : wpAny (model prog w) A (pyNext (.ref z)) Q E s := by
  rcases S.zz with ⟨zh, x0, y0, hTO⟩ | ⟨T, f, oT, zh, tT, nT⟩
  · exact wpAny_pyNext_zipD2_end (K18.sep_of D) (Draws.list (A := A.in1) hd i1 l1 D.l1i1 xs) (Draws.tuple (A := A.in1) hd i2 l2 D.l2i2 ys) zh S.tI hTO ⟨S.u1, S.t1⟩ ⟨S.u2, S.t2⟩ (Nat.le_of_eq e1) (Nat.le_of_eq e2) (.inl e1) fun h' tk hk => q h' tk hk
  · have ty := S.ty
    unfold pyNext
    refine wpAny_bind (wpAny_attempt (wpAny_callSpecial?_slot (name := Str.ofString "__next__") ty F.slot_zip_next (wpAny_call_entry F.slot_zip_next ty F.entry_zip_next
      (zm_end hh D zh tT S.tI S.u1 S.t1 (by rw [e1]; exact Array.getElem?_eq_none (Nat.le_refl _)) fun h' e kk he => ?_) (F.args_zip_next_1 _))))
    obtain ⟨o, ho, hc⟩ := he
    exact wpAny_bind (wpAny_isInstance (T := "StopIteration") (b := true) ⟨o, ho, hc⟩ isSubtype_stop (wpAny_pure (q _ s.toks fun c o a _ b d e => kk c o a b d e)))
/-- what stands while the list at L grows -/
structure Grown (h0 h : Heap) (L z TI TO i1 i2 l1 l2 : Addr) (k : Nat) (xs ys : Array Value) (acc : Array Value) (c : Nat) (ts : List Addr) : Prop where
  lst : h.get? L = some { cls := .type "list", dict := none, data := .seq acc c, slots := #[] }
  acc : acc.toList = ts.map Value.ref
  len : ts.length = k
  above : ∀ t ∈ ts, L < t
  nd : ts.Nodup
  pairs : ∀ (j : Nat) (t : Addr), ts[j]? = some t → ∃ x y, xs[j]? = some x ∧ ys[j]? = some y ∧ IsPair h t x y
  old : ∀ b o, b ∉ [L, z, TO, i1, i2] → h0.get? b = some o → h.get? b = some o
end
end K18W
/-! # list(zip(list, tuple)): the list grows -/
namespace K18W
open PySem PySem.Spec PyProof.Rows
open Sem (wp)
section
variable {prog : Program} {w : World} {A : Around} {R : Result → Shared → Prop} {z TI TO i1 i2 l1 l2 L : Addr} {xs ys : Array Value} {h0 : Heap}
theorem Grown.size {h : Heap} {k c : Nat} {acc : Array Value} {ts : List Addr} (G : Grown h0 h L z TI TO i1 i2 l1 l2 k xs ys acc c ts) : acc.size = k := by
  rw [← G.len, ← Array.length_toList, G.acc, List.length_map]
theorem zip_loop (d1 : A.in1.handled = none) (d2 : A.in1.in1.handled = none) (D : ZipApart z TI TO i1 i2 l1 l2) (nL : L ∉ [z, TI, TO, i1, i2, l1, l2]) (lo : z < L ∧ TO < L ∧ i1 < L ∧ i2 < L) (e2 : xs.size = ys.size) (hn : xs.size ≤ sizeLine) (res : Value) :
    ∀ (k i : Nat) (s : Shared) (acc : Array Value) (c : Nat) (ts : List Addr), xs.size - i = k → i ≤ xs.size → ZM s.heap z TI TO i1 i2 l1 l2 i xs ys → Grown h0 s.heap L z TI TO i1 i2 l1 l2 i xs ys acc c ts →
    (∀ h' tk acc' c' ts', Grown h0 h' L z TI TO i1 i2 l1 l2 xs.size xs ys acc' c' ts' → R (.ok (.ret res)) { s with heap := h', toks := tk }) →
    codeAny (model prog w) A (.builtin "list.extend.loop" ⟨[.ref L, .ref z, res], []⟩) R s := by
  have nl : L ≠ z ∧ L ≠ TO ∧ L ≠ i1 ∧ L ≠ i2 := ⟨Nat.ne_of_gt lo.1, Nat.ne_of_gt lo.2.1, Nat.ne_of_gt lo.2.2.1, Nat.ne_of_gt lo.2.2.2⟩
  intro k
  induction k with
  | zero =>
    intro i s acc c ts hk hi st0 G hR
    have hin : i = xs.size := by omega
    subst hin
    refine codeAny_builtin F.entry_extend_loop ?_
    rw [Around.under_plainId F.plain_extend_loop _]
    show wpAny _ A.in1 (pyNext (.ref z) >>= _) _ _ s
    refine wpAny_bind (zm_stop d1 d2 D st0 rfl e2 fun h' tk kk => ?_)
    have tn : ∀ t ∈ ts, t ≠ z ∧ t ≠ TO ∧ t ≠ i1 ∧ t ≠ i2 := fun t ht => by
      have a := G.above t ht
      exact ⟨Nat.ne_of_gt (Nat.lt_trans lo.1 a), Nat.ne_of_gt (Nat.lt_trans lo.2.1 a), Nat.ne_of_gt (Nat.lt_trans lo.2.2.1 a), Nat.ne_of_gt (Nat.lt_trans lo.2.2.2 a)⟩
    exact wpAny_pure (hR h' tk acc c ts { G with
      lst := kk _ _ nl.1 nl.2.1 nl.2.2.1 nl.2.2.2 G.lst
      pairs := fun j t ej => by
        obtain ⟨x, y, a, b, p⟩ := G.pairs j t ej
        obtain ⟨n1, n2, n3, n4⟩ := tn t (List.mem_of_getElem? ej)
        exact ⟨x, y, a, b, kk _ _ n1 n2 n3 n4 p⟩
      old := fun b o nb e => by
        have g := G.old b o nb e
        simp only [List.mem_cons, List.not_mem_nil, or_false, not_or] at nb
        exact kk _ _ nb.2.1 nb.2.2.1 nb.2.2.2.1 nb.2.2.2.2 g })
  | succ k ih =>
    intro i s acc c ts hk hi st0 G hR
    have hlt : i < xs.size := by omega
    have ex := Array.getElem?_eq_getElem hlt
    have ey := Array.getElem?_eq_getElem (xs := ys) (i := i) (by omega)
    have lL := Heap.lt_size G.lst
    refine codeAny_builtin F.entry_extend_loop ?_
    rw [Around.under_plainId F.plain_extend_loop _]
    show wpAny _ A.in1 (pyNext (.ref z) >>= _) _ _ s
    refine wpAny_bind (zm_next d2 D st0 ex ey fun h' tk st pr kk => ?_)
    have hL' := kk _ _ nl.1 nl.2.1 nl.2.2.1 nl.2.2.2 G.lst
    show wpAny _ A.in1 (updateSeq L (·.push (.ref s.heap.objs.size)) >>= _) _ _ _
    refine wpAny_bind ?_
    have sz := G.size
    have tl : ∀ t ∈ ts, t < s.heap.objs.size := fun t ht => by
      obtain ⟨j, ej⟩ := List.getElem?_of_mem ht
      obtain ⟨x, y, _, _, p⟩ := G.pairs j t ej
      exact Heap.lt_size p
    have tn : ∀ t ∈ ts, t ≠ z ∧ t ≠ TO ∧ t ≠ i1 ∧ t ≠ i2 ∧ t ≠ L := fun t ht => by
      have a := G.above t ht
      exact ⟨Nat.ne_of_gt (Nat.lt_trans lo.1 a), Nat.ne_of_gt (Nat.lt_trans lo.2.1 a), Nat.ne_of_gt (Nat.lt_trans lo.2.2.1 a), Nat.ne_of_gt (Nat.lt_trans lo.2.2.2 a), Nat.ne_of_gt a⟩
    have hS := Heap.get?_update_self (Obj.mapSeq (·.push (.ref s.heap.objs.size))) hL' rfl
    obtain ⟨c2, hS2⟩ : ∃ c2, (h'.update L (Obj.mapSeq (·.push (.ref s.heap.objs.size)))).get? L = some { cls := .type "list", dict := none, data := .seq (acc.push (.ref s.heap.objs.size)) c2, slots := #[] } := ⟨_, hS⟩
    have oth : ∀ b o, b ≠ L → h'.get? b = some o → (h'.update L (Obj.mapSeq (·.push (.ref s.heap.objs.size)))).get? b = some o := fun b o ne e => (Heap.get?_update_other _ _ (Ne.symm ne)).trans e
    refine wpAny_updateSeq hL' rfl (wpAny_pure ⟨plainId_quiet F.plain_extend_loop _, ih (i + 1) _ (acc.push (.ref s.heap.objs.size)) c2 (ts ++ [s.heap.objs.size]) (by omega) hlt ?_ ?_ fun h2 tk2 acc' c' ts' G2 => hR h2 tk2 acc' c' ts' G2⟩)
      (by rw [sz]; omega) (by show (acc.push _).size ≤ sizeLine + 1; rw [Array.size_push, sz]; omega)
    · exact st.put nL ⟨_, hS⟩ oth
    exact {
      lst := hS2
      acc := by rw [Array.toList_push, G.acc, List.map_append]; rfl
      len := by rw [List.length_append, G.len]; rfl
      above := fun t ht => by
        rcases List.mem_append.mp ht with m | m
        · exact G.above t m
        · rw [List.mem_singleton.mp m]; exact lL
      nd := by
        refine List.nodup_append.mpr ⟨G.nd, by simp, fun a ha b hb => ?_⟩
        rw [List.mem_singleton.mp hb]
        exact Nat.ne_of_lt (tl a ha)
      pairs := fun j t ej => by
        rw [List.getElem?_append] at ej
        split at ej
        · rename_i lj
          obtain ⟨x, y, a, b, p⟩ := G.pairs j t ej
          obtain ⟨n1, n2, n3, n4, n5⟩ := tn t (List.mem_of_getElem? ej)
          exact ⟨x, y, a, b, oth _ _ n5 (kk _ _ n1 n2 n3 n4 p)⟩
        · rename_i lj
          have j0 : j = i := by
            have := (List.getElem?_eq_some_iff.mp ej).1
            rw [List.length_singleton] at this
            have := G.len
            omega
          subst j0
          rw [G.len, Nat.sub_self] at ej
          obtain rfl := Option.some.inj ej
          exact ⟨_, _, ex, ey, oth _ _ (Nat.ne_of_gt lL) pr⟩
      old := fun b o nb e => by
        simp only [List.mem_cons, List.not_mem_nil, or_false, not_or] at nb
        exact oth _ _ nb.1 (kk _ _ nb.2.1 nb.2.2.1 nb.2.2.2.1 nb.2.2.2.2 (G.old b o (by simp only [List.mem_cons, List.not_mem_nil, or_false, not_or]; exact nb) e)) }
theorem zip_extend {s : Shared} (d1 : A.in1.handled = none) (d2 : A.in1.in1.handled = none) (D : ZipApart z TI TO i1 i2 l1 l2) (nL : L ∉ [z, TI, TO, i1, i2, l1, l2]) (lo : z < L ∧ TO < L ∧ i1 < L ∧ i2 < L) (e2 : xs.size = ys.size) (hn : xs.size ≤ sizeLine) (res : Value) (c0 : Nat)
    (zz : IsZip s.heap z TI TO .none) (st : ZM s.heap z TI TO i1 i2 l1 l2 0 xs ys) (hS : s.heap.get? L = some { cls := .type "list", data := .seq #[] c0 })
    (old : ∀ b o, b ∉ [L, z, TO, i1, i2] → h0.get? b = some o → s.heap.get? b = some o)
    (hR : ∀ h' tk acc' c' ts', Grown h0 h' L z TI TO i1 i2 l1 l2 xs.size xs ys acc' c' ts' → R (.ok (.ret res)) { s with heap := h', toks := tk }) :
    wpAny (model prog w) A.in1 (Builtin.List.listExtendWith (.ref L) (.ref z) res)
      (fun fin s' => match fin with | .done f => R (.ok f) s' | .again c' => c'.quiet = true ∧ codeAny (model prog w) A c' R s') (fun e s' => R (.error e) s') s := by
  have hSI : L ≠ z := Nat.ne_of_gt lo.1
  unfold Builtin.List.listExtendWith
  refine wpAny_bind (wpAny_typeOf st.ty ?_)
  have h1 : Builtin.List.listSameRef (.ref L) (.ref z) = false := by simp [Builtin.List.listSameRef, hSI]
  have h2 : (Value.type "zip" == Value.type "list") = false := by decide
  have h3 : (Value.type "zip" == Value.type "tuple") = false := by decide
  simp only [h1, h2, h3, Bool.or_false, Bool.false_eq_true, if_false]
  refine wpAny_bind (wpAny_pyIter_zip zz ?_)
  refine wpAny_bind (wpAny_holding ?_)
  unfold Builtin.List.listLengthHint
  refine wpAny_bind (wpAny_specialOf st.ty zip_no_len ?_)
  show wpAny _ A.in1 (specialOf (Value.ref z) (Str.ofString "__length_hint__") >>= _) _ _ _
  refine wpAny_bind (wpAny_specialOf st.ty zip_no_hint ?_)
  refine wpAny_pure ?_
  show wpAny _ A.in1 (rule "list.extend.makes-room" >>= fun _ => Builtin.List.listTouch (.ref L) >>= fun _ =>
    again (.builtin "list.extend.loop" ⟨[.ref L, .ref z, res], []⟩)) _ _ _
  refine wpAny_bind (wpAny_rule ?_)
  refine wpAny_bind ?_
  show wpAny _ A.in1 (updateSeq L (·.push .none) >>= fun _ => updateSeq L (·.pop)) _ _ _
  refine wpAny_bind (wpAny_updateSeq hS rfl ?_)
  have hS₂ := Heap.get?_update_self (Obj.mapSeq (·.push Value.none)) hS rfl
  refine wpAny_updateSeq (hz := by seq_fits) hS₂ rfl ?_
  have hS₃ := Heap.get?_update_self (Obj.mapSeq (·.pop)) hS₂ rfl
  have oth : ∀ b o, b ≠ L → s.heap.get? b = some o → ((s.heap.update L (Obj.mapSeq (·.push Value.none))).update L (Obj.mapSeq (·.pop))).get? b = some o :=
    fun b o hb e => (Heap.get?_update_other _ _ (Ne.symm hb)).trans ((Heap.get?_update_other _ _ (Ne.symm hb)).trans e)
  refine wpAny_pure ⟨plainId_quiet F.plain_extend_loop _, zip_loop d1 d2 D nL lo e2 hn res xs.size 0 _ _ _ [] rfl (Nat.zero_le _) (st.put nL ⟨_, hS₃⟩ oth)
    { lst := hS₃, acc := rfl, len := rfl, above := fun t ht => by simp at ht, nd := .nil, pairs := fun j t e => by simp at e, old := fun b o nb e => by
        have g := old b o nb e
        simp only [List.mem_cons, List.not_mem_nil, or_false, not_or] at nb
        exact oth _ _ nb.1 g } fun h' tk acc' c' ts' G => hR h' tk acc' c' ts' G⟩
theorem zip_init {s : Shared} (d1 : A.in1.handled = none) (d2 : A.in1.in1.handled = none) (D : ZipApart z TI TO i1 i2 l1 l2) (nL : L ∉ [z, TI, TO, i1, i2, l1, l2]) (lo : z < L ∧ TO < L ∧ i1 < L ∧ i2 < L) (e2 : xs.size = ys.size) (hn : xs.size ≤ sizeLine)
    (zz : IsZip s.heap z TI TO .none) (st : ZM s.heap z TI TO i1 i2 l1 l2 0 xs ys) (hS : s.heap.get? L = some { cls := .type "list", data := .seq #[] })
    (old : ∀ b o, b ∉ [L, z, TO, i1, i2] → h0.get? b = some o → s.heap.get? b = some o)
    (hR : ∀ h' tk acc' c' ts', Grown h0 h' L z TI TO i1 i2 l1 l2 xs.size xs ys acc' c' ts' → R (.ok (.ret .none)) { s with heap := h', toks := tk }) :
    wpAny (model prog w) A.in1 (Builtin.«list.__init__» ⟨[.ref L, .ref z], []⟩)
      (fun fin s' => match fin with | .done f => R (.ok f) s' | .again c' => c'.quiet = true ∧ codeAny (model prog w) A c' R s') (fun e s' => R (.error e) s') s := by
  show wpAny _ A.in1 (do let old ← Builtin.List.listItems (.ref L); Builtin.List.listUpdate (.ref L) (fun _ => #[]); letGo old.toList.reverse; Builtin.List.listExtendWith (.ref L) (.ref z) .none) _ _ s
  refine wpAny_bind ?_
  unfold Builtin.List.listItems
  refine wpAny_bind (wpAny_seqItems hS rfl (wpAny_pure ?_))
  show wpAny _ A.in1 (updateSeq L (fun _ => #[]) >>= fun _ => letGo (#[] : Array Value).toList.reverse >>= fun _ => Builtin.List.listExtendWith (.ref L) (.ref z) .none) _ _ s
  refine wpAny_bind (wpAny_updateSeq hS rfl ?_)
  have hS₂ := Heap.get?_update_self (Obj.mapSeq (fun _ => (#[] : Array Value))) hS rfl
  have oth : ∀ b o, b ≠ L → s.heap.get? b = some o → (s.heap.update L (Obj.mapSeq (fun _ => (#[] : Array Value)))).get? b = some o :=
    fun b o hb e => (Heap.get?_update_other _ _ (Ne.symm hb)).trans e
  refine wpAny_bind (wpAny_letGo ?_)
  exact zip_extend d1 d2 D nL lo e2 hn .none _ (oth _ _ (Nat.ne_of_lt lo.1) zz) (st.put nL ⟨_, hS₂⟩ oth) hS₂ (fun b o nb e => by
    have g := old b o nb e
    simp only [List.mem_cons, List.not_mem_nil, or_false, not_or] at nb
    exact oth _ _ nb.1 g) hR
end
section
variable {prog : Program} {w : World} {A : Around} {E : Value → Shared → Prop} {s : Shared} {z TI TO i1 i2 l1 l2 : Addr} {xs ys : Array Value} {h0 : Heap}
theorem call_list_zip {Q : Value → Shared → Prop} (d1 : A.in1.in1.handled = none) (d2 : A.in1.in1.in1.handled = none) (D : ZipApart z TI TO i1 i2 l1 l2) (e2 : xs.size = ys.size) (hn : xs.size ≤ sizeLine)
    (zz : IsZip s.heap z TI TO .none) (st : ZM s.heap z TI TO i1 i2 l1 l2 0 xs ys) (old : ∀ b o, b ∉ [z, TO, i1, i2] → h0.get? b = some o → s.heap.get? b = some o)
    (hQ : ∀ h' tk acc c ts, Grown h0 h' s.heap.objs.size z TI TO i1 i2 l1 l2 xs.size xs ys acc c ts → Q (.ref s.heap.objs.size) { s with heap := h', toks := tk }) :
    wpAny (model prog w) A (call (.type "list") [.ref z]) Q E s := by
  have lz := Heap.lt_size zz
  have lI := Heap.lt_size st.tI
  have lO : TO < s.heap.objs.size := by
    rcases st.zz with ⟨_, _, _, e⟩ | ⟨T, f, oT, zh, tT, nT⟩
    · exact Heap.lt_size e
    · exact absurd (zh.symm.trans zz) (by simp [rawInt])
  have k1 : i1 < s.heap.objs.size := let ⟨_, e, _⟩ := st.u1; Heap.lt_size e
  have k2 : i2 < s.heap.objs.size := let ⟨_, e, _⟩ := st.u2; Heap.lt_size e
  have k3 : l1 < s.heap.objs.size := let ⟨_, e, _⟩ := st.t1; Heap.lt_size e
  have k4 : l2 < s.heap.objs.size := let ⟨_, e, _⟩ := st.t2; Heap.lt_size e
  have nL : s.heap.objs.size ∉ [z, TI, TO, i1, i2, l1, l2] := by
    simp only [List.mem_cons, List.not_mem_nil, or_false, not_or]
    exact ⟨Nat.ne_of_gt lz, Nat.ne_of_gt lI, Nat.ne_of_gt lO, Nat.ne_of_gt k1, Nat.ne_of_gt k2, Nat.ne_of_gt k3, Nat.ne_of_gt k4⟩
  refine callType_codes (Q₁ := fun obj s₁ => obj = .ref s.heap.objs.size ∧ s₁ = { s with heap := s.heap.push { cls := .type "list", data := .seq #[] } }) F.called_list (F.typeCall_list_1 _) F.entry_list_init
    (code_list_new _ ⟨rfl, rfl⟩) fun obj s₁ h₁ => ?_
  obtain ⟨rfl, rfl⟩ := h₁
  have hS : (s.heap.push { cls := .type "list", data := .seq #[] }).get? s.heap.objs.size = some { cls := .type "list", data := .seq #[] } := Heap.get?_push_size _ rfl
  refine ⟨⟨_, hS, rfl⟩, F.args_list_init_2 _ _, zip_init (h0 := h0) d1 d2 D nL ⟨lz, lO, k1, k2⟩ e2 hn (Heap.get?_push_of_some _ zz) (st.put nL ⟨_, hS⟩ fun b o _ e => Heap.get?_push_of_some _ e) hS (fun b o nb e => ?_) fun h' tk acc' c' ts' G => ?_⟩
  · simp only [List.mem_cons, List.not_mem_nil, or_false, not_or] at nb
    exact Heap.get?_push_of_some _ (old b o (by simp only [List.mem_cons, List.not_mem_nil, or_false, not_or]; exact nb.2) e)
  exact ⟨rfl, hQ h' tk acc' c' ts' G⟩
end
end K18W
/-! # list(zip(list, tuple)): the rule -/
namespace K18
open PySem PySem.Spec PyProof.Rows L2
/-- the tuples tracked at their addresses -/
def putP : Hp → List Addr → List (V × V) → Hp
  | H, a :: as, p :: ps => putP (upd H a (.tup [p.1, p.2])) as ps
  | H, _, _ => H
theorem putP_off {b : Addr} : ∀ (as : List Addr) (ps : List (V × V)) (H : Hp), b ∉ as → putP H as ps b = H b
  | [], _, _, _ => rfl
  | _ :: _, [], _, _ => rfl
  | a :: as, p :: ps, H, h => by
    show putP (upd H a (.tup [p.1, p.2])) as ps b = H b
    rw [putP_off as ps _ (fun z => h (List.mem_cons_of_mem _ z)), upd_ne (fun z => h (by rw [z]; exact List.mem_cons_self))]
theorem putP_at : ∀ (as : List Addr) (ps : List (V × V)) (H : Hp), as.length = ps.length → as.Nodup → Paired (fun (t : Addr) (p : V × V) => putP H as ps t = some (.tup [p.1, p.2])) as ps
  | [], [], _, _, _ => .nil
  | [], _ :: _, _, h, _ => by cases h
  | _ :: _, [], _, h, _ => by cases h
  | a :: as, p :: ps, H, h, hn => by
    have hn' := List.nodup_cons.mp hn
    have ih := putP_at as ps (upd H a (.tup [p.1, p.2])) (Nat.succ.inj h) hn'.2
    refine .cons ?_ ih
    show putP (upd H a (.tup [p.1, p.2])) as ps a = some (.tup [p.1, p.2])
    rw [putP_off as ps _ hn'.1, upd_same]
section
variable {X : Cx}
theorem pairs_laid {pins : List (Addr × Obj)} {σ : L2.St} {H : Hp} {s : Shared} {h' : Heap} {tk : Nat} {ps : List (V × V)} {L : Addr} {acc : Array Value} {c : Nat} {as : List Addr} (I : Inv X pins σ H s) (hz : ps.length ≤ sizeLine)
    (hk : ∀ b o, s.heap.get? b = some o → h'.get? b = some o) (bL : s.heap.objs.size ≤ L) (hS : h'.get? L = some { cls := .type "list", dict := none, data := .seq acc c, slots := #[] }) (hl : as.length = ps.length) (above : ∀ t ∈ as, L < t) (nd : as.Nodup)
    (pr : ∀ (j : Nat) (t : Addr) (p : V × V), as[j]? = some t → ps[j]? = some p → ∃ x y, RelV p.1 x ∧ RelV p.2 y ∧ IsPair h' t x y) (hacc : acc.toList = as.map Value.ref) :
    ∃ H' : Hp, Same H H' ∧ H L = none ∧ (∀ t ∈ as, H t = none) ∧ L ∉ as ∧ H' L = some (.lst (as.map V.ref)) ∧ Paired (fun (t : Addr) (q : V × V) => H' t = some (.tup [q.1, q.2])) as ps ∧ Inv X pins σ H' { s with heap := h', toks := tk } := by
  have hSn : L ∉ as := fun z => Nat.lt_irrefl _ (above _ z)
  have new : ∀ t ∈ as, H t = none := fun t ht => I.hok.fresh (Nat.le_trans bL (Nat.le_of_lt (above t ht)))
  have newS : H L = none := I.hok.fresh bL
  have atP := putP_at as ps (upd H L (.lst (as.map V.ref))) hl nd
  have off : ∀ b, b ∉ as → b ≠ L → putP (upd H L (.lst (as.map V.ref))) as ps b = H b := fun b h1 h2 => by rw [putP_off as ps _ h1, upd_ne h2]
  have low : ∀ b o, s.heap.get? b = some o → b ∉ as ∧ b ≠ L := fun b o e => ⟨fun z => absurd (Heap.lt_size e) (Nat.not_lt.mpr (Nat.le_trans bL (Nat.le_of_lt (above b z)))), fun z => absurd (Heap.lt_size e) (Nat.not_lt.mpr (by rw [z]; exact bL))⟩
  have kp : ∀ b u, H b = some u → (putP (upd H L (.lst (as.map V.ref))) as ps) b = some u := fun b u e => by
    rw [off b (fun z => by rw [new b z] at e; cases e) (fun z => by rw [z, newS] at e; cases e)]
    exact e
  have eS : putP (upd H L (.lst (as.map V.ref))) as ps L = some (.lst (as.map V.ref)) := by rw [putP_off as ps _ hSn, upd_same]
  refine ⟨putP (upd H L (.lst (as.map V.ref))) as ps, kp, newS, new, hSn, eS, atP, ?_⟩
  refine I.call' (ch := []) rfl ⟨fun b o q _ _ _ => hk b o q, fun b o q _ _ _ => ⟨o.slots, hk b o q⟩, fun b o q n _ => ?_, fun b o q _ => ⟨o, hk b o q⟩, fun b xs q => kp b _ q, fun b o u q => kp b _ q, fun b ps q => ⟨#[], by rw [kp b _ q]; simp⟩⟩ (fun b u q => ?_) I.bare fun b z => by simp at z
  · obtain ⟨z1, z2⟩ := low b o q
    rw [off b z1 z2]
    exact n
  · by_cases hb : b ∈ as
    · obtain ⟨j, pk, e1, e2, e3⟩ := LiI.paired_ix atP hb
      rw [e3] at q
      cases q
      obtain ⟨x, y, f1, f2, f3⟩ := pr j b pk e1 e2
      exact ⟨by show 2 ≤ sizeLine; decide, [x, y], .cons f1 (.cons f2 .nil), ⟨_, f3, rfl, _, rfl⟩⟩
    · by_cases hb2 : b = L
      · rw [hb2] at q ⊢
        rw [eS] at q
        cases q
        refine ⟨by rw [List.length_map]; omega, acc.toList, c, by rw [hacc]; exact LiI.vals_refs as, ?_⟩
        rw [Array.toArray_toList]
        exact hS
      · rw [off b hb hb2] at q
        exact (I.hok b u q).stay (fun d v _ y => hk d v y) (fun d y => kp d _ y) fun d xs y => kp d _ y
/-- list(zip(a, b)) of a list and a tuple -/
def tListZ (K : PySem.W.Frag) (ta : TA) : TE := fun σ H Q => ta σ H fun vs H1 => ∃ (a b : Addr) (xs ys : List V), vs = [.ref a, .ref b] ∧ SqL K H1 a xs ∧ SqT K H1 b ys ∧ xs.length = ys.length ∧
  ∀ (H' : Hp) (p : Addr) (ts : List Addr), Same H1 H' → H1 p = none → (∀ t ∈ ts, H1 t = none) → p ∉ ts → H' p = some (.lst (ts.map V.ref)) → Paired (fun (t : Addr) (q : V × V) => H' t = some (.tup [q.1, q.2])) ts (xs.zip ys) → Q (.ref p) H'
theorem pe_listZip {e e2 : Expr} {ta : TA} {p pos p2 pos2 : Pos} (calm : X.calm = true) (gd : Gl X "list") (md : X.mg "list" = none) (gz : Gl X "zip") (mz : X.mg "zip" = none) (ha : PA X [e, e2] ta)
    (hs : starEach [e, e2] X.env = (false, eval e X.env) :: starEach [e2] X.env := by rfl) (hpl : (backTo pos2 (starEach [e2] X.env)).any (·.1) = false := by rfl)
    (hs2 : starEach [.Call (.Name "zip" p2) [e, e2] [] pos2] X.env = (false, eval (.Call (.Name "zip" p2) [e, e2] [] pos2) X.env) :: starEach [] X.env := by rfl) (hpl2 : (backTo pos (starEach [] X.env)).any (·.1) = false := by rfl) :
    PE X (.Call (.Name "list" p) [.Call (.Name "zip" p2) [e, e2] [] pos2] [] pos) (tListZ X.K ta) := by
  refine ⟨fun pins s σ H Q I h => ?_⟩
  refine wpAny_Call_Name_kw (ld_blt I gd md (show bootBuiltins "list" = some (.type "list") by decide +kernel) ?_)
  refine PyProof.Rows.callWith_type1 ?_ hs2 hpl2
  rw [hs2]
  show wpAny _ _ (spliced ((false, eval (.Call (.Name "zip" p2) [e, e2] [] pos2) X.env) :: [])) _ _ s
  refine Calls.spliced_cons ?_
  refine wpAny_Call_Name_kw (ld_blt I gz mz PyProof.Rows.boot_zip ?_)
  refine PyProof.Rows.callWith_type1 (thn (ha.run pos2 pins s σ H _ I h) fun us s1 w1 => ?_) hs hpl
  obtain ⟨vs, H1, I1, r1, a, b, xs, ys, rfl, hq1, hq2, le, q⟩ := w1
  obtain ⟨u1, u2, rfl, ra, rb⟩ := vals2 r1
  obtain rfl : u1 = Value.ref a := ra
  obtain rfl : u2 = Value.ref b := rb
  obtain ⟨its, rv, p1, z1⟩ := I1.list hq1
  obtain ⟨its2, rv2, p2', _⟩ := I1.tuple hq2
  have p2' : s1.heap.IsTuple b its2.toArray := p2'
  have la : a < s1.heap.objs.size := p1.lt
  have lb : b < s1.heap.objs.size := let ⟨_, e, _⟩ := id p2'; Heap.lt_size e
  have l12 : its.length = its2.length := by rw [← rv.length, ← rv2.length, le]
  refine zip_begins2 (begins_list a its.toArray) (begins_tuple b its2.toArray) p1.isList p2' fun h' hz hTI hTO h1 h2 hsz hk => ?_
  refine Calls.spliced_nil ?_
  have D := PySem.W.ktu_apart s1.heap.objs.size a b la lb
  refine K18W.call_list_zip (s := { s1 with heap := h' }) (h0 := s1.heap) (A := X.A) (I.ok.hd calm) (I.ok.hd calm) D (by show its.length = its2.length; exact l12) (by simpa [← rv.length] using z1) hz
    ⟨.inl ⟨hz, _, _, hTO⟩, hTI, ⟨_, h1, rfl, rfl⟩, ⟨_, h2, rfl, rfl⟩, p1.isList.at fun o e => hk _ o e, p2'.at fun o e => hk _ o e⟩ (fun b o _ e => hk b o e) fun h2 tk acc c ts G => ?_
  have hb : ∀ {b : Addr} {o : Obj}, s1.heap.get? b = some o → b < s1.heap.objs.size := fun e => Heap.lt_size e
  have offw : ∀ {c : Addr}, c < s1.heap.objs.size → c ∉ [h'.objs.size, s1.heap.objs.size + 4, s1.heap.objs.size + 3, s1.heap.objs.size, s1.heap.objs.size + 1] := fun {c} l m => by
    simp only [List.mem_cons, List.not_mem_nil, or_false] at m
    have l : (c : Nat) < s1.heap.objs.size := l
    rcases m with m | m | m | m | m
    · rw [m, hsz] at l
      exact absurd l (Nat.not_lt.mpr (Nat.le_add_right _ _))
    all_goals
      rw [m] at l
      exact absurd l (Nat.not_lt.mpr (by first | exact Nat.le_add_right _ _ | exact Nat.le_refl _))
  have lz : (xs.zip ys).length = xs.length := by rw [List.length_zip, ← le, Nat.min_self]
  obtain ⟨H', k1, k2, k3, k4, k5, k6, J⟩ := pairs_laid (tk := tk) (ps := xs.zip ys) I1 (by rw [lz]; exact z1) (fun b o e => G.old b o (offw (hb e)) e) (by rw [hsz]; exact Nat.le_add_right _ _) G.lst
    (by rw [lz, G.len, rv.length]; rfl) G.above G.nd (fun j t pp ej ep => by
      obtain ⟨x, y, ex, ey, pr⟩ := G.pairs j t ej
      have jx : j < xs.length := by
        have := (List.getElem?_eq_some_iff.mp ep).1
        omega
      have jy : j < ys.length := by omega
      obtain ⟨u, hu, ru⟩ := rv.get (List.getElem?_eq_getElem jx)
      obtain ⟨v, hv, rw2⟩ := rv2.get (List.getElem?_eq_getElem jy)
      have ex : its[j]? = some x := by simpa using ex
      have ey : its2[j]? = some y := by simpa using ey
      rw [hu] at ex
      rw [hv] at ey
      obtain rfl := Option.some.inj ex
      obtain rfl := Option.some.inj ey
      have e9 : pp = (xs[j], ys[j]) := by
        obtain ⟨a1, a2⟩ := List.getElem?_zip_eq_some.mp ep
        rw [List.getElem?_eq_getElem jx] at a1
        rw [List.getElem?_eq_getElem jy] at a2
        exact Prod.ext (Option.some.inj a1).symm (Option.some.inj a2).symm
      rw [e9]
      exact ⟨u, v, ru, rw2, pr⟩) G.acc
  exact ⟨.ref _, H', J, rfl, q H' _ ts k1 k2 k3 k4 k5 k6⟩
end
end K18
/-! # the law: a stair -/
namespace K18
open PySem PySem.Spec PyProof.Rows L2 TL NumText RZ
theorem prs_of {H : Hp} {F : Tri → Int} : ∀ {xs : List V} {l : List Tri} {ts : List Addr}, TrL H xs l → Paired (fun (t : Addr) (q : V × V) => H t = some (.tup [q.1, q.2])) ts (xs.zip ((l.map F).map V.int)) → Paired (PrT H) ts (dictO l F)
  | _, _, _, .nil, p => by
    cases p
    exact .nil
  | _, _, _, .cons (c := c) (t := t) e l, p => by
    cases p with
    | cons a r => exact .cons ⟨c, a, e⟩ (prs_of l r)
section
variable {P : Program} {w : World} {K : PySem.W.Frag} {mg : Str → Option Value} {base : Heap} {C CS TL : Addr}
abbrev s_lstair : Stmt := topS 73
theorem sc_lstair : FnScope ["_law_sizes", "_law_one"] ["_law_sizes", "_law_one"] (defScope s_lstair) := ⟨rfl, rfl, rfl, by decide +kernel, rfl, by decide +kernel, by decide +kernel⟩
def spLStair (K : PySem.W.Frag) (C : Addr) : Sp := fun vs H Q _ => ∃ (sh a : Addr) (ns : List Int) (F : Tri → Int), vs = [.ref sh, .ref a] ∧ SqT K H sh (ns.map V.int) ∧ NT K H a F ns ∧ Shp ns ∧ SmN F ns ∧ ∀ H' c, Same H H' → StairO K H' c C ns (numsL F ns) → Q (.ref c) H'
theorem ok_lstair {f f1 fI : Addr} {fd fd1 fdI : FuncData} (T : Txt mg) (N : Nam mg) (nz : mg "zip" = none) (R : SC K mg C) (d : D K mg "_law_stair" s_lstair ["_law_sizes", "_law_one"] f fd)
    (d1 : D K mg "_law_spots" s_spots ["_law_sizes"] f1 fd1) (G1 : FnOk P w K mg base CX0 1 f1 fd1 ["_law_sizes"] (spSpots K))
    (mk : Mk K C fI) (GI : FnOk P w K mg base CX0 7 fI fdI ["self", "shape", "entries"] (spInit K C)) (bI : Binds K fdI ["self", "shape", "entries"] []) : FnOk P w K mg base CX0 9 f fd ["_law_sizes", "_law_one"] (spLStair K C) := by
  refine d.F.ok sc_lstair (fun vs H Q E h => ?_) (fun cdv A outer s H vs Q E hr h => ?_)
  · obtain ⟨sh, a, ns, F, rfl, _⟩ := h
    rfl
  · obtain ⟨sh, a, ns, F, rfl, es, ea, S, sm, q⟩ := h
    have un2 : (A.deeper (envOfC "_law_stair" (defScope s_lstair) s.heap.objs.size f cdv)).units + 2 < cLine := by have := hr.un; omega
    refine ⟨_, (pss_one (ps_ret (pe_make mk GI (hr.mono (by decide)) (by rfl) R.mC bI .nil pass0 (pa_cons (pv 0) (pa_cons (pe_callTy (call_dictTup rfl un2) (by rfl) N.n_dict (by decide +kernel) (pa_cons (pe_listZip rfl (by rfl) N.n_list (by rfl) nz (pa_cons (pe_call G1 (hr.mono (by decide)) (by rfl) d1.g d1.F.kp d1.b .nil pass0 (pa_cons (pv 0) pa_nil)) (pa_cons (pv 1) pa_nil))) pa_nil)) pa_nil))))), ?_⟩
    have M := tables3 ns (shp_mem S)
    have l30 := M.2.1
    refine ⟨_, rfl, _, rfl, sh, ns, rfl, es, S, fun H1 p xs s1 np ep tr => ?_⟩
    have lx : xs.length = (pl ns).length := tr.len
    refine ⟨_, rfl, p, a, xs, _, rfl, .inl (.inl ep), sqt_same ea s1, by rw [lx, List.length_map, nums_len], fun H2 p2 ts s2 n2 nt pt e2 pr => ?_⟩
    have pr2 : Paired (PrT H2) ts (dictO (pl ns) F) := prs_of (tr.same s2) pr
    refine ⟨p2, ts, _, rfl, .inl (.inl e2), pr2, fun D nD => ?_⟩
    rw [put_dictO M.1]
    have s3 := s1.trans (s2.trans (sub_same (o := .dT (dictO (pl ns) F)) nD))
    have eD : upd H2 D (.dT (dictO (pl ns) F)) D = some (.dT (dictO (pl ns) F)) := upd_same
    revert s3 eD
    generalize upd H2 D (.dT (dictO (pl ns) F)) = H3
    intro s3 eD
    refine fun x dx nx ndx ne => ?_
    have s7 := (sub_same (o := .own x) ndx).trans (sub_same (H := upd H3 dx (.own x)) (p := x) (o := .ins C dx []) (by rw [upd_ne (Ne.symm ne)]; exact nx))
    refine ⟨x, sh, D, dx, ns, dictO (pl ns) F, rfl, upd_same, sqt_same es (s3.trans s7), S, s7 _ _ eD, ent_dictO S (fun t m => m) (by omega) sm, fun H5 o5 st => ⟨rfl, ?_⟩⟩
    rw [nums_dictO fun t m n => absurd m n] at st
    exact q H5 x (s3.trans fun b o e => o5 _ _ (ne_of_none e nx) (s7 _ _ e)) st
end
end K18
/-! # the law: entries -/
namespace K18
open PySem PySem.Spec PyProof.Rows L2 TL NumText RZ
/-- the numbers of a list, by their places -/
def ofL (ns ms : List Int) (t : Tri) : Int := ms.getD ((pl ns).idxOf t) 0
theorem ofL_nums {ns ms : List Int} (S : Shp ns) (h : ms.length = (pl ns).length) : numsL (ofL ns ms) ns = ms := by
  have M := tables3 ns (shp_mem S)
  refine List.ext_getElem? fun i => ?_
  unfold numsL
  rw [List.getElem?_map]
  cases e : (pl ns)[i]? with
  | none => exact (List.getElem?_eq_none (by have := List.getElem?_eq_none_iff.mp e; omega)).symm
  | some t =>
    have il := (List.getElem?_eq_some_iff.mp e).1
    show some (ms.getD ((pl ns).idxOf t) 0) = ms[i]?
    rw [idx_of M.1 e, List.getD_eq_getElem?_getD, List.getElem?_eq_getElem (by omega)]
    rfl
/-- small numbers -/
def E9 (F : Tri → Int) : Prop := ∀ t, (F t).natAbs ≤ 9
theorem ofL_e9 {ns ms : List Int} (h : ∀ m ∈ ms, m.natAbs ≤ 9) : E9 (ofL ns ms) := fun t => by
  unfold ofL
  rw [List.getD_eq_getElem?_getD]
  cases e : ms[(pl ns).idxOf t]? with
  | none => exact Nat.zero_le _
  | some m => exact h m (List.mem_of_getElem? e)
theorem E9.sm {F : Tri → Int} (h : E9 F) (ns : List Int) : SmN F ns := fun t _ => by
  have := h t
  show -(10 ^ 60) < F t ∧ F t < 10 ^ 60
  omega
theorem E9.wt {F : Tri → Int} (h : E9 F) {ns : List Int} (S : Shp ns) : WtB 9 F ns := fun t m => Nat.le_trans (h t) (le_dd S (by decide) m)
def e9L : List Int := [0, 0, 0, 1, 1, -1, 2, -2, 3, 4, -6, 9]
theorem e9_get {i : Nat} {x : V} (e : (e9L.map V.int)[i]? = some x) : ∃ m : Int, x = .int m ∧ m.natAbs ≤ 9 := by
  rw [List.getElem?_map] at e
  obtain ⟨m, em, rfl⟩ := Option.map_eq_some_iff.mp e
  exact ⟨m, rfl, (by decide : ∀ m ∈ e9L, m.natAbs ≤ 9) m (List.mem_of_getElem? em)⟩
section
variable {P : Program} {w : World} {K : PySem.W.Frag} {mg : Str → Option Value} {base : Heap}
abbrev s_lent : Stmt := topS 74
theorem sc_lent : FnScope ["_law_jug_here", "_law_terms_here", "_law_found", "_law_pairs_here"] ["_law_jug_here", "_law_terms_here"] (defScope s_lent) := ⟨rfl, rfl, rfl, by decide +kernel, rfl, by decide +kernel, by decide +kernel⟩
def spLEnt (K : PySem.W.Frag) : Sp := fun vs H Q _ => ∃ (u TM : Addr) (ns : List Int), vs = [.ref u, .ref TM] ∧ Urn H u ∧ Tms K H TM (tmL ns) ∧ TM ≠ u ∧ Shp ns ∧ ∀ H' p F, Old u H H' → Urn H' u → E9 F → H' p = some (.tup ((numsL F ns).map V.int)) → Q (.ref p) H'
theorem ok_lent {f ft : Addr} {fd fdt : FuncData} (T : Txt mg) (N : Nam mg) (d : D K mg "_law_entries" s_lent ["_law_jug_here", "_law_terms_here"] f fd)
    (ds : D K mg "_law_of" s_of18 ["_law_jug_here", "_law_items"] ft fdt) (Gs : FnOk P w K mg base CX0 2 ft fdt ["_law_jug_here", "_law_items"] (spOf18 K)) : FnOk P w K mg base CX0 3 f fd ["_law_jug_here", "_law_terms_here"] (spLEnt K) := by
  refine d.F.ok sc_lent (fun vs H Q E h => ?_) (fun cdv A outer s H vs Q E hr h => ?_)
  · obtain ⟨u, TM, ns, rfl, _⟩ := h
    rfl
  · obtain ⟨u, TM, ns, rfl, hu, ⟨us, eu, pm⟩, nu, S, q⟩ := h
    refine ⟨_, (pss_cons (ps_set (i := 2) sc_lent.nd rfl (.inl rfl) (pe_lst pa_nil))
      (pss_cons (ps_for PassesOwn.never rfl (pi_list (pv 1)) (pg_name (i := 3) sc_lent.nd rfl (.inl rfl))
        (pss_one (ps_expr (pe_bm PySem.F.plainAttrs_list PySem.F.slot_list_append PySem.F.type_list_append mt_append (pv 2) (pa_cons (pe_call Gs (hr.mono (by decide)) (by rfl) ds.g ds.F.kp ds.b .nil pass0 (pa_cons (pv 0) (pa_cons (pe_lst (pa_cons pe_int (pa_cons pe_int (pa_cons pe_int (pa_cons pe_int (pa_cons pe_int (pa_cons (pe_un un_neg pe_int) (pa_cons pe_int (pa_cons (pe_un un_neg pe_int) (pa_cons pe_int (pa_cons pe_int (pa_cons (pe_un un_neg pe_int) (pa_cons pe_int pa_nil))))))))))))) pa_nil))) pa_nil)))))
      (pss_one (ps_ret (pe_tupleOf (by rfl) T.n_tuple (pv 2)))))), ?_⟩
    have M := tables3 ns (shp_mem S)
    have l30 := M.2.1
    have lu : us.length = (pl ns).length := by rw [pm.len]; unfold tmL; rw [List.length_map]
    refine ⟨(by show 0 ≤ sizeLine; decide), fun D nD => ?_⟩
    have Du : D ≠ u := fun z => by
      obtain ⟨_, _, _, e⟩ := hu
      rw [← z, nD] at e
      cases e
    have s0 := sub_same (o := .lst []) nD
    refine ⟨_, rfl, TM, rfl, ⟨us, .inl (.inl (s0 _ _ eu))⟩, ?_⟩
    refine for_it (walk_list (K := K) (a := TM) (xs := us)) (fun i σ Y => (∃ y3, σ = [some (.ref u), some (.ref TM), some (.ref D), y3]) ∧ Old u H Y ∧ Urn Y u ∧ ∃ ms : List Int, Y D = some (.lst (ms.map V.int)) ∧ ms.length = i ∧ ∀ m ∈ ms, m.natAbs ≤ 9)
      ⟨⟨_, rfl⟩, Old.of_same s0, hu.same s0, [], upd_same, rfl, fun m hm => by simp at hm⟩ (fun i σ Y _ h => .inl (.inl (h.2.1 _ _ nu eu))) ?_ ?_
    · rintro i v σ Y Y' hi ⟨⟨y3, rfl⟩, oy, uy, ms, hd, lm, bm⟩ ⟨rfl, ev⟩
      refine ⟨.ref D, rfl, tyl hd, ?_⟩
      refine ⟨_, rfl, _, rfl, _, rfl, _, rfl, (by show 12 ≤ sizeLine; decide), fun L nL => ?_⟩
      have s4 : Same Y' (upd Y' L (.lst (e9L.map V.int))) := sub_same nL
      have hL : upd Y' L (.lst (e9L.map V.int)) L = some (.lst (e9L.map V.int)) := upd_same
      have Lu : L ≠ u := fun z => by
        obtain ⟨_, _, _, e⟩ := uy
        rw [← z, nL] at e
        cases e
      refine ⟨u, L, e9L.map V.int, rfl, uy.same s4, fun H' b => .inl (.inl ((b L Lu).trans hL)), by decide, by decide, fun j x H' ex uH bt => ?_⟩
      obtain ⟨m, rfl, b9⟩ := e9_get ex
      have oH : Old u Y' H' := (Old.of_same s4).trans (Old.of_but bt)
      refine ⟨D, _, _, rfl, rfl, oH _ _ Du hd, ?_, ?_⟩
      · rw [List.length_map, lm, sizeLine_eq]
        omega
      refine ⟨⟨_, rfl⟩, fun b o n e => ?_, ?_, ms ++ [m], ?_, by rw [List.length_append, lm]; rfl, fun k hk => ?_⟩
      · rw [upd_ne (ne_of_none e nD)]
        exact oH _ _ n (oy b o n e)
      · obtain ⟨g, m2, c2, e⟩ := uH
        exact ⟨g, m2, c2, (upd_ne (Ne.symm Du)).trans e⟩
      · rw [upd_same, List.map_append]
        rfl
      · rcases List.mem_append.mp hk with h | h
        · exact bm k h
        · rw [List.mem_singleton.mp h]
          exact b9
    · rintro σ Y ⟨⟨y3, rfl⟩, oy, uy, ms, hd, lm, bm⟩
      have lm : ms.length = (pl ns).length := lm.trans lu
      refine ⟨_, rfl, .inl ⟨D, _, rfl, .inl (.inl hd), fun p np => ?_⟩⟩
      refine q _ p (ofL ns ms) (oy.trans (Old.of_same (sub_same np))) (uy.same (sub_same np)) (ofL_e9 bm) ?_
      rw [ofL_nums S lm]
      exact upd_same
end
end K18
/-! # the law: all stairs -/
namespace K18
open PySem PySem.Spec PyProof.Rows L2 TL NumText RZ
/-- tuples of numbers, one behind the other -/
inductive NTs (K : PySem.W.Frag) (H : Hp) (ns : List Int) : List V → List (Tri → Int) → Prop
  | nil : NTs K H ns [] []
  | cons {a : Addr} {F : Tri → Int} {xs : List V} {Fs : List (Tri → Int)} : NT K H a F ns → NTs K H ns xs Fs → NTs K H ns (.ref a :: xs) (F :: Fs)
theorem NTs.same {K : PySem.W.Frag} {H H' : Hp} {ns : List Int} (o : Same H H') : ∀ {xs : List V} {Fs : List (Tri → Int)}, NTs K H ns xs Fs → NTs K H' ns xs Fs
  | _, _, .nil => .nil
  | _, _, .cons e l => .cons (sqt_same e o) (l.same o)
theorem NTs.old {K : PySem.W.Frag} {H H' : Hp} {ns : List Int} {u : Addr} (hu : Urn H u) (o : Old u H H') : ∀ {xs : List V} {Fs : List (Tri → Int)}, NTs K H ns xs Fs → NTs K H' ns xs Fs
  | _, _, .nil => .nil
  | _, _, .cons e l => .cons (sqt_old hu o e) (l.old hu o)
theorem NTs.len {K : PySem.W.Frag} {H : Hp} {ns : List Int} : ∀ {xs : List V} {Fs : List (Tri → Int)}, NTs K H ns xs Fs → xs.length = Fs.length
  | _, _, .nil => rfl
  | _, _, .cons _ l => by rw [List.length_cons, List.length_cons, l.len]
theorem NTs.snoc {K : PySem.W.Frag} {H : Hp} {ns : List Int} {a : Addr} {F : Tri → Int} (e : NT K H a F ns) : ∀ {xs : List V} {Fs : List (Tri → Int)}, NTs K H ns xs Fs → NTs K H ns (xs ++ [.ref a]) (Fs ++ [F])
  | _, _, .nil => .cons e .nil
  | _, _, .cons h l => .cons h (l.snoc e)
theorem NTs.get {K : PySem.W.Frag} {H : Hp} {ns : List Int} : ∀ {xs : List V} {Fs : List (Tri → Int)} {i : Nat} {x : V}, NTs K H ns xs Fs → xs[i]? = some x → ∃ a F, x = .ref a ∧ Fs[i]? = some F ∧ NT K H a F ns
  | _, _, _, _, .nil, h => by simp at h
  | _, _, 0, _, .cons e l, h => by
    rw [List.getElem?_cons_zero] at h
    obtain rfl := Option.some.inj h
    exact ⟨_, _, rfl, rfl, e⟩
  | _, _, i + 1, _, .cons e l, h => by
    rw [List.getElem?_cons_succ] at h ⊢
    exact l.get h
/-- stairs, one behind the other -/
inductive Sts (K : PySem.W.Frag) (H : Hp) (C : Addr) (ns : List Int) : List V → List (Tri → Int) → Prop
  | nil : Sts K H C ns [] []
  | cons {a : Addr} {F : Tri → Int} {xs : List V} {Fs : List (Tri → Int)} : StairO K H a C ns (numsL F ns) → Sts K H C ns xs Fs → Sts K H C ns (.ref a :: xs) (F :: Fs)
theorem Sts.same {K : PySem.W.Frag} {H H' : Hp} {C : Addr} {ns : List Int} (o : Same H H') : ∀ {xs : List V} {Fs : List (Tri → Int)}, Sts K H C ns xs Fs → Sts K H' C ns xs Fs
  | _, _, .nil => .nil
  | _, _, .cons e l => .cons (e.same o) (l.same o)
theorem Sts.old {K : PySem.W.Frag} {H H' : Hp} {C : Addr} {ns : List Int} {u : Addr} (hu : Urn H u) (o : Old u H H') : ∀ {xs : List V} {Fs : List (Tri → Int)}, Sts K H C ns xs Fs → Sts K H' C ns xs Fs
  | _, _, .nil => .nil
  | _, _, .cons e l => .cons (e.old hu o) (l.old hu o)
theorem Sts.len {K : PySem.W.Frag} {H : Hp} {C : Addr} {ns : List Int} : ∀ {xs : List V} {Fs : List (Tri → Int)}, Sts K H C ns xs Fs → xs.length = Fs.length
  | _, _, .nil => rfl
  | _, _, .cons _ l => by rw [List.length_cons, List.length_cons, l.len]
theorem Sts.snoc {K : PySem.W.Frag} {H : Hp} {C : Addr} {ns : List Int} {a : Addr} {F : Tri → Int} (e : StairO K H a C ns (numsL F ns)) : ∀ {xs : List V} {Fs : List (Tri → Int)}, Sts K H C ns xs Fs → Sts K H C ns (xs ++ [.ref a]) (Fs ++ [F])
  | _, _, .nil => .cons e .nil
  | _, _, .cons h l => .cons h (l.snoc e)
theorem Sts.get {K : PySem.W.Frag} {H : Hp} {C : Addr} {ns : List Int} : ∀ {xs : List V} {Fs : List (Tri → Int)} {i : Nat} {x : V}, Sts K H C ns xs Fs → xs[i]? = some x → ∃ a F, x = .ref a ∧ Fs[i]? = some F ∧ StairO K H a C ns (numsL F ns)
  | _, _, _, _, .nil, h => by simp at h
  | _, _, 0, _, .cons e l, h => by
    rw [List.getElem?_cons_zero] at h
    obtain rfl := Option.some.inj h
    exact ⟨_, _, rfl, rfl, e⟩
  | _, _, i + 1, _, .cons e l, h => by
    rw [List.getElem?_cons_succ] at h ⊢
    exact l.get h
theorem sqt_putL {K : PySem.W.Frag} {H : Hp} {D a : Addr} {ws ys xs : List V} (hd : H D = some (.lst ws)) (h : SqT K H a xs) : SqT K (upd H D (.lst ys)) a xs := sqt_upd h fun o e => by
  rw [hd] at e
  cases e
  exact ⟨fun z => (by cases z), fun _ z => (by cases z)⟩
theorem StairO.putL {K : PySem.W.Frag} {H : Hp} {D a C : Addr} {ws ys : List V} {ns ms : List Int} (hd : H D = some (.lst ws)) (h : StairO K H a C ns ms) : StairO K (upd H D (.lst ys)) a C ns ms := by
  obtain ⟨dx, sh, pln, nm, e1, e2, e3, e4⟩ := h
  exact ⟨dx, sh, pln, nm, (upd_ne fun z => by rw [z, hd] at e1; cases e1).trans e1, sqt_putL hd e2, (upd_ne fun z => by rw [z, hd] at e3; cases e3).trans e3, e4.put hd⟩
theorem Sts.putL {K : PySem.W.Frag} {H : Hp} {D C : Addr} {ns : List Int} {ws vs : List V} (hd : H D = some (.lst ws)) : ∀ {xs : List V} {Fs : List (Tri → Int)}, Sts K H C ns xs Fs → Sts K (upd H D (.lst vs)) C ns xs Fs
  | _, _, .nil => .nil
  | _, _, .cons e l => .cons (e.putL hd) (l.putL hd)
theorem NTs.putL {K : PySem.W.Frag} {H : Hp} {D : Addr} {ns : List Int} {ws vs : List V} (hd : H D = some (.lst ws)) : ∀ {xs : List V} {Fs : List (Tri → Int)}, NTs K H ns xs Fs → NTs K (upd H D (.lst vs)) ns xs Fs
  | _, _, .nil => .nil
  | _, _, .cons e l => .cons (sqt_putL hd e) (l.putL hd)
section
variable {P : Program} {w : World} {K : PySem.W.Frag} {mg : Str → Option Value} {base : Heap} {C CS TL : Addr}
abbrev s_lall : Stmt := topS 75
theorem sc_lall : FnScope ["_law_sizes", "_law_raws", "_law_one"] ["_law_sizes", "_law_raws"] (defScope s_lall) := ⟨rfl, rfl, rfl, by decide +kernel, rfl, by decide +kernel, by decide +kernel⟩
def spLAll (K : PySem.W.Frag) (C : Addr) : Sp := fun vs H Q _ => ∃ (sh L : Addr) (ns : List Int) (xs : List V) (Fs : List (Tri → Int)), vs = [.ref sh, .ref L] ∧ SqT K H sh (ns.map V.int) ∧ H L = some (.lst xs) ∧ NTs K H ns xs Fs ∧ Shp ns ∧ (∀ F ∈ Fs, SmN F ns) ∧ Fs.length ≤ 16 ∧
  ∀ H' p ys, Same H H' → H p = none → H' p = some (.tup ys) → Sts K H' C ns ys Fs → Q (.ref p) H'
theorem ok_lall {f f1 : Addr} {fd fd1 : FuncData} (T : Txt mg) (N : Nam mg) (d : D K mg "_law_all_stairs" s_lall ["_law_sizes", "_law_raws"] f fd)
    (d1 : D K mg "_law_stair" s_lstair ["_law_sizes", "_law_one"] f1 fd1) (G1 : FnOk P w K mg base CX0 9 f1 fd1 ["_law_sizes", "_law_one"] (spLStair K C)) : FnOk P w K mg base CX0 10 f fd ["_law_sizes", "_law_raws"] (spLAll K C) := by
  refine d.F.ok sc_lall (fun vs H Q E h => ?_) (fun cdv A outer s H vs Q E hr h => ?_)
  · obtain ⟨sh, L, ns, xs, Fs, rfl, _⟩ := h
    rfl
  · obtain ⟨sh, L, ns, xs, Fs, rfl, es, eL, nt, S, sm, l16, q⟩ := h
    refine ⟨_, (pss_one (ps_ret (pe_tupleOf (by rfl) T.n_tuple (pe_lc (own := [("_law_one", 2)]) (g := gName 2) (tt := tYes) rfl sc_lall.nd (pi_list (pv 1)) (blkOk_by (own := [("_law_one", 2)]) (N := ["_law_sizes", "_law_raws", "_law_one"]) (sc := defScope s_lall) (by decide +kernel))
            (fun _ _ _ _ _ => (pg_name (i := 2) sc_lall.nd rfl (Or.inl rfl))) (fun _ _ _ _ _ => pts_nil) (fun _ _ _ _ _ => (pe_call G1 (hr.mono (by decide)) (by rfl) d1.g d1.F.kp d1.b .nil pass0 (pa_cons (pv 0) (pa_cons (pv 2) pa_nil)))))))), ?_⟩
    have lx := nt.len
    refine ⟨_, rfl, L, rfl, ⟨xs, .inl (.inl eL)⟩, fun D nD => ?_⟩
    have LD : L ≠ D := fun z => by rw [z, nD] at eL; cases eL
    refine lc_list (K := K) (a := L) (xs := xs) (fun i Z => Same H Z ∧ ∃ ys, Z D = some (.lst ys) ∧ Sts K Z C ns ys (Fs.take i)) ⟨sub_same nD, [], upd_same, .nil⟩ (fun i Z _ h => .inl (.inl (h.1 _ _ eL))) ?_ ?_
    · rintro i x Z hx ⟨sz, ys, hd, st⟩
      obtain ⟨a, F, rfl, eF, na⟩ := nt.get hx
      have iF := (List.getElem?_eq_some_iff.mp eF).1
      refine ⟨rfl, yesT ?_⟩
      refine ⟨_, rfl, _, rfl, sh, a, ns, F, rfl, sqt_same es sz, sqt_same na sz, S, sm F (List.mem_of_getElem? eF), fun Z2 c s2 so => ?_⟩
      have hd2 := s2 _ _ hd
      refine ⟨ys, hd2, ?_, fun b o e => ?_, ys ++ [.ref c], upd_same, ?_⟩
      · rw [st.len, List.length_take, sizeLine_eq]
        omega
      · rw [upd_ne (ne_of_none e nD)]
        exact s2 _ _ (sz _ _ e)
      · have tk : Fs.take (i + 1) = Fs.take i ++ [F] := by rw [List.take_succ, eF]; rfl
        rw [tk]
        exact ((st.same s2).snoc so).putL hd2
    · rintro Z ⟨sz, ys, hd, st⟩
      rw [lx, List.take_length] at st
      refine .inl ⟨D, _, rfl, .inl (.inl hd), fun p np => ?_⟩
      exact q _ p ys (sz.trans (sub_same np)) (sz.free np) upd_same (st.same (sub_same np))
end
end K18
/-! # steps; the law: pairs -/
namespace K18
open PySem PySem.Spec PyProof.Rows L2 TL NumText RZ
/-- a step: a maker, a product of powers, a bracket -/
inductive Stp
  | mk (i : Nat)
  | pr (l : List (Nat × Int))
  | br (i j : Nat)
def pairD (p : Nat × Int) : PyData := .tuple [.int (p.1 : Nat), .int p.2]
def stepD : Stp → PyData
  | .mk i => .tuple [.str "maker", .int (i : Nat)]
  | .pr l => .tuple [.str "product", .tuple (l.map pairD)]
  | .br i j => .tuple [.str "bracket", .int (i : Nat), .int (j : Nat)]
/-- what a step may name, k steps ahead of it -/
def Stp.ok (many k : Nat) : Stp → Prop
  | .mk i => i < many
  | .pr l => l.length ≤ 3 ∧ ∀ p ∈ l, p.1 < k ∧ p.2.natAbs ≤ 3
  | .br i j => i < k ∧ j < k
def StpsOk (many : Nat) (ss : List Stp) : Prop := ∀ (k : Nat) (s : Stp), ss[k]? = some s → s.ok many k
/-- pairs as tuples -/
inductive PrL (H : Hp) : List V → List (Nat × Int) → Prop
  | nil : PrL H [] []
  | cons {c : Addr} {p : Nat × Int} {xs : List V} {l : List (Nat × Int)} : H c = some (.tup [.int (p.1 : Nat), .int p.2]) → PrL H xs l → PrL H (.ref c :: xs) (p :: l)
theorem PrL.same {H H' : Hp} (o : Same H H') : ∀ {xs : List V} {l : List (Nat × Int)}, PrL H xs l → PrL H' xs l
  | _, _, .nil => .nil
  | _, _, .cons e t => .cons (o _ _ e) (t.same o)
theorem PrL.old {H H' : Hp} {u : Addr} (hu : Urn H u) (o : Old u H H') : ∀ {xs : List V} {l : List (Nat × Int)}, PrL H xs l → PrL H' xs l
  | _, _, .nil => .nil
  | _, _, .cons e t => .cons (o _ _ (urn_off hu e fun _ _ _ z => by cases z) e) (t.old hu o)
theorem PrL.put {H : Hp} {D : Addr} {ws ys : List V} (hd : H D = some (.lst ws)) : ∀ {xs : List V} {l : List (Nat × Int)}, PrL H xs l → PrL (upd H D (.lst ys)) xs l
  | _, _, .nil => .nil
  | _, _, .cons e t => .cons ((upd_ne fun z => by rw [z, hd] at e; cases e).trans e) (t.put hd)
theorem PrL.snoc {H : Hp} {c : Addr} {p : Nat × Int} (e : H c = some (.tup [.int (p.1 : Nat), .int p.2])) : ∀ {xs : List V} {l : List (Nat × Int)}, PrL H xs l → PrL H (xs ++ [.ref c]) (l ++ [p])
  | _, _, .nil => .cons e .nil
  | _, _, .cons h t => .cons h (t.snoc e)
theorem PrL.len {H : Hp} : ∀ {xs : List V} {l : List (Nat × Int)}, PrL H xs l → xs.length = l.length
  | _, _, .nil => rfl
  | _, _, .cons _ t => by rw [List.length_cons, List.length_cons, t.len]
theorem PrL.get {H : Hp} : ∀ {xs : List V} {l : List (Nat × Int)} {i : Nat} {x : V}, PrL H xs l → xs[i]? = some x → ∃ c p, x = .ref c ∧ l[i]? = some p ∧ H c = some (.tup [.int (p.1 : Nat), .int p.2])
  | _, _, _, _, .nil, h => by simp at h
  | _, _, 0, _, .cons e t, h => by
    rw [List.getElem?_cons_zero] at h
    obtain rfl := Option.some.inj h
    exact ⟨_, _, rfl, rfl, e⟩
  | _, _, i + 1, _, .cons e t, h => by
    rw [List.getElem?_cons_succ] at h ⊢
    exact t.get h
theorem PrL.tv {K : PySem.W.Frag} {H : Hp} : ∀ {xs : List V} {l : List (Nat × Int)}, PrL H xs l → TvL K H xs (l.map pairD)
  | _, _, .nil => .nil
  | _, _, .cons e t => .cons (.tup (sqt_new e) (.cons (.int _) (.cons (.int _) .nil))) t.tv
/-- a tuple of pairs -/
def LtP (K : PySem.W.Frag) (H : Hp) (v : V) (l : List (Nat × Int)) : Prop := ∃ a ws, v = .ref a ∧ SqT K H a ws ∧ PrL H ws l
theorem LtP.same {K : PySem.W.Frag} {H H' : Hp} {v : V} {l : List (Nat × Int)} (o : Same H H') (h : LtP K H v l) : LtP K H' v l := let ⟨a, ws, e, s, t⟩ := h; ⟨a, ws, e, sqt_same s o, t.same o⟩
theorem LtP.old {K : PySem.W.Frag} {H H' : Hp} {v : V} {l : List (Nat × Int)} {u : Addr} (hu : Urn H u) (o : Old u H H') (h : LtP K H v l) : LtP K H' v l := let ⟨a, ws, e, s, t⟩ := h; ⟨a, ws, e, sqt_old hu o s, t.old hu o⟩
theorem LtP.put {K : PySem.W.Frag} {H : Hp} {D : Addr} {ws ys : List V} (hd : H D = some (.lst ws)) {v : V} {l : List (Nat × Int)} (h : LtP K H v l) : LtP K (upd H D (.lst ys)) v l := let ⟨a, zs, e, s, t⟩ := h; ⟨a, zs, e, sqt_putL hd s, t.put hd⟩
theorem LtP.tv {K : PySem.W.Frag} {H : Hp} {v : V} {l : List (Nat × Int)} (h : LtP K H v l) : Tv K H v (.tuple (l.map pairD)) := by
  obtain ⟨a, ws, rfl, s, t⟩ := h
  exact .tup s t.tv
/-- a step as a tuple -/
inductive StpV (K : PySem.W.Frag) (H : Hp) : V → Stp → Prop
  | mk {c : Addr} {i : Nat} : SqT K H c [.str "maker", .int (i : Nat)] → StpV K H (.ref c) (.mk i)
  | pr {c : Addr} {y : V} {l : List (Nat × Int)} : SqT K H c [.str "product", y] → LtP K H y l → StpV K H (.ref c) (.pr l)
  | br {c : Addr} {i j : Nat} : SqT K H c [.str "bracket", .int (i : Nat), .int (j : Nat)] → StpV K H (.ref c) (.br i j)
theorem StpV.same {K : PySem.W.Frag} {H H' : Hp} (o : Same H H') {v : V} {s : Stp} (h : StpV K H v s) : StpV K H' v s := by
  cases h with
  | mk e => exact .mk (sqt_same e o)
  | pr e t => exact .pr (sqt_same e o) (t.same o)
  | br e => exact .br (sqt_same e o)
theorem StpV.old {K : PySem.W.Frag} {H H' : Hp} {u : Addr} (hu : Urn H u) (o : Old u H H') {v : V} {s : Stp} (h : StpV K H v s) : StpV K H' v s := by
  cases h with
  | mk e => exact .mk (sqt_old hu o e)
  | pr e t => exact .pr (sqt_old hu o e) (t.old hu o)
  | br e => exact .br (sqt_old hu o e)
theorem StpV.put {K : PySem.W.Frag} {H : Hp} {D : Addr} {ws ys : List V} (hd : H D = some (.lst ws)) {v : V} {s : Stp} (h : StpV K H v s) : StpV K (upd H D (.lst ys)) v s := by
  cases h with
  | mk e => exact .mk (sqt_putL hd e)
  | pr e t => exact .pr (sqt_putL hd e) (t.put hd)
  | br e => exact .br (sqt_putL hd e)
theorem StpV.tv {K : PySem.W.Frag} {H : Hp} {v : V} {s : Stp} (h : StpV K H v s) : Tv K H v (stepD s) := by
  cases h with
  | mk e => exact .tup e (.cons (.str _) (.cons (.int _) .nil))
  | pr e t => exact .tup e (.cons (.str _) (.cons t.tv .nil))
  | br e => exact .tup e (.cons (.str _) (.cons (.int _) (.cons (.int _) .nil)))
inductive StpL (K : PySem.W.Frag) (H : Hp) : List V → List Stp → Prop
  | nil : StpL K H [] []
  | cons {x : V} {s : Stp} {xs : List V} {ss : List Stp} : StpV K H x s → StpL K H xs ss → StpL K H (x :: xs) (s :: ss)
theorem StpL.same {K : PySem.W.Frag} {H H' : Hp} (o : Same H H') : ∀ {xs : List V} {ss : List Stp}, StpL K H xs ss → StpL K H' xs ss
  | _, _, .nil => .nil
  | _, _, .cons e t => .cons (e.same o) (t.same o)
theorem StpL.old {K : PySem.W.Frag} {H H' : Hp} {u : Addr} (hu : Urn H u) (o : Old u H H') : ∀ {xs : List V} {ss : List Stp}, StpL K H xs ss → StpL K H' xs ss
  | _, _, .nil => .nil
  | _, _, .cons e t => .cons (e.old hu o) (t.old hu o)
theorem StpL.put {K : PySem.W.Frag} {H : Hp} {D : Addr} {ws ys : List V} (hd : H D = some (.lst ws)) : ∀ {xs : List V} {ss : List Stp}, StpL K H xs ss → StpL K (upd H D (.lst ys)) xs ss
  | _, _, .nil => .nil
  | _, _, .cons e t => .cons (e.put hd) (t.put hd)
theorem StpL.snoc {K : PySem.W.Frag} {H : Hp} {x : V} {s : Stp} (e : StpV K H x s) : ∀ {xs : List V} {ss : List Stp}, StpL K H xs ss → StpL K H (xs ++ [x]) (ss ++ [s])
  | _, _, .nil => .cons e .nil
  | _, _, .cons h t => .cons h (t.snoc e)
theorem StpL.len {K : PySem.W.Frag} {H : Hp} : ∀ {xs : List V} {ss : List Stp}, StpL K H xs ss → xs.length = ss.length
  | _, _, .nil => rfl
  | _, _, .cons _ t => by rw [List.length_cons, List.length_cons, t.len]
theorem StpL.tv {K : PySem.W.Frag} {H : Hp} : ∀ {xs : List V} {ss : List Stp}, StpL K H xs ss → TvL K H xs (ss.map stepD)
  | _, _, .nil => .nil
  | _, _, .cons e t => .cons e.tv t.tv
theorem StpL.get {K : PySem.W.Frag} {H : Hp} : ∀ {xs : List V} {ss : List Stp} {i : Nat} {x : V}, StpL K H xs ss → xs[i]? = some x → ∃ s, ss[i]? = some s ∧ StpV K H x s
  | _, _, _, _, .nil, h => by simp at h
  | _, _, 0, _, .cons e t, h => by
    rw [List.getElem?_cons_zero] at h
    obtain rfl := Option.some.inj h
    exact ⟨_, rfl, e⟩
  | _, _, i + 1, _, .cons e t, h => by
    rw [List.getElem?_cons_succ] at h ⊢
    exact t.get h
/-- a tuple of steps -/
def StpsT (K : PySem.W.Frag) (H : Hp) (v : V) (ss : List Stp) : Prop := ∃ a ws, v = .ref a ∧ SqT K H a ws ∧ StpL K H ws ss
theorem StpsT.same {K : PySem.W.Frag} {H H' : Hp} {v : V} {ss : List Stp} (o : Same H H') (h : StpsT K H v ss) : StpsT K H' v ss := let ⟨a, ws, e, s, t⟩ := h; ⟨a, ws, e, sqt_same s o, t.same o⟩
theorem StpsT.old {K : PySem.W.Frag} {H H' : Hp} {v : V} {ss : List Stp} {u : Addr} (hu : Urn H u) (o : Old u H H') (h : StpsT K H v ss) : StpsT K H' v ss := let ⟨a, ws, e, s, t⟩ := h; ⟨a, ws, e, sqt_old hu o s, t.old hu o⟩
theorem StpsT.tv {K : PySem.W.Frag} {H : Hp} {v : V} {ss : List Stp} (h : StpsT K H v ss) : Tv K H v (.tuple (ss.map stepD)) := by
  obtain ⟨a, ws, rfl, s, t⟩ := h
  exact .tup s t.tv
def e3L : List Int := [1, -1, 2, -2, 3, 0]
theorem e3_get {i : Nat} {x : V} (e : (e3L.map V.int)[i]? = some x) : ∃ m : Int, x = .int m ∧ m.natAbs ≤ 3 := by
  rw [List.getElem?_map] at e
  obtain ⟨m, em, rfl⟩ := Option.map_eq_some_iff.mp e
  exact ⟨m, rfl, (by decide : ∀ m ∈ e3L, m.natAbs ≤ 3) m (List.mem_of_getElem? em)⟩
section
variable {P : Program} {w : World} {K : PySem.W.Frag} {mg : Str → Option Value} {base : Heap}
abbrev s_lpairs : Stmt := topS 79
theorem sc_lpairs : FnScope ["_law_jug_here", "_law_at", "_law_found", "_law_turn"] ["_law_jug_here", "_law_at"] (defScope s_lpairs) := ⟨rfl, rfl, rfl, by decide +kernel, rfl, by decide +kernel, by decide +kernel⟩
def spLPairs (K : PySem.W.Frag) : Sp := fun vs H Q _ => ∃ (u : Addr) (k : Nat), vs = [.ref u, .int (k : Nat)] ∧ Urn H u ∧ 0 < k ∧ k ≤ 1000 ∧ ∀ H' v (l : List (Nat × Int)), Old u H H' → Urn H' u → l.length ≤ 3 → (∀ p ∈ l, p.1 < k ∧ p.2.natAbs ≤ 3) → LtP K H' v l → Q v H'
theorem ok_lpairs {f ft fs : Addr} {fd fdt fds : FuncData} (T : Txt mg) (N : Nam mg) (d : D K mg "_law_pairs" s_lpairs ["_law_jug_here", "_law_at"] f fd)
    (dt : D K mg "_law_pour" s_pour ["_law_jug_here", "_law_many"] ft fdt) (Gt : FnOk P w K mg base CX0 1 ft fdt ["_law_jug_here", "_law_many"] spPour)
    (ds : D K mg "_law_of" s_of18 ["_law_jug_here", "_law_items"] fs fds) (Gs : FnOk P w K mg base CX0 2 fs fds ["_law_jug_here", "_law_items"] (spOf18 K)) : FnOk P w K mg base CX0 3 f fd ["_law_jug_here", "_law_at"] (spLPairs K) := by
  refine d.F.ok sc_lpairs (fun vs H Q E h => ?_) (fun cdv A outer s H vs Q E hr h => ?_)
  · obtain ⟨u, k, rfl, _⟩ := h
    rfl
  · obtain ⟨u, k, rfl, hu, k0, k9, q⟩ := h
    refine ⟨_, (pss_cons (ps_set (i := 2) sc_lpairs.nd rfl (.inl rfl) (pe_lst pa_nil))
      (pss_cons (ps_for PassesOwn.never rfl (pi_range1 (by rfl) T.n_range (pa_cons (pe_call Gt (hr.mono (by decide)) (by rfl) dt.g dt.F.kp dt.b .nil pass0 (pa_cons (pv 0) (pa_cons pe_int pa_nil))) pa_nil)) (pg_name (i := 3) sc_lpairs.nd rfl (.inl rfl))
        (pss_one (ps_expr (pe_bm PySem.F.plainAttrs_list PySem.F.slot_list_append PySem.F.type_list_append mt_append (pv 2) (pa_cons (pe_tup (pa_cons (pe_call Gt (hr.mono (by decide)) (by rfl) dt.g dt.F.kp dt.b .nil pass0 (pa_cons (pv 0) (pa_cons (pv 1) pa_nil))) (pa_cons (pe_call Gs (hr.mono (by decide)) (by rfl) ds.g ds.F.kp ds.b .nil pass0 (pa_cons (pv 0) (pa_cons (pe_lst (pa_cons pe_int (pa_cons (pe_un un_neg pe_int) (pa_cons pe_int (pa_cons (pe_un un_neg pe_int) (pa_cons pe_int (pa_cons pe_int pa_nil))))))) pa_nil))) pa_nil))) pa_nil)))))
      (pss_one (ps_ret (pe_tupleOf (by rfl) T.n_tuple (pv 2)))))), ?_⟩
    refine ⟨(by show 0 ≤ sizeLine; decide), fun D nD => ?_⟩
    have Du : D ≠ u := fun z => by
      obtain ⟨_, _, _, e⟩ := hu
      rw [← z, nD] at e
      cases e
    have s0 := sub_same (o := .lst []) nD
    refine ⟨_, rfl, u, 4, rfl, hu.same s0, by decide, by decide, fun n H1 n0 n4 u1 b1 => ?_⟩
    have o1 : Old u H H1 := (Old.of_same s0).trans (Old.of_but b1)
    have hD : H1 D = some (.lst []) := (b1 D Du).trans upd_same
    refine ⟨n, rfl, by omega, by omega, ?_⟩
    refine for_range (lo := 0) (n := n.toNat) (fun i σ Y => (∃ y3, σ = [some (.ref u), some (.int (k : Nat)), some (.ref D), y3]) ∧ Old u H Y ∧ Urn Y u ∧ ∃ (xs : List V) (l : List (Nat × Int)), Y D = some (.lst xs) ∧ PrL Y xs l ∧ l.length = i ∧ ∀ p ∈ l, p.1 < k ∧ p.2.natAbs ≤ 3)
      ⟨⟨_, rfl⟩, o1, u1, [], [], hD, .nil, rfl, fun p hp => by simp at hp⟩ ?_ ?_
    · rintro i σ Y hi ⟨⟨y3, rfl⟩, oy, uy, xs, l, hd, tv, ll, bl⟩
      refine ⟨.ref D, rfl, tyl hd, ?_⟩
      refine ⟨_, rfl, _, rfl, u, k, rfl, uy, by omega, ?_, fun v H2 v0 v1 u2 b2 => ?_⟩
      · rw [Int.natAbs_natCast]
        exact Nat.lt_of_le_of_lt (Nat.log2_le_self _) (by omega)
      obtain ⟨g, rfl⟩ : ∃ g : Nat, v = (g : Int) := ⟨v.toNat, by omega⟩
      have o2 : Old u Y H2 := Old.of_but b2
      refine ⟨_, rfl, _, rfl, _, rfl, (by show 6 ≤ sizeLine; decide), fun L nL => ?_⟩
      have s4 : Same H2 (upd H2 L (.lst (e3L.map V.int))) := sub_same nL
      have hL : upd H2 L (.lst (e3L.map V.int)) L = some (.lst (e3L.map V.int)) := upd_same
      have Lu : L ≠ u := fun z => by
        obtain ⟨_, _, _, e⟩ := u2
        rw [← z, nL] at e
        cases e
      refine ⟨u, L, e3L.map V.int, rfl, u2.same s4, fun H' b => .inl (.inl ((b L Lu).trans hL)), by decide, by decide, fun j x H3 ex u3 b3 => ?_⟩
      obtain ⟨m, rfl, m3⟩ := e3_get ex
      have o3 : Old u Y H3 := o2.trans ((Old.of_same s4).trans (Old.of_but b3))
      have hd3 := o3 _ _ Du hd
      have tv3 := tv.old uy o3
      refine ⟨(by show 2 ≤ sizeLine; decide), fun p np => ?_⟩
      have s5 := sub_same (o := .tup [V.int (g : Nat), V.int m]) np
      refine ⟨D, _, _, rfl, rfl, s5 _ _ hd3, ?_, ?_⟩
      · rw [tv.len, ll, sizeLine_eq]
        omega
      refine ⟨⟨_, rfl⟩, fun b o n e => ?_, ?_, xs ++ [.ref p], l ++ [(g, m)], upd_same, ?_, by rw [List.length_append, ll]; rfl, fun z hz => ?_⟩
      · rw [upd_ne (ne_of_none e nD)]
        exact s5 _ _ (o3 _ _ n (oy b o n e))
      · obtain ⟨g1, g2, g3, e⟩ := u3.same s5
        exact ⟨g1, g2, g3, (upd_ne (Ne.symm Du)).trans e⟩
      · exact (PrL.snoc (p := (g, m)) upd_same (tv3.same s5)).put (s5 _ _ hd3)
      · rcases List.mem_append.mp hz with h | h
        · exact bl z h
        · rw [List.mem_singleton.mp h]
          exact ⟨by omega, m3⟩
    · rintro σ Y ⟨⟨y3, rfl⟩, oy, uy, xs, l, hd, tv, ll, bl⟩
      refine ⟨_, rfl, .inl ⟨D, _, rfl, .inl (.inl hd), fun p np => ?_⟩⟩
      exact q _ (.ref p) l (oy.trans (Old.of_same (sub_same np))) (uy.same (sub_same np)) (by omega) bl ⟨p, xs, rfl, sqt_new upd_same, tv.same (sub_same np)⟩
end
end K18
/-! # the law: steps -/
namespace K18
open PySem PySem.Spec PyProof.Rows L2 TL NumText RZ
theorem stps_snoc {many : Nat} {l : List Stp} {s : Stp} (h : StpsOk many l) (g : s.ok many l.length) : StpsOk many (l ++ [s]) := fun k z e => by
  rw [List.getElem?_append] at e
  split at e
  · exact h k z e
  · rename_i n
    have j := (List.getElem?_eq_some_iff.mp e).1
    rw [List.length_singleton] at j
    have k2 : k = l.length := by omega
    rw [k2, Nat.sub_self] at e
    rw [k2, ← Option.some.inj e]
    exact g
theorem ifT {A B : Prop} (h : A) : (if true = true then A else B) := by
  rw [if_pos rfl]
  exact h
theorem ifF {A B : Prop} (h : B) : (if false = true then A else B) := by
  rw [if_neg (by decide)]
  exact h
section
variable {P : Program} {w : World} {K : PySem.W.Frag} {mg : Str → Option Value} {base : Heap}
abbrev s_lsteps : Stmt := topS 80
theorem sc_lsteps : FnScope ["_law_jug_here", "_law_many", "_law_most", "_law_found", "_law_at", "_law_way"] ["_law_jug_here", "_law_many", "_law_most"] (defScope s_lsteps) := ⟨rfl, rfl, rfl, by decide +kernel, rfl, by decide +kernel, by decide +kernel⟩
def spLSteps (K : PySem.W.Frag) : Sp := fun vs H Q _ => ∃ (u : Addr) (many most : Nat), vs = [.ref u, .int (many : Nat), .int (most : Nat)] ∧ Urn H u ∧ many ≤ 1000 ∧ 0 < most ∧ most ≤ 100 ∧
  ∀ H' v (l : List Stp), Old u H H' → Urn H' u → 1 ≤ l.length → l.length ≤ most → StpsOk many l → StpsT K H' v l → Q v H'
theorem ok_lsteps {f f1 ft : Addr} {fd fd1 fdt : FuncData} (T : Txt mg) (N : Nam mg) (d : D K mg "_law_steps" s_lsteps ["_law_jug_here", "_law_many", "_law_most"] f fd)
    (d1 : D K mg "_law_pairs" s_lpairs ["_law_jug_here", "_law_at"] f1 fd1) (G1 : FnOk P w K mg base CX0 3 f1 fd1 ["_law_jug_here", "_law_at"] (spLPairs K))
    (dt : D K mg "_law_pour" s_pour ["_law_jug_here", "_law_many"] ft fdt) (Gt : FnOk P w K mg base CX0 1 ft fdt ["_law_jug_here", "_law_many"] spPour) : FnOk P w K mg base CX0 4 f fd ["_law_jug_here", "_law_many", "_law_most"] (spLSteps K) := by
  refine d.F.ok sc_lsteps (fun vs H Q E h => ?_) (fun cdv A outer s H vs Q E hr h => ?_)
  · obtain ⟨u, many, most, rfl, _⟩ := h
    rfl
  · obtain ⟨u, many, most, rfl, hu, h1, h2, h3, q⟩ := h
    refine ⟨_, (pss_cons (ps_set (i := 3) sc_lsteps.nd rfl (.inl rfl) (pe_lst pa_nil))
      (pss_cons (ps_for PassesOwn.never rfl (pi_range1 (by rfl) T.n_range (pa_cons (pe_op op_add pe_int (pe_call Gt (hr.mono (by decide)) (by rfl) dt.g dt.F.kp dt.b .nil pass0 (pa_cons (pv 0) (pa_cons (pv 2) pa_nil)))) pa_nil)) (pg_name (i := 4) sc_lsteps.nd rfl (.inl rfl))
        (pss_cons (ps_set (i := 5) sc_lsteps.nd rfl (.inl rfl) (pe_call Gt (hr.mono (by decide)) (by rfl) dt.g dt.F.kp dt.b .nil pass0 (pa_cons (pv 0) (pa_cons pe_int pa_nil))))
      (pss_one (ps_if (PW.pt (pw_and (pt_cmpR op_gt (pv 1) pe_int (nomark _)) (pw_and1 (PW.pt (pw_or (pt_cmpR op_eq (pv 4) pe_int (nomark _)) (pw_or1 (pt_cmpR op_lt (pv 5) pe_int (nomark _)))))))) (pss_one (ps_expr (pe_bm PySem.F.plainAttrs_list PySem.F.slot_list_append PySem.F.type_list_append mt_append (pv 3) (pa_cons (pe_tup (pa_cons pe_str (pa_cons (pe_call Gt (hr.mono (by decide)) (by rfl) dt.g dt.F.kp dt.b .nil pass0 (pa_cons (pv 0) (pa_cons (pv 1) pa_nil))) pa_nil))) pa_nil)))) (pss_one (ps_if (PW.pt (pw_or (pt_cmpR op_eq (pv 4) pe_int (nomark _)) (pw_or1 (pt_cmpR op_lt (pv 5) pe_int (nomark _))))) (pss_one (ps_expr (pe_bm PySem.F.plainAttrs_list PySem.F.slot_list_append PySem.F.type_list_append mt_append (pv 3) (pa_cons (pe_tup (pa_cons pe_str (pa_cons (pe_ifExp (pt_cmpR op_gt (pv 4) pe_int (nomark _)) (pe_call G1 (hr.mono (by decide)) (by rfl) d1.g d1.F.kp d1.b .nil pass0 (pa_cons (pv 0) (pa_cons (pv 4) pa_nil))) (pe_tup pa_nil)) pa_nil))) pa_nil)))) (pss_one (ps_expr (pe_bm PySem.F.plainAttrs_list PySem.F.slot_list_append PySem.F.type_list_append mt_append (pv 3) (pa_cons (pe_tup (pa_cons pe_str (pa_cons (pe_call Gt (hr.mono (by decide)) (by rfl) dt.g dt.F.kp dt.b .nil pass0 (pa_cons (pv 0) (pa_cons (pv 4) pa_nil))) (pa_cons (pe_call Gt (hr.mono (by decide)) (by rfl) dt.g dt.F.kp dt.b .nil pass0 (pa_cons (pv 0) (pa_cons (pv 4) pa_nil))) pa_nil)))) pa_nil))))))))))
      (pss_one (ps_ret (pe_tupleOf (by rfl) T.n_tuple (pv 3)))))), ?_⟩
    refine ⟨(by show 0 ≤ sizeLine; decide), fun D nD => ?_⟩
    have Du : D ≠ u := fun z => by
      obtain ⟨_, _, _, e⟩ := hu
      rw [← z, nD] at e
      cases e
    have s0 := sub_same (o := .lst []) nD
    refine ⟨_, rfl, _, rfl, u, most, rfl, hu.same s0, by omega, ?_, fun n H1 n0 n4 u1 b1 => ?_⟩
    · rw [Int.natAbs_natCast]
      exact Nat.lt_of_le_of_lt (Nat.log2_le_self _) (by omega)
    have o1 : Old u H H1 := (Old.of_same s0).trans (Old.of_but b1)
    have hD : H1 D = some (.lst []) := (b1 D Du).trans upd_same
    obtain ⟨n, rfl⟩ : ∃ m : Nat, n = (m : Int) := ⟨n.toNat, by omega⟩
    refine ⟨_, _, rfl, rfl, _, rfl, by omega, by omega, ?_⟩
    refine for_range (lo := 0) (n := (1 + (n : Int)).toNat) (fun i σ Y => (∃ y4 y5, σ = [some (.ref u), some (.int (many : Nat)), some (.int (most : Nat)), some (.ref D), y4, y5]) ∧ Old u H Y ∧ Urn Y u ∧ ∃ (xs : List V) (l : List Stp), Y D = some (.lst xs) ∧ StpL K Y xs l ∧ l.length = i ∧ StpsOk many l)
      ⟨⟨_, _, rfl⟩, o1, u1, [], [], hD, .nil, rfl, fun k z e => by simp at e⟩ ?_ ?_
    · rintro i σ Y hi ⟨⟨y4, y5, rfl⟩, oy, uy, xs, l, hd, tv, ll, bl⟩
      have i0 : (0 : Int) + (i : Int) = i := by omega
      rw [i0]
      refine ⟨_, rfl, u, 5, rfl, uy, by decide, by decide, fun way H2 w0 w5 u2 b2 => ?_⟩
      have o2 : Old u Y H2 := Old.of_but b2
      refine ⟨_, rfl, _, _, rfl, rfl, _, rfl, ite2 (fun z1 => ?_) (fun z1 => ?_)⟩
      · refine ⟨_, rfl, rfl, _, rfl, ite2 (fun z2 => ?_) (fun z2 => ?_)⟩
        · refine ifT ?_
          have m0 : 0 < many := by
            have := of_decide_eq_true z1
            omega

          refine ⟨.ref D, rfl, tyl (o2 _ _ Du hd), ?_⟩
          refine ⟨_, rfl, _, rfl, u, many, rfl, u2, by omega, by rw [Int.natAbs_natCast]; exact Nat.lt_of_le_of_lt (Nat.log2_le_self _) (by omega), fun g H3 g0 g1 u3 b3 => ?_⟩
          obtain ⟨g, rfl⟩ : ∃ m : Nat, g = (m : Int) := ⟨g.toNat, by omega⟩
          have o3 : Old u Y H3 := o2.trans (Old.of_but b3)
          refine ⟨(by show 2 ≤ sizeLine; decide), fun p np => ?_⟩
          have s5 := sub_same (o := .tup [V.str "maker", V.int (g : Nat)]) np
          have tv3 := tv.old uy o3
          refine ⟨D, _, _, rfl, rfl, s5 _ _ (o3 _ _ Du hd), ?_, ?_⟩
          · rw [tv.len, ll, sizeLine_eq]
            omega
          refine ⟨⟨_, _, rfl⟩, fun b o n e => ?_, ?_, xs ++ [.ref p], l ++ [.mk g], upd_same, ?_, by rw [List.length_append, ll]; rfl, stps_snoc bl ?_⟩
          · rw [upd_ne (ne_of_none e nD)]
            exact s5 _ _ (o3 _ _ n (oy b o n e))
          · obtain ⟨g1, g2, g3, e⟩ := u3.same s5
            exact ⟨g1, g2, g3, (upd_ne (Ne.symm Du)).trans e⟩
          · exact (StpL.snoc (s := .mk g) (.mk (sqt_new upd_same)) (tv3.same s5)).put (s5 _ _ (o3 _ _ Du hd))
          · show g < many
            omega
        · refine ⟨_, rfl, _, _, rfl, rfl, _, rfl, ite2 (fun z3 => ?_) (fun z3 => ?_)⟩
          · have m0 : 0 < many := by
              have := of_decide_eq_true z1
              omega

            refine ⟨.ref D, rfl, tyl (o2 _ _ Du hd), ?_⟩
            refine ⟨_, rfl, _, rfl, u, many, rfl, u2, by omega, by rw [Int.natAbs_natCast]; exact Nat.lt_of_le_of_lt (Nat.log2_le_self _) (by omega), fun g H3 g0 g1 u3 b3 => ?_⟩
            obtain ⟨g, rfl⟩ : ∃ m : Nat, g = (m : Int) := ⟨g.toNat, by omega⟩
            have o3 : Old u Y H3 := o2.trans (Old.of_but b3)
            refine ⟨(by show 2 ≤ sizeLine; decide), fun p np => ?_⟩
            have s5 := sub_same (o := .tup [V.str "maker", V.int (g : Nat)]) np
            have tv3 := tv.old uy o3
            refine ⟨D, _, _, rfl, rfl, s5 _ _ (o3 _ _ Du hd), ?_, ?_⟩
            · rw [tv.len, ll, sizeLine_eq]
              omega
            refine ⟨⟨_, _, rfl⟩, fun b o n e => ?_, ?_, xs ++ [.ref p], l ++ [.mk g], upd_same, ?_, by rw [List.length_append, ll]; rfl, stps_snoc bl ?_⟩
            · rw [upd_ne (ne_of_none e nD)]
              exact s5 _ _ (o3 _ _ n (oy b o n e))
            · obtain ⟨g1, g2, g3, e⟩ := u3.same s5
              exact ⟨g1, g2, g3, (upd_ne (Ne.symm Du)).trans e⟩
            · exact (StpL.snoc (s := .mk g) (.mk (sqt_new upd_same)) (tv3.same s5)).put (s5 _ _ (o3 _ _ Du hd))
            · show g < many
              omega
          · refine ⟨_, rfl, rfl, _, rfl, ite2 (fun z4 => ?_) (fun z4 => ?_)⟩
            · refine ifT ?_

              refine ⟨.ref D, rfl, tyl (o2 _ _ Du hd), ?_⟩
              refine ⟨_, rfl, _, _, rfl, rfl, _, rfl, ite2 (fun zp => ?_) (fun zp => ?_)⟩
              · have ip : 0 < i := by
                  have := of_decide_eq_true zp
                  omega
                refine ⟨_, rfl, _, rfl, u, i, rfl, u2, ip, by omega, fun H3 v lp oo u3 l3 bp tvp => ?_⟩
                have o3 : Old u Y H3 := o2.trans oo
                refine ⟨(by show 2 ≤ sizeLine; decide), fun p np => ?_⟩
                have s5 := sub_same (o := .tup [V.str "product", v]) np
                have tv3 := tv.old uy o3
                refine ⟨D, _, _, rfl, rfl, s5 _ _ (o3 _ _ Du hd), ?_, ?_⟩
                · rw [tv.len, ll, sizeLine_eq]
                  omega
                refine ⟨⟨_, _, rfl⟩, fun b o n e => ?_, ?_, xs ++ [.ref p], l ++ [.pr lp], upd_same, ?_, by rw [List.length_append, ll]; rfl, stps_snoc bl ?_⟩
                · rw [upd_ne (ne_of_none e nD)]
                  exact s5 _ _ (o3 _ _ n (oy b o n e))
                · obtain ⟨g1, g2, g3, e⟩ := u3.same s5
                  exact ⟨g1, g2, g3, (upd_ne (Ne.symm Du)).trans e⟩
                · exact (StpL.snoc (s := .pr lp) (.pr (sqt_new upd_same) (tvp.same s5)) (tv3.same s5)).put (s5 _ _ (o3 _ _ Du hd))
                · exact ⟨l3, fun q hq => by rw [ll]; exact bp q hq⟩
              · refine ⟨(by show 0 ≤ sizeLine; decide), fun e ne => ?_⟩
                have s3 : Same H2 (upd H2 e (.tup [])) := sub_same ne
                have eE : upd H2 e (.tup []) e = some (.tup []) := upd_same
                revert s3 eE
                generalize upd H2 e (.tup []) = H3
                intro s3 eE
                have o3 : Old u Y H3 := o2.trans (Old.of_same s3)
                have u3 := u2.same s3
                refine ⟨(by show 2 ≤ sizeLine; decide), fun p np => ?_⟩
                have s5 := sub_same (o := .tup [V.str "product", V.ref e]) np
                have tv3 := tv.old uy o3
                refine ⟨D, _, _, rfl, rfl, s5 _ _ (o3 _ _ Du hd), ?_, ?_⟩
                · rw [tv.len, ll, sizeLine_eq]
                  omega
                refine ⟨⟨_, _, rfl⟩, fun b o n e => ?_, ?_, xs ++ [.ref p], l ++ [.pr []], upd_same, ?_, by rw [List.length_append, ll]; rfl, stps_snoc bl ?_⟩
                · rw [upd_ne (ne_of_none e nD)]
                  exact s5 _ _ (o3 _ _ n (oy b o n e))
                · obtain ⟨g1, g2, g3, e⟩ := u3.same s5
                  exact ⟨g1, g2, g3, (upd_ne (Ne.symm Du)).trans e⟩
                · exact (StpL.snoc (s := .pr []) (.pr (sqt_new upd_same) ⟨e, [], rfl, sqt_new (s5 _ _ eE), .nil⟩) (tv3.same s5)).put (s5 _ _ (o3 _ _ Du hd))
                · exact ⟨by decide, fun q hq => by simp at hq⟩
            · have i1 : i ≠ 0 := fun e => z4 (decide_eq_true (by rw [e]; rfl))
              refine ⟨_, rfl, _, _, rfl, rfl, _, rfl, ite2 (fun z4' => ?_) (fun z4' => ?_)⟩
              · refine ⟨.ref D, rfl, tyl (o2 _ _ Du hd), ?_⟩
                refine ⟨_, rfl, _, _, rfl, rfl, _, rfl, ite2 (fun zp => ?_) (fun zp => ?_)⟩
                · have ip : 0 < i := by
                    have := of_decide_eq_true zp
                    omega
                  refine ⟨_, rfl, _, rfl, u, i, rfl, u2, ip, by omega, fun H3 v lp oo u3 l3 bp tvp => ?_⟩
                  have o3 : Old u Y H3 := o2.trans oo
                  refine ⟨(by show 2 ≤ sizeLine; decide), fun p np => ?_⟩
                  have s5 := sub_same (o := .tup [V.str "product", v]) np
                  have tv3 := tv.old uy o3
                  refine ⟨D, _, _, rfl, rfl, s5 _ _ (o3 _ _ Du hd), ?_, ?_⟩
                  · rw [tv.len, ll, sizeLine_eq]
                    omega
                  refine ⟨⟨_, _, rfl⟩, fun b o n e => ?_, ?_, xs ++ [.ref p], l ++ [.pr lp], upd_same, ?_, by rw [List.length_append, ll]; rfl, stps_snoc bl ?_⟩
                  · rw [upd_ne (ne_of_none e nD)]
                    exact s5 _ _ (o3 _ _ n (oy b o n e))
                  · obtain ⟨g1, g2, g3, e⟩ := u3.same s5
                    exact ⟨g1, g2, g3, (upd_ne (Ne.symm Du)).trans e⟩
                  · exact (StpL.snoc (s := .pr lp) (.pr (sqt_new upd_same) (tvp.same s5)) (tv3.same s5)).put (s5 _ _ (o3 _ _ Du hd))
                  · exact ⟨l3, fun q hq => by rw [ll]; exact bp q hq⟩
                · refine ⟨(by show 0 ≤ sizeLine; decide), fun e ne => ?_⟩
                  have s3 : Same H2 (upd H2 e (.tup [])) := sub_same ne
                  have eE : upd H2 e (.tup []) e = some (.tup []) := upd_same
                  revert s3 eE
                  generalize upd H2 e (.tup []) = H3
                  intro s3 eE
                  have o3 : Old u Y H3 := o2.trans (Old.of_same s3)
                  have u3 := u2.same s3
                  refine ⟨(by show 2 ≤ sizeLine; decide), fun p np => ?_⟩
                  have s5 := sub_same (o := .tup [V.str "product", V.ref e]) np
                  have tv3 := tv.old uy o3
                  refine ⟨D, _, _, rfl, rfl, s5 _ _ (o3 _ _ Du hd), ?_, ?_⟩
                  · rw [tv.len, ll, sizeLine_eq]
                    omega
                  refine ⟨⟨_, _, rfl⟩, fun b o n e => ?_, ?_, xs ++ [.ref p], l ++ [.pr []], upd_same, ?_, by rw [List.length_append, ll]; rfl, stps_snoc bl ?_⟩
                  · rw [upd_ne (ne_of_none e nD)]
                    exact s5 _ _ (o3 _ _ n (oy b o n e))
                  · obtain ⟨g1, g2, g3, e⟩ := u3.same s5
                    exact ⟨g1, g2, g3, (upd_ne (Ne.symm Du)).trans e⟩
                  · exact (StpL.snoc (s := .pr []) (.pr (sqt_new upd_same) ⟨e, [], rfl, sqt_new (s5 _ _ eE), .nil⟩) (tv3.same s5)).put (s5 _ _ (o3 _ _ Du hd))
                  · exact ⟨by decide, fun q hq => by simp at hq⟩
              · refine ⟨.ref D, rfl, tyl (o2 _ _ Du hd), ?_⟩
                refine ⟨_, rfl, _, rfl, u, i, rfl, u2, by omega, by rw [Int.natAbs_natCast]; exact Nat.lt_of_le_of_lt (Nat.log2_le_self _) (by omega), fun g H3 g0 g1 u3 b3 => ?_⟩
                obtain ⟨g, rfl⟩ : ∃ m : Nat, g = (m : Int) := ⟨g.toNat, by omega⟩
                refine ⟨_, rfl, _, rfl, u, i, rfl, u3, by omega, by rw [Int.natAbs_natCast]; exact Nat.lt_of_le_of_lt (Nat.log2_le_self _) (by omega), fun g' H3 g0' g1' u3 b3' => ?_⟩
                obtain ⟨g', rfl⟩ : ∃ m : Nat, g' = (m : Int) := ⟨g'.toNat, by omega⟩
                have o3 : Old u Y H3 := (o2.trans (Old.of_but b3)).trans (Old.of_but b3')
                refine ⟨(by show 3 ≤ sizeLine; decide), fun p np => ?_⟩
                have s5 := sub_same (o := .tup [V.str "bracket", V.int (g : Nat), V.int (g' : Nat)]) np
                have tv3 := tv.old uy o3
                refine ⟨D, _, _, rfl, rfl, s5 _ _ (o3 _ _ Du hd), ?_, ?_⟩
                · rw [tv.len, ll, sizeLine_eq]
                  omega
                refine ⟨⟨_, _, rfl⟩, fun b o n e => ?_, ?_, xs ++ [.ref p], l ++ [.br g g'], upd_same, ?_, by rw [List.length_append, ll]; rfl, stps_snoc bl ?_⟩
                · rw [upd_ne (ne_of_none e nD)]
                  exact s5 _ _ (o3 _ _ n (oy b o n e))
                · obtain ⟨g1, g2, g3, e⟩ := u3.same s5
                  exact ⟨g1, g2, g3, (upd_ne (Ne.symm Du)).trans e⟩
                · exact (StpL.snoc (s := .br g g') (.br (sqt_new upd_same)) (tv3.same s5)).put (s5 _ _ (o3 _ _ Du hd))
                · exact ⟨by omega, by omega⟩
      · refine ifF ?_
        refine ⟨_, rfl, rfl, _, rfl, ite2 (fun z4 => ?_) (fun z4 => ?_)⟩
        · refine ifT ?_

          refine ⟨.ref D, rfl, tyl (o2 _ _ Du hd), ?_⟩
          refine ⟨_, rfl, _, _, rfl, rfl, _, rfl, ite2 (fun zp => ?_) (fun zp => ?_)⟩
          · have ip : 0 < i := by
              have := of_decide_eq_true zp
              omega
            refine ⟨_, rfl, _, rfl, u, i, rfl, u2, ip, by omega, fun H3 v lp oo u3 l3 bp tvp => ?_⟩
            have o3 : Old u Y H3 := o2.trans oo
            refine ⟨(by show 2 ≤ sizeLine; decide), fun p np => ?_⟩
            have s5 := sub_same (o := .tup [V.str "product", v]) np
            have tv3 := tv.old uy o3
            refine ⟨D, _, _, rfl, rfl, s5 _ _ (o3 _ _ Du hd), ?_, ?_⟩
            · rw [tv.len, ll, sizeLine_eq]
              omega
            refine ⟨⟨_, _, rfl⟩, fun b o n e => ?_, ?_, xs ++ [.ref p], l ++ [.pr lp], upd_same, ?_, by rw [List.length_append, ll]; rfl, stps_snoc bl ?_⟩
            · rw [upd_ne (ne_of_none e nD)]
              exact s5 _ _ (o3 _ _ n (oy b o n e))
            · obtain ⟨g1, g2, g3, e⟩ := u3.same s5
              exact ⟨g1, g2, g3, (upd_ne (Ne.symm Du)).trans e⟩
            · exact (StpL.snoc (s := .pr lp) (.pr (sqt_new upd_same) (tvp.same s5)) (tv3.same s5)).put (s5 _ _ (o3 _ _ Du hd))
            · exact ⟨l3, fun q hq => by rw [ll]; exact bp q hq⟩
          · refine ⟨(by show 0 ≤ sizeLine; decide), fun e ne => ?_⟩
            have s3 : Same H2 (upd H2 e (.tup [])) := sub_same ne
            have eE : upd H2 e (.tup []) e = some (.tup []) := upd_same
            revert s3 eE
            generalize upd H2 e (.tup []) = H3
            intro s3 eE
            have o3 : Old u Y H3 := o2.trans (Old.of_same s3)
            have u3 := u2.same s3
            refine ⟨(by show 2 ≤ sizeLine; decide), fun p np => ?_⟩
            have s5 := sub_same (o := .tup [V.str "product", V.ref e]) np
            have tv3 := tv.old uy o3
            refine ⟨D, _, _, rfl, rfl, s5 _ _ (o3 _ _ Du hd), ?_, ?_⟩
            · rw [tv.len, ll, sizeLine_eq]
              omega
            refine ⟨⟨_, _, rfl⟩, fun b o n e => ?_, ?_, xs ++ [.ref p], l ++ [.pr []], upd_same, ?_, by rw [List.length_append, ll]; rfl, stps_snoc bl ?_⟩
            · rw [upd_ne (ne_of_none e nD)]
              exact s5 _ _ (o3 _ _ n (oy b o n e))
            · obtain ⟨g1, g2, g3, e⟩ := u3.same s5
              exact ⟨g1, g2, g3, (upd_ne (Ne.symm Du)).trans e⟩
            · exact (StpL.snoc (s := .pr []) (.pr (sqt_new upd_same) ⟨e, [], rfl, sqt_new (s5 _ _ eE), .nil⟩) (tv3.same s5)).put (s5 _ _ (o3 _ _ Du hd))
            · exact ⟨by decide, fun q hq => by simp at hq⟩
        · have i1 : i ≠ 0 := fun e => z4 (decide_eq_true (by rw [e]; rfl))
          refine ⟨_, rfl, _, _, rfl, rfl, _, rfl, ite2 (fun z4' => ?_) (fun z4' => ?_)⟩
          · refine ⟨.ref D, rfl, tyl (o2 _ _ Du hd), ?_⟩
            refine ⟨_, rfl, _, _, rfl, rfl, _, rfl, ite2 (fun zp => ?_) (fun zp => ?_)⟩
            · have ip : 0 < i := by
                have := of_decide_eq_true zp
                omega
              refine ⟨_, rfl, _, rfl, u, i, rfl, u2, ip, by omega, fun H3 v lp oo u3 l3 bp tvp => ?_⟩
              have o3 : Old u Y H3 := o2.trans oo
              refine ⟨(by show 2 ≤ sizeLine; decide), fun p np => ?_⟩
              have s5 := sub_same (o := .tup [V.str "product", v]) np
              have tv3 := tv.old uy o3
              refine ⟨D, _, _, rfl, rfl, s5 _ _ (o3 _ _ Du hd), ?_, ?_⟩
              · rw [tv.len, ll, sizeLine_eq]
                omega
              refine ⟨⟨_, _, rfl⟩, fun b o n e => ?_, ?_, xs ++ [.ref p], l ++ [.pr lp], upd_same, ?_, by rw [List.length_append, ll]; rfl, stps_snoc bl ?_⟩
              · rw [upd_ne (ne_of_none e nD)]
                exact s5 _ _ (o3 _ _ n (oy b o n e))
              · obtain ⟨g1, g2, g3, e⟩ := u3.same s5
                exact ⟨g1, g2, g3, (upd_ne (Ne.symm Du)).trans e⟩
              · exact (StpL.snoc (s := .pr lp) (.pr (sqt_new upd_same) (tvp.same s5)) (tv3.same s5)).put (s5 _ _ (o3 _ _ Du hd))
              · exact ⟨l3, fun q hq => by rw [ll]; exact bp q hq⟩
            · refine ⟨(by show 0 ≤ sizeLine; decide), fun e ne => ?_⟩
              have s3 : Same H2 (upd H2 e (.tup [])) := sub_same ne
              have eE : upd H2 e (.tup []) e = some (.tup []) := upd_same
              revert s3 eE
              generalize upd H2 e (.tup []) = H3
              intro s3 eE
              have o3 : Old u Y H3 := o2.trans (Old.of_same s3)
              have u3 := u2.same s3
              refine ⟨(by show 2 ≤ sizeLine; decide), fun p np => ?_⟩
              have s5 := sub_same (o := .tup [V.str "product", V.ref e]) np
              have tv3 := tv.old uy o3
              refine ⟨D, _, _, rfl, rfl, s5 _ _ (o3 _ _ Du hd), ?_, ?_⟩
              · rw [tv.len, ll, sizeLine_eq]
                omega
              refine ⟨⟨_, _, rfl⟩, fun b o n e => ?_, ?_, xs ++ [.ref p], l ++ [.pr []], upd_same, ?_, by rw [List.length_append, ll]; rfl, stps_snoc bl ?_⟩
              · rw [upd_ne (ne_of_none e nD)]
                exact s5 _ _ (o3 _ _ n (oy b o n e))
              · obtain ⟨g1, g2, g3, e⟩ := u3.same s5
                exact ⟨g1, g2, g3, (upd_ne (Ne.symm Du)).trans e⟩
              · exact (StpL.snoc (s := .pr []) (.pr (sqt_new upd_same) ⟨e, [], rfl, sqt_new (s5 _ _ eE), .nil⟩) (tv3.same s5)).put (s5 _ _ (o3 _ _ Du hd))
              · exact ⟨by decide, fun q hq => by simp at hq⟩
          · refine ⟨.ref D, rfl, tyl (o2 _ _ Du hd), ?_⟩
            refine ⟨_, rfl, _, rfl, u, i, rfl, u2, by omega, by rw [Int.natAbs_natCast]; exact Nat.lt_of_le_of_lt (Nat.log2_le_self _) (by omega), fun g H3 g0 g1 u3 b3 => ?_⟩
            obtain ⟨g, rfl⟩ : ∃ m : Nat, g = (m : Int) := ⟨g.toNat, by omega⟩
            refine ⟨_, rfl, _, rfl, u, i, rfl, u3, by omega, by rw [Int.natAbs_natCast]; exact Nat.lt_of_le_of_lt (Nat.log2_le_self _) (by omega), fun g' H3 g0' g1' u3 b3' => ?_⟩
            obtain ⟨g', rfl⟩ : ∃ m : Nat, g' = (m : Int) := ⟨g'.toNat, by omega⟩
            have o3 : Old u Y H3 := (o2.trans (Old.of_but b3)).trans (Old.of_but b3')
            refine ⟨(by show 3 ≤ sizeLine; decide), fun p np => ?_⟩
            have s5 := sub_same (o := .tup [V.str "bracket", V.int (g : Nat), V.int (g' : Nat)]) np
            have tv3 := tv.old uy o3
            refine ⟨D, _, _, rfl, rfl, s5 _ _ (o3 _ _ Du hd), ?_, ?_⟩
            · rw [tv.len, ll, sizeLine_eq]
              omega
            refine ⟨⟨_, _, rfl⟩, fun b o n e => ?_, ?_, xs ++ [.ref p], l ++ [.br g g'], upd_same, ?_, by rw [List.length_append, ll]; rfl, stps_snoc bl ?_⟩
            · rw [upd_ne (ne_of_none e nD)]
              exact s5 _ _ (o3 _ _ n (oy b o n e))
            · obtain ⟨g1, g2, g3, e⟩ := u3.same s5
              exact ⟨g1, g2, g3, (upd_ne (Ne.symm Du)).trans e⟩
            · exact (StpL.snoc (s := .br g g') (.br (sqt_new upd_same)) (tv3.same s5)).put (s5 _ _ (o3 _ _ Du hd))
            · exact ⟨by omega, by omega⟩
    · rintro σ Y ⟨⟨y4, y5, rfl⟩, oy, uy, xs, l, hd, tv, ll, bl⟩
      refine ⟨_, rfl, .inl ⟨D, _, rfl, .inl (.inl hd), fun p np => ?_⟩⟩
      exact q _ (.ref p) l (oy.trans (Old.of_same (sub_same np))) (uy.same (sub_same np)) (by omega) (by omega) bl ⟨p, xs, rfl, sqt_new upd_same, tv.same (sub_same np)⟩
end
end K18
/-! # the law: worths -/
namespace K18
open PySem PySem.Spec PyProof.Rows L2 TL NumText RZ
abbrev zN : Tri → Int := fun _ => 0
/-- the product of powers of what is there -/
def prodN (Ws : List (Tri → Int)) (l : List (Nat × Int)) : Tri → Int := l.foldl (fun acc p => mulN acc (powZ (Ws.getD p.1 zN) p.2)) zN
/-- the worth of a step, behind those ahead -/
def valS (ns : List Int) (Ms Ws : List (Tri → Int)) : Stp → (Tri → Int)
  | .mk i => Ms.getD i zN
  | .pr l => prodN Ws l
  | .br i j => brN (Ws.getD i zN) (Ws.getD j zN) ns
def valsL (ns : List Int) (Ms : List (Tri → Int)) (ss : List Stp) : List (Tri → Int) := ss.foldl (fun Ws s => Ws ++ [valS ns Ms Ws s]) []
theorem vals_snoc (ns : List Int) (Ms : List (Tri → Int)) (ss : List Stp) (s : Stp) : valsL ns Ms (ss ++ [s]) = valsL ns Ms ss ++ [valS ns Ms (valsL ns Ms ss) s] := by
  unfold valsL
  rw [List.foldl_append]
  rfl
theorem vals_len (ns : List Int) (Ms : List (Tri → Int)) : ∀ (k : Nat) (ss : List Stp), ss.length = k → (valsL ns Ms ss).length = k
  | 0, ss, h => by
    have e : ss = [] := List.length_eq_zero_iff.mp h
    rw [e]
    rfl
  | k + 1, ss, h => by
    have ne : ss ≠ [] := fun e => by rw [e] at h; cases h
    have e := List.dropLast_concat_getLast ne
    rw [← e, vals_snoc, List.length_append, vals_len ns Ms k ss.dropLast (by rw [List.length_dropLast]; omega)]
    rfl
theorem prod_snoc (Ws : List (Tri → Int)) (l : List (Nat × Int)) (p : Nat × Int) : prodN Ws (l ++ [p]) = mulN (prodN Ws l) (powZ (Ws.getD p.1 zN) p.2) := by
  unfold prodN
  rw [List.foldl_append]
  rfl
theorem zero_wt (c : Nat) (ns : List Int) : WtB c zN ns := fun _ _ => Nat.zero_le _
theorem getD_wt {ns : List Int} {c : Nat} {Ws : List (Tri → Int)} (h : ∀ W ∈ Ws, WtB c W ns) (i : Nat) : WtB c (Ws.getD i zN) ns := by
  rw [List.getD_eq_getElem?_getD]
  cases e : Ws[i]? with
  | none => exact zero_wt c ns
  | some W => exact h W (List.mem_of_getElem? e)
theorem pw_wt {ns : List Int} (S : Shp ns) {c : Nat} {F : Tri → Int} (h : WtB c F ns) {n : Int} (n3 : n.natAbs ≤ 3) : WtB (1728 * c) (powZ F n) ns := by
  refine wt_up (pz_wt2 S h n) ?_
  have a : (n.natAbs + 6) * (32 * c) ≤ 9 * (32 * c) := Nat.mul_le_mul_right _ (by omega)
  omega
theorem prod_wt {ns : List Int} (S : Shp ns) {c : Nat} {Ws : List (Tri → Int)} (h : ∀ W ∈ Ws, WtB c W ns) : ∀ (k : Nat) (l : List (Nat × Int)), l.length = k → (∀ p ∈ l, p.2.natAbs ≤ 3) → WtB (2 ^ k * (1728 * c)) (prodN Ws l) ns
  | 0, l, e, _ => by
    rw [List.length_eq_zero_iff.mp e]
    exact zero_wt _ ns
  | k + 1, l, e, b => by
    have ne : l ≠ [] := fun z => by rw [z] at e; cases e
    have z := List.dropLast_concat_getLast ne
    rw [← z] at b ⊢
    rw [prod_snoc]
    have ih := prod_wt S h k l.dropLast (by rw [List.length_dropLast]; omega) fun p hp => b p (List.mem_append_left _ hp)
    have pw := pw_wt S (getD_wt h (l.getLast ne).1) (b (l.getLast ne) (List.mem_append_right _ (List.mem_singleton.mpr rfl)))
    refine wt_up (wt_mul S ih (wt_up pw (Nat.le_mul_of_pos_left _ (Nat.two_pow_pos k)))) ?_
    rw [Nat.pow_succ, Nat.mul_comm (2 ^ k) 2, Nat.mul_assoc]
    exact Nat.le_refl _
theorem val_wt {ns : List Int} (S : Shp ns) {c many k : Nat} {Ms Ws : List (Tri → Int)} (hm : ∀ M ∈ Ms, WtB c M ns) (h : ∀ W ∈ Ws, WtB c W ns) {s : Stp} (o : s.ok many k) : WtB (2 ^ 14 * c) (valS ns Ms Ws s) ns := by
  cases s with
  | mk i => exact wt_up (getD_wt hm i) (Nat.le_mul_of_pos_left _ (by decide))
  | pr l =>
    refine wt_up (prod_wt S h l.length l rfl fun p hp => (o.2 p hp).2) ?_
    have a : 2 ^ l.length ≤ 2 ^ 3 := Nat.pow_le_pow_right (by decide) o.1
    have b : 2 ^ l.length * (1728 * c) ≤ 2 ^ 3 * (1728 * c) := Nat.mul_le_mul_right _ a
    omega
  | br i j => exact wt_up (br_wt S (getD_wt h i) (getD_wt h j)) (Nat.mul_le_mul_right _ (by decide))
theorem vals_wt {ns : List Int} (S : Shp ns) {c many : Nat} {Ms : List (Tri → Int)} (hm : ∀ M ∈ Ms, WtB c M ns) : ∀ (k : Nat) (ss : List Stp), ss.length = k → StpsOk many ss → ∀ W ∈ valsL ns Ms ss, WtB (2 ^ (14 * k) * c) W ns
  | 0, ss, e, _ => by
    rw [List.length_eq_zero_iff.mp e]
    intro W hW
    cases hW
  | k + 1, ss, e, o => by
    have ne : ss ≠ [] := fun z => by rw [z] at e; cases e
    have z := List.dropLast_concat_getLast ne
    have dl : ss.dropLast.length = k := by rw [List.length_dropLast]; omega
    have o2 : StpsOk many ss.dropLast := fun i s h => o i s (by rw [← z]; rw [List.getElem?_append_left (List.getElem?_eq_some_iff.mp h).1]; exact h)
    have ih := vals_wt S hm k ss.dropLast dl o2
    have up : 2 ^ (14 * k) * c ≤ 2 ^ (14 * (k + 1)) * c := Nat.mul_le_mul_right _ (Nat.pow_le_pow_right (by decide) (by omega))
    have cu : c ≤ 2 ^ (14 * k) * c := Nat.le_mul_of_pos_left _ (Nat.two_pow_pos _)
    have lst : ss[k]? = some (ss.getLast ne) := by
      rw [List.getLast_eq_getElem]
      have e9 : ss.length - 1 = k := by omega
      simp only [e9]
      exact List.getElem?_eq_getElem _
    rw [← z, vals_snoc]
    intro W hW
    rcases List.mem_append.mp hW with m | m
    · exact wt_up (ih W m) up
    · rw [List.mem_singleton.mp m]
      have ol : (ss.getLast ne).ok many k := o k _ lst
      refine wt_up (val_wt S (fun M h => wt_up (hm M h) cu) ih ol) ?_
      rw [show 14 * (k + 1) = 14 + 14 * k by omega, Nat.pow_add, Nat.mul_assoc]
      exact Nat.le_refl _
end K18
/-! # the law: worths, the def -/
namespace K18
open PySem PySem.Spec PyProof.Rows L2 TL NumText RZ
theorem tup_of {K : PySem.W.Frag} {H : Hp} {v : V} {ds : List PyData} (h : Tv K H v (.tuple ds)) : ∃ c ws, v = .ref c ∧ SqT K H c ws ∧ TvL K H ws ds := by
  cases h with
  | tup e l => exact ⟨_, _, rfl, e, l⟩
theorem two_of {K : PySem.W.Frag} {H : Hp} {ws : List V} {a b : PyData} (h : TvL K H ws [a, b]) : ∃ x y, ws = [x, y] ∧ Tv K H x a ∧ Tv K H y b := by
  cases h with
  | cons a t => cases t with
    | cons b t =>
      cases t
      exact ⟨_, _, rfl, a, b⟩
theorem int_of {K : PySem.W.Frag} {H : Hp} {x : V} {i : Int} (h : Tv K H x (.int i)) : x = .int i := by
  cases h
  rfl
theorem str_of {K : PySem.W.Frag} {H : Hp} {x : V} {z : Str} (h : Tv K H x (.str z)) : x = .str z := by
  cases h
  rfl
/-- how a step is laid -/
theorem mk_of {K : PySem.W.Frag} {H : Hp} {v : V} {i : Nat} (h : Tv K H v (stepD (.mk i))) : ∃ c, v = .ref c ∧ SqT K H c [.str "maker", .int (i : Nat)] := by
  obtain ⟨c, ws, rfl, e, l⟩ := tup_of h
  obtain ⟨x, y, rfl, a, b⟩ := two_of l
  rw [str_of a, int_of b] at e
  exact ⟨c, rfl, e⟩
theorem pr_of {K : PySem.W.Frag} {H : Hp} {v : V} {l : List (Nat × Int)} (h : Tv K H v (stepD (.pr l))) : ∃ c y, v = .ref c ∧ SqT K H c [.str "product", y] ∧ Tv K H y (.tuple (l.map pairD)) := by
  obtain ⟨c, ws, rfl, e, l⟩ := tup_of h
  obtain ⟨x, y, rfl, a, b⟩ := two_of l
  rw [str_of a] at e
  exact ⟨c, y, rfl, e, b⟩
theorem br_of {K : PySem.W.Frag} {H : Hp} {v : V} {i j : Nat} (h : Tv K H v (stepD (.br i j))) : ∃ c, v = .ref c ∧ SqT K H c [.str "bracket", .int (i : Nat), .int (j : Nat)] := by
  obtain ⟨c, ws, rfl, e, l⟩ := tup_of h
  cases l with
  | cons a t =>
    obtain ⟨x, y, rfl, b, d⟩ := two_of t
    rw [str_of a, int_of b, int_of d] at e
    exact ⟨c, rfl, e⟩
theorem pair_of {K : PySem.W.Frag} {H : Hp} {v : V} {p : Nat × Int} (h : Tv K H v (pairD p)) : ∃ c, v = .ref c ∧ SqT K H c [.int (p.1 : Nat), .int p.2] := by
  obtain ⟨c, ws, rfl, e, l⟩ := tup_of h
  obtain ⟨x, y, rfl, a, b⟩ := two_of l
  rw [int_of a, int_of b] at e
  exact ⟨c, rfl, e⟩
theorem NTs.at {K : PySem.W.Frag} {H : Hp} {ns : List Int} {xs : List V} {Fs : List (Tri → Int)} (h : NTs K H ns xs Fs) {i : Nat} (l : i < Fs.length) : ∃ a, xs[i]? = some (.ref a) ∧ NT K H a (Fs.getD i zN) ns := by
  have lx : i < xs.length := by rw [h.len]; exact l
  obtain ⟨a, F, e1, e2, e3⟩ := h.get (List.getElem?_eq_getElem lx)
  refine ⟨a, by rw [List.getElem?_eq_getElem lx, e1], ?_⟩
  rw [List.getD_eq_getElem?_getD, e2]
  exact e3
section
variable {P : Program} {w : World} {K : PySem.W.Frag} {mg : Str → Option Value} {base : Heap}
abbrev s_lworths : Stmt := topS 77
theorem sc_lworths : FnScope ["_law_terms_here", "_law_raws", "_law_steps_here", "_law_found", "_law_step", "_law_made", "_law_at", "_law_many"] ["_law_terms_here", "_law_raws", "_law_steps_here"] (defScope s_lworths) := ⟨rfl, rfl, rfl, by decide +kernel, rfl, by decide +kernel, by decide +kernel⟩
def spLWorths (K : PySem.W.Frag) : Sp := fun vs H Q _ => ∃ (TM L : Addr) (v : V) (ns : List Int) (xs : List V) (Ms : List (Tri → Int)) (ss : List Stp) (c : Nat), vs = [.ref TM, .ref L, v] ∧ Tms K H TM (tmL ns) ∧ H L = some (.lst xs) ∧ NTs K H ns xs Ms ∧ Tv K H v (.tuple (ss.map stepD)) ∧ Shp ns ∧ StpsOk Ms.length ss ∧
  (∀ M ∈ Ms, WtB c M ns) ∧ 2 ^ (14 * ss.length) * c ≤ 2 ^ 180 ∧ ss.length ≤ 100 ∧ ∀ H' p ys, Same H H' → H p = none → H' p = some (.lst ys) → NTs K H' ns ys (valsL ns Ms ss) → Q (.ref p) H'
theorem ok_lworths {f f1 f2 f3 : Addr} {fd fd1 fd2 fd3 : FuncData} (T : Txt mg) (N : Nam mg) (d : D K mg "_law_worths" s_lworths ["_law_terms_here", "_law_raws", "_law_steps_here"] f fd)
    (d1 : D K mg "_law_twist" s_twist ["_law_terms_here", "_law_one", "_law_other"] f1 fd1) (G1 : FnOk P w K mg base CX0 2 f1 fd1 ["_law_terms_here", "_law_one", "_law_other"] (spTwist K))
    (d2 : D K mg "_law_mixed" s_mixed ["_law_terms_here", "_law_one", "_law_other"] f2 fd2) (G2 : FnOk P w K mg base CX0 1 f2 fd2 ["_law_terms_here", "_law_one", "_law_other"] (spMixed K))
    (d3 : D K mg "_law_raised" s_raised ["_law_terms_here", "_law_one", "_law_many"] f3 fd3) (G3 : FnOk P w K mg base CX0 2 f3 fd3 ["_law_terms_here", "_law_one", "_law_many"] (spRaised K)) : FnOk P w K mg base CX0 3 f fd ["_law_terms_here", "_law_raws", "_law_steps_here"] (spLWorths K) := by
  refine d.F.ok sc_lworths (fun vs H Q E h => ?_) (fun cdv A outer s H vs Q E hr h => ?_)
  · obtain ⟨TM, L, v, ns, xs, Ms, ss, c, rfl, _⟩ := h
    rfl
  · obtain ⟨TM, L, v, ns, xs, Ms, ss, c, rfl, tm, eL, nt, ts, S, ok, wm, c2, l100, q⟩ := h
    obtain ⟨SA, ws, rfl, eS, tv⟩ := tup_of ts
    refine ⟨_, (pss_cons (ps_set (i := 3) sc_lworths.nd rfl (.inl rfl) (pe_lst pa_nil))
      (pss_cons (ps_for PassesOwn.never rfl (pi_tup (pv 2)) (pg_name (i := 4) sc_lworths.nd rfl (.inl rfl))
        (pss_cons (ps_if (pt_cmpR op_eq (pe_ix ix_tup (pv 4) pe_int (fun _ _ => rfl)) pe_str (nomark _)) (pss_one (ps_set (i := 5) sc_lworths.nd rfl (.inl rfl) (pe_ix ix_list (pv 1) (pe_ix ix_tup (pv 4) pe_int (fun _ _ => rfl)) (fun _ _ => rfl)))) (pss_one (ps_if (pt_cmpR op_eq (pe_ix ix_tup (pv 4) pe_int (fun _ _ => rfl)) pe_str (nomark _)) (pss_one (ps_set (i := 5) sc_lworths.nd rfl (.inl rfl) (pe_call G1 (hr.mono (by decide)) (by rfl) d1.g d1.F.kp d1.b .nil pass0 (pa_cons (pv 0) (pa_cons (pe_ix ix_list (pv 3) (pe_ix ix_tup (pv 4) pe_int (fun _ _ => rfl)) (fun _ _ => rfl)) (pa_cons (pe_ix ix_list (pv 3) (pe_ix ix_tup (pv 4) pe_int (fun _ _ => rfl)) (fun _ _ => rfl)) pa_nil)))))) (pss_cons (ps_set (i := 5) sc_lworths.nd rfl (.inl rfl) (pe_tupleOf (by rfl) T.n_tuple (pe_op op_rep (pe_lst (pa_cons pe_int pa_nil)) (pe_callB call_len_seq (by rfl) T.n_len PySem.boot_len (pa_cons (pv 0) pa_nil)))))
      (pss_one (ps_for PassesOwn.never rfl (pi_tup (pe_ix ix_tup (pv 4) pe_int (fun _ _ => rfl))) (pg_tup rfl (pgs_cons (pg_name (i := 6) sc_lworths.nd rfl (.inl rfl)) (pgs_cons (pg_name (i := 7) sc_lworths.nd rfl (.inl rfl)) pgs_nil)))
        (pss_one (ps_set (i := 5) sc_lworths.nd rfl (.inl rfl) (pe_call G2 (hr.mono (by decide)) (by rfl) d2.g d2.F.kp d2.b .nil pass0 (pa_cons (pv 0) (pa_cons (pv 5) (pa_cons (pe_call G3 (hr.mono (by decide)) (by rfl) d3.g d3.F.kp d3.b .nil pass0 (pa_cons (pv 0) (pa_cons (pe_ix ix_list (pv 3) (pv 6) (fun _ _ => rfl)) (pa_cons (pv 7) pa_nil)))) pa_nil))))))))))))
      (pss_one (ps_expr (pe_bm PySem.F.plainAttrs_list PySem.F.slot_list_append PySem.F.type_list_append mt_append (pv 3) (pa_cons (pv 5) pa_nil))))))
      (pss_one (ps_ret (pv 3))))), ?_⟩
    have lws : ws.length = ss.length := by rw [tv.len, List.length_map]
    refine ⟨(by show 0 ≤ sizeLine; decide), fun D nD => ?_⟩
    have s0 := sub_same (o := .lst []) nD
    refine ⟨_, rfl, SA, rfl, ⟨ws, sqt_same eS s0⟩, ?_⟩
    refine for_it (walk_tup (K := K) (a := SA) (xs := ws)) (fun i σ Y => (∃ y4 y5 y6 y7, σ = [some (.ref TM), some (.ref L), some (.ref SA), some (.ref D), y4, y5, y6, y7]) ∧ Same H Y ∧ ∃ ys, Y D = some (.lst ys) ∧ NTs K Y ns ys (valsL ns Ms (ss.take i)))
      ⟨⟨_, _, _, _, rfl⟩, s0, [], upd_same, .nil⟩ (fun i σ Y _ h => sqt_same eS h.2.1) ?_ ?_
    · rintro i v σ Y Y' hi ⟨⟨y4, y5, y6, y7, rfl⟩, sy, ys, hd, nw⟩ ⟨rfl, ev⟩
      obtain ⟨d0, e0, t0⟩ := tv.get ev
      rw [List.getElem?_map] at e0
      obtain ⟨st, es, rfl⟩ := Option.map_eq_some_iff.mp e0
      have il := (List.getElem?_eq_some_iff.mp es).1
      have t1 := t0.same sy
      have lt : (ss.take i).length = i := by rw [List.length_take]; omega
      have lv : (valsL ns Ms (ss.take i)).length = i := vals_len ns Ms i _ lt
      have okt : StpsOk Ms.length (ss.take i) := fun k s h => ok k s (by rw [List.getElem?_take] at h; split at h; exact h; cases h)
      have tk : ss.take (i + 1) = ss.take i ++ [st] := by rw [List.take_succ, es]; rfl
      have ci : 2 ^ (14 * i) * c ≤ 2 ^ 180 := Nat.le_trans (Nat.mul_le_mul_right _ (Nat.pow_le_pow_right (by decide) (by omega))) c2
      have wv := vals_wt S wm i (ss.take i) lt okt
      have oks := ok i st es
      have tmY := tm.same sy
      have ly : ys.length = i := by rw [nw.len]; exact lv
      have fin : ∀ (Z : Hp) (b : Addr), Same Y' Z → NT K Z b (valS ns Ms (valsL ns Ms (ss.take i)) st) ns → ∀ R : Hp → Prop, (∀ H1, (Same H H1 ∧ ∃ ys, H1 D = some (.lst ys) ∧ NTs K H1 ns ys (valsL ns Ms (ss.take (i + 1)))) → R H1) → rAppend (.ref D) [.ref b] Z (fun _ H1 => R H1) := fun Z b sz nb R k => by
        refine ⟨D, _, _, rfl, rfl, sz _ _ hd, ?_, k _ ⟨fun b o e => ?_, ys ++ [.ref b], upd_same, ?_⟩⟩
        · rw [ly, sizeLine_eq]
          omega
        · rw [upd_ne (ne_of_none e nD)]
          exact sz _ _ (sy _ _ e)
        · rw [tk, vals_snoc]
          exact ((nw.same sz).snoc nb).putL (sz _ _ hd)
      cases st with
      | mk g =>
        obtain ⟨cc, rfl, ec⟩ := mk_of t1
        refine ⟨_, rfl, cc, _, _, .str "maker", rfl, rfl, ec, atI_nat (j := 0) rfl, rfl, _, rfl, ite2 (fun z => ?_) (fun z => ?_)⟩
        · obtain ⟨ra, er, na⟩ := (nt.same sy).at (i := g) oks
          refine ⟨.ref L, rfl, _, rfl, cc, _, _, .int (g : Nat), rfl, rfl, ec, atI_nat (j := 1) rfl, L, xs, _, _, rfl, rfl, .inl (.inl (sy _ _ eL)), atI_nat er, ?_⟩
          refine ⟨.ref D, rfl, tyl hd, _, rfl, ?_⟩
          exact fin Y' ra (Same.refl _) na _ fun H1 h => ⟨⟨_, _, _, _, rfl⟩, h⟩
        · exact absurd (decide_eq_true rfl) z
      | pr lp =>
        obtain ⟨cc, y, rfl, ec, ty⟩ := pr_of t1
        obtain ⟨pc, pw, rfl, epc, tvp⟩ := tup_of ty
        have lpw : pw.length = lp.length := by rw [tvp.len, List.length_map]
        refine ⟨_, rfl, cc, _, _, .str "product", rfl, rfl, ec, atI_nat (j := 0) rfl, rfl, _, rfl, ite2 (fun z => absurd (V.str.inj (of_decide_eq_true z)) (by decide +kernel)) (fun z => ?_)⟩
        refine ⟨_, rfl, cc, _, _, .str "product", rfl, rfl, ec, atI_nat (j := 0) rfl, rfl, _, rfl, ite2 (fun z => absurd (V.str.inj (of_decide_eq_true z)) (by decide +kernel)) (fun z => ?_)⟩
        obtain ⟨us, eu, pm⟩ := id tmY
        have lu : us.length = (pl ns).length := by rw [pm.len]; unfold tmL; rw [List.length_map]
        have l30 := (tables3 ns (shp_mem S)).2.1
        refine ⟨(by show 1 ≤ sizeLine; decide), fun L1 nL1 => ?_⟩
        have s4 := sub_same (o := .lst [V.int 0]) nL1
        refine ⟨_, rfl, TM, us, rfl, .inl (.inl (.inl (s4 _ _ eu))), ?_⟩
        refine ⟨L1, _, _, rfl, rfl, upd_same, ?_, ?_, ?_, fun p np => .inl ⟨p, _, rfl, .inl (.inl upd_same), fun r nr => ?_⟩⟩
        · omega
        · omega
        · rw [sizeLine_eq, lu]
          show 1 * _ ≤ _
          omega
        have z0 : (List.replicate ((us.length : Int)).toNat [V.int 0]).flatten = (numsL (fun _ => 0) ns).map V.int := zeros_nums ns (by rw [Int.toNat_natCast]; exact lu)
        rw [z0] at nr ⊢
        have s5 := (s4.trans (sub_same (o := .lst ((numsL (fun _ => 0) ns).map V.int)) np)).trans (sub_same (o := .tup ((numsL (fun _ => 0) ns).map V.int)) nr)
        have er : NT K (upd (upd (upd Y' L1 (.lst [V.int 0])) p (.lst ((numsL (fun _ => 0) ns).map V.int))) r (.tup ((numsL (fun _ => 0) ns).map V.int))) r zN ns := .inl (.inl upd_same)
        revert s5 er
        generalize upd (upd (upd Y' L1 (.lst [V.int 0])) p (.lst ((numsL (fun _ => 0) ns).map V.int))) r (.tup ((numsL (fun _ => 0) ns).map V.int)) = Y5
        intro s5 er
        refine ⟨_, rfl, cc, _, _, _, rfl, rfl, sqt_same ec s5, atI_nat (j := 1) rfl, pc, rfl, ⟨pw, sqt_same epc s5⟩, ?_⟩
        refine for_it (walk_tup (K := K) (a := pc) (xs := pw)) (fun j σ Z => (∃ y6 y7 R, σ = [some (.ref TM), some (.ref L), some (.ref SA), some (.ref D), some (.ref cc), some (.ref R), y6, y7] ∧ NT K Z R (prodN (valsL ns Ms (ss.take i)) (lp.take j)) ns) ∧ Same Y' Z)
          ⟨⟨_, _, r, rfl, er⟩, s5⟩ (fun j σ Z _ h => sqt_same epc h.2) ?_ ?_
        · rintro j v σ Z Z' hj ⟨⟨y6, y7, R, rfl, nR⟩, sz⟩ ⟨rfl, ev2⟩
          obtain ⟨d2, e2, t2⟩ := tvp.get ev2
          rw [List.getElem?_map] at e2
          obtain ⟨pp, ep, rfl⟩ := Option.map_eq_some_iff.mp e2
          have mp : pp ∈ lp := List.mem_of_getElem? ep
          obtain ⟨qa, rfl, eqa⟩ := pair_of (t2.same sz)
          have okp := oks.2 pp mp
          have tkp : lp.take (j + 1) = lp.take j ++ [pp] := by rw [List.take_succ, ep]; rfl
          have lj : (lp.take j).length ≤ 3 := by rw [List.length_take]; have := oks.1; omega
          have wp := prod_wt S wv (lp.take j).length (lp.take j) rfl fun p hp => (oks.2 p (List.mem_of_mem_take hp)).2
          have wq := pw_wt S (getD_wt wv pp.1) okp.2
          have b1 : 2 ^ (lp.take j).length * (1728 * (2 ^ (14 * i) * c)) ≤ 2 ^ 1000 := Nat.le_trans (Nat.mul_le_mul (Nat.pow_le_pow_right (by decide) lj) (Nat.mul_le_mul_left 1728 ci)) (by decide +kernel)
          have b2 : 1728 * (2 ^ (14 * i) * c) ≤ 2 ^ 1000 := Nat.le_trans (Nat.mul_le_mul_left 1728 ci) (by decide +kernel)
          refine ⟨qa, _, rfl, eqa, rfl, _, _, rfl, _, _, rfl, rfl, ?_⟩
          obtain ⟨ra, era, na⟩ := nw.at (i := pp.1) (by rw [lv]; exact okp.1)
          refine ⟨_, rfl, _, rfl, _, rfl, .ref D, rfl, _, rfl, D, ys, _, _, rfl, rfl, .inl (.inl (sz _ _ hd)), atI_nat era, _, rfl, ?_⟩
          refine ⟨TM, ra, ns, _, _, _, rfl, tmY.same sz, sqt_same na sz, S, getD_wt wv pp.1, Nat.le_trans ci (Nat.pow_le_pow_right (by decide) (by decide)), Nat.le_trans okp.2 (by decide +kernel), fun Z2 b s2 nb => ?_⟩
          refine ⟨TM, R, b, ns, _, _, rfl, (tmY.same sz).same s2, sqt_same nR s2, nb, S, wt_wd S wp b1, wt_wd S wq b2, fun Z3 b3 s3 n3 e3 => ?_⟩
          refine ⟨⟨_, _, b3, rfl, ?_⟩, sz.trans (s2.trans s3)⟩
          rw [tkp, prod_snoc]
          exact .inl (.inl e3)
        · rintro σ Z ⟨⟨y6, y7, R, rfl, nR⟩, sz⟩
          rw [lpw, List.take_length] at nR
          refine ⟨.ref D, rfl, tyl (sz _ _ hd), _, rfl, ?_⟩
          exact fin Z R sz nR _ fun H1 h => ⟨⟨_, _, _, _, rfl⟩, h⟩
      | br g g' =>
        obtain ⟨cc, rfl, ec⟩ := br_of t1
        refine ⟨_, rfl, cc, _, _, .str "bracket", rfl, rfl, ec, atI_nat (j := 0) rfl, rfl, _, rfl, ite2 (fun z => absurd (V.str.inj (of_decide_eq_true z)) (by decide +kernel)) (fun z => ?_)⟩
        refine ⟨_, rfl, cc, _, _, .str "bracket", rfl, rfl, ec, atI_nat (j := 0) rfl, rfl, _, rfl, ite2 (fun z => ?_) (fun z => absurd (decide_eq_true rfl) z)⟩
        obtain ⟨ra, er, na⟩ := nw.at (i := g) (by rw [lv]; exact oks.1)
        obtain ⟨rb, er', nb⟩ := nw.at (i := g') (by rw [lv]; exact oks.2)
        refine ⟨_, rfl, .ref D, rfl, _, rfl, cc, _, _, .int (g : Nat), rfl, rfl, ec, atI_nat (j := 1) rfl, D, ys, _, _, rfl, rfl, .inl (.inl hd), atI_nat er, ?_⟩
        refine ⟨.ref D, rfl, _, rfl, cc, _, _, .int (g' : Nat), rfl, rfl, ec, atI_nat (j := 2) rfl, D, ys, _, _, rfl, rfl, .inl (.inl hd), atI_nat er', ?_⟩
        refine ⟨TM, ra, rb, ns, _, _, _, rfl, tmY, na, nb, S, getD_wt wv g, getD_wt wv g', Nat.le_trans ci (Nat.pow_le_pow_right (by decide) (by decide)), fun Z b sz nz => ?_⟩
        refine ⟨.ref D, rfl, tyl (sz _ _ hd), _, rfl, ?_⟩
        exact fin Z b sz nz _ fun H1 h => ⟨⟨_, _, _, _, rfl⟩, h⟩
    · rintro σ Y ⟨⟨y4, y5, y6, y7, rfl⟩, sy, ys, hd, nw⟩
      rw [lws, List.take_length] at nw
      exact ⟨_, rfl, q Y D ys sy nD hd nw⟩
end
end K18
/-! # the law: worth -/
namespace K18
open PySem PySem.Spec PyProof.Rows L2 TL NumText RZ
/-- the worth of steps: that of the last one -/
def lastS (ns : List Int) (Ms : List (Tri → Int)) (ss : List Stp) : Tri → Int := (valsL ns Ms ss).getD (ss.length - 1) zN
theorem at_last {xs : List V} {v : V} (h : xs[xs.length - 1]? = some v) : atI xs (-1) = some v := by
  have ne : xs ≠ [] := by
    intro e
    rw [e] at h
    cases h
  have z := List.dropLast_concat_getLast ne
  have e : xs.getLast ne = v := by
    rw [List.getLast_eq_getElem]
    exact Option.some.inj ((List.getElem?_eq_getElem _).symm.trans h)
  rw [← z, e]
  exact atI_last _ _
section
variable {P : Program} {w : World} {K : PySem.W.Frag} {mg : Str → Option Value} {base : Heap}
abbrev s_lworth : Stmt := topS 78
theorem sc_lworth : FnScope ["_law_terms_here", "_law_raws", "_law_steps_here"] ["_law_terms_here", "_law_raws", "_law_steps_here"] (defScope s_lworth) := ⟨rfl, rfl, rfl, by decide +kernel, rfl, by decide +kernel, by decide +kernel⟩
def spLWorth (K : PySem.W.Frag) : Sp := fun vs H Q _ => ∃ (TM L : Addr) (v : V) (ns : List Int) (xs : List V) (Ms : List (Tri → Int)) (ss : List Stp) (c : Nat), vs = [.ref TM, .ref L, v] ∧ Tms K H TM (tmL ns) ∧ H L = some (.lst xs) ∧ NTs K H ns xs Ms ∧ Tv K H v (.tuple (ss.map stepD)) ∧ Shp ns ∧ StpsOk Ms.length ss ∧
  (∀ M ∈ Ms, WtB c M ns) ∧ 2 ^ (14 * ss.length) * c ≤ 2 ^ 180 ∧ ss.length ≤ 100 ∧ ∀ H' b, Same H H' → NT K H' b (lastS ns Ms ss) ns → Q (.ref b) H'
theorem ok_lworth {f f1 : Addr} {fd fd1 : FuncData} (T : Txt mg) (N : Nam mg) (d : D K mg "_law_worth" s_lworth ["_law_terms_here", "_law_raws", "_law_steps_here"] f fd)
    (d1 : D K mg "_law_worths" s_lworths ["_law_terms_here", "_law_raws", "_law_steps_here"] f1 fd1) (G1 : FnOk P w K mg base CX0 3 f1 fd1 ["_law_terms_here", "_law_raws", "_law_steps_here"] (spLWorths K)) : FnOk P w K mg base CX0 4 f fd ["_law_terms_here", "_law_raws", "_law_steps_here"] (spLWorth K) := by
  refine d.F.ok sc_lworth (fun vs H Q E h => ?_) (fun cdv A outer s H vs Q E hr h => ?_)
  · obtain ⟨TM, L, v, ns, xs, Ms, ss, c, rfl, _⟩ := h
    rfl
  · obtain ⟨TM, L, v, ns, xs, Ms, ss, c, rfl, tm, eL, nt, ts, S, ok, wm, c2, l100, q⟩ := h
    obtain ⟨SA, ws, rfl, eS, tv⟩ := tup_of ts
    have lws : ws.length = ss.length := by rw [tv.len, List.length_map]
    refine ⟨_, (pss_one (ps_ret (pe_ifExp (pt_cmpR op_gt (pe_callB call_len_seq (by rfl) T.n_len PySem.boot_len (pa_cons (pv 2) pa_nil)) pe_int (nomark _)) (pe_ix ix_list (pe_call G1 (hr.mono (by decide)) (by rfl) d1.g d1.F.kp d1.b .nil pass0 (pa_cons (pv 0) (pa_cons (pv 1) (pa_cons (pv 2) pa_nil)))) (pe_un un_neg pe_int) (fun _ _ => rfl)) (pe_tupleOf (by rfl) T.n_tuple (pe_op op_rep (pe_lst (pa_cons pe_int pa_nil)) (pe_callB call_len_seq (by rfl) T.n_len PySem.boot_len (pa_cons (pv 0) pa_nil))))))), ?_⟩
    refine ⟨_, rfl, SA, ws, rfl, .inr eS, _, _, rfl, rfl, _, rfl, ite2 (fun z => ?_) (fun z => ?_)⟩
    · have l1 : 0 < ss.length := by
        have := of_decide_eq_true z
        omega
      refine ⟨_, rfl, _, rfl, _, rfl, TM, L, .ref SA, ns, xs, Ms, ss, c, rfl, tm, eL, nt, ts, S, ok, wm, c2, l100, fun H2 p ys s2 np ep nv => ?_⟩
      obtain ⟨ra, era, na⟩ := nv.at (i := ss.length - 1) (by rw [vals_len ns Ms _ ss rfl]; omega)
      have ly : ys.length = ss.length := by rw [nv.len, vals_len ns Ms _ ss rfl]
      rw [← ly] at era
      refine ⟨_, rfl, p, ys, -1, .ref ra, rfl, rfl, .inl (.inl ep), at_last era, ?_⟩
      exact q H2 ra s2 na
    · have e : ss = [] := List.length_eq_zero_iff.mp (by
        have := of_decide_eq_false (Bool.eq_false_iff.mpr z)
        omega)
      subst e
      obtain ⟨us, eu, pm⟩ := id tm
      have lu : us.length = (pl ns).length := by rw [pm.len]; unfold tmL; rw [List.length_map]
      have l30 := (tables3 ns (shp_mem S)).2.1
      refine ⟨(by show 1 ≤ sizeLine; decide), fun L1 nL1 => ?_⟩
      have s4 := sub_same (o := .lst [V.int 0]) nL1
      refine ⟨_, rfl, TM, us, rfl, .inl (.inl (.inl (s4 _ _ eu))), ?_⟩
      refine ⟨L1, _, _, rfl, rfl, upd_same, ?_, ?_, ?_, fun p np => .inl ⟨p, _, rfl, .inl (.inl upd_same), fun r nr => ?_⟩⟩
      · omega
      · omega
      · rw [sizeLine_eq, lu]
        show 1 * _ ≤ _
        omega
      have z0 : (List.replicate ((us.length : Int)).toNat [V.int 0]).flatten = (numsL (fun _ => 0) ns).map V.int := zeros_nums ns (by rw [Int.toNat_natCast]; exact lu)
      rw [z0] at nr ⊢
      exact q _ r ((s4.trans (sub_same np)).trans (sub_same nr)) (.inl (.inl upd_same))
end
end K18
/-! # are_stairs -/
namespace K18
open PySem PySem.Spec PyProof.Rows L2 TL NumText RZ
theorem sqt_ty {K : PySem.W.Frag} {H : Hp} {a : Addr} {xs : List V} (h : SqT K H a xs) : TyX K H (.ref a) (.type "tuple") := by
  rcases h with (e | ⟨od, e⟩) | ⟨o, its, n, e, c, _⟩
  · exact .base (.tup e)
  · exact .fTuple e
  · exact .kTuple e c
section
variable {P : Program} {w : World} {K : PySem.W.Frag} {mg : Str → Option Value} {base : Heap} {C CS TL : Addr}
abbrev s_arest : Stmt := topS 45
theorem sc_arest : FnScope ["shape", "value", "most", "one"] ["shape", "value", "most"] (defScope s_arest) := ⟨rfl, rfl, rfl, by decide +kernel, rfl, by decide +kernel, by decide +kernel⟩
def spAreSt (K : PySem.W.Frag) (C : Addr) : Sp := fun vs H Q _ => ∃ (sh a : Addr) (most : Nat) (ns : List Int) (xs : List V) (Fs : List (Tri → Int)), vs = [.ref sh, .ref a, .int (most : Nat)] ∧ SqT K H sh (ns.map V.int) ∧ SqT K H a xs ∧ Sts K H C ns xs Fs ∧ Fs.length ≤ most ∧ most ≤ 100 ∧ ∀ H', Same H H' → Q (.bl true) H'
theorem ok_arest {f f1 : Addr} {fd fd1 : FuncData} (T : Txt mg) (N : Nam mg) (d : D K mg "are_stairs" s_arest ["shape", "value", "most"] f fd) (d1 : D K mg "is_stair" s_isst ["shape", "value"] f1 fd1) (G1 : FnOk P w K mg base CX0 1 f1 fd1 ["shape", "value"] (spIsSt K C)) : FnOk P w K mg base CX0 2 f fd ["shape", "value", "most"] (spAreSt K C) := by
  refine d.F.ok sc_arest (fun vs H Q E h => ?_) (fun cdv A outer s H vs Q E hr h => ?_)
  · obtain ⟨sh, a, most, ns, xs, Fs, rfl, _⟩ := h
    rfl
  · obtain ⟨sh, a, most, ns, xs, Fs, rfl, es, ea, st, lm, l100, q⟩ := h
    refine ⟨_, (pss_cons (ps_if (PW.pt (pw_or (pt_not (pt_val (pe_callB call_isi (by rfl) T.n_isinstance (by decide +kernel) (pa_cons (pv 1) (pa_cons (pe_bltn (v := .ty "tuple") (by rfl) T.n_tuple (by decide +kernel) rfl) pa_nil))))) (pw_or1 (pt_cmpR op_gt (pe_callB call_len_seq (by rfl) T.n_len PySem.boot_len (pa_cons (pv 1) pa_nil)) (pv 2) (nomark _))))) (pss_one (ps_ret pe_bl)) pss_nil)
      (pss_one (ps_ret (pe_callB (cr_all rfl) (by rfl) N.n_all (by decide +kernel) (pa_cons (pe_lc (own := [("one", 3)]) (g := gName 3) (tt := tYes) rfl sc_arest.nd (pi_tup (pv 1)) (blkOk_by (own := [("one", 3)]) (N := ["shape", "value", "most", "one"]) (sc := defScope s_arest) (by decide +kernel))
            (fun _ _ _ _ _ => (pg_name (i := 3) sc_arest.nd rfl (Or.inl rfl))) (fun _ _ _ _ _ => pts_nil) (fun _ _ _ _ _ => (pe_call G1 (hr.mono (by decide)) (by rfl) d1.g d1.F.kp d1.b .nil pass0 (pa_cons (pv 0) (pa_cons (pv 3) pa_nil))))) pa_nil))))), ?_⟩
    have lx := st.len
    refine ⟨_, rfl, _, _, _, _, _, rfl, .ty _, sqt_ty ea, kitT (.tuple []), _, rfl, ?_⟩
    refine ite2 (fun z => absurd z Bool.false_ne_true) (fun _ => ?_)
    refine ⟨_, rfl, a, xs, rfl, .inr ea, _, rfl, _, _, rfl, rfl, _, rfl, ite2 (fun z => absurd (of_decide_eq_true z) (by omega)) (fun _ => ?_)⟩
    refine ⟨_, rfl, a, rfl, ⟨xs, ea⟩, fun L nL => ?_⟩
    refine lc_tup (K := K) (a := a) (xs := xs) (fun i Z => Same H Z ∧ Z L = some (.lst ((List.replicate i true).map V.bl))) ⟨sub_same nL, upd_same⟩ (fun i Z _ h => sqt_same ea h.1) ?_ ?_
    · rintro i x Z hx ⟨sz, hl⟩
      obtain ⟨c, F, rfl, _, so⟩ := st.get hx
      have il := (List.getElem?_eq_some_iff.mp hx).1
      refine ⟨rfl, yesT ?_⟩
      refine ⟨_, rfl, _, rfl, sh, c, ns, ns, _, rfl, sqt_same es sz, so.same sz, ?_⟩
      rw [decide_eq_true rfl]
      refine ⟨_, hl, ?_, fun b o e => ?_, ?_⟩
      · rw [List.length_map, List.length_replicate, sizeLine_eq]
        omega
      · rw [upd_ne (fun z => by rw [z, nL] at e; cases e)]
        exact sz _ _ e
      · rw [upd_same, List.replicate_succ', List.map_append]
        rfl
    · rintro Z ⟨sz, hl⟩
      refine ⟨L, List.replicate xs.length true, rfl, .inl (.inl hl), ?_⟩
      have z : (List.replicate xs.length true).all id = true := List.all_eq_true.mpr fun b m => (List.mem_replicate.mp m).2
      rw [z]
      exact q _ sz
end
end K18
/-! # are_pairs -/
namespace K18
open PySem PySem.Spec PyProof.Rows L2 TL NumText RZ
section
variable {P : Program} {w : World} {K : PySem.W.Frag} {mg : Str → Option Value} {base : Heap} {C CS TL : Addr}
abbrev s_arepr : Stmt := topS 62
theorem sc_arepr : FnScope ["ahead", "value", "pair", "index", "many"] ["ahead", "value"] (defScope s_arepr) := ⟨rfl, rfl, rfl, by decide +kernel, rfl, by decide +kernel, by decide +kernel⟩
def spArePr (K : PySem.W.Frag) : Sp := fun vs H Q _ => ∃ (k : Nat) (v : V) (l : List (Nat × Int)), vs = [.int (k : Nat), v] ∧ Tv K H v (.tuple (l.map pairD)) ∧ (∀ p ∈ l, p.1 < k) ∧ ∀ H', Same H H' → Q (.bl true) H'
theorem ok_arepr {f : Addr} {fd : FuncData} {k : Nat} (T : Txt mg) (N : Nam mg) (d : D K mg "are_pairs" s_arepr ["ahead", "value"] f fd) : FnOk P w K mg base CX0 (k + 1) f fd ["ahead", "value"] (spArePr K) := by
  refine d.F.ok sc_arepr (fun vs H Q E h => ?_) (fun cdv A outer s H vs Q E hr h => ?_)
  · obtain ⟨k, v, l, rfl, _⟩ := h
    rfl
  · obtain ⟨k, v, l, rfl, tv, b, q⟩ := h
    obtain ⟨a, ws, rfl, ea, tl⟩ := tup_of tv
    refine ⟨_, (pss_cons (ps_if (pt_not (pt_val (pe_callB call_isi (by rfl) T.n_isinstance (by decide +kernel) (pa_cons (pv 1) (pa_cons (pe_bltn (v := .ty "tuple") (by rfl) T.n_tuple (by decide +kernel) rfl) pa_nil))))) (pss_one (ps_ret pe_bl)) pss_nil)
      (pss_cons (ps_for PassesOwn.never rfl (pi_tup (pv 1)) (pg_name (i := 2) sc_arepr.nd rfl (.inl rfl))
        (pss_cons (ps_if (PW.pt (pw_or (pt_not (pt_val (pe_callB call_isi (by rfl) T.n_isinstance (by decide +kernel) (pa_cons (pv 2) (pa_cons (pe_bltn (v := .ty "tuple") (by rfl) T.n_tuple (by decide +kernel) rfl) pa_nil))))) (pw_or1 (pt_cmpR op_ne (pe_callB call_len_seq (by rfl) T.n_len PySem.boot_len (pa_cons (pv 2) pa_nil)) pe_int (nomark _))))) (pss_one (ps_ret pe_bl)) pss_nil)
      (pss_cons (ps_asg (pv 2) (pg_tup rfl (pgs_cons (pg_name (i := 3) sc_arepr.nd rfl (.inl rfl)) (pgs_cons (pg_name (i := 4) sc_arepr.nd rfl (.inl rfl)) pgs_nil))))
      (pss_cons (ps_if (PW.pt (pw_or (pt_not (pt_val (pe_callB call_isi (by rfl) T.n_isinstance (by decide +kernel) (pa_cons (pv 3) (pa_cons (pe_bltn (v := .ty "int") (by rfl) T.n_int (by decide +kernel) rfl) pa_nil))))) (pw_or (pt_not (pt_val (pe_callB call_isi (by rfl) T.n_isinstance (by decide +kernel) (pa_cons (pv 4) (pa_cons (pe_bltn (v := .ty "int") (by rfl) T.n_int (by decide +kernel) rfl) pa_nil))))) (pw_or1 (pt_not (pt_chain op_le op_lt pe_int (pv 3) (pv 0))))))) (pss_one (ps_ret pe_bl)) pss_nil)
      (pss_one (ps_if (PW.pt (pw_or (pt_val (pe_callB call_isi (by rfl) T.n_isinstance (by decide +kernel) (pa_cons (pv 3) (pa_cons (pe_bltn (v := .ty "bool") (by rfl) T.n_bool (by decide +kernel) rfl) pa_nil)))) (pw_or1 (pt_val (pe_callB call_isi (by rfl) T.n_isinstance (by decide +kernel) (pa_cons (pv 4) (pa_cons (pe_bltn (v := .ty "bool") (by rfl) T.n_bool (by decide +kernel) rfl) pa_nil))))))) (pss_one (ps_ret pe_bl)) pss_nil))))))
      (pss_one (ps_ret pe_bl)))), ?_⟩
    refine ⟨_, rfl, _, _, _, _, _, rfl, .ty _, sqt_ty ea, kitT (.tuple []), _, rfl, ?_⟩
    refine ite2 (fun z => absurd z Bool.false_ne_true) (fun _ => ?_)
    refine ⟨_, rfl, a, rfl, ⟨ws, ea⟩, ?_⟩
    refine for_it (walk_tup (K := K) (a := a) (xs := ws)) (fun i σ Y => (∃ y2 y3 y4, σ = [some (.int (k : Nat)), some (.ref a), y2, y3, y4]) ∧ Same H Y) ⟨⟨_, _, _, rfl⟩, Same.refl H⟩ (fun i σ Y _ h => sqt_same ea h.2) ?_ ?_
    · rintro i v σ Y Y' hi ⟨⟨y2, y3, y4, rfl⟩, sy⟩ ⟨rfl, ev⟩
      obtain ⟨d0, e0, t0⟩ := tl.get ev
      rw [List.getElem?_map] at e0
      obtain ⟨p, ep, rfl⟩ := Option.map_eq_some_iff.mp e0
      have bp := b p (List.mem_of_getElem? ep)
      obtain ⟨c, rfl, ec⟩ := pair_of (t0.same sy)
      refine ⟨_, rfl, _, _, _, _, _, rfl, .ty _, sqt_ty ec, kitT (.tuple []), _, rfl, ?_⟩
      refine ite2 (fun z => absurd z Bool.false_ne_true) (fun _ => ?_)
      refine ⟨_, rfl, c, _, rfl, .inr ec, rfl, _, rfl, ite2 (fun z => by simp at z) (fun _ => ?_)⟩
      refine ⟨_, rfl, c, _, rfl, ec, rfl, _, _, rfl, _, _, rfl, rfl, ?_⟩
      refine ⟨_, rfl, _, _, _, _, _, rfl, .ty _, .base (.int _), kitI (.int 0), _, rfl, ?_⟩
      refine ite2 (fun z => absurd z Bool.false_ne_true) (fun _ => ?_)
      refine ⟨_, rfl, _, _, _, _, _, rfl, .ty _, .base (.int _), kitI (.int 0), _, rfl, ?_⟩
      refine ite2 (fun z => absurd z Bool.false_ne_true) (fun _ => ?_)
      refine ⟨_, rfl, _, _, rfl, rfl, _, rfl, ite2 (fun _ => ?_) (fun z => absurd (decide_eq_true (by omega)) z)⟩
      have lt : decide ((p.1 : Int) < (k : Int)) = true := decide_eq_true (by omega)
      refine ⟨_, rfl, _, _, rfl, rfl, _, rfl, ite2 (fun z => by rw [lt] at z; cases z) (fun _ => ?_)⟩
      refine ⟨_, rfl, _, _, _, _, _, rfl, .ty _, .base (.int _), kitB' (.int 0), _, rfl, ?_⟩
      refine ite2 (fun z => absurd z Bool.false_ne_true) (fun _ => ?_)
      refine ⟨_, rfl, _, _, _, _, _, rfl, .ty _, .base (.int _), kitB' (.int 0), _, rfl, ?_⟩
      refine ite2 (fun z => absurd z Bool.false_ne_true) (fun _ => ?_)
      exact ⟨⟨_, _, _, rfl⟩, sy⟩
    · rintro σ Y ⟨⟨y2, y3, y4, rfl⟩, sy⟩
      exact q Y sy
end
end K18
/-! # is_step -/
namespace K18
open PySem PySem.Spec PyProof.Rows L2 TL NumText RZ
/-- what a step of the program may name -/
def Stp.may (many k : Nat) : Stp → Prop
  | .mk i => i < many
  | .pr l => ∀ p ∈ l, p.1 < k
  | .br i j => i < k ∧ j < k
theorem Stp.ok.may {many k : Nat} {s : Stp} (h : s.ok many k) : s.may many k := by
  cases s with
  | mk i => exact h
  | pr l => exact fun p hp => (h.2 p hp).1
  | br i j => exact h
theorem btw_lt {g n : Nat} (h : g < n) : btw (.int (g : Nat)) 0 ((n : Int) - 1) = true := by
  show (decide (0 ≤ (g : Int)) && decide ((g : Int) ≤ (n : Int) - 1)) = true
  rw [decide_eq_true (by omega), decide_eq_true (by omega)]
  rfl
section
variable {P : Program} {w : World} {K : PySem.W.Frag} {mg : Str → Option Value} {base : Heap} {C CS TL : Addr}
abbrev s_isstep : Stmt := topS 61
theorem sc_isstep : FnScope ["many", "ahead", "value"] ["many", "ahead", "value"] (defScope s_isstep) := ⟨rfl, rfl, rfl, by decide +kernel, rfl, by decide +kernel, by decide +kernel⟩
def spIsStep (K : PySem.W.Frag) : Sp := fun vs H Q _ => ∃ (many k : Nat) (v : V) (s : Stp), vs = [.int (many : Nat), .int (k : Nat), v] ∧ Tv K H v (stepD s) ∧ s.may many k ∧ ∀ H', Same H H' → Q (.bl true) H'
theorem ok_isstep {f f1 f2 : Addr} {fd fd1 fd2 : FuncData} (T : Txt mg) (N : Nam mg) (d : D K mg "is_step" s_isstep ["many", "ahead", "value"] f fd)
    (d1 : D K mg "is_index" s_is_index ["value", "many"] f1 fd1) (G1 : FnOk P w K mg base CX0 3 f1 fd1 ["value", "many"] (spIdx K))
    (d2 : D K mg "are_pairs" s_arepr ["ahead", "value"] f2 fd2) (G2 : FnOk P w K mg base CX0 1 f2 fd2 ["ahead", "value"] (spArePr K)) : FnOk P w K mg base CX0 4 f fd ["many", "ahead", "value"] (spIsStep K) := by
  refine d.F.ok sc_isstep (fun vs H Q E h => ?_) (fun cdv A outer s H vs Q E hr h => ?_)
  · obtain ⟨many, k, v, s, rfl, _⟩ := h
    rfl
  · obtain ⟨many, k, v, st, rfl, tv, may, q⟩ := h
    refine ⟨_, (pss_cons (ps_if (PW.pt (pw_or (pt_not (pt_val (pe_callB call_isi (by rfl) T.n_isinstance (by decide +kernel) (pa_cons (pv 2) (pa_cons (pe_bltn (v := .ty "tuple") (by rfl) T.n_tuple (by decide +kernel) rfl) pa_nil))))) (pw_or (pt_cmpR op_lt (pe_callB call_len_seq (by rfl) T.n_len PySem.boot_len (pa_cons (pv 2) pa_nil)) pe_int (nomark _)) (pw_or1 (pt_not (pt_val (pe_callB call_isi (by rfl) T.n_isinstance (by decide +kernel) (pa_cons (pe_ix ix_tup (pv 2) pe_int (fun _ _ => rfl)) (pa_cons (pe_bltn (v := .ty "str") (by rfl) N.n_str (by decide +kernel) rfl) pa_nil))))))))) (pss_one (ps_ret pe_bl)) pss_nil)
      (pss_cons (ps_if (pt_cmpR op_eq (pe_ix ix_tup (pv 2) pe_int (fun _ _ => rfl)) pe_str (nomark _)) (pss_one (ps_ret (pe_and (pe_cmpR op_eq (pe_callB call_len_seq (by rfl) T.n_len PySem.boot_len (pa_cons (pv 2) pa_nil)) pe_int (nomark _)) (pe_one (pe_call G1 (hr.mono (by decide)) (by rfl) d1.g d1.F.kp d1.b .nil pass0 (pa_cons (pe_ix ix_tup (pv 2) pe_int (fun _ _ => rfl)) (pa_cons (pv 0) pa_nil))))))) pss_nil)
      (pss_cons (ps_if (pt_cmpR op_eq (pe_ix ix_tup (pv 2) pe_int (fun _ _ => rfl)) pe_str (nomark _)) (pss_one (ps_ret (pe_and (pe_cmpR op_eq (pe_callB call_len_seq (by rfl) T.n_len PySem.boot_len (pa_cons (pv 2) pa_nil)) pe_int (nomark _)) (pe_one (pe_call G2 (hr.mono (by decide)) (by rfl) d2.g d2.F.kp d2.b .nil pass0 (pa_cons (pv 1) (pa_cons (pe_ix ix_tup (pv 2) pe_int (fun _ _ => rfl)) pa_nil))))))) pss_nil)
      (pss_one (ps_ret (pe_and (pe_cmpR op_eq (pe_ix ix_tup (pv 2) pe_int (fun _ _ => rfl)) pe_str (nomark _)) (pe_and (pe_cmpR op_eq (pe_callB call_len_seq (by rfl) T.n_len PySem.boot_len (pa_cons (pv 2) pa_nil)) pe_int (nomark _)) (pe_and (pe_call G1 (hr.mono (by decide)) (by rfl) d1.g d1.F.kp d1.b .nil pass0 (pa_cons (pe_ix ix_tup (pv 2) pe_int (fun _ _ => rfl)) (pa_cons (pv 1) pa_nil))) (pe_one (pe_call G1 (hr.mono (by decide)) (by rfl) d1.g d1.F.kp d1.b .nil pass0 (pa_cons (pe_ix ix_tup (pv 2) pe_int (fun _ _ => rfl)) (pa_cons (pv 1) pa_nil)))))))))))), ?_⟩
    cases st with
    | mk g =>
      obtain ⟨c, rfl, ec⟩ := mk_of tv
      refine ⟨_, rfl, _, _, _, _, _, rfl, .ty _, sqt_ty ec, kitT (.tuple []), _, rfl, ?_⟩
      refine ite2 (fun z => absurd z Bool.false_ne_true) (fun _ => ?_)
      refine ⟨_, rfl, c, _, rfl, .inr ec, _, _, rfl, rfl, _, rfl, ite2 (fun z => by simp at z) (fun _ => ?_)⟩
      refine ⟨_, rfl, c, _, _, _, rfl, rfl, ec, atI_nat (j := 0) rfl, _, _, _, _, _, rfl, .ty _, .base (.str _), kit_ty (show kitB "str" "str" = some true by decide +kernel), _, rfl, ?_⟩
      refine ite2 (fun z => absurd z Bool.false_ne_true) (fun _ => ?_)
      refine ⟨_, rfl, c, _, _, .str "maker", rfl, rfl, ec, atI_nat (j := 0) rfl, rfl, _, rfl, ite2 (fun z => ?_) (fun z => absurd (decide_eq_true rfl) z)⟩
      refine ⟨_, rfl, c, _, rfl, .inr ec, rfl, _, rfl, ite2 (fun _ => ?_) (fun z => absurd (decide_eq_true rfl) z)⟩
      refine ⟨_, rfl, c, _, _, _, rfl, rfl, ec, atI_nat (j := 1) rfl, _, rfl, .int (g : Nat), .int (g : Nat), many, rfl, .tv (.int _), ?_⟩
      rw [btw_lt may]
      exact q H (Same.refl H)
    | pr l =>
      obtain ⟨c, y, rfl, ec, ty⟩ := pr_of tv
      refine ⟨_, rfl, _, _, _, _, _, rfl, .ty _, sqt_ty ec, kitT (.tuple []), _, rfl, ?_⟩
      refine ite2 (fun z => absurd z Bool.false_ne_true) (fun _ => ?_)
      refine ⟨_, rfl, c, _, rfl, .inr ec, _, _, rfl, rfl, _, rfl, ite2 (fun z => by simp at z) (fun _ => ?_)⟩
      refine ⟨_, rfl, c, _, _, _, rfl, rfl, ec, atI_nat (j := 0) rfl, _, _, _, _, _, rfl, .ty _, .base (.str _), kit_ty (show kitB "str" "str" = some true by decide +kernel), _, rfl, ?_⟩
      refine ite2 (fun z => absurd z Bool.false_ne_true) (fun _ => ?_)
      refine ⟨_, rfl, c, _, _, .str "product", rfl, rfl, ec, atI_nat (j := 0) rfl, rfl, _, rfl, ite2 (fun z => absurd (V.str.inj (of_decide_eq_true z)) (by decide +kernel)) (fun z => ?_)⟩
      refine ⟨_, rfl, c, _, _, .str "product", rfl, rfl, ec, atI_nat (j := 0) rfl, rfl, _, rfl, ite2 (fun z => ?_) (fun z => absurd (decide_eq_true rfl) z)⟩
      refine ⟨_, rfl, c, _, rfl, .inr ec, rfl, _, rfl, ite2 (fun _ => ?_) (fun z => absurd (decide_eq_true rfl) z)⟩
      exact ⟨_, rfl, _, rfl, c, _, _, _, rfl, rfl, ec, atI_nat (j := 1) rfl, k, y, l, rfl, ty, may, fun H' s => q H' s⟩
    | br g g' =>
      obtain ⟨c, rfl, ec⟩ := br_of tv
      refine ⟨_, rfl, _, _, _, _, _, rfl, .ty _, sqt_ty ec, kitT (.tuple []), _, rfl, ?_⟩
      refine ite2 (fun z => absurd z Bool.false_ne_true) (fun _ => ?_)
      refine ⟨_, rfl, c, _, rfl, .inr ec, _, _, rfl, rfl, _, rfl, ite2 (fun z => by simp at z) (fun _ => ?_)⟩
      refine ⟨_, rfl, c, _, _, _, rfl, rfl, ec, atI_nat (j := 0) rfl, _, _, _, _, _, rfl, .ty _, .base (.str _), kit_ty (show kitB "str" "str" = some true by decide +kernel), _, rfl, ?_⟩
      refine ite2 (fun z => absurd z Bool.false_ne_true) (fun _ => ?_)
      refine ⟨_, rfl, c, _, _, .str "bracket", rfl, rfl, ec, atI_nat (j := 0) rfl, rfl, _, rfl, ite2 (fun z => absurd (V.str.inj (of_decide_eq_true z)) (by decide +kernel)) (fun z => ?_)⟩
      refine ⟨_, rfl, c, _, _, .str "bracket", rfl, rfl, ec, atI_nat (j := 0) rfl, rfl, _, rfl, ite2 (fun z => absurd (V.str.inj (of_decide_eq_true z)) (by decide +kernel)) (fun z => ?_)⟩
      refine ⟨_, rfl, c, _, _, .str "bracket", rfl, rfl, ec, atI_nat (j := 0) rfl, rfl, _, rfl, ite2 (fun _ => ?_) (fun z => absurd (decide_eq_true rfl) z)⟩
      refine ⟨_, rfl, c, _, rfl, .inr ec, rfl, _, rfl, ite2 (fun _ => ?_) (fun z => absurd (decide_eq_true rfl) z)⟩
      refine ⟨_, rfl, c, _, _, _, rfl, rfl, ec, atI_nat (j := 1) rfl, _, rfl, .int (g : Nat), .int (g : Nat), k, rfl, .tv (.int _), ?_⟩
      rw [btw_lt may.1]
      refine ⟨_, rfl, ite2 (fun _ => ?_) (fun z => absurd rfl z)⟩
      refine ⟨_, rfl, c, _, _, _, rfl, rfl, ec, atI_nat (j := 2) rfl, _, rfl, .int (g' : Nat), .int (g' : Nat), k, rfl, .tv (.int _), ?_⟩
      rw [btw_lt may.2]
      exact q H (Same.refl H)
end
end K18
/-! # are_steps -/
namespace K18
open PySem PySem.Spec PyProof.Rows L2 TL NumText RZ
def StpsMay (many : Nat) (ss : List Stp) : Prop := ∀ (k : Nat) (s : Stp), ss[k]? = some s → s.may many k
theorem StpsOk.may {many : Nat} {ss : List Stp} (h : StpsOk many ss) : StpsMay many ss := fun k s e => (h k s e).may
section
variable {P : Program} {w : World} {K : PySem.W.Frag} {mg : Str → Option Value} {base : Heap} {C CS TL : Addr} {tMS : Tok}
abbrev s_aresteps : Stmt := topS 60
theorem sc_aresteps : FnScope ["many", "value", "at", "step"] ["many", "value"] (defScope s_aresteps) := ⟨rfl, rfl, rfl, by decide +kernel, rfl, by decide +kernel, by decide +kernel⟩
def spAreSteps (K : PySem.W.Frag) : Sp := fun vs H Q _ => ∃ (many : Nat) (v : V) (ss : List Stp), vs = [.int (many : Nat), v] ∧ Tv K H v (.tuple (ss.map stepD)) ∧ StpsMay many ss ∧ ss.length ≤ 3000 ∧ ∀ H', Same H H' → Q (.bl true) H'
theorem ok_aresteps {f f1 : Addr} {fd fd1 : FuncData} (T : Txt mg) (N : Nam mg) (cM : mg "MAX_STEPS" = some (.int 3000 tMS)) (d : D K mg "are_steps" s_aresteps ["many", "value"] f fd)
    (d1 : D K mg "is_step" s_isstep ["many", "ahead", "value"] f1 fd1) (G1 : FnOk P w K mg base CX0 4 f1 fd1 ["many", "ahead", "value"] (spIsStep K)) : FnOk P w K mg base CX0 5 f fd ["many", "value"] (spAreSteps K) := by
  refine d.F.ok sc_aresteps (fun vs H Q E h => ?_) (fun cdv A outer s H vs Q E hr h => ?_)
  · obtain ⟨many, v, ss, rfl, _⟩ := h
    rfl
  · obtain ⟨many, v, ss, rfl, tv, may, l3, q⟩ := h
    obtain ⟨a, ws, rfl, ea, tl⟩ := tup_of tv
    have lw : ws.length = ss.length := by rw [tl.len, List.length_map]
    refine ⟨_, (pss_cons (ps_if (PW.pt (pw_or (pt_not (pt_val (pe_callB call_isi (by rfl) T.n_isinstance (by decide +kernel) (pa_cons (pv 1) (pa_cons (pe_bltn (v := .ty "tuple") (by rfl) T.n_tuple (by decide +kernel) rfl) pa_nil))))) (pw_or1 (pt_cmpR op_gt (pe_callB call_len_seq (by rfl) T.n_len PySem.boot_len (pa_cons (pv 1) pa_nil)) (pe_glob (v := .int 3000) rfl cM ⟨_, rfl⟩) (nomark _))))) (pss_one (ps_ret pe_bl)) pss_nil)
      (pss_one (ps_ret (pe_callB (cr_all rfl) (by rfl) N.n_all (by decide +kernel) (pa_cons (pe_lc (own := [("at", 2), ("step", 3)]) (g := gTup K 2 (gCons (gName 2) (gCons (gName 3) gNil))) (tt := tYes) rfl sc_aresteps.nd (pi_enumT (by rfl) N.n_enumerate (pa_cons (pv 1) pa_nil)) (blkOk_by (own := [("at", 2), ("step", 3)]) (N := ["many", "value", "at", "step"]) (sc := defScope s_aresteps) (by decide +kernel))
            (fun _ _ _ _ _ => (pg_tup rfl (pgs_cons (pg_name (i := 2) sc_aresteps.nd rfl (Or.inl rfl)) (pgs_cons (pg_name (i := 3) sc_aresteps.nd rfl (Or.inl rfl)) pgs_nil)))) (fun _ _ _ _ _ => pts_nil) (fun _ _ _ _ _ => (pe_call G1 (hr.mono (by decide)) (by rfl) d1.g d1.F.kp d1.b .nil pass0 (pa_cons (pv 0) (pa_cons (pv 2) (pa_cons (pv 3) pa_nil)))))) pa_nil))))), ?_⟩
    refine ⟨_, rfl, _, _, _, _, _, rfl, .ty _, sqt_ty ea, kitT (.tuple []), _, rfl, ?_⟩
    refine ite2 (fun z => absurd z Bool.false_ne_true) (fun _ => ?_)
    refine ⟨_, rfl, a, ws, rfl, .inr ea, _, _, rfl, rfl, _, rfl, ite2 (fun z => absurd (of_decide_eq_true z) (by omega)) (fun _ => ?_)⟩
    refine ⟨_, rfl, a, ws, rfl, ea, fun L nL => ?_⟩
    have off : ∀ {Z : Hp} {o : HO}, Same H Z → Same H (upd Z L o) := fun sz b o h => by
      rw [upd_ne (ne_of_none h nL)]
      exact sz b o h
    refine lc_it (walk_enumT (K := K) (a := a) (xs := ws)) (fun i Z => Same H Z ∧ Z L = some (.lst ((List.replicate i true).map V.bl))) ⟨sub_same nL, upd_same⟩ (fun i Z _ h => sqt_same ea h.1) ?_ ?_
    · rintro i v Z Z' hi ⟨sz, hl⟩ ⟨Tp, x0, y0, rfl, nT, rfl, ex, ey⟩
      obtain rfl := Option.some.inj ex
      obtain ⟨d0, ed, td⟩ := tl.get ey
      rw [List.getElem?_map] at ed
      obtain ⟨st, er, rfl⟩ := Option.map_eq_some_iff.mp ed
      have s2 := sub_same (o := .tup [V.int (i : Nat), y0]) nT
      have hl2 := s2 _ _ hl
      have sm2 := sz.trans s2
      have hT : upd Z Tp (.tup [V.int (i : Nat), y0]) Tp = some (.tup [V.int (i : Nat), y0]) := upd_same
      revert hl2 sm2 hT
      generalize upd Z Tp (.tup [V.int (i : Nat), y0]) = Z2
      intro hl2 sm2 hT
      refine ⟨Tp, _, rfl, .inl (.inl hT), rfl, _, _, rfl, _, _, rfl, rfl, rfl, yesT ?_⟩
      refine ⟨_, rfl, _, rfl, _, rfl, many, i, y0, st, rfl, td.same sm2, may i st er, fun Z3 s3 => ?_⟩
      refine ⟨_, s3 _ _ hl2, ?_, off (sm2.trans s3), ?_⟩
      · rw [List.length_map, List.length_replicate, sizeLine_eq]
        omega
      · rw [upd_same, List.replicate_succ', List.map_append]
        rfl
    · rintro Z ⟨sz, hl⟩
      refine ⟨L, List.replicate ws.length true, rfl, .inl (.inl hl), ?_⟩
      have z : (List.replicate ws.length true).all id = true := List.all_eq_true.mpr fun b m => (List.mem_replicate.mp m).2
      rw [z]
      exact q _ sz
end
end K18
/-! # worth_of -/
namespace K18
open PySem PySem.Spec PyProof.Rows L2 TL NumText RZ
/-- a tuple of numbers, as it was made -/
abbrev NU (H : Hp) (a : Addr) (F : Tri → Int) (ns : List Int) : Prop := H a = some (.tup ((numsL F ns).map V.int))
inductive NUs (H : Hp) (ns : List Int) : List V → List (Tri → Int) → Prop
  | nil : NUs H ns [] []
  | cons {a : Addr} {F : Tri → Int} {xs : List V} {Fs : List (Tri → Int)} : NU H a F ns → NUs H ns xs Fs → NUs H ns (.ref a :: xs) (F :: Fs)
theorem NUs.mp {H H' : Hp} {ns : List Int} (o : ∀ a l, H a = some (.tup l) → H' a = some (.tup l)) : ∀ {xs : List V} {Fs : List (Tri → Int)}, NUs H ns xs Fs → NUs H' ns xs Fs
  | _, _, .nil => .nil
  | _, _, .cons e l => .cons (o _ _ e) (l.mp o)
theorem NUs.len {H : Hp} {ns : List Int} : ∀ {xs : List V} {Fs : List (Tri → Int)}, NUs H ns xs Fs → xs.length = Fs.length
  | _, _, .nil => rfl
  | _, _, .cons _ l => by rw [List.length_cons, List.length_cons, l.len]
theorem NUs.snoc {H : Hp} {ns : List Int} {a : Addr} {F : Tri → Int} (e : NU H a F ns) : ∀ {xs : List V} {Fs : List (Tri → Int)}, NUs H ns xs Fs → NUs H ns (xs ++ [.ref a]) (Fs ++ [F])
  | _, _, .nil => .cons e .nil
  | _, _, .cons h l => .cons h (l.snoc e)
theorem NUs.get {H : Hp} {ns : List Int} : ∀ {xs : List V} {Fs : List (Tri → Int)} {i : Nat} {x : V}, NUs H ns xs Fs → xs[i]? = some x → ∃ a F, x = .ref a ∧ Fs[i]? = some F ∧ NU H a F ns
  | _, _, _, _, .nil, h => by simp at h
  | _, _, 0, _, .cons e l, h => by
    rw [List.getElem?_cons_zero] at h
    obtain rfl := Option.some.inj h
    exact ⟨_, _, rfl, rfl, e⟩
  | _, _, i + 1, _, .cons e l, h => by
    rw [List.getElem?_cons_succ] at h ⊢
    exact l.get h
theorem NUs.at {H : Hp} {ns : List Int} {xs : List V} {Fs : List (Tri → Int)} (h : NUs H ns xs Fs) {i : Nat} (l : i < Fs.length) : ∃ a, xs[i]? = some (.ref a) ∧ NU H a (Fs.getD i zN) ns := by
  have lx : i < xs.length := by rw [h.len]; exact l
  obtain ⟨a, F, e1, e2, e3⟩ := h.get (List.getElem?_eq_getElem lx)
  refine ⟨a, by rw [List.getElem?_eq_getElem lx, e1], ?_⟩
  rw [List.getD_eq_getElem?_getD, e2]
  exact e3
theorem tups_lst {H : Hp} {D : Addr} {ws ys : List V} (hd : H D = some (.lst ws)) : ∀ a l, H a = some (.tup l) → (upd H D (.lst ys)) a = some (.tup l) := fun a l e => (upd_ne fun z => by rw [z, hd] at e; cases e).trans e
theorem tups_dT {H : Hp} {D : Addr} {ps qs : List (List L2.Key × V)} (hd : H D = some (.dT ps)) : ∀ a l, H a = some (.tup l) → (upd H D (.dT qs)) a = some (.tup l) := fun a l e => (upd_ne fun z => by rw [z, hd] at e; cases e).trans e
theorem tups_same {H H' : Hp} (s : Same H H') : ∀ a l, H a = some (.tup l) → H' a = some (.tup l) := fun a l e => s _ _ e
def pairK (p : Nat × Int) : List L2.Key := [.inl (p.1 : Nat), .inl p.2]
/-- what the dict of powers holds -/
def PwI (H : Hp) (ns : List Int) (Ws : List (Tri → Int)) (ps : List (List L2.Key × V)) : Prop := ∀ (p : Nat × Int) (v : V), valV ps (pairK p) = some v → p.1 < Ws.length ∧ ∃ b, v = .ref b ∧ NU H b (powZ (Ws.getD p.1 zN) p.2) ns
theorem PwI.mp {H H' : Hp} {ns : List Int} {Ws : List (Tri → Int)} {ps : List (List L2.Key × V)} (o : ∀ a l, H a = some (.tup l) → H' a = some (.tup l)) (h : PwI H ns Ws ps) : PwI H' ns Ws ps := fun p v e => let ⟨a, b, c, d⟩ := h p v e; ⟨a, b, c, o _ _ d⟩
theorem PwI.snoc {H : Hp} {ns : List Int} {Ws : List (Tri → Int)} {ps : List (List L2.Key × V)} (W : Tri → Int) (h : PwI H ns Ws ps) : PwI H ns (Ws ++ [W]) ps := fun p v e => by
  obtain ⟨a, b, c, d⟩ := h p v e
  refine ⟨by rw [List.length_append]; omega, b, c, ?_⟩
  have g : (Ws ++ [W]).getD p.1 zN = Ws.getD p.1 zN := by
    rw [List.getD_eq_getElem?_getD, List.getD_eq_getElem?_getD, List.getElem?_append_left a]
  rw [g]
  exact d
theorem pairK_inj {p q : Nat × Int} (h : pairK p = pairK q) : p = q := by
  unfold pairK at h
  have h1 := List.cons.inj h
  have h2 := List.cons.inj h1.2
  have a := Sum.inl.inj h1.1
  have b := Sum.inl.inj h2.1
  exact Prod.ext (by omega) b
theorem PwI.put {H : Hp} {ns : List Int} {Ws : List (Tri → Int)} {ps : List (List L2.Key × V)} {p : Nat × Int} {b : Addr} (h : PwI H ns Ws ps) (l : p.1 < Ws.length) (e : NU H b (powZ (Ws.getD p.1 zN) p.2) ns) : PwI H ns Ws (putK ps (pairK p) (.ref b)) := fun q v ev => by
  rw [valV_put] at ev
  split at ev
  · rename_i k
    obtain rfl := pairK_inj k
    exact ⟨l, b, (Option.some.inj ev).symm, e⟩
  · exact h q v ev
/-- all numbers on the way are bounded -/
structure Fine (ns : List Int) (Ms : List (Tri → Int)) (ss : List Stp) (c : Nat) : Prop where
  c3 : c ≤ 2 ^ 300
  worths : ∀ i, i ≤ ss.length → ∀ W ∈ valsL ns Ms (ss.take i), WtB c W ns
  powers : ∀ i l, ss[i]? = some (.pr l) → ∀ p ∈ l, WtB c (powZ ((valsL ns Ms (ss.take i)).getD p.1 zN) p.2) ns ∧ p.2.natAbs ≤ 2 ^ 300
  parts : ∀ i l, ss[i]? = some (.pr l) → ∀ j, WtB c (prodN (valsL ns Ms (ss.take i)) (l.take j)) ns
section
variable {P : Program} {w : World} {K : PySem.W.Frag} {mg : Str → Option Value} {base : Heap} {C CS TL : Addr} {tMP : Tok}
abbrev s_wof : Stmt := topS 63
theorem sc_wof : FnScope ["plan", "stairs", "steps", "worths", "powers", "step", "found", "pair", "power"] ["plan", "stairs", "steps"] (defScope s_wof) := ⟨rfl, rfl, rfl, by decide +kernel, rfl, by decide +kernel, by decide +kernel⟩
def spWof (K : PySem.W.Frag) : Sp := fun vs H Q _ => ∃ (pln : V) (L : Addr) (v : V) (ns : List Int) (xs : List V) (Ms : List (Tri → Int)) (ss : List Stp) (c : Nat), vs = [pln, .ref L, v] ∧ Tv K H pln (usD (usL ns)) ∧ H L = some (.lst xs) ∧ NUs H ns xs Ms ∧ StpsT K H v ss ∧ Shp ns ∧ StpsMay Ms.length ss ∧ ss.length ≤ 3000 ∧ Fine ns Ms ss c ∧
  ∀ H' b, Same H H' → NU H' b (lastS ns Ms ss) ns → Q (.ref b) H'
theorem ok_wof {fR fB fT f4 f : Addr} {fd fdR fdB fdT fd4 : FuncData} {dsR dsB dsT : List Value} (T : Txt mg) (N : Nam mg) (cP : mg "_MOST_POWERS" = some (.int 20000 tMP)) (d : D K mg "worth_of" s_wof ["plan", "stairs", "steps"] f fd)
    (gR_ : mg "raised" = some (.ref fR)) (kR_ : PySem.W.keepIn K (.ref fR) = true) (bR_ : Binds K fdR ["plan", "numbers", "many", "modulus"] dsR) (vR_ : Vals [.int 0] dsR) (G1 : FnOk P w K mg base CX0 3 fR fdR ["plan", "numbers", "many", "modulus"] (spRsd K))
    (gB_ : mg "bracket_tables" = some (.ref fB)) (kB_ : PySem.W.keepIn K (.ref fB) = true) (bB_ : Binds K fdB ["plan", "one", "other", "modulus"] dsB) (vB_ : Vals [.int 0] dsB) (G2 : FnOk P w K mg base CX0 3 fB fdB ["plan", "one", "other", "modulus"] (spBrk K))
    (gT_ : mg "times" = some (.ref fT)) (kT_ : PySem.W.keepIn K (.ref fT) = true) (bT_ : Binds K fdT ["plan", "one", "other", "modulus"] dsT) (vT_ : Vals [.int 0] dsT) (G3 : FnOk P w K mg base CX0 3 fT fdT ["plan", "one", "other", "modulus"] (spTimes K))
    (d4 : D K mg "ones" s_ones ["plan"] f4 fd4) (G4 : FnOk P w K mg base CX0 1 f4 fd4 ["plan"] (spOnes K)) : FnOk P w K mg base CX0 5 f fd ["plan", "stairs", "steps"] (spWof K) := by
  refine d.F.ok sc_wof (fun vs H Q E h => ?_) (fun cdv A outer s H vs Q E hr h => ?_)
  · obtain ⟨pln, L, v, ns, xs, Ms, ss, c, rfl, _⟩ := h
    rfl
  · obtain ⟨pln, L, v, ns, xs, Ms, ss, c, rfl, tp, eL, nt, ⟨SA, ws, rfl, eS, tv⟩, S, may, l3, fine, q⟩ := h
    have un : (A.deeper (envOfC "worth_of" (defScope s_wof) s.heap.objs.size f cdv)).units + 1 < cLine := by have := hr.un; omega
    refine ⟨_, (pss_cons (ps_set (i := 3) sc_wof.nd rfl (.inl rfl) (pe_lst pa_nil))
      (pss_cons (ps_set (i := 4) sc_wof.nd rfl (.inl rfl) pe_dnewT)
      (pss_cons (ps_for PassesOwn.never rfl (pi_tup (pv 2)) (pg_name (i := 5) sc_wof.nd rfl (.inl rfl))
        (pss_cons (ps_if (pt_cmpR op_eq (pe_ix ix_tup (pv 5) pe_int (fun _ _ => rfl)) pe_str (nomark _)) (pss_cons (ps_expr (pe_bm PySem.F.plainAttrs_list PySem.F.slot_list_append PySem.F.type_list_append mt_append (pv 3) (pa_cons (pe_ix ix_list (pv 1) (pe_ix ix_tup (pv 5) pe_int (fun _ _ => rfl)) (fun _ _ => rfl)) pa_nil)))
      (pss_one ps_continue)) pss_nil)
      (pss_cons (ps_if (pt_cmpR op_eq (pe_ix ix_tup (pv 5) pe_int (fun _ _ => rfl)) pe_str (nomark _)) (pss_cons (ps_expr (pe_bm PySem.F.plainAttrs_list PySem.F.slot_list_append PySem.F.type_list_append mt_append (pv 3) (pa_cons (pe_call G2 (hr.mono (by decide)) (by rfl) gB_ kB_ bB_ vB_ pass0 (pa_cons (pv 0) (pa_cons (pe_ix ix_list (pv 3) (pe_ix ix_tup (pv 5) pe_int (fun _ _ => rfl)) (fun _ _ => rfl)) (pa_cons (pe_ix ix_list (pv 3) (pe_ix ix_tup (pv 5) pe_int (fun _ _ => rfl)) (fun _ _ => rfl)) pa_nil)))) pa_nil)))
      (pss_one ps_continue)) pss_nil)
      (pss_cons (ps_set (i := 6) sc_wof.nd rfl (.inl rfl) pe_non)
      (pss_cons (ps_for PassesOwn.never rfl (pi_tup (pe_ix ix_tup (pv 5) pe_int (fun _ _ => rfl))) (pg_name (i := 7) sc_wof.nd rfl (.inl rfl))
        (pss_cons (ps_set (i := 8) sc_wof.nd rfl (.inl rfl) (pe_dget1 un (pv 4) (pv 7) ⟨rfl, rfl, rfl, rfl⟩))
      (pss_cons (ps_if (pt_cmpR op_isN (pv 8) pe_non (nomark _)) (pss_cons (ps_set (i := 8) sc_wof.nd rfl (.inl rfl) (pe_call G1 (hr.mono (by decide)) (by rfl) gR_ kR_ bR_ vR_ pass0 (pa_cons (pv 0) (pa_cons (pe_ix ix_list (pv 3) (pe_ix ix_tup (pv 7) pe_int (fun _ _ => rfl)) (fun _ _ => rfl)) (pa_cons (pe_ix ix_tup (pv 7) pe_int (fun _ _ => rfl)) pa_nil)))))
      (pss_one (ps_if (pt_cmpR op_lt (pe_callB call_len_dT (by rfl) T.n_len PySem.boot_len (pa_cons (pv 4) pa_nil)) (pe_glob (v := .int 20000) rfl cP ⟨_, rfl⟩) (nomark _)) (pss_one (ps_asg (pv 8) (pg_sub (pv 4) (pv 7) (set_dict un)))) pss_nil))) pss_nil)
      (pss_one (ps_set (i := 6) sc_wof.nd rfl (.inl rfl) (pe_ifExp (pt_cmpR op_isN (pv 6) pe_non (nomark _)) (pv 8) (pe_call G3 (hr.mono (by decide)) (by rfl) gT_ kT_ bT_ vT_ pass0 (pa_cons (pv 0) (pa_cons (pv 6) (pa_cons (pv 8) pa_nil))))))))))
      (pss_one (ps_expr (pe_bm PySem.F.plainAttrs_list PySem.F.slot_list_append PySem.F.type_list_append mt_append (pv 3) (pa_cons (pe_ifExp (pt_cmpR op_isN (pv 6) pe_non (nomark _)) (pe_call G4 (hr.mono (by decide)) (by rfl) d4.g d4.F.kp d4.b .nil pass0 (pa_cons (pv 0) pa_nil)) (pv 6)) pa_nil)))))))))
      (pss_one (ps_ret (pe_ifExp (pt_truth (pv 3) (fun _ => rfl)) (pe_ix ix_list (pv 3) (pe_un un_neg pe_int) (fun _ _ => rfl)) (pe_call G4 (hr.mono (by decide)) (by rfl) d4.g d4.F.kp d4.b .nil pass0 (pa_cons (pv 0) pa_nil)))))))), ?_⟩
    have lws : ws.length = ss.length := tv.len
    have l30 := (tables3 ns (shp_mem S)).2.1
    have u9 : (usL ns).length = (pl ns).length := by unfold usL; rw [List.length_map]
    refine ⟨(by show 0 ≤ sizeLine; decide), fun D nD => ?_⟩
    have s0 := sub_same (o := .lst []) nD
    refine fun PD nPD => ?_
    have s1 := sub_same (o := .dT []) nPD
    have nPH : H PD = none := s0.free nPD
    have DP : D ≠ PD := fun z => by rw [← z, upd_same] at nPD; cases nPD
    have hD0 : upd (upd H D (.lst [])) PD (.dT []) D = some (.lst []) := s1 _ _ upd_same
    have hP0 : upd (upd H D (.lst [])) PD (.dT []) PD = some (.dT []) := upd_same
    have s01 := s0.trans s1
    revert hD0 hP0 s01
    generalize upd (upd H D (.lst [])) PD (.dT []) = H1
    intro hD0 hP0 s01
    refine ⟨_, rfl, SA, rfl, ⟨ws, sqt_same eS s01⟩, ?_⟩
    refine for_it (walk_tup (K := K) (a := SA) (xs := ws)) (fun i σ Y => (∃ y5 y6 y7 y8, σ = [some pln, some (.ref L), some (.ref SA), some (.ref D), some (.ref PD), y5, y6, y7, y8]) ∧ Same H Y ∧ ∃ ys ps, Y D = some (.lst ys) ∧ NUs Y ns ys (valsL ns Ms (ss.take i)) ∧ Y PD = some (.dT ps) ∧ PwI Y ns (valsL ns Ms (ss.take i)) ps)
      ⟨⟨_, _, _, _, rfl⟩, s01, [], [], hD0, .nil, hP0, fun p v e => by cases e⟩ (fun i σ Y _ h => sqt_same eS h.2.1) ?_ ?_
    · rintro i v σ Y Y' hi ⟨⟨y5, y6, y7, y8, rfl⟩, sy, ys, ps, hd, nw, hp, pw⟩ ⟨rfl, ev⟩
      obtain ⟨st, es, t0⟩ := tv.get ev
      have il := (List.getElem?_eq_some_iff.mp es).1
      have t1 := t0.same sy
      have lt : (ss.take i).length = i := by rw [List.length_take]; omega
      have lv : (valsL ns Ms (ss.take i)).length = i := vals_len ns Ms i _ lt
      have tk : ss.take (i + 1) = ss.take i ++ [st] := by rw [List.take_succ, es]; rfl
      have wv := fine.worths i (by omega)
      have mst := may i st es
      have ly : ys.length = i := by rw [nw.len]; exact lv
      have fin : ∀ (Z : Hp) (qs : List (List L2.Key × V)) (b : Addr), Same H Z → Z D = some (.lst ys) → NUs Z ns ys (valsL ns Ms (ss.take i)) → Z PD = some (.dT qs) → PwI Z ns (valsL ns Ms (ss.take i)) qs → NU Z b (valS ns Ms (valsL ns Ms (ss.take i)) st) ns →
          ∀ R : Hp → Prop, (∀ H1, (Same H H1 ∧ ∃ ys ps, H1 D = some (.lst ys) ∧ NUs H1 ns ys (valsL ns Ms (ss.take (i + 1))) ∧ H1 PD = some (.dT ps) ∧ PwI H1 ns (valsL ns Ms (ss.take (i + 1))) ps) → R H1) → rAppend (.ref D) [.ref b] Z (fun _ H1 => R H1) := fun Z qs b sz hd nw hp pw nb R k => by
        refine ⟨D, _, _, rfl, rfl, hd, ?_, k _ ⟨fun b o e => ?_, ys ++ [.ref b], qs, upd_same, ?_, (upd_ne (Ne.symm DP)).trans hp, ?_⟩⟩
        · rw [ly, sizeLine_eq]
          omega
        · rw [upd_ne (ne_of_none e nD)]
          exact sz _ _ e
        · rw [tk, vals_snoc]
          exact (nw.snoc nb).mp (tups_lst hd)
        · rw [tk, vals_snoc]
          exact (pw.snoc _).mp (tups_lst hd)
      cases t1 with
      | mk ec =>
        rename_i cc g
        refine ⟨_, rfl, cc, _, _, .str "maker", rfl, rfl, ec, atI_nat (j := 0) rfl, rfl, _, rfl, ite2 (fun z => ?_) (fun z => absurd (decide_eq_true rfl) z)⟩
        obtain ⟨ra, er, na⟩ := nt.at (i := g) mst
        refine ⟨.ref D, rfl, tyl hd, .ref L, rfl, _, rfl, cc, _, _, .int (g : Nat), rfl, rfl, ec, atI_nat (j := 1) rfl, L, xs, _, _, rfl, rfl, .inl (.inl (sy _ _ eL)), atI_nat er, ?_⟩
        exact fin Y' ps ra sy hd nw hp pw (sy _ _ na) _ fun H1 h => ⟨⟨_, _, _, _, rfl⟩, h⟩
      | pr ec tl =>
        rename_i cc y lp
        obtain ⟨pc, pws, rfl, epc, tvp⟩ := tl
        have lpw : pws.length = lp.length := tvp.len
        refine ⟨_, rfl, cc, _, _, .str "product", rfl, rfl, ec, atI_nat (j := 0) rfl, rfl, _, rfl, ite2 (fun z => absurd (V.str.inj (of_decide_eq_true z)) (by decide +kernel)) (fun z => ?_)⟩
        refine ⟨_, rfl, cc, _, _, .str "product", rfl, rfl, ec, atI_nat (j := 0) rfl, rfl, _, rfl, ite2 (fun z => absurd (V.str.inj (of_decide_eq_true z)) (by decide +kernel)) (fun z => ?_)⟩
        refine ⟨_, rfl, cc, _, _, _, rfl, rfl, ec, atI_nat (j := 1) rfl, pc, rfl, ⟨pws, epc⟩, ?_⟩
        refine for_it (walk_tup (K := K) (a := pc) (xs := pws)) (fun j σ Z => (∃ fnd y7 y8, σ = [some pln, some (.ref L), some (.ref SA), some (.ref D), some (.ref PD), some (.ref cc), some fnd, y7, y8] ∧ ((fnd = .non ∧ j = 0) ∨ ∃ R, fnd = .ref R ∧ 0 < j ∧ NU Z R (prodN (valsL ns Ms (ss.take i)) (lp.take j)) ns)) ∧ Same H Z ∧ (∀ b o, b ≠ PD → Y' b = some o → Z b = some o) ∧ ∃ qs, Z PD = some (.dT qs) ∧ PwI Z ns (valsL ns Ms (ss.take i)) qs)
          ⟨⟨_, _, _, rfl, .inl ⟨rfl, rfl⟩⟩, sy, fun _ _ _ e => e, ps, hp, pw⟩ (fun j σ Z _ h => sqt_ne epc fun o e k => h.2.2.1 _ _ (fun z => by rw [z, hp] at e; cases e; rcases k with k | ⟨_, k⟩ <;> cases k) e) ?_ ?_
        · rintro j v σ Z Z' hj ⟨⟨fnd, y7, y8, rfl, hf⟩, sz, oz, qs, hq, pz⟩ ⟨rfl, ev2⟩
          obtain ⟨qa, pp, rfl, ep, eqa⟩ := tvp.get ev2
          have mp : pp ∈ lp := List.mem_of_getElem? ep
          have eqz : Z' qa = some (.tup [.int (pp.1 : Nat), .int pp.2]) := oz _ _ (fun z => by rw [z, hp] at eqa; cases eqa) eqa
          refine ⟨_, rfl, PD, rfl, .inr ⟨qs, .inl hq⟩, _, rfl, valV qs (pairK pp), DGet.t hq eqz, ?_⟩
          have c9 : c ≤ 2 ^ 1000 := Nat.le_trans fine.c3 (Nat.pow_le_pow_right (by decide) (by decide))
          have hdz : Z' D = some (.lst ys) := oz _ _ DP hd
          have nwz : NUs Z' ns ys (valsL ns Ms (ss.take i)) := nw.mp fun a l e => oz _ _ (fun z => by rw [z, hp] at e; cases e) e
          have okp := mst pp mp
          obtain ⟨ra, er, na⟩ := nwz.at (i := pp.1) (by rw [lv]; exact okp)
          cases ho : valV qs (pairK pp) with
          | some v =>
            obtain ⟨lt, b, rfl, nb⟩ := pz pp v ho
            refine ⟨_, rfl, rfl, _, rfl, ite2 (fun z => absurd (of_decide_eq_true z) (by simp)) (fun z => ?_)⟩
            have oR : ∀ a l, Z' a = some (.tup l) → Z' a = some (.tup l) := fun _ _ e => e
            rcases hf with ⟨rfl, rfl⟩ | ⟨R, rfl, j0, nR⟩
            · refine ⟨_, rfl, rfl, _, rfl, ite2 (fun _ => ?_) (fun z => absurd (decide_eq_true rfl) z)⟩
              refine ⟨_, rfl, ⟨.ref b, _, _, rfl, .inr ⟨b, rfl, by omega, ?_⟩⟩, sz, oz, qs, hq, pz⟩
              have e1 : lp.take (0 + 1) = lp.take 0 ++ [pp] := by rw [List.take_succ, ep]; rfl
              rw [e1, prod_snoc]
              show Z' b = some (.tup ((numsL (mulN zN (powZ ((valsL ns Ms (ss.take i)).getD pp.1 zN) pp.2)) ns).map V.int))
              rw [nums_congr (m1l (ns := ns))]
              exact nb
            · refine ⟨_, rfl, rfl, _, rfl, ite2 (fun z => absurd (of_decide_eq_true z) (by simp)) (fun _ => ?_)⟩
              have nR3 : NU Z' R (prodN (valsL ns Ms (ss.take i)) (lp.take j)) ns := oR _ _ nR
              refine ⟨_, rfl, _, rfl, _, rfl, pln, R, b, _, _, usL ns, rfl, tp.same sz, nR3, nb, by rw [nums_len, u9], by rw [nums_len, nums_len], by rw [nums_len]; omega, by rw [nums_len]; exact inR_plan S, nums_wd (wt_wd S (fine.parts i lp es j) c9), nums_wd (wt_wd S (fine.powers i lp es pp mp).1 c9), fun Z4 p4 s4 n4 e4 => ?_⟩
              rw [prod_mulN S] at e4
              refine ⟨⟨.ref p4, _, _, rfl, .inr ⟨p4, rfl, by omega, ?_⟩⟩, sz.trans s4, fun b o n e => s4 _ _ (oz b o n e), qs, s4 _ _ (hq), (pz).mp (tups_same s4)⟩
              have e1 : lp.take (j + 1) = lp.take j ++ [pp] := by rw [List.take_succ, ep]; rfl
              rw [e1, prod_snoc]
              exact e4

          | none =>
            refine ⟨_, rfl, rfl, _, rfl, ite2 (fun z => ?_) (fun z => absurd (decide_eq_true rfl) z)⟩
            refine ⟨_, rfl, .ref D, rfl, _, rfl, qa, _, _, .int (pp.1 : Nat), rfl, rfl, sqt_new eqz, atI_nat (j := 0) rfl, D, ys, _, _, rfl, rfl, .inl (.inl hdz), atI_nat er, _, rfl, qa, _, _, .int pp.2, rfl, rfl, sqt_new eqz, atI_nat (j := 1) rfl, ?_⟩
            refine ⟨pln, ra, ns, _, pp.2, c, rfl, S, tp.same sz, na, getD_wt wv _, fine.c3, (fine.powers i lp es pp mp).2, fun Z2 b s2 nb => ?_⟩
            have sz2 := sz.trans s2
            have hq2 := s2 _ _ hq
            refine ⟨_, rfl, PD, qs, rfl, hq2, _, _, rfl, rfl, _, rfl, ite2 (fun z => ?_) (fun z => ?_)⟩
            · have l2 : qs.length < sizeLine := by
                have := of_decide_eq_true z
                rw [sizeLine_eq]
                omega
              refine ⟨_, rfl, _, rfl, _, rfl, PD, _, rfl, DPut.t (k := pairK pp) hq2 (s2 _ _ eqz) l2, ?_⟩
              have sz3 : Same H (upd Z2 PD (.dT (putK qs (pairK pp) (.ref b)))) := fun k o e => by
                rw [upd_ne (ne_of_none e nPH)]
                exact sz2 _ _ e
              have oz3 : ∀ k o, k ≠ PD → Y' k = some o → (upd Z2 PD (.dT (putK qs (pairK pp) (.ref b)))) k = some o := fun k o n e => (upd_ne n).trans (s2 _ _ (oz k o n e))
              have hq3 : (upd Z2 PD (.dT (putK qs (pairK pp) (.ref b)))) PD = some (.dT (putK qs (pairK pp) (.ref b))) := upd_same
              have pz3 : PwI (upd Z2 PD (.dT (putK qs (pairK pp) (.ref b)))) ns (valsL ns Ms (ss.take i)) (putK qs (pairK pp) (.ref b)) := ((pz.mp (tups_same s2)).put (by rw [lv]; exact okp) nb).mp (tups_dT hq2)
              have nb3 := tups_dT (qs := putK qs (pairK pp) (.ref b)) hq2 _ _ nb
              have oR : ∀ a l, Z' a = some (.tup l) → (upd Z2 PD (.dT (putK qs (pairK pp) (.ref b)))) a = some (.tup l) := fun a l e => tups_dT hq2 _ _ (s2 _ _ e)
              revert sz3 oz3 hq3 pz3 nb3 oR
              generalize upd Z2 PD (.dT (putK qs (pairK pp) (.ref b))) = Z3
              intro sz3 oz3 hq3 pz3 nb3 oR
              rcases hf with ⟨rfl, rfl⟩ | ⟨R, rfl, j0, nR⟩
              · refine ⟨_, rfl, rfl, _, rfl, ite2 (fun _ => ?_) (fun z => absurd (decide_eq_true rfl) z)⟩
                refine ⟨_, rfl, ⟨.ref b, _, _, rfl, .inr ⟨b, rfl, by omega, ?_⟩⟩, sz3, oz3, _, hq3, pz3⟩
                have e1 : lp.take (0 + 1) = lp.take 0 ++ [pp] := by rw [List.take_succ, ep]; rfl
                rw [e1, prod_snoc]
                show Z3 b = some (.tup ((numsL (mulN zN (powZ ((valsL ns Ms (ss.take i)).getD pp.1 zN) pp.2)) ns).map V.int))
                rw [nums_congr (m1l (ns := ns))]
                exact nb3
              · refine ⟨_, rfl, rfl, _, rfl, ite2 (fun z => absurd (of_decide_eq_true z) (by simp)) (fun _ => ?_)⟩
                have nR3 : NU Z3 R (prodN (valsL ns Ms (ss.take i)) (lp.take j)) ns := oR _ _ nR
                refine ⟨_, rfl, _, rfl, _, rfl, pln, R, b, _, _, usL ns, rfl, tp.same sz3, nR3, nb3, by rw [nums_len, u9], by rw [nums_len, nums_len], by rw [nums_len]; omega, by rw [nums_len]; exact inR_plan S, nums_wd (wt_wd S (fine.parts i lp es j) c9), nums_wd (wt_wd S (fine.powers i lp es pp mp).1 c9), fun Z4 p4 s4 n4 e4 => ?_⟩
                rw [prod_mulN S] at e4
                refine ⟨⟨.ref p4, _, _, rfl, .inr ⟨p4, rfl, by omega, ?_⟩⟩, sz3.trans s4, fun b o n e => s4 _ _ (oz3 b o n e), _, s4 _ _ (hq3), (pz3).mp (tups_same s4)⟩
                have e1 : lp.take (j + 1) = lp.take j ++ [pp] := by rw [List.take_succ, ep]; rfl
                rw [e1, prod_snoc]
                exact e4

            · have oz2 : ∀ k o, k ≠ PD → Y' k = some o → Z2 k = some o := fun k o n e => s2 _ _ (oz k o n e)
              have pz2 := pz.mp (tups_same s2)
              have oR := tups_same s2
              rcases hf with ⟨rfl, rfl⟩ | ⟨R, rfl, j0, nR⟩
              · refine ⟨_, rfl, rfl, _, rfl, ite2 (fun _ => ?_) (fun z => absurd (decide_eq_true rfl) z)⟩
                refine ⟨_, rfl, ⟨.ref b, _, _, rfl, .inr ⟨b, rfl, by omega, ?_⟩⟩, sz2, oz2, qs, hq2, pz2⟩
                have e1 : lp.take (0 + 1) = lp.take 0 ++ [pp] := by rw [List.take_succ, ep]; rfl
                rw [e1, prod_snoc]
                show Z2 b = some (.tup ((numsL (mulN zN (powZ ((valsL ns Ms (ss.take i)).getD pp.1 zN) pp.2)) ns).map V.int))
                rw [nums_congr (m1l (ns := ns))]
                exact nb
              · refine ⟨_, rfl, rfl, _, rfl, ite2 (fun z => absurd (of_decide_eq_true z) (by simp)) (fun _ => ?_)⟩
                have nR3 : NU Z2 R (prodN (valsL ns Ms (ss.take i)) (lp.take j)) ns := oR _ _ nR
                refine ⟨_, rfl, _, rfl, _, rfl, pln, R, b, _, _, usL ns, rfl, tp.same sz2, nR3, nb, by rw [nums_len, u9], by rw [nums_len, nums_len], by rw [nums_len]; omega, by rw [nums_len]; exact inR_plan S, nums_wd (wt_wd S (fine.parts i lp es j) c9), nums_wd (wt_wd S (fine.powers i lp es pp mp).1 c9), fun Z4 p4 s4 n4 e4 => ?_⟩
                rw [prod_mulN S] at e4
                refine ⟨⟨.ref p4, _, _, rfl, .inr ⟨p4, rfl, by omega, ?_⟩⟩, sz2.trans s4, fun b o n e => s4 _ _ (oz2 b o n e), qs, s4 _ _ (hq2), (pz2).mp (tups_same s4)⟩
                have e1 : lp.take (j + 1) = lp.take j ++ [pp] := by rw [List.take_succ, ep]; rfl
                rw [e1, prod_snoc]
                exact e4
        · rintro σ Z ⟨⟨fnd, y7, y8, rfl, hf⟩, sz, oz, qs, hq, pz⟩
          have hdz : Z D = some (.lst ys) := oz _ _ DP hd
          have nwz : NUs Z ns ys (valsL ns Ms (ss.take i)) := nw.mp fun a l e => oz _ _ (fun z => by rw [z, hp] at e; cases e) e
          refine ⟨.ref D, rfl, tyl hdz, ?_⟩
          rcases hf with ⟨rfl, j0⟩ | ⟨R, rfl, j0, nR⟩
          · have e0 : lp = [] := List.length_eq_zero_iff.mp (by omega)
            refine ⟨_, rfl, rfl, _, rfl, ite2 (fun _ => ?_) (fun z => absurd (decide_eq_true rfl) z)⟩
            refine ⟨_, rfl, pln, usL ns, rfl, tp.same sz, by omega, fun Z2 p s2 np ep => ?_⟩
            refine fin Z2 qs p (sz.trans s2) (s2 _ _ hdz) (nwz.mp (tups_same s2)) (s2 _ _ hq) (pz.mp (tups_same s2)) ?_ _ fun H1 h => ⟨⟨_, _, _, _, rfl⟩, h⟩
            rw [ones_nums] at ep
            rw [e0]
            exact ep
          · refine ⟨_, rfl, rfl, _, rfl, ite2 (fun z => absurd (of_decide_eq_true z) (by simp)) (fun _ => ?_)⟩
            rw [lpw, List.take_length] at nR
            refine ⟨_, rfl, ?_⟩
            exact fin Z qs R sz hdz nwz hq pz nR _ fun H1 h => ⟨⟨_, _, _, _, rfl⟩, h⟩
      | br ec =>
        rename_i cc g g'
        refine ⟨_, rfl, cc, _, _, .str "bracket", rfl, rfl, ec, atI_nat (j := 0) rfl, rfl, _, rfl, ite2 (fun z => absurd (V.str.inj (of_decide_eq_true z)) (by decide +kernel)) (fun z => ?_)⟩
        refine ⟨_, rfl, cc, _, _, .str "bracket", rfl, rfl, ec, atI_nat (j := 0) rfl, rfl, _, rfl, ite2 (fun z => ?_) (fun z => absurd (decide_eq_true rfl) z)⟩
        obtain ⟨ra, er, na⟩ := nw.at (i := g) (by rw [lv]; exact mst.1)
        obtain ⟨rb, er', nb⟩ := nw.at (i := g') (by rw [lv]; exact mst.2)
        refine ⟨.ref D, rfl, tyl hd, _, rfl, .ref D, rfl, _, rfl, cc, _, _, .int (g : Nat), rfl, rfl, ec, atI_nat (j := 1) rfl, D, ys, _, _, rfl, rfl, .inl (.inl hd), atI_nat er, ?_⟩
        refine ⟨.ref D, rfl, _, rfl, cc, _, _, .int (g' : Nat), rfl, rfl, ec, atI_nat (j := 2) rfl, D, ys, _, _, rfl, rfl, .inl (.inl hd), atI_nat er', ?_⟩
        refine ⟨pln, ra, rb, ns, _, _, c, rfl, ⟨S, tp.same sy, na, nb, getD_wt wv g, getD_wt wv g', Nat.le_trans fine.c3 (Nat.pow_le_pow_right (by decide) (by decide))⟩, fun Z b sz nz => ?_⟩
        exact fin Z ps b (sy.trans sz) (sz _ _ hd) (nw.mp (tups_same sz)) (sz _ _ hp) (pw.mp (tups_same sz)) nz _ fun H1 h => ⟨⟨_, _, _, _, rfl⟩, h⟩
    · rintro σ Y ⟨⟨y5, y6, y7, y8, rfl⟩, sy, ys, ps, hd, nw, hp, pw⟩
      rw [lws, List.take_length] at nw
      have ly : ys.length = ss.length := by rw [nw.len, vals_len ns Ms _ ss rfl]
      refine ⟨_, rfl, _, .inl ⟨ys, .inl (.inl hd), rfl⟩, ite2 (fun z => ?_) (fun z => ?_)⟩
      · have l1 : 0 < ss.length := by
          rw [← ly]
          cases ys with
          | nil => cases z
          | cons _ _ => rw [List.length_cons]; omega
        obtain ⟨ra, era, na⟩ := nw.at (i := ss.length - 1) (by rw [vals_len ns Ms _ ss rfl]; omega)
        rw [← ly] at era
        refine ⟨_, rfl, _, rfl, D, ys, -1, .ref ra, rfl, rfl, .inl (.inl hd), at_last era, ?_⟩
        exact q Y ra sy na
      · have e0 : ys = [] := by
          cases ys with
          | nil => rfl
          | cons _ _ => exact absurd rfl z
        have e1 : ss = [] := List.length_eq_zero_iff.mp (by rw [← ly, e0]; rfl)
        refine ⟨_, rfl, pln, usL ns, rfl, tp.same sy, by omega, fun Z2 p s2 np ep => ?_⟩
        rw [ones_nums] at ep
        refine q Z2 p (sy.trans s2) ?_
        rw [e1]
        exact ep
end
end K18
/-! # worth -/
namespace K18
open PySem PySem.Spec PyProof.Rows L2 TL NumText RZ
section
variable {P : Program} {w : World} {K : PySem.W.Frag} {mg : Str → Option Value} {base : Heap} {C CS TL : Addr} {tMT : Tok}
abbrev s_worth : Stmt := topS 59
theorem sc_worth : FnScope ["shape", "stairs", "steps", "plan", "stair"] ["shape", "stairs", "steps"] (defScope s_worth) := ⟨rfl, rfl, rfl, by decide +kernel, rfl, by decide +kernel, by decide +kernel⟩
def spWorth (K : PySem.W.Frag) (C : Addr) : Sp := fun vs H Q _ => ∃ (sh A : Addr) (v : V) (ns : List Int) (xs : List V) (Ms : List (Tri → Int)) (ss : List Stp) (c : Nat), vs = [.ref sh, .ref A, v] ∧ SqT K H sh (ns.map V.int) ∧ SqT K H A xs ∧ Sts K H C ns xs Ms ∧ Ms.length ≤ 16 ∧ StpsT K H v ss ∧ Shp ns ∧ StpsMay Ms.length ss ∧ ss.length ≤ 3000 ∧ Fine ns Ms ss c ∧
  ∀ H' b, Same H H' → StairO K H' b C ns (numsL (lastS ns Ms ss) ns) → Q (.ref b) H'
theorem ok_worth {f f0 f1 f2 f3 f4 f5 qN gN : Addr} {fd fd0 fd1 fd2 fd3 fd4 fd5 fdN : FuncData} (T : Txt mg) (N : Nam mg) (R : SC K mg C) (cS : mg "_MOST_STAIRS" = some (.int 16 tMT)) (d : D K mg "worth" s_worth ["shape", "stairs", "steps"] f fd)
    (d0 : D K mg "check_shape" s_check ["shape"] f0 fd0) (G0 : FnOk P w K mg base (L2.CX P w) 4 f0 fd0 ["shape"] (spCheck K CS))
    (d1 : D K mg "are_stairs" s_arest ["shape", "value", "most"] f1 fd1) (G1 : FnOk P w K mg base CX0 2 f1 fd1 ["shape", "value", "most"] (spAreSt K C))
    (d2 : D K mg "are_steps" s_aresteps ["many", "value"] f2 fd2) (G2 : FnOk P w K mg base CX0 5 f2 fd2 ["many", "value"] (spAreSteps K))
    (d3 : D K mg "plan_of" s_plan ["shape"] f3 fd3) (G3 : FnOk P w K mg base (L2.CX P w) 6 f3 fd3 ["shape"] (spPlan K))
    (d4 : D K mg "stair_with" s_with ["shape", "plan", "numbers"] f4 fd4) (G4 : FnOk P w K mg base CX0 9 f4 fd4 ["shape", "plan", "numbers"] (spWith K C))
    (d5 : D K mg "worth_of" s_wof ["plan", "stairs", "steps"] f5 fd5) (G5 : FnOk P w K mg base CX0 5 f5 fd5 ["plan", "stairs", "steps"] (spWof K))
    (pN : PropOf K C "numbers" qN gN) (GN : FnOk P w K mg base CX0 1 gN fdN ["self"] (spNums K C)) (bN : Binds K fdN ["self"] []) : FnOk P w K mg base CX0 10 f fd ["shape", "stairs", "steps"] (spWorth K C) := by
  refine d.F.ok sc_worth (fun vs H Q E h => ?_) (fun cdv A outer s H vs Q E hr h => ?_)
  · obtain ⟨sh, A, v, ns, xs, Ms, ss, c, rfl, _⟩ := h
    rfl
  · obtain ⟨sh, a, v, ns, xs, Ms, ss, c, rfl, es, ea, st, l16, ts, S, may, l3, fine, q⟩ := h
    refine ⟨_, (pss_cons (ps_expr (pe_call (E := fun _ _ _ => False) G0 (hr.mono (by decide)) (by rfl) d0.g d0.F.kp d0.b .nil passF (pa_cons (pv 0) pa_nil)))
      (pss_cons (ps_if (pt_not (pt_val (pe_call G1 (hr.mono (by decide)) (by rfl) d1.g d1.F.kp d1.b .nil pass0 (pa_cons (pv 0) (pa_cons (pv 1) (pa_cons (pe_glob (v := .int 16) rfl cS ⟨_, rfl⟩) pa_nil)))))) dead pss_nil)
      (pss_cons (ps_if (pt_not (pt_val (pe_call G2 (hr.mono (by decide)) (by rfl) d2.g d2.F.kp d2.b .nil pass0 (pa_cons (pe_callB call_len_seq (by rfl) T.n_len PySem.boot_len (pa_cons (pv 1) pa_nil)) (pa_cons (pv 2) pa_nil))))) dead pss_nil)
      (pss_cons (ps_set (i := 3) sc_worth.nd rfl (.inl rfl) (pe_call (E := fun _ _ _ => False) G3 (hr.mono (by decide)) (by rfl) d3.g d3.F.kp d3.b .nil passF (pa_cons (pv 0) pa_nil)))
      (pss_one (ps_ret (pe_call G4 (hr.mono (by decide)) (by rfl) d4.g d4.F.kp d4.b .nil pass0 (pa_cons (pv 0) (pa_cons (pv 3) (pa_cons (pe_call G5 (hr.mono (by decide)) (by rfl) d5.g d5.F.kp d5.b .nil pass0 (pa_cons (pv 3) (pa_cons (pe_lc (own := [("stair", 4)]) (g := gName 4) (tt := tYes) rfl sc_worth.nd (pi_tup (pv 1)) (blkOk_by (own := [("stair", 4)]) (N := ["shape", "stairs", "steps", "plan", "stair"]) (sc := defScope s_worth) (by decide +kernel))
            (fun _ _ _ _ _ => (pg_name (i := 4) sc_worth.nd rfl (Or.inl rfl))) (fun _ _ _ _ _ => pts_nil) (fun _ _ _ _ _ => (pe_prop (pv 4) R.cl pN GN (hr.mono (by decide)) bN .nil pass0 (by rfl)))) (pa_cons (pv 2) pa_nil)))) pa_nil)))))))))), ?_⟩
    have lx := st.len
    refine ⟨_, rfl, _, .tuple (ns.map .int), rfl, .tv (.tup es (tvl_ints ns)), fun _ H1 s1 => ?_, fun z => absurd (shp_is S) (by rw [z]; decide)⟩
    refine ⟨_, rfl, _, rfl, sh, a, 16, ns, xs, Ms, rfl, sqt_same es s1, sqt_same ea s1, st.same s1, l16, by decide, fun H2 s2 => ?_⟩
    refine ⟨_, rfl, ite2 (fun z => absurd z Bool.false_ne_true) (fun _ => ?_)⟩
    have s12 := s1.trans s2
    refine ⟨_, rfl, a, xs, rfl, .inr (sqt_same ea s12), _, rfl, xs.length, v, ss, rfl, (ts.same s12).tv, by rw [lx]; exact may, l3, fun H3 s3 => ?_⟩
    refine ⟨_, rfl, ite2 (fun z => absurd z Bool.false_ne_true) (fun _ => ?_)⟩
    have s13 := s12.trans s3
    refine ⟨_, rfl, sh, ns, rfl, sqt_same es s13, S, fun H4 y s4 ty => ?_⟩
    have ty2 := ty
    rw [planD_us] at ty2
    have s14 := s13.trans s4
    refine ⟨_, rfl, _, rfl, _, rfl, _, rfl, a, rfl, ⟨xs, sqt_same ea s14⟩, fun L nL => ?_⟩
    refine lc_tup (K := K) (a := a) (xs := xs) (fun i Z => Same H4 Z ∧ ∃ ys, Z L = some (.lst ys) ∧ NUs Z ns ys (Ms.take i)) ⟨sub_same nL, [], upd_same, .nil⟩ (fun i Z _ h => sqt_same (sqt_same ea s14) h.1) ?_ ?_
    · rintro i x Z hx ⟨sz, ys, hl, nu⟩
      obtain ⟨cc, F, rfl, eF, so⟩ := st.get hx
      have iF := (List.getElem?_eq_some_iff.mp eF).1
      refine ⟨rfl, yesT ?_⟩
      have soz := (so.same s14).same sz
      have soz0 := soz
      obtain ⟨dx, sh0, pln0, nm0, e1, e2, e3, e4⟩ := soz
      refine ⟨_, rfl, cc, dx, _, rfl, e1, cc, ns, _, rfl, soz0, fun nm enm => ?_⟩
      refine ⟨ys, hl, ?_, fun b o e => ?_, ys ++ [.ref nm], upd_same, ?_⟩
      · rw [nu.len, List.length_take, sizeLine_eq]
        omega
      · rw [upd_ne (ne_of_none e nL)]
        exact sz _ _ e
      · have tk : Ms.take (i + 1) = Ms.take i ++ [F] := by rw [List.take_succ, eF]; rfl
        rw [tk]
        exact (nu.snoc enm).mp (tups_lst hl)
    · rintro Z ⟨sz, ys, hl, nu⟩
      rw [lx, List.take_length] at nu
      have s15 := s14.trans sz
      refine ⟨_, rfl, y, L, v, ns, ys, Ms, ss, c, rfl, ty2.same sz, hl, nu, ts.same s15, S, may, l3, fine, fun H6 b s6 nb => ?_⟩
      exact ⟨sh, b, y, ns, _, rfl, sqt_same es (s15.trans s6), (ty.same sz).same s6, nb, fun H7 b7 s7 _ so => q H7 b7 ((s15.trans s6).trans s7) so⟩
end
end K18
/-! # bounds of drawn steps; what steps are worth -/
namespace K18
open PySem PySem.Spec PyProof.Rows L2 TL NumText RZ
theorem stps_take {many : Nat} {ss : List Stp} (h : StpsOk many ss) (i : Nat) : StpsOk many (ss.take i) := fun k s e => h k s (by
  rw [List.getElem?_take] at e
  split at e
  · exact e
  · cases e)
/-- drawn steps stay small -/
theorem fine_of {ns : List Int} (S : Shp ns) {c many : Nat} {Ms : List (Tri → Int)} {ss : List Stp} (hm : ∀ M ∈ Ms, WtB c M ns) (ok : StpsOk many ss) (b : 2 ^ (14 * (ss.length + 1)) * c ≤ 2 ^ 300) : Fine ns Ms ss (2 ^ (14 * (ss.length + 1)) * c) := by
  have up : ∀ i, i ≤ ss.length + 1 → 2 ^ (14 * i) * c ≤ 2 ^ (14 * (ss.length + 1)) * c := fun i hi => Nat.mul_le_mul_right _ (Nat.pow_le_pow_right (by decide) (by omega))
  have wv : ∀ i, i ≤ ss.length → ∀ W ∈ valsL ns Ms (ss.take i), WtB (2 ^ (14 * i) * c) W ns := fun i hi => vals_wt S hm i _ (by rw [List.length_take]; omega) (stps_take ok i)
  have step : ∀ i, i < ss.length → 2 ^ 14 * (2 ^ (14 * i) * c) ≤ 2 ^ (14 * (ss.length + 1)) * c := fun i hi => by
    have e : 2 ^ 14 * (2 ^ (14 * i) * c) = 2 ^ (14 * (i + 1)) * c := by
      rw [show 14 * (i + 1) = 14 + 14 * i by omega, Nat.pow_add, Nat.mul_assoc]
    rw [e]
    exact up (i + 1) (by omega)
  refine ⟨b, fun i hi W hW => wt_up (wv i hi W hW) (up i (by omega)), fun i l e p hp => ?_, fun i l e j => ?_⟩
  · have il := (List.getElem?_eq_some_iff.mp e).1
    have o := (ok i _ e).2 p hp
    refine ⟨wt_up (pw_wt S (getD_wt (wv i (by omega)) p.1) o.2) (Nat.le_trans (Nat.mul_le_mul_right _ (by decide)) (step i il)), Nat.le_trans o.2 (by decide +kernel)⟩
  · have il := (List.getElem?_eq_some_iff.mp e).1
    have o := ok i _ e
    refine wt_up (prod_wt S (wv i (by omega)) (l.take j).length (l.take j) rfl fun p hp => (o.2 p (List.mem_of_mem_take hp)).2) (Nat.le_trans ?_ (step i il))
    have a : 2 ^ (l.take j).length ≤ 2 ^ 3 := Nat.pow_le_pow_right (by decide) (by rw [List.length_take]; have := o.1; omega)
    have d := Nat.mul_le_mul_right (1728 * (2 ^ (14 * i) * c)) a
    omega
end K18
/-! # what steps are worth, side by side -/
namespace K18
open PySem PySem.Spec PyProof.Rows L2 TL NumText RZ
/-- a relation that products, powers and brackets keep -/
structure Rel3 (n1 n2 n3 : List Int) (R : (Tri → Int) → (Tri → Int) → (Tri → Int) → Prop) : Prop where
  zero : R zN zN zN
  mul : ∀ {x y z x' y' z'}, R x y z → R x' y' z' → R (mulN x x') (mulN y y') (mulN z z')
  pow : ∀ {x y z} (n : Int), R x y z → R (powZ x n) (powZ y n) (powZ z n)
  br : ∀ {x y z x' y' z'}, R x y z → R x' y' z' → R (brN x x' n1) (brN y y' n2) (brN z z' n3)
section
variable {n1 n2 n3 : List Int} {R : (Tri → Int) → (Tri → Int) → (Tri → Int) → Prop}
theorem Rel3.prod (h : Rel3 n1 n2 n3 R) {W1 W2 W3 : List (Tri → Int)} (w : ∀ i, R (W1.getD i zN) (W2.getD i zN) (W3.getD i zN)) : ∀ (k : Nat) (l : List (Nat × Int)), l.length = k → R (prodN W1 l) (prodN W2 l) (prodN W3 l)
  | 0, l, e => by
    rw [List.length_eq_zero_iff.mp e]
    exact h.zero
  | k + 1, l, e => by
    have ne : l ≠ [] := fun z => by rw [z] at e; cases e
    have z := List.dropLast_concat_getLast ne
    rw [← z, prod_snoc, prod_snoc, prod_snoc]
    exact h.mul (h.prod w k l.dropLast (by rw [List.length_dropLast]; omega)) (h.pow _ (w _))
theorem Rel3.val (h : Rel3 n1 n2 n3 R) {M1 M2 M3 W1 W2 W3 : List (Tri → Int)} (m : ∀ i, R (M1.getD i zN) (M2.getD i zN) (M3.getD i zN)) (w : ∀ i, R (W1.getD i zN) (W2.getD i zN) (W3.getD i zN)) (s : Stp) : R (valS n1 M1 W1 s) (valS n2 M2 W2 s) (valS n3 M3 W3 s) := by
  cases s with
  | mk i => exact m i
  | pr l => exact h.prod w l.length l rfl
  | br i j => exact h.br (w i) (w j)
theorem getD_snoc {W : List (Tri → Int)} {F : Tri → Int} (i : Nat) : (W ++ [F]).getD i zN = if i < W.length then W.getD i zN else if i = W.length then F else zN := by
  rw [List.getD_eq_getElem?_getD, List.getElem?_append]
  split
  · rw [List.getD_eq_getElem?_getD]
  · split
    · rename_i e
      rw [e, Nat.sub_self]
      rfl
    · rename_i a b
      rw [List.getElem?_eq_none (by rw [List.length_singleton]; omega)]
      rfl
theorem Rel3.vals (h : Rel3 n1 n2 n3 R) {M1 M2 M3 : List (Tri → Int)} (m : ∀ i, R (M1.getD i zN) (M2.getD i zN) (M3.getD i zN)) : ∀ (k : Nat) (ss : List Stp), ss.length = k → ∀ i, R ((valsL n1 M1 ss).getD i zN) ((valsL n2 M2 ss).getD i zN) ((valsL n3 M3 ss).getD i zN)
  | 0, ss, e => by
    rw [List.length_eq_zero_iff.mp e]
    exact fun i => h.zero
  | k + 1, ss, e => by
    have ne : ss ≠ [] := fun z => by rw [z] at e; cases e
    have z := List.dropLast_concat_getLast ne
    have dl : ss.dropLast.length = k := by rw [List.length_dropLast]; omega
    have ih := h.vals m k ss.dropLast dl
    rw [← z, vals_snoc, vals_snoc, vals_snoc]
    intro i
    rw [getD_snoc, getD_snoc, getD_snoc, vals_len n1 M1 k _ dl, vals_len n2 M2 k _ dl, vals_len n3 M3 k _ dl]
    by_cases c : i < k
    · rw [if_pos c, if_pos c, if_pos c]
      exact ih i
    · rw [if_neg c, if_neg c, if_neg c]
      by_cases d : i = k
      · rw [if_pos d, if_pos d, if_pos d]
        exact h.val m ih _
      · rw [if_neg d, if_neg d, if_neg d]
        exact h.zero
theorem Rel3.last (h : Rel3 n1 n2 n3 R) {M1 M2 M3 : List (Tri → Int)} (m : ∀ i, R (M1.getD i zN) (M2.getD i zN) (M3.getD i zN)) (ss : List Stp) : R (lastS n1 M1 ss) (lastS n2 M2 ss) (lastS n3 M3 ss) := h.vals m _ ss rfl _
end
theorem pz_none {ns : List Int} (S : Shp ns) (n : Int) : EqN ns (powZ zN n) zN := by
  have z0 : EqN ns (powZ zN 0) zN := fun t _ => pz_zero zN t
  have m := pz_mul S zN 0 n
  rw [Int.zero_mul] at m
  exact ((pz_congr S z0 n).symm.trans m).trans z0
theorem br_none {ns : List Int} (S : Shp ns) {F G : Tri → Int} (a : EqN ns F zN) (b : EqN ns G zN) : EqN ns (brN F G ns) zN := by
  have fg : EqN ns (mulN F G) zN := (EqN.mul S a b).trans m1l
  have gf : EqN ns (mulN G F) zN := (EqN.mul S b a).trans m1l
  exact ((m1r (ns := ns)).symm.trans (EqN.mul S EqN.rfl' gf.symm)).trans ((br_mul S F G).trans fg)
/-- a bracket with itself is 1 -/
theorem br_self {ns : List Int} (S : Shp ns) (F : Tri → Int) : EqN ns (brN F F ns) zN := cancel_r S (F := mulN F F) ((br_mul S F F).trans (m1l (ns := ns)).symm)
/-- led by B: products go through -/
theorem led_mulN {ns : List Int} (S : Shp ns) (F G B : Tri → Int) : EqN ns (ledN (mulN F G) B ns) (mulN (ledN F B ns) (ledN G B ns)) := by
  refine cancel_r S (F := B) ?_
  have a := led_mul S (mulN F G) B
  have b : EqN ns (mulN (mulN (ledN F B ns) (ledN G B ns)) B) (mulN B (mulN F G)) := (EqN.assoc S _ _ _).trans ((EqN.mul S EqN.rfl' (led_mul S G B)).trans ((EqN.assoc S _ _ _).symm.trans ((EqN.mul S (led_mul S F B) EqN.rfl').trans (EqN.assoc S _ _ _))))
  exact a.trans b.symm
theorem led_congr {ns : List Int} (S : Shp ns) {F G : Tri → Int} (e : EqN ns F G) (B : Tri → Int) : EqN ns (ledN F B ns) (ledN G B ns) := cancel_r S (F := B) ((led_mul S F B).trans ((EqN.mul S EqN.rfl' e).trans (led_mul S G B).symm))
theorem led_none {ns : List Int} (S : Shp ns) (B : Tri → Int) : EqN ns (ledN zN B ns) zN := cancel_r S (F := B) ((led_mul S zN B).trans (m1r.trans (m1l (ns := ns)).symm))
theorem led_pow {ns : List Int} (S : Shp ns) (F B : Tri → Int) : ∀ n, EqN ns (ledN (powZ F n) B ns) (powZ (ledN F B ns) n) := by
  refine int_all (P := fun n => EqN ns (ledN (powZ F n) B ns) (powZ (ledN F B ns) n)) ?_ (fun n h => ?_) (fun n h => ?_)
  · exact (led_congr S (fun t _ => pz_zero F t) B).trans ((led_none S B).trans fun t _ => (pz_zero _ t).symm)
  · exact (led_congr S (pz_succ S F n) B).trans ((led_mulN S _ _ B).trans ((EqN.mul S h EqN.rfl').trans (pz_succ S _ n).symm))
  · refine cancel_r S (F := ledN F B ns) ?_
    exact (led_mulN S _ _ B).symm.trans ((led_congr S (pz_succ S F n).symm B).trans (h.trans (pz_succ S _ n)))
theorem led_br {ns : List Int} (S : Shp ns) (F G B : Tri → Int) : EqN ns (ledN (brN F G ns) B ns) (brN (ledN F B ns) (ledN G B ns) ns) := by
  refine cancel_r S (F := mulN (ledN G B ns) (ledN F B ns)) ?_
  refine EqN.trans ?_ (br_mul S (ledN F B ns) (ledN G B ns)).symm
  exact (EqN.mul S EqN.rfl' (led_mulN S G F B).symm).trans ((led_mulN S _ _ B).symm.trans ((led_congr S (br_mul S F G) B).trans (led_mulN S F G B)))
theorem br_congr {ns : List Int} (S : Shp ns) {F F2 G G2 : Tri → Int} (a : EqN ns F F2) (b : EqN ns G G2) : EqN ns (brN F G ns) (brN F2 G2 ns) := by
  refine cancel_r S (F := mulN G F) ?_
  exact (br_mul S F G).trans ((EqN.mul S a b).trans ((br_mul S F2 G2).symm.trans (EqN.mul S EqN.rfl' (EqN.mul S b.symm a.symm))))
/-- led makers: all is led -/
theorem rel_led {ns : List Int} (S : Shp ns) (B : Tri → Int) : Rel3 ns ns ns (fun x _ z => EqN ns z (ledN x B ns)) where
  zero := (led_none S B).symm
  mul := fun a b => (EqN.mul S a b).trans (led_mulN S _ _ B).symm
  pow := fun n a => (pz_congr S a n).trans (led_pow S _ B n).symm
  br := fun a b => (br_congr S a b).trans (led_br S _ _ B).symm
/-- of ones, all is 1 -/
theorem rel_ones {ns : List Int} (S : Shp ns) : Rel3 ns ns ns (fun _ _ z => EqN ns z zN) where
  zero := EqN.rfl'
  mul := fun a b => (EqN.mul S a b).trans m1l
  pow := fun n a => (pz_congr S a n).trans (pz_none S n)
  br := fun a b => br_none S a b
end K18
/-! # what steps are worth, block by block -/
namespace K18
open PySem PySem.Spec PyProof.Rows L2 TL NumText RZ
theorem both_bt (k : Nat) (x y x' y' : Tri → Int) : btN (both k x y) (both k x' y') = both k (btN x x') (btN y y') := by
  funext t
  unfold both btN
  by_cases h : t.1 < (k : Int)
  · rw [if_pos h]
    exact sumR_congr fun d _ => by
      show (if t.1 < (k : Int) then _ else _) * (if t.1 < (k : Int) then _ else _) = _
      rw [if_pos h, if_pos h]
  · rw [if_neg h]
    exact sumR_congr fun d _ => by
      show (if t.1 < (k : Int) then _ else _) * (if t.1 < (k : Int) then _ else _) = _
      rw [if_neg h, if_neg h]
      rfl
theorem both_mul (k : Nat) (x y x' y' : Tri → Int) : mulN (both k x y) (both k x' y') = both k (mulN x x') (mulN y y') := by
  funext t
  rw [mul_btN, both_bt]
  unfold both
  by_cases h : t.1 < (k : Int)
  · rw [if_pos h, if_pos h, if_pos h, if_pos h]
    rfl
  · rw [if_neg h, if_neg h, if_neg h, if_neg h]
    rfl
theorem both_nP (k : Nat) (x y : Tri → Int) : ∀ j, nP (both k x y) j = both k (nP x j) (nP y j)
  | 0 => rfl
  | j + 1 => by
    show btN (nP (both k x y) j) (both k x y) = both k (btN (nP x j) x) (btN (nP y j) y)
    rw [both_nP k x y j, both_bt]
theorem both_pow (k : Nat) (x y : Tri → Int) (n : Int) : powZ (both k x y) n = both k (powZ x n) (powZ y n) := by
  funext t
  unfold powZ
  by_cases h : t.1 < (k : Int)
  · show _ = if t.1 < (k : Int) then _ else _
    rw [if_pos h]
    exact sumR_congr fun j _ => by
      rw [both_nP]
      show _ * (if t.1 < (k : Int) then _ else _) = _
      rw [if_pos h]
  · show _ = if t.1 < (k : Int) then _ else _
    rw [if_neg h]
    exact sumR_congr fun j _ => by
      rw [both_nP]
      show _ * (if t.1 < (k : Int) then _ else _) = _
      rw [if_neg h]
theorem both_zero (k : Nat) : both k zN zN = zN := by
  funext t
  unfold both
  split <;> rfl
theorem both_congr {ns ks : List Int} (S : Shp ns) (S2 : Shp ks) (SB : Shp (ns ++ ks)) {x x' y y' : Tri → Int} (a : EqN ns x x') (b : EqN ks y y') : EqN (ns ++ ks) (both ns.length x y) (both ns.length x' y') := fun t m => by
  rcases List.mem_append.mp ((pl_app S S2 SB).mp m) with h | h
  · rw [both_l S h, both_l S h]
    exact a t h
  · obtain ⟨u, hu, rfl⟩ := List.mem_map.mp h
    rw [both_r S2 hu, both_r S2 hu]
    exact b u hu
/-- stairs beside one another: the worths stand beside one another -/
theorem rel_both {ns ks : List Int} (S : Shp ns) (S2 : Shp ks) (SB : Shp (ns ++ ks)) : Rel3 ns ks (ns ++ ks) (fun x y z => EqN (ns ++ ks) z (both ns.length x y)) where
  zero := by
    rw [both_zero]
    exact EqN.rfl'
  mul := fun a b => by
    rw [← both_mul]
    exact EqN.mul SB a b
  pow := fun n a => by
    rw [← both_pow]
    exact pz_congr SB a n
  br := fun {x y z x' y' z'} a b => by
    refine cancel_r SB (F := mulN z' z) ?_
    have l : EqN (ns ++ ks) (mulN z z') (both ns.length (mulN x x') (mulN y y')) := by
      rw [← both_mul]
      exact EqN.mul SB a b
    have r : EqN (ns ++ ks) (mulN z' z) (both ns.length (mulN x' x) (mulN y' y)) := by
      rw [← both_mul]
      exact EqN.mul SB b a
    refine (br_mul SB z z').trans (l.trans ?_)
    refine ((both_congr S S2 SB (br_mul S x x') (br_mul S2 y y')).symm).trans ?_
    rw [← both_mul]
    exact EqN.mul SB EqN.rfl' r.symm
end K18
/-! # a step more -/
namespace K18
open PySem PySem.Spec PyProof.Rows L2 TL NumText RZ
theorem last_snoc (ns : List Int) (Ms : List (Tri → Int)) (ss : List Stp) (s : Stp) : lastS ns Ms (ss ++ [s]) = valS ns Ms (valsL ns Ms ss) s := by
  unfold lastS
  have l := vals_len ns Ms ss.length ss rfl
  rw [vals_snoc, getD_snoc, List.length_append, List.length_singleton, Nat.add_sub_cancel, l, if_neg (Nat.lt_irrefl _), if_pos rfl]
/-- the last one's square by its undoing is the last one -/
theorem last_back {ns : List Int} (S : Shp ns) (Ms : List (Tri → Int)) (ss : List Stp) : EqN ns (lastS ns Ms (ss ++ [.pr [(ss.length - 1, 2), (ss.length - 1, -1)]])) (lastS ns Ms ss) := by
  rw [last_snoc]
  show EqN ns (mulN (mulN zN (powZ (lastS ns Ms ss) 2)) (powZ (lastS ns Ms ss) (-1))) (lastS ns Ms ss)
  exact (EqN.mul S m1l EqN.rfl').trans ((pz_add S (lastS ns Ms ss) 2 (-1)).symm.trans (pz_one S _))
/-- the last one's bracket with itself is 1 -/
theorem last_self {ns : List Int} (S : Shp ns) (Ms : List (Tri → Int)) (ss : List Stp) : EqN ns (lastS ns Ms (ss ++ [.br (ss.length - 1) (ss.length - 1)])) zN := by
  rw [last_snoc]
  exact br_self S (lastS ns Ms ss)
theorem stps_more {many : Nat} {ss : List Stp} (ok : StpsOk many ss) (l1 : 1 ≤ ss.length) : StpsOk many (ss ++ [.pr [(ss.length - 1, 2), (ss.length - 1, -1)]]) ∧ StpsOk many (ss ++ [.br (ss.length - 1) (ss.length - 1)]) := by
  refine ⟨stps_snoc ok ⟨(by show 2 ≤ 3; omega), fun p hp => ?_⟩, stps_snoc ok ⟨by omega, by omega⟩⟩
  rcases List.mem_cons.mp hp with rfl | hp
  · exact ⟨by show ss.length - 1 < ss.length; omega, by show Int.natAbs _ ≤ 3; omega⟩
  · rw [List.mem_singleton.mp hp]
    exact ⟨by show ss.length - 1 < ss.length; omega, by show Int.natAbs _ ≤ 3; omega⟩
end K18
/-! # the law's written steps, of the shape (2,) -/
namespace K18
open PySem PySem.Spec PyProof.Rows L2 TL NumText RZ
theorem shp2 : Shp [2] := ⟨⟨by decide, by decide⟩, fun n hn => by rw [List.mem_singleton.mp hn]; decide, by decide⟩
theorem flat2 : ∀ t ∈ pl [2], (t.2.2 - t.2.1 - 1).toNat = 0 := by decide +kernel
theorem wt_eq {ns : List Int} {c : Nat} {F G : Tri → Int} (e : EqN ns F G) (h : WtB c G ns) : WtB c F ns := fun t m => by
  rw [e t m]
  exact h t m
theorem pow2 (F : Tri → Int) (n : Int) : EqN [2] (powZ F n) (fun t => n * F t) := by
  refine (part_six shp2 (k := 1) (by decide) (.inr (flat_nP flat2 F))).symm.trans fun t _ => part_one F n t
theorem wt2 {c : Nat} (c1 : 1 ≤ c) {k : Int} {X : Tri → Int} (x : ∀ t, (X t).natAbs ≤ 1) (h : k.natAbs ≤ c) : WtB c (fun t => k * X t) [2] := fun t m => by
  refine Nat.le_trans ?_ (le_dd shp2 c1 m)
  rw [Int.natAbs_mul]
  exact Nat.le_trans (Nat.mul_le_mul h (x t)) (by omega)
/-- a maker, and k times its square -/
def dblS (k : Nat) : List Stp := .mk 0 :: (List.range k).map fun i => .pr [(i, 2)]
theorem dbl_succ (k : Nat) : dblS (k + 1) = dblS k ++ [.pr [(k, 2)]] := by
  unfold dblS
  rw [List.range_succ, List.map_append]
  rfl
theorem dbl_len (k : Nat) : (dblS k).length = k + 1 := by
  unfold dblS
  rw [List.length_cons, List.length_map, List.length_range]
theorem dbl_take (k : Nat) : ∀ i, i ≤ k → (dblS k).take (i + 1) = dblS i := fun i h => by
  unfold dblS
  rw [List.take_succ_cons, ← List.map_take, List.take_range, Nat.min_eq_left h]
theorem dbl_vals (X : Tri → Int) : ∀ k i, i ≤ k → EqN [2] ((valsL [2] [X] (dblS k)).getD i zN) (fun t => (2 : Int) ^ i * X t)
  | 0, i, h => by
    have e : i = 0 := by omega
    subst e
    exact fun t _ => (Int.one_mul _).symm
  | k + 1, i, h => by
    rw [dbl_succ, vals_snoc, getD_snoc, vals_len [2] [X] (k + 1) _ (dbl_len k)]
    by_cases c : i < k + 1
    · rw [if_pos c]
      exact dbl_vals X k i (by omega)
    · have e : i = k + 1 := by omega
      rw [if_neg c, if_pos e, e]
      show EqN [2] (mulN zN (powZ ((valsL [2] [X] (dblS k)).getD k zN) 2)) _
      refine (m1l (ns := [2])).trans ((pz_congr shp2 (dbl_vals X k k (Nat.le_refl _)) 2).trans ((pow2 _ 2).trans fun t _ => ?_))
      show (2 : Int) * (2 ^ k * X t) = 2 ^ (k + 1) * X t
      rw [Int.pow_succ, Int.mul_comm ((2 : Int) ^ k) 2, Int.mul_assoc]
theorem pow_abs (i : Nat) : ((2 : Int) ^ i).natAbs = 2 ^ i := by
  rw [Int.natAbs_pow]
  rfl
theorem dbl_wt {X : Tri → Int} (x : ∀ t, (X t).natAbs ≤ 1) {k i : Nat} (h : i ≤ k) (k1 : k ≤ 100) : WtB (2 ^ 100) ((valsL [2] [X] (dblS k)).getD i zN) [2] :=
  wt_eq (dbl_vals X k i h) (wt2 (by decide +kernel) x (by rw [pow_abs]; exact Nat.pow_le_pow_right (by decide) (by omega)))
end K18
/-! # the law's written steps stay small -/
namespace K18
open PySem PySem.Spec PyProof.Rows L2 TL NumText RZ
theorem all_getD {ns : List Int} {c : Nat} {Ws : List (Tri → Int)} (h : ∀ i, i < Ws.length → WtB c (Ws.getD i zN) ns) : ∀ W ∈ Ws, WtB c W ns := fun W hW => by
  obtain ⟨i, e⟩ := List.getElem?_of_mem hW
  have l := (List.getElem?_eq_some_iff.mp e).1
  have z := h i l
  rw [List.getD_eq_getElem?_getD, e] at z
  exact z
theorem dbl_at {k i : Nat} {l : List (Nat × Int)} (e : (dblS k)[i]? = some (.pr l)) : ∃ j, i = j + 1 ∧ j < k ∧ l = [(j, 2)] := by
  unfold dblS at e
  cases i with
  | zero => cases e
  | succ j =>
    rw [List.getElem?_cons_succ, List.getElem?_map] at e
    obtain ⟨m, em, e2⟩ := Option.map_eq_some_iff.mp e
    obtain ⟨a, b⟩ := List.getElem?_eq_some_iff.mp em
    rw [List.getElem_range] at b
    rw [List.length_range] at a
    cases e2
    exact ⟨j, rfl, a, by rw [b]⟩
theorem dbl_pow {X : Tri → Int} (x : ∀ t, (X t).natAbs ≤ 1) {j : Nat} (h : j ≤ 100) : WtB (2 ^ 102) (powZ ((valsL [2] [X] (dblS j)).getD j zN) 2) [2] := by
  refine wt_eq ((pz_congr shp2 (dbl_vals X j j (Nat.le_refl _)) 2).trans (pow2 _ 2)) ?_
  refine wt_eq (G := fun t => (2 * 2 ^ j) * X t) (fun t _ => by show (2 : Int) * (2 ^ j * X t) = 2 * 2 ^ j * X t; rw [Int.mul_assoc]) (wt2 (by decide +kernel) x ?_)
  rw [Int.natAbs_mul, pow_abs]
  have : 2 ^ j ≤ 2 ^ 100 := Nat.pow_le_pow_right (by decide) h
  show 2 * 2 ^ j ≤ 2 ^ 102
  omega
theorem dbl_fine {X : Tri → Int} (x : ∀ t, (X t).natAbs ≤ 1) : Fine [2] [X] (dblS 100) (2 ^ 102) where
  c3 := Nat.pow_le_pow_right (by decide) (by decide)
  worths := fun i hi => by
    cases i with
    | zero =>
      intro W hW
      cases hW
    | succ j =>
      rw [dbl_len] at hi
      rw [dbl_take 100 j (by omega)]
      refine all_getD fun i hi2 => ?_
      rw [vals_len [2] [X] (j + 1) _ (dbl_len j)] at hi2
      exact wt_up (dbl_wt x (by omega) (by omega)) (Nat.pow_le_pow_right (by decide) (by decide))
  powers := fun i l e p hp => by
    obtain ⟨j, rfl, lj, rfl⟩ := dbl_at e
    rw [List.mem_singleton.mp hp, dbl_take 100 j (by omega)]
    exact ⟨dbl_pow x (by omega), Nat.le_trans (show (2 : Int).natAbs ≤ 2 by decide) (by decide +kernel)⟩
  parts := fun i l e j2 => by
    obtain ⟨j, rfl, lj, rfl⟩ := dbl_at e
    rw [dbl_take 100 j (by omega)]
    cases j2 with
    | zero => exact zero_wt _ _
    | succ m =>
      show WtB (2 ^ 102) (prodN _ ((j, 2) :: List.take m [])) [2]
      rw [List.take_nil]
      exact wt_eq (F := mulN zN (powZ ((valsL [2] [X] (dblS j)).getD j zN) 2)) (m1l (ns := [2])) (dbl_pow x (by omega))
end K18
/-! # the flat steps stay small -/
namespace K18
open PySem PySem.Spec PyProof.Rows L2 TL NumText RZ
/-- a maker, and k times its cube by the undone one -/
def flatS (k : Nat) : List Stp := .mk 0 :: List.replicate k (.pr [(0, 3), (0, -3)])
theorem flat_succ (k : Nat) : flatS (k + 1) = flatS k ++ [.pr [(0, 3), (0, -3)]] := by
  unfold flatS
  rw [List.replicate_succ']
  rfl
theorem flat_len (k : Nat) : (flatS k).length = k + 1 := by
  unfold flatS
  rw [List.length_cons, List.length_replicate]
theorem flat_take (k i : Nat) (h : i ≤ k) : (flatS k).take (i + 1) = flatS i := by
  unfold flatS
  rw [List.take_succ_cons, List.take_replicate, Nat.min_eq_left h]
theorem flat_prod (X : Tri → Int) : EqN [2] (mulN (mulN zN (powZ X 3)) (powZ X (-3))) zN :=
  (EqN.mul shp2 m1l EqN.rfl').trans ((pz_add shp2 X 3 (-3)).symm.trans fun t _ => pz_zero X t)
theorem flat_vals (X : Tri → Int) : ∀ k, (valsL [2] [X] (flatS k)).getD 0 zN = X ∧ ∀ i, 0 < i → EqN [2] ((valsL [2] [X] (flatS k)).getD i zN) zN
  | 0 => ⟨rfl, fun i h => by
    cases i with
    | zero => exact absurd h (Nat.lt_irrefl _)
    | succ j => exact EqN.rfl'⟩
  | k + 1 => by
    obtain ⟨h0, h1⟩ := flat_vals X k
    rw [flat_succ, vals_snoc]
    have l := vals_len [2] [X] (k + 1) _ (flat_len k)
    refine ⟨by rw [getD_snoc, l, if_pos (by omega)]; exact h0, fun i hi => ?_⟩
    rw [getD_snoc, l]
    by_cases c : i < k + 1
    · rw [if_pos c]
      exact h1 i hi
    · rw [if_neg c]
      split
      · show EqN [2] (mulN (mulN zN (powZ ((valsL [2] [X] (flatS k)).getD 0 zN) 3)) (powZ ((valsL [2] [X] (flatS k)).getD 0 zN) (-3))) zN
        rw [h0]
        exact flat_prod X
      · exact EqN.rfl'
theorem flat_at {k i : Nat} {l : List (Nat × Int)} (e : (flatS k)[i]? = some (.pr l)) : ∃ j, i = j + 1 ∧ j < k ∧ l = [(0, 3), (0, -3)] := by
  unfold flatS at e
  cases i with
  | zero => cases e
  | succ j =>
    rw [List.getElem?_cons_succ] at e
    obtain ⟨a, b⟩ := List.getElem?_eq_some_iff.mp e
    rw [List.getElem_replicate] at b
    rw [List.length_replicate] at a
    cases b
    exact ⟨j, rfl, a, rfl⟩
theorem flat_fine {X : Tri → Int} (x : ∀ t, (X t).natAbs ≤ 1) (k : Nat) : Fine [2] [X] (flatS k) 8 where
  c3 := by decide +kernel
  worths := fun i hi => by
    cases i with
    | zero =>
      intro W hW
      cases hW
    | succ j =>
      rw [flat_len] at hi
      rw [flat_take k j (by omega)]
      refine all_getD fun i hi2 => ?_
      obtain ⟨h0, h1⟩ := flat_vals X j
      cases i with
      | zero =>
        rw [h0]
        exact wt_eq (G := fun t => 1 * X t) (fun t _ => (Int.one_mul _).symm) (wt2 (by decide) x (by decide))
      | succ m => exact wt_eq (h1 (m + 1) (by omega)) (zero_wt 8 _)
  powers := fun i l e p hp => by
    obtain ⟨j, rfl, lj, rfl⟩ := flat_at e
    rw [flat_take k j (by omega)]
    obtain ⟨h0, h1⟩ := flat_vals X j
    rcases List.mem_cons.mp hp with rfl | hp
    · refine ⟨?_, Nat.le_trans (show (3 : Int).natAbs ≤ 3 by decide) (by decide +kernel)⟩
      show WtB 8 (powZ ((valsL [2] [X] (flatS j)).getD 0 zN) 3) [2]
      rw [h0]
      exact wt_eq (pow2 X 3) (wt2 (by decide) x (by decide))
    · rw [List.mem_singleton.mp hp]
      refine ⟨?_, Nat.le_trans (show (-3 : Int).natAbs ≤ 3 by decide) (by decide +kernel)⟩
      show WtB 8 (powZ ((valsL [2] [X] (flatS j)).getD 0 zN) (-3)) [2]
      rw [h0]
      exact wt_eq (pow2 X (-3)) (wt2 (by decide) x (by decide))
  parts := fun i l e j2 => by
    obtain ⟨j, rfl, lj, rfl⟩ := flat_at e
    rw [flat_take k j (by omega)]
    obtain ⟨h0, h1⟩ := flat_vals X j
    match j2 with
    | 0 => exact zero_wt _ _
    | 1 =>
      show WtB 8 (mulN zN (powZ ((valsL [2] [X] (flatS j)).getD 0 zN) 3)) [2]
      rw [h0]
      exact wt_eq ((m1l (ns := [2])).trans (pow2 X 3)) (wt2 (by decide) x (by decide))
    | m + 2 =>
      show WtB 8 (prodN _ ((0, 3) :: (0, -3) :: List.take m [])) [2]
      rw [List.take_nil]
      show WtB 8 (mulN (mulN zN (powZ ((valsL [2] [X] (flatS j)).getD 0 zN) 3)) (powZ ((valsL [2] [X] (flatS j)).getD 0 zN) (-3))) [2]
      rw [h0]
      exact wt_eq (flat_prod X) (zero_wt 8 _)
end K18
/-! # the law: powers right -/
namespace K18
open PySem PySem.Spec PyProof.Rows L2 TL NumText RZ
theorem ins_of {K : PySem.W.Frag} {Y : Hp} {c C : Addr} {ks ms : List Int} (h : StairO K Y c C ks ms) : Ins Y c C := let ⟨dx, _, _, _, e, _⟩ := h; ⟨dx, _, e⟩
theorem ne_false {ns l m : List Int} (h : l = m) : (!(decide (ns = ns) && decide (l = m))) = false := by rw [decide_eq_true rfl, decide_eq_true h]; rfl
theorem eq_true {ns l m : List Int} (h : l = m) : (decide (ns = ns) && decide (l = m)) = true := by rw [decide_eq_true rfl, decide_eq_true h]; rfl
theorem any_zero {F : Tri → Int} {ns : List Int} (h : EqN ns F (fun _ => 0)) : ((numsL F ns).any fun n => n != 0) = false := by
  rw [List.any_eq_false]
  intro x hx
  obtain ⟨t, m, rfl⟩ := List.mem_map.mp hx
  rw [h t m]
  exact Bool.false_ne_true
section
variable {P : Program} {w : World} {K : PySem.W.Frag} {mg : Str → Option Value} {base : Heap} {C CS TL : Addr}
/-- a stair, its numbers, the urn -/
structure Rt (K : PySem.W.Frag) (C : Addr) (H : Hp) (u c sh Dx : Addr) (ns : List Int) (nx : Tri → Int) : Prop where
  u : Urn H u
  es : SqT K H sh (ns.map V.int)
  xd : XD H Dx ns nx
  st : StairO K H c C ns (numsL nx ns)
theorem Rt.same {H H' : Hp} {u sh Dx c : Addr} {ns : List Int} {nx : Tri → Int} (r : Rt K C H u c sh Dx ns nx) (s : Same H H') : Rt K C H' u c sh Dx ns nx := ⟨r.u.same s, sqt_same r.es s, r.xd.same s, r.st.same s⟩
theorem Rt.old {H H' : Hp} {u sh Dx c : Addr} {ns : List Int} {nx : Tri → Int} (r : Rt K C H u c sh Dx ns nx) (o : Old u H H') (hu : Urn H' u) : Rt K C H' u c sh Dx ns nx := ⟨hu, sqt_old r.u o r.es, r.xd.old r.u o, r.st.old r.u o⟩
end
end K18
/-! # == within a comprehension; a key put again -/
/-! # what stays while the jug is poured; drawn shapes -/
namespace K18
open PySem PySem.Spec PyProof.Rows L2 TL NumText RZ
theorem PmL.old {K : PySem.W.Frag} {H H' : Hp} {D u : Addr} (hu : Urn H u) (o : Old u H H') : ∀ {xs : List V} {us : List (List (Int × Int))}, PmL K H D xs us → PmL K H' D xs us
  | _, _, .nil => .nil
  | _, _, .cons (ys := ys) (p := p) e n t l => .cons (o _ _ (urn_off hu e fun g m c z => by
      have z := HO.lst.inj z
      subst z
      cases p with
      | nil => cases t
      | cons q r =>
        cases t with
        | cons a b => cases a) e) n (t.old hu o) (l.old hu o)
theorem Tms.old {K : PySem.W.Frag} {H H' : Hp} {D u : Addr} {us : List (List (Int × Int))} (hu : Urn H u) (o : Old u H H') (n : D ≠ u) (h : Tms K H D us) : Tms K H' D us := let ⟨xs, e, l⟩ := h; ⟨xs, o _ _ n e, l.old hu o⟩
theorem draw_shape {K : PySem.W.Frag} {H : Hp} {x : V} {d : PyData} {l : List (List Int)} (h : Dw K H x d) (m : d ∈ l.map fun ns => .tuple (ns.map .int)) : ∃ p ns, x = .ref p ∧ ns ∈ l ∧ SqT K H p (ns.map V.int) := by
  obtain ⟨ns, mn, rfl⟩ := List.mem_map.mp m
  cases h with
  | tv t => cases t with
    | tup e l => exact ⟨_, ns, rfl, mn, l.ints ▸ e⟩
def shpA : List (List Int) := [[4], [4], [3], [2, 2]]
def shpB : List (List Int) := [[2], [3], [4]]
theorem shp_ok {l : List Int} (h : isSh (.tuple (l.map .int)) = true) : Shp l := by
  obtain ⟨zs, ez, S⟩ := shp_of h
  obtain rfl : zs = l := (ints_inj (PyData.tuple.inj ez)).symm
  exact S
theorem shpA_ok {l : List Int} (h : l ∈ shpA) : Shp l := shp_ok ((by decide +kernel : ∀ l ∈ shpA, isSh (.tuple (l.map .int)) = true) l h)
theorem shpB_ok {l : List Int} (h : l ∈ shpB) : Shp l := shp_ok ((by decide +kernel : ∀ l ∈ shpB, isSh (.tuple (l.map .int)) = true) l h)
theorem shpAB_ok {a b : List Int} (h : a ∈ shpA) (g : b ∈ shpB) : Shp (a ++ b) := shp_ok ((by decide +kernel : ∀ a ∈ shpA, ∀ b ∈ shpB, isSh (.tuple ((a ++ b).map .int)) = true) a h b g)
/-- the entries drawn are small -/
def E9s (Fs : List (Tri → Int)) : Prop := ∀ F ∈ Fs, E9 F
theorem E9s.snoc {Fs : List (Tri → Int)} {F : Tri → Int} (h : E9s Fs) (e : E9 F) : E9s (Fs ++ [F]) := fun G hG => by
  rcases List.mem_append.mp hG with m | m
  · exact h G m
  · rw [List.mem_singleton.mp m]
    exact e
theorem E9s.wt {Fs : List (Tri → Int)} (h : E9s Fs) {ns : List Int} (S : Shp ns) : ∀ F ∈ Fs, WtB 9 F ns := fun F m => (h F m).wt S
theorem E9s.sm {Fs : List (Tri → Int)} (h : E9s Fs) (ns : List Int) : ∀ F ∈ Fs, SmN F ns := fun F m => (h F m).sm ns
end K18
/-! # a tuple of one item, many times -/
namespace K18
open PySem PySem.Spec PyProof.Rows L2 TL NumText RZ
def rRepM (K : PySem.W.Frag) : R2 := fun x y H Q => ∃ (a : Addr) (n : Nat) (w : V), x = .ref a ∧ y = .int (n : Nat) ∧ SqT K H a [w] ∧ 2 ≤ n ∧ n ≤ 4000 ∧ ∀ b, H b = none → Q (.ref b) (upd H b (.tup (List.replicate n w)))
theorem flat_one {α : Type} (w : α) : ∀ n, (List.replicate n [w]).flatten = List.replicate n w
  | 0 => rfl
  | n + 1 => by
    rw [List.replicate_succ, List.flatten_cons, flat_one w n]
    rfl
theorem op_repM {X : Cx} : OpR X (binaryOp .Mult) (rRepM X.K) := by
  intro pins st σ H x y v u Q I rx ry given
  obtain ⟨a, n, w, rfl, rfl, tu, two, most, fin⟩ := given
  cases rx
  obtain ⟨tk, rfl⟩ := ry
  obtain ⟨vals, rv, ⟨⟨kind, own, held, marks⟩, look, ek, len, eh⟩, _⟩ := I.tuple tu
  simp only at ek eh
  subst ek eh
  obtain ⟨v0, rfl⟩ : ∃ v0, vals = [v0] := List.length_eq_one_iff.mp rv.length.symm
  have long : (List.replicate n w).length ≤ sizeLine := by
    rw [List.length_replicate, sizeLine_eq]
    omega
  have near : (decide (((n : Nat) : Int) < -(2 ^ 63)) || decide (((n : Nat) : Int) ≥ 2 ^ 63)) = false := Bool.or_eq_false_iff.mpr ⟨decide_eq_false (by omega), decide_eq_false (by omega)⟩
  have some1 : ([v0].toArray.isEmpty || ((n : Nat) : Int) == 1) = false := Bool.or_eq_false_iff.mpr ⟨rfl, beq_eq_false_iff_ne.mpr (by omega)⟩
  have some2 : (decide (((n : Nat) : Int) ≤ 0) || [v0].toArray.isEmpty) = false := Bool.or_eq_false_iff.mpr ⟨decide_eq_false (by omega), rfl⟩
  have few : ¬ (([v0].toArray.size : Nat) : Int) * ((n : Nat) : Int) > (2 ^ 63 - 1) / 8 := by
    show ¬ (1 : Int) * ((n : Nat) : Int) > (2 ^ 63 - 1) / 8
    omega
  have fits : Builtin.Tuple.tupleTooMany ((([v0].toArray.size : Nat) : Int) * ((n : Nat) : Int)) = false := by
    unfold Builtin.Tuple.tupleTooMany
    refine decide_eq_false ?_
    show ¬ (1 : Int) * ((n : Nat) : Int) > _
    rw [sizeLine_eq]
    omega
  have all : ∀ m, List.foldl (fun (x1 x2 : Array PySem.Value) => x1 ++ x2) #[] (List.replicate m [v0].toArray) = (List.replicate m v0).toArray := fun m => by rw [size_rep, flat_one]
  have fine : (List.foldl (fun (x1 x2 : Array PySem.Value) => x1 ++ x2) #[] (List.replicate (((n : Nat) : Int)).toNat [v0].toArray)).size ≤ sizeLine := by
    rw [all, List.size_toArray, List.length_replicate, Int.toNat_natCast, sizeLine_eq]
    omega
  have back := tuple_mulW a [v0].toArray len own marks ((n : Nat) : Int) tk near some1 some2 few fits fine
  have here : st.heap.get? a = some _ := look
  refine wpAny_binaryOp_repeat_ref (U := "int") (T := "tuple") (by decide) ⟨_, here, rfl⟩ (fun z => typeIs_int z _ tk) noFill_tuple_mul F.fills_int_mul F.slot_int_rmul repeat_tuple F.slot_int_index.lookup ?_
  refine call_meets F.slot_int_rmul (typeIs_int st ((n : Nat) : Int) tk) F.entry_int_rmul (F.args_int_rmul_2 _ _) (int_rmul_tuple ((n : Nat) : Int) tk a [v0].toArray len own marks) ?_
  refine ⟨here, rfl, ⟨_, here, rfl⟩, ?_⟩
  refine call_meets F.slot_tuple_mul ⟨_, here, rfl⟩ F.entry_tuple_mul (F.args_tuple_mul_2 _ _) back ?_
  refine ⟨here, ?_⟩
  rw [all, Int.toNat_natCast]
  have laid := I.laid (t' := st.toks) (o := .tup (List.replicate n w)) (fun b ob q => Heap.get?_push_of_some _ q) (Nat.le_refl _) ⟨long, List.replicate n v0, ?_, IsTup.new _ _⟩
  · exact ⟨.ref st.heap.objs.size, _, laid, rfl, fin _ (I.hok.fresh (Nat.le_refl _))⟩
  · have more := rv.rep n
    rw [flat_one, flat_one] at more
    exact more
end K18
/-! # the law: right -/
namespace K18
open PySem PySem.Spec PyProof.Rows L2 TL NumText RZ
theorem cut_take (xs : List V) (i : Nat) (h : i < xs.length) : ¬ (HT.sIx xs.length 0 none = 0 ∧ HT.sIx xs.length xs.length (some (i : Int)) = xs.length) ∧ cutV xs none (some (i : Int)) = xs.take i := by
  have a : HT.sIx xs.length 0 none = 0 := rfl
  have b : HT.sIx xs.length xs.length (some (i : Int)) = i := by rw [HT.sIx_nat]; omega
  refine ⟨fun z => by have := z.2; omega, ?_⟩
  unfold cutV
  rw [a, b, List.drop_zero, Nat.sub_zero]
theorem StpL.take {K : PySem.W.Frag} {H : Hp} : ∀ {xs : List V} {ss : List Stp} (i : Nat), StpL K H xs ss → StpL K H (xs.take i) (ss.take i)
  | _, _, 0, _ => .nil
  | _, _, _ + 1, .nil => .nil
  | _, _, i + 1, .cons e t => .cons e (t.take i)
theorem bnd_of (k : Nat) (h : k ≤ 11) : 2 ^ (14 * k) * 9 ≤ 2 ^ 180 ∧ 2 ^ (14 * k) * 9 ≤ 2 ^ 300 := by
  have a : 2 ^ (14 * k) ≤ 2 ^ 154 := Nat.pow_le_pow_right (by decide) (by omega)
  have b := Nat.mul_le_mul_right 9 a
  exact ⟨Nat.le_trans b (by decide +kernel), Nat.le_trans b (by decide +kernel)⟩
theorem last_wt {ns : List Int} (S : Shp ns) {Ms : List (Tri → Int)} (w : ∀ M ∈ Ms, WtB 9 M ns) {ss : List Stp} (ok : StpsOk Ms.length ss) (l : ss.length ≤ 9) : WtB (2 ^ 180) (lastS ns Ms ss) ns := by
  unfold lastS
  refine getD_wt (fun W h => ?_) _
  have a := vals_wt S w ss.length ss rfl ok W h
  exact wt_up a (bnd_of ss.length (by omega)).1
theorem stF_none {s p n : V} {m : Str} (h1 : m ≠ "_shape") (h2 : m ≠ "_plan") (h3 : m ≠ "_numbers") : (stF s p n).lookup m = none := by
  unfold stF
  rw [lookup_putF, if_neg h3, lookup_putF, if_neg h2, lookup_putF, if_neg h1]
  rfl
/-- what follows, hidden while a statement is read -/
theorem hide {t u : TS} {D : Ends} {σ : L2.St} {H : Hp} (h : ∀ R, R = u → tSeq t R D σ H) : tSeq t u D σ H := h u rfl
theorem getD_rep (n i : Nat) : (List.replicate n zN).getD i zN = zN := by
  rw [List.getD_eq_getElem?_getD, List.getElem?_replicate]
  split <;> rfl
theorem getD_map_led {ns : List Int} (S : Shp ns) {Ms : List (Tri → Int)} {B : Tri → Int} {i : Nat} : EqN ns ((Ms.map fun M => ledN M B ns).getD i zN) (ledN (Ms.getD i zN) B ns) := by
  rw [List.getD_eq_getElem?_getD, List.getD_eq_getElem?_getD, List.getElem?_map]
  cases Ms[i]? with
  | none => exact (led_none S B).symm
  | some M => exact EqN.rfl'
theorem getD_zip {k : Nat} {Ms Ns : List (Tri → Int)} (e : Ms.length = Ns.length) {i : Nat} : (List.zipWith (both k) Ms Ns).getD i zN = both k (Ms.getD i zN) (Ns.getD i zN) := by
  rw [List.getD_eq_getElem?_getD, List.getD_eq_getElem?_getD, List.getD_eq_getElem?_getD, List.getElem?_zipWith]
  by_cases h : i < Ms.length
  · rw [List.getElem?_eq_getElem h, List.getElem?_eq_getElem (show i < Ns.length by omega)]
    rfl
  · rw [List.getElem?_eq_none (by omega), List.getElem?_eq_none (show Ns.length ≤ i by omega)]
    exact (both_zero k).symm
theorem both_e9 {ns ks : List Int} (S : Shp ns) (SB : Shp (ns ++ ks)) {Ms Ns : List (Tri → Int)} (a : E9s Ms) (b : E9s Ns) {M : Tri → Int} (h : M ∈ List.zipWith (both ns.length) Ms Ns) : WtB 9 M (ns ++ ks) := by
  obtain ⟨i, e⟩ := List.getElem?_of_mem h
  rw [List.getElem?_zipWith] at e
  cases e1 : Ms[i]? with
  | none => rw [e1] at e; cases e
  | some F =>
    cases e2 : Ns[i]? with
    | none => rw [e1, e2] at e; cases e
    | some G =>
      rw [e1, e2] at e
      obtain rfl := Option.some.inj e
      refine E9.wt (fun t => ?_) SB
      unfold both
      split
      · exact a F (List.mem_of_getElem? e1) _
      · exact b G (List.mem_of_getElem? e2) _
/-- what is there behind the draws -/
structure Fm (K : PySem.W.Frag) (C : Addr) (H : Hp) (u sh sk TM D pA pB cT SA : Addr) (ns ks : List Int) (Ms Ns : List (Tri → Int)) (ss : List Stp) (xs ys zs ws : List V) : Prop where
  urn : Urn H u
  es : SqT K H sh (ns.map V.int)
  ek : SqT K H sk (ks.map V.int)
  tm : Tms K H TM (tmL ns)
  nTM : TM ≠ u
  nD : D ≠ u
  eD : H D = some (.lst xs)
  nt : NTs K H ns xs Ms
  eA : SqT K H pA ys
  sA : Sts K H C ns ys Ms
  eB : SqT K H pB zs
  sB : Sts K H C ks zs Ns
  eS : SqT K H SA ws
  ts : StpL K H ws ss
  told : StairO K H cT C ns (numsL (lastS ns Ms ss) ns)
theorem Fm.same {K : PySem.W.Frag} {C : Addr} {H H' : Hp} {u sh sk TM D pA pB cT SA : Addr} {ns ks : List Int} {Ms Ns : List (Tri → Int)} {ss : List Stp} {xs ys zs ws : List V} (f : Fm K C H u sh sk TM D pA pB cT SA ns ks Ms Ns ss xs ys zs ws) (s : Same H H') : Fm K C H' u sh sk TM D pA pB cT SA ns ks Ms Ns ss xs ys zs ws :=
  ⟨f.urn.same s, sqt_same f.es s, sqt_same f.ek s, f.tm.same s, f.nTM, f.nD, s _ _ f.eD, f.nt.same s, sqt_same f.eA s, f.sA.same s, sqt_same f.eB s, f.sB.same s, sqt_same f.eS s, f.ts.same s, f.told.same s⟩
theorem Fm.old {K : PySem.W.Frag} {C : Addr} {H H' : Hp} {u sh sk TM D pA pB cT SA : Addr} {ns ks : List Int} {Ms Ns : List (Tri → Int)} {ss : List Stp} {xs ys zs ws : List V} (f : Fm K C H u sh sk TM D pA pB cT SA ns ks Ms Ns ss xs ys zs ws) (o : Old u H H') (uu : Urn H' u) : Fm K C H' u sh sk TM D pA pB cT SA ns ks Ms Ns ss xs ys zs ws :=
  ⟨uu, sqt_old f.urn o f.es, sqt_old f.urn o f.ek, f.tm.old f.urn o f.nTM, f.nTM, f.nD, o _ _ f.nD f.eD, f.nt.old f.urn o, sqt_old f.urn o f.eA, f.sA.old f.urn o, sqt_old f.urn o f.eB, f.sB.old f.urn o, sqt_old f.urn o f.eS, f.ts.old f.urn o, f.told.old f.urn o⟩
section
variable {P : Program} {w : World} {K : PySem.W.Frag} {mg : Str → Option Value} {base : Heap} {C CS CM TL : Addr} {mc : Value}
abbrev s_lright : Stmt := topS 81
theorem sc_lright : FnScope ["_law_jug_here", "_law_sizes", "_law_others", "_law_terms_here", "_law_later", "_law_many", "_law_raws", "_law_more", "_law_steps_here", "_law_due", "_law_next_due", "_law_here", "_law_there", "_law_told", "_law_at", "_law_by", "_law_both", "_law_last", "_law_turn", "_law_stair_here", "_law_other"] ["_law_jug_here"] (defScope s_lright) := ⟨rfl, rfl, rfl, by decide +kernel, rfl, by decide +kernel, by decide +kernel⟩
def spLRight : Sp := fun vs H Q _ => ∃ u : Addr, vs = [.ref u] ∧ Urn H u ∧ ∀ H', Old u H H' → Q (.bl true) H'
theorem ok_lright {f fs ft f1 f2 f3 f4 f5 f6 fW gN gL gBs gZ gQ pO gO qN : Addr} {fd fds fdt fd1 fd2 fd3 fd4 fd5 fd6 fdW fdN fdL fdBs fdZ fdQ fdO : FuncData} (T : Txt mg) (N : Nam mg) (nz : mg "zip" = none) (R : SC K mg C) (IC : C8.InsC K C) (d : D K mg "_law_right" s_lright ["_law_jug_here"] f fd)
    (ds : D K mg "_law_of" s_of18 ["_law_jug_here", "_law_items"] fs fds) (Gs : FnOk P w K mg base CX0 2 fs fds ["_law_jug_here", "_law_items"] (spOf18 K))
    (dt : D K mg "_law_pour" s_pour ["_law_jug_here", "_law_many"] ft fdt) (Gt : FnOk P w K mg base CX0 1 ft fdt ["_law_jug_here", "_law_many"] spPour)
    (d1 : D K mg "_law_terms" s_terms ["_law_sizes"] f1 fd1) (G1 : FnOk P w K mg base CX0 2 f1 fd1 ["_law_sizes"] (spTerms K))
    (d2 : D K mg "_law_entries" s_lent ["_law_jug_here", "_law_terms_here"] f2 fd2) (G2 : FnOk P w K mg base CX0 3 f2 fd2 ["_law_jug_here", "_law_terms_here"] (spLEnt K))
    (d3 : D K mg "_law_steps" s_lsteps ["_law_jug_here", "_law_many", "_law_most"] f3 fd3) (G3 : FnOk P w K mg base CX0 4 f3 fd3 ["_law_jug_here", "_law_many", "_law_most"] (spLSteps K))
    (d4 : D K mg "_law_worth" s_lworth ["_law_terms_here", "_law_raws", "_law_steps_here"] f4 fd4) (G4 : FnOk P w K mg base CX0 4 f4 fd4 ["_law_terms_here", "_law_raws", "_law_steps_here"] (spLWorth K))
    (d5 : D K mg "_law_all_stairs" s_lall ["_law_sizes", "_law_raws"] f5 fd5) (G5 : FnOk P w K mg base CX0 10 f5 fd5 ["_law_sizes", "_law_raws"] (spLAll K C))
    (d6 : D K mg "_law_stair" s_lstair ["_law_sizes", "_law_one"] f6 fd6) (G6 : FnOk P w K mg base CX0 9 f6 fd6 ["_law_sizes", "_law_one"] (spLStair K C))
    (dW : D K mg "worth" s_worth ["shape", "stairs", "steps"] fW fdW) (GW : FnOk P w K mg base CX0 10 fW fdW ["shape", "stairs", "steps"] (spWorth K C))
    (pN : PropOf K C "numbers" qN gN) (GN : FnOk P w K mg base CX0 1 gN fdN ["self"] (spNums K C)) (bN : Binds K fdN ["self"] [])
    (hm : PySem.W.mroIn K C (.type "object") = some true) (hne : PySem.W.findIn K (.ref C) "__ne__" = some (some (.builtin "object.__ne__"))) (nfC : PySem.W.notFirst K C (.ref C) = true)
    (hsQ : PySem.W.findIn K (.ref C) "__eq__" = some (some (.ref gQ))) (hfQ : PySem.W.isFn K (.ref gQ) = true) (GQ : FnOk P w K mg base CX0 1 gQ fdQ ["self", "other"] (spSEq K C)) (bQ : Binds K fdQ ["self", "other"] [])
    (mL : Meth K C "led" gL) (GL : FnOk P w K mg base CX0 10 gL fdL ["self", "other"] (spLedM K C)) (bL : Binds K fdL ["self", "other"] [])
    (mBs : Meth K C "beside" gBs) (GBs : FnOk P w K mg base (L2.CX P w) 10 gBs fdBs ["self", "other"] (spBeside K C CM)) (bBs : Binds K fdBs ["self", "other"] [])
    (hsB : PySem.W.findIn K (.ref C) "__bool__" = some (some (.ref gZ))) (hfB : PySem.W.isFn K (.ref gZ) = true) (GZ : FnOk P w K mg base CX0 1 gZ fdZ ["self"] (spSBool K C)) (bZ : Binds K fdZ ["self"] [])
    (rd : ClX.CRead K C mc) (cmO : ClX.CMet K C mc "one" pO gO) (GO : FnOk P w K mg base CX0 9 gO fdO ["cls", "shape"] (spOne K C)) (bO : Binds K fdO ["cls", "shape"] []) :
    FnOk P w K mg base CX0 12 f fd ["_law_jug_here"] spLRight := by
  refine d.F.ok sc_lright (fun vs H Q E h => ?_) (fun cdv A outer s H vs Q E hr h => ?_)
  · obtain ⟨u, rfl, _⟩ := h
    rfl
  · obtain ⟨u, rfl, hu, q⟩ := h
    have u64 : (A.deeper (envOfC "_law_right" (defScope s_lright) s.heap.objs.size f cdv)).units + 64 < cLine := by have := hr.un; omega
    refine ⟨_, (pss_cons (ps_asg (pe_tup (pa_cons (pe_call Gs (hr.mono (by decide)) (by rfl) ds.g ds.F.kp ds.b .nil pass0 (pa_cons (pv 0) (pa_cons (pe_lst (pa_cons (pe_tup (pa_cons pe_int pa_nil)) (pa_cons (pe_tup (pa_cons pe_int pa_nil)) (pa_cons (pe_tup (pa_cons pe_int pa_nil)) (pa_cons (pe_tup (pa_cons pe_int (pa_cons pe_int pa_nil))) pa_nil))))) pa_nil))) (pa_cons (pe_call Gs (hr.mono (by decide)) (by rfl) ds.g ds.F.kp ds.b .nil pass0 (pa_cons (pv 0) (pa_cons (pe_lst (pa_cons (pe_tup (pa_cons pe_int pa_nil)) (pa_cons (pe_tup (pa_cons pe_int pa_nil)) (pa_cons (pe_tup (pa_cons pe_int pa_nil)) pa_nil)))) pa_nil))) pa_nil))) (pg_tup rfl (pgs_cons (pg_name (i := 1) sc_lright.nd rfl (.inr rfl)) (pgs_cons (pg_name (i := 2) sc_lright.nd rfl (.inl rfl)) pgs_nil))))
      (pss_cons (ps_asg (pe_tup (pa_cons (pe_call G1 (hr.mono (by decide)) (by rfl) d1.g d1.F.kp d1.b .nil pass0 (pa_cons (pv 1) pa_nil)) (pa_cons (pe_call G1 (hr.mono (by decide)) (by rfl) d1.g d1.F.kp d1.b .nil pass0 (pa_cons (pv 2) pa_nil)) pa_nil))) (pg_tup rfl (pgs_cons (pg_name (i := 3) sc_lright.nd rfl (.inr rfl)) (pgs_cons (pg_name (i := 4) sc_lright.nd rfl (.inr rfl)) pgs_nil))))
      (pss_cons (ps_set (i := 5) sc_lright.nd rfl (.inl rfl) (pe_call Gt (hr.mono (by decide)) (by rfl) dt.g dt.F.kp dt.b .nil pass0 (pa_cons (pv 0) (pa_cons pe_int pa_nil))))
      (pss_cons (ps_par (i := 6) (j := 7) rfl sc_lright.nd rfl rfl (by decide) rfl rfl (pa_cons (pe_lc (own := [("_law_turn", 18)]) (g := gName 18) (tt := tYes) rfl sc_lright.nd (pi_range1 (by rfl) T.n_range (pa_cons (pv 5) pa_nil)) (blkOk_by (own := [("_law_turn", 18)]) (N := ["_law_jug_here", "_law_sizes", "_law_others", "_law_terms_here", "_law_later", "_law_many", "_law_raws", "_law_more", "_law_steps_here", "_law_due", "_law_next_due", "_law_here", "_law_there", "_law_told", "_law_at", "_law_by", "_law_both", "_law_last", "_law_turn", "_law_stair_here", "_law_other"]) (sc := defScope s_lright) (by decide +kernel))
            (fun _ _ _ _ _ => (pg_name (i := 18) sc_lright.nd rfl (Or.inl rfl))) (fun _ _ _ _ _ => pts_nil) (fun _ _ _ _ _ => (pe_call G2 (hr.mono (by decide)) (by rfl) d2.g d2.F.kp d2.b .nil pass0 (pa_cons (pv 0) (pa_cons (pv 3) pa_nil))))) (pa_cons (pe_lc (own := [("_law_turn", 18)]) (g := gName 18) (tt := tYes) rfl sc_lright.nd (pi_range1 (by rfl) T.n_range (pa_cons (pv 5) pa_nil)) (blkOk_by (own := [("_law_turn", 18)]) (N := ["_law_jug_here", "_law_sizes", "_law_others", "_law_terms_here", "_law_later", "_law_many", "_law_raws", "_law_more", "_law_steps_here", "_law_due", "_law_next_due", "_law_here", "_law_there", "_law_told", "_law_at", "_law_by", "_law_both", "_law_last", "_law_turn", "_law_stair_here", "_law_other"]) (sc := defScope s_lright) (by decide +kernel))
            (fun _ _ _ _ _ => (pg_name (i := 18) sc_lright.nd rfl (Or.inl rfl))) (fun _ _ _ _ _ => pts_nil) (fun _ _ _ _ _ => (pe_call G2 (hr.mono (by decide)) (by rfl) d2.g d2.F.kp d2.b .nil pass0 (pa_cons (pv 0) (pa_cons (pv 4) pa_nil))))) pa_nil)) (by rfl))
      (pss_cons (ps_set (i := 8) sc_lright.nd rfl (.inl rfl) (pe_call G3 (hr.mono (by decide)) (by rfl) d3.g d3.F.kp d3.b .nil pass0 (pa_cons (pv 0) (pa_cons (pv 5) (pa_cons pe_int pa_nil)))))
      (pss_cons (ps_par (i := 9) (j := 10) rfl sc_lright.nd rfl rfl (by decide) rfl rfl (pa_cons (pe_call G4 (hr.mono (by decide)) (by rfl) d4.g d4.F.kp d4.b .nil pass0 (pa_cons (pv 3) (pa_cons (pv 6) (pa_cons (pv 8) pa_nil)))) (pa_cons (pe_call G4 (hr.mono (by decide)) (by rfl) d4.g d4.F.kp d4.b .nil pass0 (pa_cons (pv 4) (pa_cons (pv 7) (pa_cons (pv 8) pa_nil)))) pa_nil)) (by rfl))
      (pss_cons (ps_par (i := 11) (j := 12) rfl sc_lright.nd rfl rfl (by decide) rfl rfl (pa_cons (pe_call G5 (hr.mono (by decide)) (by rfl) d5.g d5.F.kp d5.b .nil pass0 (pa_cons (pv 1) (pa_cons (pv 6) pa_nil))) (pa_cons (pe_call G5 (hr.mono (by decide)) (by rfl) d5.g d5.F.kp d5.b .nil pass0 (pa_cons (pv 2) (pa_cons (pv 7) pa_nil))) pa_nil)) (by rfl))
      (pss_cons (ps_set (i := 13) sc_lright.nd rfl (.inl rfl) (pe_call GW (hr.mono (by decide)) (by rfl) dW.g dW.F.kp dW.b .nil pass0 (pa_cons (pv 1) (pa_cons (pv 11) (pa_cons (pv 8) pa_nil)))))
      (pss_cons (ps_if (PW.pt (pw_or (pt_cmpR (op_neD u64) (pe_prop (pv 13) R.cl pN GN (hr.mono (by decide)) bN .nil pass0 (by rfl)) (pv 9) (nomark _)) (pw_or1 (pt_cmpR (op_neD u64) (pe_prop (pe_call GW (hr.mono (by decide)) (by rfl) dW.g dW.F.kp dW.b .nil pass0 (pa_cons (pv 2) (pa_cons (pv 12) (pa_cons (pv 8) pa_nil)))) R.cl pN GN (hr.mono (by decide)) bN .nil pass0 (by rfl)) (pv 10) (nomark _))))) (pss_one (ps_ret pe_bl)) pss_nil)
      (pss_cons (ps_for PassesOwn.never rfl (pi_range1 (by rfl) T.n_range (pa_cons (pe_callB call_len_seq (by rfl) T.n_len PySem.boot_len (pa_cons (pv 8) pa_nil)) pa_nil)) (pg_name (i := 14) sc_lright.nd rfl (.inl rfl))
        (pss_one (ps_if (pt_cmpR (op_neD u64) (pe_prop (pe_call GW (hr.mono (by decide)) (by rfl) dW.g dW.F.kp dW.b .nil pass0 (pa_cons (pv 1) (pa_cons (pv 11) (pa_cons (pe_slice sl_tup (pv 8) po_none (po_some (pv 14))) pa_nil)))) R.cl pN GN (hr.mono (by decide)) bN .nil pass0 (by rfl)) (pe_call G4 (hr.mono (by decide)) (by rfl) d4.g d4.F.kp d4.b .nil pass0 (pa_cons (pv 3) (pa_cons (pv 6) (pa_cons (pe_slice sl_tup (pv 8) po_none (po_some (pv 14))) pa_nil)))) (nomark _)) (pss_one (ps_ret pe_bl)) pss_nil)))
      (pss_cons (ps_if (pt_val (pe_callTy (call_boolMine hsB hfB GZ (hr.mono (by decide)) bZ) (by rfl) T.n_bool (by decide +kernel) (pa_cons (pe_call GW (hr.mono (by decide)) (by rfl) dW.g dW.F.kp dW.b .nil pass0 (pa_cons (pv 1) (pa_cons (pe_tupleOf (by rfl) T.n_tuple (pe_lc (own := [("_law_stair_here", 19)]) (g := gName 19) (tt := tYes) rfl sc_lright.nd (pi_tup (pv 11)) (blkOk_by (own := [("_law_stair_here", 19)]) (N := ["_law_jug_here", "_law_sizes", "_law_others", "_law_terms_here", "_law_later", "_law_many", "_law_raws", "_law_more", "_law_steps_here", "_law_due", "_law_next_due", "_law_here", "_law_there", "_law_told", "_law_at", "_law_by", "_law_both", "_law_last", "_law_turn", "_law_stair_here", "_law_other"]) (sc := defScope s_lright) (by decide +kernel))
            (fun _ _ _ _ _ => (pg_name (i := 19) sc_lright.nd rfl (Or.inl rfl))) (fun _ _ _ _ _ => pts_nil) (fun _ _ _ _ _ => (ClX.pe_cmeth (pe_glob (v := .ref C) rfl R.mC rfl) rd cmO (GO.raw bO .nil) (hr.mono (by decide)) pass0 (pa_cons (pv 1) pa_nil))))) (pa_cons (pv 8) pa_nil)))) pa_nil))) (pss_one (ps_ret pe_bl)) pss_nil)
      (pss_cons (ps_set (i := 15) sc_lright.nd rfl (.inr rfl) (pe_call G6 (hr.mono (by decide)) (by rfl) d6.g d6.F.kp d6.b .nil pass0 (pa_cons (pv 1) (pa_cons (pe_call G2 (hr.mono (by decide)) (by rfl) d2.g d2.F.kp d2.b .nil pass0 (pa_cons (pv 0) (pa_cons (pv 3) pa_nil))) pa_nil))))
      (pss_cons (ps_if (pt_cmpR (op_neMine hm hne hsQ hfQ GQ (hr.mono (by decide)) bQ) (pe_call GW (hr.mono (by decide)) (by rfl) dW.g dW.F.kp dW.b .nil pass0 (pa_cons (pv 1) (pa_cons (pe_tupleOf (by rfl) T.n_tuple (pe_lc (own := [("_law_stair_here", 19)]) (g := gName 19) (tt := tYes) rfl sc_lright.nd (pi_tup (pv 11)) (blkOk_by (own := [("_law_stair_here", 19)]) (N := ["_law_jug_here", "_law_sizes", "_law_others", "_law_terms_here", "_law_later", "_law_many", "_law_raws", "_law_more", "_law_steps_here", "_law_due", "_law_next_due", "_law_here", "_law_there", "_law_told", "_law_at", "_law_by", "_law_both", "_law_last", "_law_turn", "_law_stair_here", "_law_other"]) (sc := defScope s_lright) (by decide +kernel))
            (fun _ _ _ _ _ => (pg_name (i := 19) sc_lright.nd rfl (Or.inl rfl))) (fun _ _ _ _ _ => pts_nil) (fun _ _ _ _ _ => (pe_meth (pv 19) R.cl mL GL (hr.mono (by decide)) bL .nil pass0 (pa_cons (pv 15) pa_nil))))) (pa_cons (pv 8) pa_nil)))) (pe_meth (pv 13) R.cl mL GL (hr.mono (by decide)) bL .nil pass0 (pa_cons (pv 15) pa_nil)) (nomark _)) (pss_one (ps_ret pe_bl)) pss_nil)
      (pss_cons (ps_set (i := 16) sc_lright.nd rfl (.inl rfl) (pe_tupleOf (by rfl) T.n_tuple (pe_lc (own := [("_law_stair_here", 19), ("_law_other", 20)]) (g := gTup K 2 (gCons (gName 19) (gCons (gName 20) gNil))) (tt := tYes) rfl sc_lright.nd (pi_zipA (by rfl) nz (pa_cons (pv 11) (pa_cons (pv 12) pa_nil))) (blkOk_by (own := [("_law_stair_here", 19), ("_law_other", 20)]) (N := ["_law_jug_here", "_law_sizes", "_law_others", "_law_terms_here", "_law_later", "_law_many", "_law_raws", "_law_more", "_law_steps_here", "_law_due", "_law_next_due", "_law_here", "_law_there", "_law_told", "_law_at", "_law_by", "_law_both", "_law_last", "_law_turn", "_law_stair_here", "_law_other"]) (sc := defScope s_lright) (by decide +kernel))
            (fun _ _ _ _ _ => (pg_tup rfl (pgs_cons (pg_name (i := 19) sc_lright.nd rfl (Or.inl rfl)) (pgs_cons (pg_name (i := 20) sc_lright.nd rfl (Or.inl rfl)) pgs_nil)))) (fun _ _ _ _ _ => pts_nil) (fun _ _ _ _ _ => (pe_meth (E := fun _ _ _ => False) (pv 19) R.cl mBs GBs (hr.mono (by decide)) bBs .nil passF (pa_cons (pv 20) pa_nil))))))
      (pss_cons (ps_if (pt_cmpR (op_neMine hm hne hsQ hfQ GQ (hr.mono (by decide)) bQ) (pe_call GW (hr.mono (by decide)) (by rfl) dW.g dW.F.kp dW.b .nil pass0 (pa_cons (pe_op op_catT (pv 1) (pv 2)) (pa_cons (pv 16) (pa_cons (pv 8) pa_nil)))) (pe_meth (E := fun _ _ _ => False) (pv 13) R.cl mBs GBs (hr.mono (by decide)) bBs .nil passF (pa_cons (pe_call GW (hr.mono (by decide)) (by rfl) dW.g dW.F.kp dW.b .nil pass0 (pa_cons (pv 2) (pa_cons (pv 12) (pa_cons (pv 8) pa_nil)))) pa_nil)) (nomark _)) (pss_one (ps_ret pe_bl)) pss_nil)
      (pss_cons (ps_set (i := 17) sc_lright.nd rfl (.inl rfl) (pe_op op_sub (pe_callB call_len_seq (by rfl) T.n_len PySem.boot_len (pa_cons (pv 8) pa_nil)) pe_int))
      (pss_cons (ps_if (pt_cmpR (op_neMine hm hne hsQ hfQ GQ (hr.mono (by decide)) bQ) (pe_call GW (hr.mono (by decide)) (by rfl) dW.g dW.F.kp dW.b .nil pass0 (pa_cons (pv 1) (pa_cons (pv 11) (pa_cons (pe_op op_catT (pv 8) (pe_tup (pa_cons (pe_tup (pa_cons pe_str (pa_cons (pe_tup (pa_cons (pe_tup (pa_cons (pv 17) (pa_cons pe_int pa_nil))) (pa_cons (pe_tup (pa_cons (pv 17) (pa_cons (pe_un un_neg pe_int) pa_nil))) pa_nil))) pa_nil))) pa_nil))) pa_nil)))) (pv 13) (nomark _)) (pss_one (ps_ret pe_bl)) pss_nil)
      (pss_one (ps_ret (pe_not (pe_callTy (call_boolMine hsB hfB GZ (hr.mono (by decide)) bZ) (by rfl) T.n_bool (by decide +kernel) (pa_cons (pe_call GW (hr.mono (by decide)) (by rfl) dW.g dW.F.kp dW.b .nil pass0 (pa_cons (pv 1) (pa_cons (pv 11) (pa_cons (pe_op op_catT (pv 8) (pe_tup (pa_cons (pe_tup (pa_cons pe_str (pa_cons (pv 17) (pa_cons (pv 17) pa_nil)))) pa_nil))) pa_nil)))) pa_nil)))))))))))))))))))))), ?_⟩
    refine hide fun R hR => ?_
    have one : ∀ {σ : L2.St} (a : Int), LaysD K σ (tTup (tCons (tC (.int a)) tNil)) (.tuple [.int a]) := fun a => (Lays.tup (.cons (.int a) .nil) (by show 1 ≤ 100; decide)).d
    have two : ∀ {σ : L2.St} (a b : Int), LaysD K σ (tTup (tCons (tC (.int a)) (tCons (tC (.int b)) tNil))) (.tuple [.int a, .int b]) := fun a b => (Lays.tup (.cons (.int a) (.cons (.int b) .nil)) (by show 2 ≤ 100; decide)).d
    refine ⟨_, rfl, ?_⟩
    refine lay_lst (K := K) (ds := shpA.map fun ns => .tuple (ns.map .int)) (.cons (one 4) (.cons (one 4) (.cons (one 3) (.cons (two 2 2) .nil)))) (show 4 ≤ 100 by decide) fun xs H1 b s1 nb dl => ?_
    have ln : xs.length = 4 := dl.len
    have hub := (hu.same s1).same (sub_same (o := .lst xs) nb)
    have nbu : b ≠ u := urn_ne (hu.same s1) nb
    refine ⟨u, b, xs, rfl, hub, fun H' bt => .inl (.inl ((bt b nbu).trans upd_same)), (fun z => by rw [z] at ln; cases ln), by omega, fun i x H2 ex u2 bt => ?_⟩
    obtain ⟨d0, md, dw⟩ := (dl.same (sub_same (o := .lst xs) nb)).get ex
    obtain ⟨sh, ns, rfl, mns, es⟩ := draw_shape dw md
    have S := shpA_ok mns
    have oH : Old u H H2 := (Old.of_same (s1.trans (sub_same nb))).trans (Old.of_but bt)
    have es := sqt_old hub (Old.of_but bt) es
    clear hu s1 nb dl ln hub nbu ex bt md dw
    refine ⟨_, rfl, ?_⟩
    refine lay_lst (K := K) (ds := shpB.map fun ns => .tuple (ns.map .int)) (.cons (one 2) (.cons (one 3) (.cons (one 4) .nil))) (show 3 ≤ 100 by decide) fun xs H3 b s3 nb dl => ?_
    have ln : xs.length = 3 := dl.len
    have hub := (u2.same s3).same (sub_same (o := .lst xs) nb)
    have nbu : b ≠ u := urn_ne (u2.same s3) nb
    refine ⟨u, b, xs, rfl, hub, fun H' bt => .inl (.inl ((bt b nbu).trans upd_same)), (fun z => by rw [z] at ln; cases ln), by omega, fun i x H4 ex u4 bt => ?_⟩
    obtain ⟨d0, md, dw⟩ := (dl.same (sub_same (o := .lst xs) nb)).get ex
    obtain ⟨sk, ks, rfl, mks, ek⟩ := draw_shape dw md
    have S2 := shpB_ok mks
    have SB := shpAB_ok mns mks
    have o4 : Old u H2 H4 := (Old.of_same (s3.trans (sub_same nb))).trans (Old.of_but bt)
    have ek := sqt_old hub (Old.of_but bt) ek
    have es := sqt_old u2 o4 es
    have oH := oH.trans o4
    clear u2 s3 nb dl ln hub nbu ex bt md dw o4 one two
    refine ⟨(by show 2 ≤ sizeLine; decide), fun p np => ?_⟩
    have s5 := sub_same (o := .tup [V.ref sh, V.ref sk]) np
    refine ⟨p, _, rfl, .inl (.inl upd_same), rfl, _, _, rfl, _, _, rfl, rfl, ?_⟩
    have es := sqt_same es s5
    have ek := sqt_same ek s5
    have u5 := u4.same s5
    have oH := oH.trans (Old.of_same s5)
    clear u4 s5 np
    show R _ [some (.ref u), some (.ref sh), some (.ref sk), none, none, none, none, none, none, none, none, none, none, none, none, none, none, none, none, none, none] _
    subst hR
    try dsimp only
    refine hide fun R hR => ?_
    refine ⟨_, rfl, sh, ns, rfl, es, S, fun H5 TM s6 n6 tm => ⟨_, rfl, sk, ks, rfl, sqt_same ek s6, S2, fun H6 TM2 s7 n7 tm2 => ?_⟩⟩
    have nTM := urn_ne u5 n6
    have nTM2 := urn_ne (u5.same s6) n7
    refine ⟨(by show 2 ≤ sizeLine; decide), fun p np => ?_⟩
    have s8 := sub_same (o := .tup [V.ref TM, V.ref TM2]) np
    refine ⟨p, _, rfl, .inl (.inl upd_same), rfl, _, _, rfl, _, _, rfl, rfl, ?_⟩
    have s68 := s6.trans (s7.trans s8)
    have es := sqt_same es s68
    have ek := sqt_same ek s68
    have tm := tm.same (s7.trans s8)
    have tm2 := tm2.same s8
    have u8 := u5.same s68
    have oH := oH.trans (Old.of_same s68)
    clear u5 s6 s7 s8 s68 n6 n7 np
    show R _ [some (.ref u), some (.ref sh), some (.ref sk), some (.ref TM), some (.ref TM2), none, none, none, none, none, none, none, none, none, none, none, none, none, none, none, none] _
    subst hR
    try dsimp only
    refine hide fun R hR => ?_
    refine ⟨_, rfl, u, 5, rfl, u8, by decide, by decide, fun v H9 v0 v5 u9 b9 => ?_⟩
    obtain ⟨many, rfl⟩ : ∃ m : Nat, v = (m : Int) := ⟨v.toNat, by omega⟩
    have o9 := Old.of_but b9
    have es := sqt_old u8 o9 es
    have ek := sqt_old u8 o9 ek
    have tm := tm.old u8 o9 nTM
    have tm2 := tm2.old u8 o9 nTM2
    have oH := oH.trans o9
    clear o9 b9 u8
    show R _ [some (.ref u), some (.ref sh), some (.ref sk), some (.ref TM), some (.ref TM2), some (.int (many : Nat)), none, none, none, none, none, none, none, none, none, none, none, none, none, none, none] _
    subst hR
    try dsimp only
    refine hide fun R hR => ?_
    refine ⟨_, rfl, _, rfl, by omega, by omega, fun D nD => ?_⟩
    have Du := urn_ne u9 nD
    rw [Int.toNat_natCast]
    refine lc_range (lo := 0) (n := many) (fun i Z => Old u H9 Z ∧ Urn Z u ∧ ∃ xs Fs, Z D = some (.lst xs) ∧ NTs K Z ns xs Fs ∧ Fs.length = i ∧ E9s Fs) ⟨Old.of_same (sub_same nD), u9.same (sub_same nD), [], [], upd_same, .nil, rfl, fun F hF => by cases hF⟩ ?_ ?_
    · rintro i Z hi ⟨oz, uz, xs, Fs, hd, nt, lf, e9⟩
      refine ⟨rfl, yesT ?_⟩
      refine ⟨_, rfl, _, rfl, u, TM, ns, rfl, uz, tm.old u9 oz nTM, nTM, S, fun Z2 a F o2 u2 eF ea => ?_⟩
      have hd2 := o2 _ _ Du hd
      refine ⟨xs, hd2, ?_, fun b o nb eb => ?_, ?_, xs ++ [.ref a], Fs ++ [F], upd_same, ?_, ?_, e9.snoc eF⟩
      · rw [nt.len, sizeLine_eq]
        omega
      · rw [upd_ne (ne_of_none eb nD)]
        exact o2 _ _ nb (oz _ _ nb eb)
      · obtain ⟨g1, g2, g3, e⟩ := u2
        exact ⟨g1, g2, g3, (upd_ne (Ne.symm Du)).trans e⟩
      · exact ((nt.old uz o2).snoc (sqt_new ea)).putL hd2
      · rw [List.length_append, lf]
        rfl
    rintro H10 ⟨o10, u10, xs, Ms, eD, nt, lM, e9M⟩
    have es := sqt_old u9 o10 es
    have ek := sqt_old u9 o10 ek
    have tm := tm.old u9 o10 nTM
    have tm2 := tm2.old u9 o10 nTM2
    have oH := oH.trans o10
    clear o10 nD u9
    refine ⟨_, rfl, _, rfl, by omega, by omega, fun D2 nD2 => ?_⟩
    have D2u := urn_ne u10 nD2
    rw [Int.toNat_natCast]
    refine lc_range (lo := 0) (n := many) (fun i Z => Old u H10 Z ∧ Urn Z u ∧ ∃ xs Fs, Z D2 = some (.lst xs) ∧ NTs K Z ks xs Fs ∧ Fs.length = i ∧ E9s Fs) ⟨Old.of_same (sub_same nD2), u10.same (sub_same nD2), [], [], upd_same, .nil, rfl, fun F hF => by cases hF⟩ ?_ ?_
    · rintro i Z hi ⟨oz, uz, xs, Fs, hd, nt, lf, e9⟩
      refine ⟨rfl, yesT ?_⟩
      refine ⟨_, rfl, _, rfl, u, TM2, ks, rfl, uz, tm2.old u10 oz nTM2, nTM2, S2, fun Z2 a F o2 u2 eF ea => ?_⟩
      have hd2 := o2 _ _ D2u hd
      refine ⟨xs, hd2, ?_, fun b o nb eb => ?_, ?_, xs ++ [.ref a], Fs ++ [F], upd_same, ?_, ?_, e9.snoc eF⟩
      · rw [nt.len, sizeLine_eq]
        omega
      · rw [upd_ne (ne_of_none eb nD2)]
        exact o2 _ _ nb (oz _ _ nb eb)
      · obtain ⟨g1, g2, g3, e⟩ := u2
        exact ⟨g1, g2, g3, (upd_ne (Ne.symm D2u)).trans e⟩
      · exact ((nt.old uz o2).snoc (sqt_new ea)).putL hd2
      · rw [List.length_append, lf]
        rfl
    rintro H11 ⟨o11, u11, xs2, Ns, eD2, nt2, lN, e9N⟩
    have es := sqt_old u10 o11 es
    have ek := sqt_old u10 o11 ek
    have tm := tm.old u10 o11 nTM
    have tm2 := tm2.old u10 o11 nTM2
    have eD := o11 _ _ Du eD
    have nt := nt.old u10 o11
    have oH := oH.trans o11
    clear o11 nD2 u10
    refine ⟨_, _, rfl, ?_⟩
    show R _ [some (.ref u), some (.ref sh), some (.ref sk), some (.ref TM), some (.ref TM2), some (.int (many : Nat)), some (.ref D), some (.ref D2), none, none, none, none, none, none, none, none, none, none, none, none, none] _
    subst hR
    try dsimp only
    refine hide fun R hR => ?_
    refine ⟨_, rfl, _, rfl, u, many, 9, rfl, u11, by omega, by decide, by decide, fun H12 v ss o12 u12 l1 l9 ok st => ?_⟩
    have es := sqt_old u11 o12 es
    have ek := sqt_old u11 o12 ek
    have tm := tm.old u11 o12 nTM
    have tm2 := tm2.old u11 o12 nTM2
    have eD := o12 _ _ Du eD
    have nt := nt.old u11 o12
    have eD2 := o12 _ _ D2u eD2
    have nt2 := nt2.old u11 o12
    have oH := oH.trans o12
    clear o12 u11
    obtain ⟨SA, ws, rfl, eS, ts⟩ := st
    have okM : StpsOk Ms.length ss := by rw [lM]; exact ok
    have okN : StpsOk Ns.length ss := by rw [lN]; exact ok
    have wM := e9M.wt S
    have wN := e9N.wt S2
    have st : StpsT K H12 (.ref SA) ss := ⟨SA, ws, rfl, eS, ts⟩
    show R _ [some (.ref u), some (.ref sh), some (.ref sk), some (.ref TM), some (.ref TM2), some (.int (many : Nat)), some (.ref D), some (.ref D2), some (.ref SA), none, none, none, none, none, none, none, none, none, none, none, none] _
    subst hR
    try dsimp only
    refine hide fun R hR => ?_
    refine ⟨_, rfl, _, rfl, _, rfl, TM, D, .ref SA, ns, xs, Ms, ss, 9, rfl, tm, eD, nt, st.tv, S, okM, wM, (bnd_of _ (by omega)).1, by omega, fun H13 b13 s13 nb => ?_⟩
    refine ⟨_, rfl, _, rfl, _, rfl, TM2, D2, .ref SA, ks, xs2, Ns, ss, 9, rfl, tm2.same s13, s13 _ _ eD2, nt2.same s13, (st.same s13).tv, S2, okN, wN, (bnd_of _ (by omega)).1, by omega, fun H14 b14 s14 nb2 => ?_⟩
    refine ⟨_, _, rfl, ?_⟩
    have s1 := s13.trans s14
    have nb := sqt_same nb s14
    show R _ [some (.ref u), some (.ref sh), some (.ref sk), some (.ref TM), some (.ref TM2), some (.int (many : Nat)), some (.ref D), some (.ref D2), some (.ref SA), some (.ref b13), some (.ref b14), none, none, none, none, none, none, none, none, none, none] _
    subst hR
    try dsimp only
    refine hide fun R hR => ?_
    refine ⟨_, rfl, _, rfl, sh, D, ns, xs, Ms, rfl, sqt_same es s1, s1 _ _ eD, nt.same s1, S, e9M.sm ns, by omega, fun H15 pA ys s15 nA eA sA => ?_⟩
    have s2 := s1.trans s15
    refine ⟨_, rfl, _, rfl, sk, D2, ks, xs2, Ns, rfl, sqt_same ek s2, s2 _ _ eD2, nt2.same s2, S2, e9N.sm ks, by omega, fun H16 pB zs s16 nB eB sB => ?_⟩
    refine ⟨_, _, rfl, ?_⟩
    have s3 := s2.trans s16
    have eA := s16 _ _ eA
    have sA := sA.same s16
    have mayM := okM.may
    have mayN := okN.may
    have fM := fine_of S wM okM (bnd_of _ (by omega)).2
    have fN := fine_of S2 wN okN (bnd_of _ (by omega)).2
    show R _ [some (.ref u), some (.ref sh), some (.ref sk), some (.ref TM), some (.ref TM2), some (.int (many : Nat)), some (.ref D), some (.ref D2), some (.ref SA), some (.ref b13), some (.ref b14), some (.ref pA), some (.ref pB), none, none, none, none, none, none, none, none] _
    subst hR
    try dsimp only
    refine hide fun R hR => ?_
    refine ⟨_, rfl, _, rfl, _, rfl, sh, pA, .ref SA, ns, ys, Ms, ss, _, rfl, sqt_same es s3, sqt_new eA, sA, by omega, st.same s3, S, mayM, by omega, fM, fun H17 cT s17 told => ?_⟩
    have s4 := s3.trans s17
    have nb := sqt_same (sqt_same nb (s15.trans s16)) s17
    have nb2 := sqt_same (sqt_same nb2 (s15.trans s16)) s17
    have fm : Fm K C H17 u sh sk TM D pA pB cT SA ns ks Ms Ns ss xs ys zs ws := ⟨u12.same s4, sqt_same es s4, sqt_same ek s4, tm.same s4, nTM, Du, s4 _ _ eD, nt.same s4, sqt_new (s17 _ _ eA), sA.same s17, sqt_new (s17 _ _ eB), sB.same s17, sqt_same eS s4, ts.same s4, told⟩
    have oH := oH.trans (Old.of_same s4)
    clear s1 s2 s3 s4 s13 s14 s15 s16 s17 es ek tm tm2 eD nt eD2 nt2 eA sA eB sB eS ts st told u12 nA nB
    have lws : ws.length = ss.length := fm.ts.len
    have wT : WtB (2 ^ 180) (lastS ns Ms ss) ns := last_wt S wM okM l9
    obtain ⟨dx1, _, _, _, ea1, _, _, _⟩ := id fm.told
    show R _ [some (.ref u), some (.ref sh), some (.ref sk), some (.ref TM), some (.ref TM2), some (.int (many : Nat)), some (.ref D), some (.ref D2), some (.ref SA), some (.ref b13), some (.ref b14), some (.ref pA), some (.ref pB), some (.ref cT), none, none, none, none, none, none, none] _
    subst hR
    try dsimp only
    refine hide fun R hR => ?_
    refine ⟨_, rfl, cT, dx1, _, rfl, ea1, cT, ns, _, rfl, fm.told, fun m1 em1 => ?_⟩
    refine ⟨_, rfl, _, _, .tup (sqt_new em1) (dp_ints K _ _), .tup nb (dp_ints K _ _), shaped_ints _, shaped_ints _, ?_⟩
    rw [eqv_tups, decide_eq_true rfl]
    refine ⟨_, rfl, ifF ?_⟩
    refine ⟨_, rfl, _, rfl, _, rfl, sk, pB, .ref SA, ks, zs, Ns, ss, _, rfl, fm.ek, fm.eB, fm.sB, by omega, ⟨SA, ws, rfl, fm.eS, fm.ts⟩, S2, mayN, by omega, fN, fun H18 c18 s18 t18 => ?_⟩
    obtain ⟨dx2, _, _, _, ea2, _, _, _⟩ := id t18
    refine ⟨c18, dx2, _, rfl, ea2, c18, ks, _, rfl, t18, fun m2 em2 => ?_⟩
    refine ⟨_, rfl, _, _, .tup (sqt_new em2) (dp_ints K _ _), .tup (sqt_same nb2 s18) (dp_ints K _ _), shaped_ints _, shaped_ints _, ?_⟩
    rw [eqv_tups, decide_eq_true rfl]
    refine ⟨_, rfl, ite2 (fun z => absurd z (by decide)) (fun _ => ?_)⟩
    have fm := fm.same s18
    have oH := oH.trans (Old.of_same s18)
    clear s18 t18 em2 em1 ea1 ea2 nb nb2
    show R _ [some (.ref u), some (.ref sh), some (.ref sk), some (.ref TM), some (.ref TM2), some (.int (many : Nat)), some (.ref D), some (.ref D2), some (.ref SA), some (.ref b13), some (.ref b14), some (.ref pA), some (.ref pB), some (.ref cT), none, none, none, none, none, none, none] _
    subst hR
    try dsimp only
    refine hide fun R hR => ?_
    refine ⟨_, rfl, SA, ws, rfl, .inr fm.eS, _, rfl, by omega, by omega, ?_⟩
    rw [Int.toNat_natCast]
    refine for_range (lo := 0) (n := ws.length) (fun i σ Y => (∃ y14, σ = [some (.ref u), some (.ref sh), some (.ref sk), some (.ref TM), some (.ref TM2), some (.int many), some (.ref D), some (.ref D2), some (.ref SA), some (.ref b13), some (.ref b14), some (.ref pA), some (.ref pB), some (.ref cT), y14, none, none, none, none, none, none]) ∧ Fm K C Y u sh sk TM D pA pB cT SA ns ks Ms Ns ss xs ys zs ws ∧ Old u H Y) ⟨⟨_, rfl⟩, fm, oH⟩ ?_ ?_
    · rintro i σ Y hi ⟨⟨y14, rfl⟩, fm, oY⟩
      rw [Int.zero_add]
      have ct := cut_take ws i hi
      have okT := stps_take okM i
      have lT : (ss.take i).length = i := by rw [List.length_take]; omega
      refine ⟨_, rfl, _, rfl, _, rfl, _, rfl, _, rfl, SA, ws, rfl, fm.eS, ct.1, fun p np => ?_⟩
      rw [ct.2]
      have s1 := sub_same (o := .tup (ws.take i)) np
      have ep : upd Y p (.tup (ws.take i)) p = some (.tup (ws.take i)) := upd_same
      have f1 := fm.same s1
      refine ⟨sh, pA, .ref p, ns, ys, Ms, ss.take i, _, rfl, f1.es, f1.eA, f1.sA, by omega, ⟨p, _, rfl, sqt_new ep, f1.ts.take i⟩, S, okT.may, by omega, fine_of S wM okT (bnd_of _ (by omega)).2, fun Y2 c s2 t => ?_⟩
      obtain ⟨dx, _, _, _, ea, _, _, _⟩ := id t
      refine ⟨c, dx, _, rfl, ea, c, ns, _, rfl, t, fun m em => ?_⟩
      have f2 := f1.same s2
      refine ⟨_, rfl, _, rfl, _, rfl, _, rfl, _, rfl, SA, ws, rfl, f2.eS, ct.1, fun p2 np2 => ?_⟩
      rw [ct.2]
      have s3 := sub_same (o := .tup (ws.take i)) np2
      have ep2 : upd Y2 p2 (.tup (ws.take i)) p2 = some (.tup (ws.take i)) := upd_same
      have f3 := f2.same s3
      have st3 : StpsT K _ (.ref p2) (ss.take i) := ⟨p2, _, rfl, sqt_new ep2, f3.ts.take i⟩
      refine ⟨TM, D, .ref p2, ns, xs, Ms, ss.take i, 9, rfl, f3.tm, f3.eD, f3.nt, st3.tv, S, okT, wM, (bnd_of _ (by omega)).1, by omega, fun Y4 b s4 nb => ?_⟩
      refine ⟨_, _, .tup (sqt_new (s4 _ _ (s3 _ _ em))) (dp_ints K _ _), .tup nb (dp_ints K _ _), shaped_ints _, shaped_ints _, ?_⟩
      rw [eqv_tups, decide_eq_true rfl]
      refine ⟨_, rfl, ite2 (fun z => absurd z (by decide)) (fun _ => ?_)⟩
      exact ⟨⟨_, rfl⟩, f3.same s4, oY.trans (Old.of_same (s1.trans (s2.trans (s3.trans s4))))⟩
    rintro σ Y ⟨⟨y14, rfl⟩, fm, oY⟩
    clear oH
    show R _ [some (.ref u), some (.ref sh), some (.ref sk), some (.ref TM), some (.ref TM2), some (.int (many : Nat)), some (.ref D), some (.ref D2), some (.ref SA), some (.ref b13), some (.ref b14), some (.ref pA), some (.ref pB), some (.ref cT), y14, none, none, none, none, none, none] _
    subst hR
    try dsimp only
    refine hide fun R hR => ?_
    refine ⟨_, rfl, _, rfl, pA, rfl, ⟨ys, fm.eA⟩, fun L nL => ?_⟩
    have lys : ys.length = Ms.length := fm.sA.len
    refine lc_tup (K := K) (a := pA) (xs := ys) (fun i Z => Same Y Z ∧ ∃ vs, Z L = some (.lst vs) ∧ Sts K Z C ns vs (List.replicate i zN)) ⟨sub_same nL, [], upd_same, .nil⟩ (fun i Z _ h => sqt_same fm.eA h.1) ?_ ?_
    · rintro i x Z hx ⟨sz, vs, hl, st⟩
      have ilt := (List.getElem?_eq_some_iff.mp hx).1
      refine ⟨rfl, yesT ?_⟩
      refine ⟨rfl, _, rfl, sh, ns, rfl, sqt_same fm.es sz, S, fun Z2 c s2 so => ?_⟩
      have hd2 := s2 _ _ hl
      refine ⟨vs, hd2, ?_, fun b o e => ?_, vs ++ [.ref c], upd_same, ?_⟩
      · rw [st.len, List.length_replicate, sizeLine_eq]
        omega
      · rw [upd_ne (ne_of_none e nL)]
        exact s2 _ _ (sz _ _ e)
      · rw [List.replicate_succ']
        exact ((st.same s2).snoc so).putL hd2
    rintro Z ⟨sz, vs, hl, st⟩
    refine .inl ⟨L, _, rfl, .inl (.inl hl), fun p np => ?_⟩
    have s1 := sub_same (o := .tup vs) np
    have f1 := fm.same (sz.trans s1)
    have lR : (List.replicate ys.length zN).length = many := by rw [List.length_replicate]; omega
    have okR : StpsOk (List.replicate ys.length zN).length ss := by rw [lR]; exact ok
    have wR : ∀ M ∈ List.replicate ys.length zN, WtB 9 M ns := fun M hM => by
      rw [List.eq_of_mem_replicate hM]
      exact zero_wt 9 ns
    refine ⟨_, rfl, sh, p, .ref SA, ns, vs, List.replicate ys.length zN, ss, _, rfl, f1.es, sqt_new upd_same, st.same s1, by omega, ⟨SA, ws, rfl, f1.eS, f1.ts⟩, S, okR.may, by omega, fine_of S wR okR (bnd_of _ (by omega)).2, fun Y2 c s2 t => ?_⟩
    refine ⟨c, rfl, ins_of t, c, ns, _, rfl, t, _, rfl, _, rfl, ?_⟩
    rw [show ((numsL (lastS ns (List.replicate ys.length zN) ss) ns).any fun n => n != 0) = false from any_zero ((rel_ones S).last (M1 := []) (M2 := []) (fun i => by rw [getD_rep]; exact EqN.rfl') ss)]
    refine ite2 (fun z => absurd z Bool.false_ne_true) (fun _ => ?_)
    have fm := f1.same s2
    have oH := oY.trans (Old.of_same (sz.trans (s1.trans s2)))
    clear f1 oY sz s1 s2 hl st np nL t okR wR lR
    show R _ [some (.ref u), some (.ref sh), some (.ref sk), some (.ref TM), some (.ref TM2), some (.int (many : Nat)), some (.ref D), some (.ref D2), some (.ref SA), some (.ref b13), some (.ref b14), some (.ref pA), some (.ref pB), some (.ref cT), y14, none, none, none, none, none, none] _
    subst hR
    try dsimp only
    refine hide fun R hR => ?_
    refine ⟨_, rfl, _, rfl, _, rfl, u, TM, ns, rfl, fm.urn, fm.tm, fm.nTM, S, fun H2 pb B o2 u2 eB9 epb => ?_⟩
    have fm := fm.old o2 u2
    have oH := oH.trans o2
    refine ⟨sh, pb, ns, B, rfl, fm.es, sqt_new epb, S, eB9.sm ns, fun H3 cB s3 tB => ?_⟩
    have fm := fm.same s3
    have oH := oH.trans (Old.of_same s3)
    clear o2 u2 epb s3
    have wB := eB9.wt S
    have c900 : 288 ≤ 2 ^ 900 := by decide +kernel
    show R _ [some (.ref u), some (.ref sh), some (.ref sk), some (.ref TM), some (.ref TM2), some (.int (many : Nat)), some (.ref D), some (.ref D2), some (.ref SA), some (.ref b13), some (.ref b14), some (.ref pA), some (.ref pB), some (.ref cT), y14, some (.ref cB), none, none, none, none, none] _
    subst hR
    try dsimp only
    refine hide fun R hR => ?_
    refine ⟨_, rfl, _, rfl, pA, rfl, ⟨ys, fm.eA⟩, fun L nL => ?_⟩
    refine lc_tup (K := K) (a := pA) (xs := ys) (fun i Z => Same H3 Z ∧ ∃ vs, Z L = some (.lst vs) ∧ Sts K Z C ns vs ((Ms.take i).map fun M => ledN M B ns)) ⟨sub_same nL, [], upd_same, .nil⟩ (fun i Z _ h => sqt_same fm.eA h.1) ?_ ?_
    · rintro i x Z hx ⟨sz, vs, hl, st⟩
      obtain ⟨cc, F, rfl, eF, so⟩ := fm.sA.get hx
      have iF := (List.getElem?_eq_some_iff.mp eF).1
      have wF := wM F (List.mem_of_getElem? eF)
      refine ⟨rfl, yesT ?_⟩
      have soz := so.same sz
      obtain ⟨dx, _, _, _, e1, _, _, _⟩ := id soz
      refine ⟨_, rfl, cc, dx, _, rfl, e1, stF_none (by decide) (by decide) (by decide), _, rfl, cc, cB, ns, F, B, 9, rfl, soz, tB.same sz, S, wF, wB, Nat.le_trans (by decide) c900, fun Z2 c s2 sl => ?_⟩
      have hd2 := s2 _ _ hl
      refine ⟨vs, hd2, ?_, fun b o e => ?_, vs ++ [.ref c], upd_same, ?_⟩
      · rw [st.len, List.length_map, List.length_take, sizeLine_eq]
        omega
      · rw [upd_ne (ne_of_none e nL)]
        exact s2 _ _ (sz _ _ e)
      · have tk : Ms.take (i + 1) = Ms.take i ++ [F] := by rw [List.take_succ, eF]; rfl
        rw [tk, List.map_append]
        exact ((st.same s2).snoc sl).putL hd2
    rintro Z ⟨sz, vs, hl, st⟩
    rw [lys, List.take_length] at st
    refine .inl ⟨L, _, rfl, .inl (.inl hl), fun p np => ?_⟩
    have s1 := sub_same (o := .tup vs) np
    have f1 := fm.same (sz.trans s1)
    have okL : StpsOk (Ms.map fun M => ledN M B ns).length ss := by rw [List.length_map]; exact okM
    have wL : ∀ M ∈ Ms.map fun M => ledN M B ns, WtB 288 M ns := fun M hM => by
      obtain ⟨F, hF, rfl⟩ := List.mem_map.mp hM
      exact led_wt S (wM F hF) wB
    have bL3 : 2 ^ (14 * (ss.length + 1)) * 288 ≤ 2 ^ 300 := by
      have a : 2 ^ (14 * (ss.length + 1)) ≤ 2 ^ 154 := Nat.pow_le_pow_right (by decide) (by omega)
      exact Nat.le_trans (Nat.mul_le_mul_right 288 a) (by decide +kernel)
    refine ⟨_, rfl, sh, p, .ref SA, ns, vs, Ms.map fun M => ledN M B ns, ss, _, rfl, f1.es, sqt_new upd_same, st.same s1, by rw [List.length_map]; omega, ⟨SA, ws, rfl, f1.eS, f1.ts⟩, S, okL.may, by omega, fine_of S wL okL bL3, fun Y2 c s2 t => ?_⟩
    have f2 := f1.same s2
    have tB2 := tB.same (sz.trans (s1.trans s2))
    obtain ⟨dx, _, _, _, e1, _, _, _⟩ := id f2.told
    refine ⟨_, rfl, cT, dx, _, rfl, e1, stF_none (by decide) (by decide) (by decide), _, rfl, cT, cB, ns, lastS ns Ms ss, B, 2 ^ 180, rfl, f2.told, tB2, S, wT, wt_up wB (by decide +kernel), by decide +kernel, fun Y3 c3 s3 t3 => ?_⟩
    have tt := t.same s3
    refine ⟨c, .ref C, rfl, ins_of tt, t3.ty IC, nfC, c, .ref c3, ns, _, rfl, tt, .inl ⟨c3, ns, _, rfl, t3, _, rfl, _, rfl, ?_⟩⟩
    rw [ne_false (nums_congr ((rel_led S B).last (M1 := Ms) (M2 := []) (fun i => getD_map_led S) ss))]
    refine ite2 (fun z => absurd z Bool.false_ne_true) (fun _ => ?_)
    have fm := f2.same s3
    have oH := oH.trans (Old.of_same (sz.trans (s1.trans (s2.trans s3))))
    clear f1 f2 sz s1 s2 s3 hl st np nL t tt t3 tB tB2 okL wL bL3 e1
    have lzs : zs.length = Ns.length := fm.sB.len
    show R _ [some (.ref u), some (.ref sh), some (.ref sk), some (.ref TM), some (.ref TM2), some (.int (many : Nat)), some (.ref D), some (.ref D2), some (.ref SA), some (.ref b13), some (.ref b14), some (.ref pA), some (.ref pB), some (.ref cT), y14, some (.ref cB), none, none, none, none, none] _
    subst hR
    try dsimp only
    refine hide fun R hR => ?_
    refine ⟨_, rfl, _, rfl, pA, pB, ys, zs, rfl, .inr ⟨fm.eA, fm.eB, fun L nL => ?_⟩⟩
    refine lc_it (walk_zipT (K := K) (a := pA) (b := pB) (by omega)) (fun i Z => Same Y3 Z ∧ ∃ vs, Z L = some (.lst vs) ∧ Sts K Z C (ns ++ ks) vs ((List.zipWith (both ns.length) Ms Ns).take i)) ⟨sub_same nL, [], upd_same, .nil⟩ (fun i Z _ h => ⟨sqt_same fm.eA h.1, sqt_same fm.eB h.1⟩) ?_ ?_
    · rintro i x Z Z1 hi ⟨sz, vs, hl, st⟩ ⟨Tp, x0, y0, rfl, nT, rfl, ex, ey⟩
      obtain ⟨ca, F, rfl, eF, sa⟩ := fm.sA.get ex
      obtain ⟨cb, G, rfl, eG, sb⟩ := fm.sB.get ey
      have s0 := sub_same (o := .tup [V.ref ca, V.ref cb]) nT
      refine ⟨Tp, _, rfl, .inl (.inl upd_same), rfl, _, _, rfl, _, _, rfl, rfl, rfl, yesT ?_⟩
      have soa := (sa.same sz).same s0
      have sob := (sb.same sz).same s0
      obtain ⟨dx, _, _, _, e1, _, _, _⟩ := id soa
      refine ⟨_, rfl, ca, dx, _, rfl, e1, stF_none (by decide) (by decide) (by decide), _, rfl, ca, cb, ns, ks, F, G, rfl, soa, sob, S, S2, fun _ Z2 c s2 sl => ?_, fun no => absurd SB no⟩
      have hd2 := s2 _ _ (s0 _ _ hl)
      refine ⟨vs, hd2, ?_, fun b o e => ?_, vs ++ [.ref c], upd_same, ?_⟩
      · rw [st.len, List.length_take, List.length_zipWith, sizeLine_eq]
        omega
      · rw [upd_ne (ne_of_none e nL)]
        exact s2 _ _ (s0 _ _ (sz _ _ e))
      · have tk : (List.zipWith (both ns.length) Ms Ns).take (i + 1) = (List.zipWith (both ns.length) Ms Ns).take i ++ [both ns.length F G] := by rw [List.take_succ, List.getElem?_zipWith, eF, eG]; rfl
        rw [tk]
        exact (((st.same s0).same s2).snoc sl).putL hd2
    rintro Z ⟨sz, vs, hl, st⟩
    have lZ : (List.zipWith (both ns.length) Ms Ns).length = many := by rw [List.length_zipWith]; omega
    rw [show ys.length = (List.zipWith (both ns.length) Ms Ns).length by omega, List.take_length] at st
    refine .inl ⟨L, _, rfl, .inl (.inl hl), fun pz nz2 => ?_⟩
    have s1 := sub_same (o := .tup vs) nz2
    have ez : upd Z pz (.tup vs) pz = some (.tup vs) := upd_same
    have f1 := fm.same (sz.trans s1)
    have st1 := st.same s1
    have l1n := S.1
    have l1k := S2.1
    show R _ [some (.ref u), some (.ref sh), some (.ref sk), some (.ref TM), some (.ref TM2), some (.int (many : Nat)), some (.ref D), some (.ref D2), some (.ref SA), some (.ref b13), some (.ref b14), some (.ref pA), some (.ref pB), some (.ref cT), y14, some (.ref cB), some (.ref pz), none, none, none, none] _
    subst hR
    try dsimp only
    refine hide fun R hR => ?_
    refine ⟨_, rfl, _, rfl, sh, sk, _, _, rfl, rfl, f1.es, f1.ek, fun z => ?_, ?_, fun z => ?_, fun _ p np => ?_⟩
    · have l := congrArg List.length z
      rw [List.length_map] at l
      have l : ns.length = 0 := l
      omega
    · rw [List.length_map, List.length_map, sizeLine_eq]
      omega
    · have l := congrArg List.length z
      rw [List.length_map] at l
      have l : ks.length = 0 := l
      omega
    rw [← List.map_append]
    have s2 := sub_same (o := .tup ((ns ++ ks).map V.int)) np
    have f2 := f1.same s2
    have okZ : StpsOk (List.zipWith (both ns.length) Ms Ns).length ss := by rw [lZ]; exact ok
    have wZ : ∀ M ∈ List.zipWith (both ns.length) Ms Ns, WtB 9 M (ns ++ ks) := fun M hM => both_e9 S SB e9M e9N hM
    refine ⟨_, rfl, _, rfl, p, pz, .ref SA, ns ++ ks, vs, List.zipWith (both ns.length) Ms Ns, ss, _, rfl, sqt_new upd_same, sqt_new (s2 _ _ ez), st1.same s2, by omega, ⟨SA, ws, rfl, f2.eS, f2.ts⟩, SB, okZ.may, by omega, fine_of SB wZ okZ (bnd_of _ (by omega)).2, fun Y4 c s4 t => ?_⟩
    have f3 := f2.same s4
    obtain ⟨dx, _, _, _, e1, _, _, _⟩ := id f3.told
    refine ⟨_, rfl, cT, dx, _, rfl, e1, stF_none (by decide) (by decide) (by decide), ?_⟩
    refine ⟨_, rfl, _, rfl, _, rfl, sk, pB, .ref SA, ks, zs, Ns, ss, _, rfl, f3.ek, f3.eB, f3.sB, by omega, ⟨SA, ws, rfl, f3.eS, f3.ts⟩, S2, mayN, by omega, fN, fun Y5 c5 s5 t5 => ?_⟩
    have f4 := f3.same s5
    refine ⟨cT, c5, ns, ks, _, _, rfl, f4.told, t5, S, S2, fun _ Y6 c6 s6 t6 => ?_, fun no => absurd SB no⟩
    have tt := (t.same s5).same s6
    refine ⟨c, .ref C, rfl, ins_of tt, t6.ty IC, nfC, c, .ref c6, ns ++ ks, _, rfl, tt, .inl ⟨c6, ns ++ ks, _, rfl, t6, _, rfl, _, rfl, ?_⟩⟩
    rw [ne_false (nums_congr ((rel_both S S2 SB).last (M1 := Ms) (M2 := Ns) (fun i => by rw [getD_zip (by omega)]; exact EqN.rfl') ss))]
    refine ite2 (fun z => absurd z Bool.false_ne_true) (fun _ => ?_)
    have fm := f4.same s6
    have oH := oH.trans (Old.of_same (sz.trans (s1.trans (s2.trans (s4.trans (s5.trans s6))))))
    clear f1 f2 f3 f4 sz s1 s2 s4 s5 s6 hl st st1 np nz2 nL t tt t5 t6 okZ wZ e1 ez
    have eL : ((ws.length : Nat) : Int) - 1 = ((ss.length - 1 : Nat) : Int) := by omega
    show R _ [some (.ref u), some (.ref sh), some (.ref sk), some (.ref TM), some (.ref TM2), some (.int (many : Nat)), some (.ref D), some (.ref D2), some (.ref SA), some (.ref b13), some (.ref b14), some (.ref pA), some (.ref pB), some (.ref cT), y14, some (.ref cB), some (.ref pz), none, none, none, none] _
    subst hR
    try dsimp only
    refine hide fun R hR => ?_
    refine ⟨_, rfl, SA, ws, rfl, .inr fm.eS, _, _, rfl, rfl, ?_⟩
    dsimp only
    rw [eL]
    show R _ [some (.ref u), some (.ref sh), some (.ref sk), some (.ref TM), some (.ref TM2), some (.int (many : Nat)), some (.ref D), some (.ref D2), some (.ref SA), some (.ref b13), some (.ref b14), some (.ref pA), some (.ref pB), some (.ref cT), y14, some (.ref cB), some (.ref pz), some (.int ((ss.length - 1 : Nat) : Int)), none, none, none] _
    subst hR
    try dsimp only
    refine hide fun R hR => ?_
    refine ⟨_, rfl, _, rfl, _, rfl, _, rfl, (by show 2 ≤ sizeLine; decide), fun p1 n1 => ?_⟩
    have s1 := sub_same (o := .tup [V.int ((ss.length - 1 : Nat) : Int), V.int 2]) n1
    refine ⟨_, rfl, _, rfl, (by show 2 ≤ sizeLine; decide), fun p2 n2 => ?_⟩
    have s2 := sub_same (o := .tup [V.int ((ss.length - 1 : Nat) : Int), V.int (-1)]) n2
    refine ⟨(by show 2 ≤ sizeLine; decide), fun p3 n3 => ?_⟩
    have s3 := sub_same (o := .tup [V.ref p1, V.ref p2]) n3
    refine ⟨(by show 2 ≤ sizeLine; decide), fun p4 n4 => ?_⟩
    have s4 := sub_same (o := .tup [V.str "product", V.ref p3]) n4
    refine ⟨(by show 1 ≤ sizeLine; decide), fun p5 n5 => ?_⟩
    have s5 := sub_same (o := .tup [V.ref p4]) n5
    have s15 := s1.trans (s2.trans (s3.trans (s4.trans s5)))
    have f1 := fm.same s15
    have e1 := s5 _ _ (s4 _ _ (s3 _ _ (s2 _ _ (upd_same (H := Y6) (a := p1) (o := .tup [V.int ((ss.length - 1 : Nat) : Int), V.int 2])))))
    have e2 := s5 _ _ (s4 _ _ (s3 _ _ (upd_same (H := upd Y6 p1 (.tup [V.int ((ss.length - 1 : Nat) : Int), V.int 2])) (a := p2) (o := .tup [V.int ((ss.length - 1 : Nat) : Int), V.int (-1)]))))
    have e3 := s5 _ _ (s4 _ _ upd_same)
    have e4 := s5 _ _ upd_same
    refine ⟨SA, p5, ws, [.ref p4], rfl, rfl, f1.eS, .inl (.inl upd_same), fun z => ?_, ?_, fun z => (by cases z), fun _ p6 n6 => ?_⟩
    · rw [z] at lws
      have lws : 0 = ss.length := lws
      omega
    · rw [sizeLine_eq]
      show ws.length + 1 ≤ _
      omega
    have s6 := sub_same (o := .tup (ws ++ [.ref p4])) n6
    have f2 := f1.same s6
    have pv1 : StpV K _ (.ref p4) (.pr [(ss.length - 1, 2), (ss.length - 1, -1)]) := .pr (sqt_new (s6 _ _ e4)) ⟨p3, _, rfl, sqt_new (s6 _ _ e3), .cons (s6 _ _ e1) (.cons (s6 _ _ e2) .nil)⟩
    have okP := (stps_more okM l1).1
    have lP : (ss ++ [Stp.pr [(ss.length - 1, 2), (ss.length - 1, -1)]]).length = ss.length + 1 := List.length_append
    refine ⟨sh, pA, .ref p6, ns, ys, Ms, ss ++ [.pr [(ss.length - 1, 2), (ss.length - 1, -1)]], _, rfl, f2.es, f2.eA, f2.sA, by omega, ⟨p6, _, rfl, sqt_new upd_same, f2.ts.snoc pv1⟩, S, okP.may, by omega, fine_of S wM okP (bnd_of _ (by omega)).2, fun Y7 c s7 t => ?_⟩
    have f3 := f2.same s7
    refine ⟨_, rfl, c, .ref C, rfl, ins_of t, f3.told.ty IC, nfC, c, .ref cT, ns, _, rfl, t, .inl ⟨cT, ns, _, rfl, f3.told, _, rfl, _, rfl, ?_⟩⟩
    rw [ne_false (nums_congr (last_back S Ms ss))]
    refine ite2 (fun z => absurd z Bool.false_ne_true) (fun _ => ?_)
    have oH := oH.trans (Old.of_same (s15.trans (s6.trans s7)))
    have fm := f3
    clear f1 f2 f3 s1 s2 s3 s4 s5 s15 s6 s7 t okP lP pv1 e1 e2 e3 e4 n1 n2 n3 n4 n5 n6
    show R _ [some (.ref u), some (.ref sh), some (.ref sk), some (.ref TM), some (.ref TM2), some (.int (many : Nat)), some (.ref D), some (.ref D2), some (.ref SA), some (.ref b13), some (.ref b14), some (.ref pA), some (.ref pB), some (.ref cT), y14, some (.ref cB), some (.ref pz), some (.int ((ss.length - 1 : Nat) : Int)), none, none, none] _
    subst hR
    try dsimp only
    refine ⟨_, rfl, _, rfl, _, rfl, _, rfl, _, rfl, (by show 3 ≤ sizeLine; decide), fun p1 n1 => ?_⟩
    have s1 := sub_same (o := .tup [V.str "bracket", V.int ((ss.length - 1 : Nat) : Int), V.int ((ss.length - 1 : Nat) : Int)]) n1
    refine ⟨(by show 1 ≤ sizeLine; decide), fun p5 n5 => ?_⟩
    have s5 := sub_same (o := .tup [V.ref p1]) n5
    have f1 := fm.same (s1.trans s5)
    have e1 := s5 _ _ upd_same
    refine ⟨SA, p5, ws, [.ref p1], rfl, rfl, f1.eS, .inl (.inl upd_same), fun z => ?_, ?_, fun z => (by cases z), fun _ p6 n6 => ?_⟩
    · rw [z] at lws
      have lws : 0 = ss.length := lws
      omega
    · rw [sizeLine_eq]
      show ws.length + 1 ≤ _
      omega
    have s6 := sub_same (o := .tup (ws ++ [.ref p1])) n6
    have f2 := f1.same s6
    have pv1 : StpV K _ (.ref p1) (.br (ss.length - 1) (ss.length - 1)) := .br (sqt_new (s6 _ _ e1))
    have okP := (stps_more okM l1).2
    have lP : (ss ++ [Stp.br (ss.length - 1) (ss.length - 1)]).length = ss.length + 1 := List.length_append
    refine ⟨sh, pA, .ref p6, ns, ys, Ms, ss ++ [.br (ss.length - 1) (ss.length - 1)], _, rfl, f2.es, f2.eA, f2.sA, by omega, ⟨p6, _, rfl, sqt_new upd_same, f2.ts.snoc pv1⟩, S, okP.may, by omega, fine_of S wM okP (bnd_of _ (by omega)).2, fun Y8 c s7 t => ?_⟩
    refine ⟨c, rfl, ins_of t, c, ns, _, rfl, t, _, rfl, _, rfl, ?_⟩
    rw [show ((numsL (lastS ns Ms (ss ++ [.br (ss.length - 1) (ss.length - 1)])) ns).any fun n => n != 0) = false from any_zero (last_self S Ms ss)]
    exact q _ (oH.trans (Old.of_same (s1.trans (s5.trans (s6.trans s7)))))
end
end K18
/-! # the law -/
namespace K18
open PySem PySem.Spec PyProof.Rows L2 TL NumText RZ
theorem seq_upd {K : PySem.W.Frag} {Z Z1 Z2 : Hp} {a u : Addr} {xs : List V} (h : SqL K Z a xs) (n : Z u = none) (s : Same Z Z1) (o : Old u Z1 Z2) : SqL K Z2 a xs := by
  rcases h with (e | ⟨od, e⟩) | h
  · exact .inl (.inl (o _ _ (fun z => by rw [z, n] at e; cases e) (s _ _ e)))
  · exact .inl (.inr ⟨od, o _ _ (fun z => by rw [z, n] at e; cases e) (s _ _ e)⟩)
  · exact .inr h
theorem turns (z : Int) (z0 : 0 ≤ z) : -(2 ^ 62) ≤ (if (if z < 3 then z else 3) > 1 then (if z < 3 then z else 3) else 1) ∧ (if (if z < 3 then z else 3) > 1 then (if z < 3 then z else 3) else 1) < 2 ^ 62 ∧ (if (if z < 3 then z else 3) > 1 then (if z < 3 then z else 3) else 1) ≤ 3 ∧ ((if (if z < 3 then z else 3) > 1 then (if z < 3 then z else 3) else 1) ≤ z ∨ z = 0) := by
  split <;> split <;> omega
def x1 : Tri → Int := fun _ => 1
theorem x1_abs : ∀ t, (x1 t).natAbs ≤ 1 := fun _ => Nat.le_refl _
theorem sm_x1 : SmN x1 [2] := fun t m => by
  show -(10 ^ 60) < (1 : Int) ∧ (1 : Int) < 10 ^ 60
  decide +kernel
theorem dict_x1 : [(triK (0, 0, 1), V.int 1)] = dictO (pl [2]) x1 := by rfl
theorem dbl_may : StpsMay 1 (dblS 100) := fun k s e => by
  cases s with
  | mk i =>
    unfold dblS at e
    cases k with
    | zero =>
      cases e
      exact Nat.one_pos
    | succ j =>
      rw [List.getElem?_cons_succ, List.getElem?_map] at e
      obtain ⟨_, _, z⟩ := Option.map_eq_some_iff.mp e
      cases z
  | pr l =>
    obtain ⟨j, rfl, lj, rfl⟩ := dbl_at e
    intro p hp
    rw [List.mem_singleton.mp hp]
    exact Nat.lt_succ_self j
  | br i j =>
    unfold dblS at e
    cases k with
    | zero => cases e
    | succ j =>
      rw [List.getElem?_cons_succ, List.getElem?_map] at e
      obtain ⟨_, _, z⟩ := Option.map_eq_some_iff.mp e
      cases z
theorem flat_may (n : Nat) : StpsMay 1 (flatS n) := fun k s e => by
  cases s with
  | mk i =>
    unfold flatS at e
    cases k with
    | zero =>
      cases e
      exact Nat.one_pos
    | succ j =>
      rw [List.getElem?_cons_succ] at e
      have z := List.mem_of_getElem? e
      cases List.eq_of_mem_replicate z
  | pr l =>
    obtain ⟨j, rfl, lj, rfl⟩ := flat_at e
    intro p hp
    rcases List.mem_cons.mp hp with rfl | hp
    · exact Nat.succ_pos j
    · rw [List.mem_singleton.mp hp]
      exact Nat.succ_pos j
  | br i j =>
    unfold flatS at e
    cases k with
    | zero => cases e
    | succ j =>
      rw [List.getElem?_cons_succ] at e
      have z := List.mem_of_getElem? e
      cases List.eq_of_mem_replicate z
theorem dbl_last : numsL (lastS [2] [x1] (dblS 100)) [2] = [2 ^ 100] := by
  have h : EqN [2] (lastS [2] [x1] (dblS 100)) (fun t => (2 : Int) ^ 100 * x1 t) := by
    have e : (dblS 100).length - 1 = 100 := by rw [dbl_len]
    unfold lastS
    rw [e]
    exact dbl_vals x1 100 100 (Nat.le_refl _)
  rw [nums_congr h]
  decide +kernel
theorem flat_last (n : Nat) (h : 0 < n) : EqN [2] (lastS [2] [x1] (flatS n)) zN := by
  have e : (flatS n).length - 1 = n := by rw [flat_len, Nat.add_sub_cancel]
  unfold lastS
  rw [e]
  exact (flat_vals x1 n).2 n h
theorem StpL.rep {K : PySem.W.Frag} {H : Hp} {v : V} {s : Stp} (h : StpV K H v s) : ∀ n, StpL K H (List.replicate n v) (List.replicate n s)
  | 0 => .nil
  | n + 1 => by
    rw [List.replicate_succ, List.replicate_succ]
    exact .cons h (StpL.rep h n)
theorem Sts.rep {K : PySem.W.Frag} {H : Hp} {C a : Addr} {ns : List Int} {F : Tri → Int} (h : StairO K H a C ns (numsL F ns)) : ∀ n, Sts K H C ns (List.replicate n (.ref a)) (List.replicate n F)
  | 0 => .nil
  | n + 1 => by
    rw [List.replicate_succ, List.replicate_succ]
    exact .cons h (Sts.rep h n)
def shp62 : Shp [6, 2] := shp_ok (by decide +kernel)
def told18 : List PyData := [.tuple [.int (2 ^ 100)], .bool true, .bool true]
theorem told18_ok : SeqAt.shaped (.list told18) = true ∧ PyData.eqv (.list told18) (.list told18) = true := by decide +kernel
theorem wt_x1 : WtB 1 x1 [2] := wt_eq (G := fun t => 1 * x1 t) (fun t _ => (Int.one_mul _).symm) (wt2 (by decide) x1_abs (by decide))
theorem ok15 : StpsOk 16 [.mk 15] := fun k s e => by
  cases k with
  | zero =>
    cases e
    exact (by decide : 15 < 16)
  | succ j => cases e
theorem okNil (n : Nat) : StpsOk n [] := fun k s e => by cases e
section
variable {P : Program} {w : World} {K : PySem.W.Frag} {mg : Str → Option Value} {base : Heap} {C CS CM TL : Addr} {mc : Value}
abbrev s_law : Stmt := topS 82
theorem sc_law : FnScope ["_law_script", "_law_spot", "_law_x", "_law_twice", "_law_turn", "_law_told", "_law_flat"] ["_law_script"] (defScope s_law) := ⟨rfl, rfl, rfl, by decide +kernel, rfl, by decide +kernel, by decide +kernel⟩
def spLaw (K : PySem.W.Frag) : Sp := fun vs H Q _ => ∃ (a : Addr) (ns : List Int), vs = [.ref a] ∧ SqL K H a (ns.map V.int) ∧ ns.length ≤ 63 ∧ ∀ H', Q (.bl true) H'
theorem ok_law {f f1 f2 fW fI gN gZ gQ pO gO qN : Addr} {fd fd1 fd2 fdW fdI fdN fdZ fdQ fdO : FuncData} (T : Txt mg) (N : Nam mg) (R : SC K mg C) (IC : C8.InsC K C) (d : D K mg "law" s_law ["_law_script"] f fd)
    (d1 : D K mg "_law_right" s_lright ["_law_jug_here"] f1 fd1) (G1 : FnOk P w K mg base CX0 12 f1 fd1 ["_law_jug_here"] spLRight)
    (d2 : D K mg "_law_jug" s_jug ["_law_script", "_law_spot"] f2 fd2) (G2 : FnOk P w K mg base CX0 1 f2 fd2 ["_law_script", "_law_spot"] (spJug K))
    (dW : D K mg "worth" s_worth ["shape", "stairs", "steps"] fW fdW) (GW : FnOk P w K mg base CX0 10 fW fdW ["shape", "stairs", "steps"] (spWorth K C))
    (mk : Mk K C fI) (GI : FnOk P w K mg base CX0 7 fI fdI ["self", "shape", "entries"] (spInit K C)) (bI : Binds K fdI ["self", "shape", "entries"] [])
    (pN : PropOf K C "numbers" qN gN) (GN : FnOk P w K mg base CX0 1 gN fdN ["self"] (spNums K C)) (bN : Binds K fdN ["self"] [])
    (nfC : PySem.W.notFirst K C (.ref C) = true)
    (hsQ : PySem.W.findIn K (.ref C) "__eq__" = some (some (.ref gQ))) (hfQ : PySem.W.isFn K (.ref gQ) = true) (GQ : FnOk P w K mg base CX0 1 gQ fdQ ["self", "other"] (spSEq K C)) (bQ : Binds K fdQ ["self", "other"] [])
    (hsB : PySem.W.findIn K (.ref C) "__bool__" = some (some (.ref gZ))) (hfB : PySem.W.isFn K (.ref gZ) = true) (GZ : FnOk P w K mg base CX0 1 gZ fdZ ["self"] (spSBool K C)) (bZ : Binds K fdZ ["self"] [])
    (rd : ClX.CRead K C mc) (cmO : ClX.CMet K C mc "one" pO gO) (GO : FnOk P w K mg base CX0 9 gO fdO ["cls", "shape"] (spOne K C)) (bO : Binds K fdO ["cls", "shape"] []) :
    FnOk P w K mg base CX0 13 f fd ["_law_script"] (spLaw K) := by
  refine d.F.ok sc_law (fun vs H Q E h => ?_) (fun cdv A outer s H vs Q E hr h => ?_)
  · obtain ⟨a, ns, rfl, _⟩ := h
    rfl
  · obtain ⟨a, ns, rfl, hS, hl, q⟩ := h
    have u64 : (A.deeper (envOfC "law" (defScope s_law) s.heap.objs.size f cdv)).units + 64 < cLine := by have := hr.un; omega
    have un : (A.deeper (envOfC "law" (defScope s_law) s.heap.objs.size f cdv)).units + 1 < cLine := by have := hr.un; omega
    refine ⟨_, (pss_cons (ps_for PassesOwn.never rfl (pi_range1 (by rfl) T.n_range (pa_cons (pe_callB (call_max2 rfl) (by rfl) T.n_max (by decide +kernel) (pa_cons pe_int (pa_cons (pe_callB (call_min2 rfl) (by rfl) T.n_min (by decide +kernel) (pa_cons pe_int (pa_cons (pe_callB call_len_seq (by rfl) T.n_len PySem.boot_len (pa_cons (pv 0) pa_nil)) pa_nil))) pa_nil))) pa_nil)) (pg_name (i := 1) sc_law.nd rfl (.inl rfl))
        (pss_one (ps_if (pt_not (pt_val (pe_call G1 hr (by rfl) d1.g d1.F.kp d1.b .nil pass0 (pa_cons (pe_call G2 (hr.mono (by decide)) (by rfl) d2.g d2.F.kp d2.b .nil pass0 (pa_cons (pv 0) (pa_cons (pv 1) pa_nil))) pa_nil)))) (pss_one (ps_ret pe_bl)) pss_nil)))
      (pss_cons (ps_set (i := 2) sc_law.nd rfl (.inl rfl) (pe_make mk GI (hr.mono (by decide)) (by rfl) R.mC bI .nil pass0 (pa_cons (pe_tup (pa_cons pe_int pa_nil)) (pa_cons (pe_disp1 un (pe_tup (pa_cons pe_int (pa_cons pe_int (pa_cons pe_int pa_nil)))) pe_int) pa_nil))))
      (pss_cons (ps_set (i := 3) sc_law.nd rfl (.inl rfl) (pe_lst (pa_cons (pe_tup (pa_cons pe_str (pa_cons pe_int pa_nil))) pa_nil)))
      (pss_cons (ps_for PassesOwn.never rfl (pi_range1 (by rfl) T.n_range (pa_cons pe_int pa_nil)) (pg_name (i := 4) sc_law.nd rfl (.inl rfl))
        (pss_one (ps_expr (pe_bm PySem.F.plainAttrs_list PySem.F.slot_list_append PySem.F.type_list_append mt_append (pv 3) (pa_cons (pe_tup (pa_cons pe_str (pa_cons (pe_tup (pa_cons (pe_tup (pa_cons (pv 4) (pa_cons pe_int pa_nil))) pa_nil)) pa_nil))) pa_nil)))))
      (pss_cons (ps_set (i := 5) sc_law.nd rfl (.inl rfl) (pe_lst (pa_cons (pe_prop (pe_call GW (hr.mono (by decide)) (by rfl) dW.g dW.F.kp dW.b .nil pass0 (pa_cons (pe_tup (pa_cons pe_int pa_nil)) (pa_cons (pe_tup (pa_cons (pv 2) pa_nil)) (pa_cons (pe_tupleOf (by rfl) T.n_tuple (pv 3)) pa_nil)))) R.cl pN GN (hr.mono (by decide)) bN .nil pass0 (by rfl)) (pa_cons (pe_cmpR (op_eqMine hsQ hfQ GQ (hr.mono (by decide)) bQ) (pe_call GW (hr.mono (by decide)) (by rfl) dW.g dW.F.kp dW.b .nil pass0 (pa_cons (pe_tup (pa_cons pe_int pa_nil)) (pa_cons (pe_op op_repM (pe_tup (pa_cons (pv 2) pa_nil)) pe_int) (pa_cons (pe_tup (pa_cons (pe_tup (pa_cons pe_str (pa_cons pe_int pa_nil))) pa_nil)) pa_nil)))) (pv 2) (nomark _)) pa_nil))))
      (pss_cons (ps_expr (pe_bm PySem.F.plainAttrs_list PySem.F.slot_list_append PySem.F.type_list_append mt_append (pv 5) (pa_cons (pe_cmpR (op_eqMine hsQ hfQ GQ (hr.mono (by decide)) bQ) (pe_call GW (hr.mono (by decide)) (by rfl) dW.g dW.F.kp dW.b .nil pass0 (pa_cons (pe_tup (pa_cons pe_int (pa_cons pe_int pa_nil))) (pa_cons (pe_tup pa_nil) (pa_cons (pe_tup pa_nil) pa_nil)))) (ClX.pe_cmeth (pe_glob (v := .ref C) rfl R.mC rfl) rd cmO (GO.raw bO .nil) (hr.mono (by decide)) pass0 (pa_cons (pe_tup (pa_cons pe_int (pa_cons pe_int pa_nil))) pa_nil)) (nomark _)) pa_nil)))
      (pss_cons (ps_set (i := 6) sc_law.nd rfl (.inl rfl) (pe_op op_catT (pe_tup (pa_cons (pe_tup (pa_cons pe_str (pa_cons pe_int pa_nil))) pa_nil)) (pe_op op_repM (pe_tup (pa_cons (pe_tup (pa_cons pe_str (pa_cons (pe_tup (pa_cons (pe_tup (pa_cons pe_int (pa_cons pe_int pa_nil))) (pa_cons (pe_tup (pa_cons pe_int (pa_cons (pe_un un_neg pe_int) pa_nil))) pa_nil))) pa_nil))) pa_nil)) pe_int)))
      (pss_one (ps_ret (pe_and (pe_cmpR (op_eqD u64) (pv 5) (pe_lst (pa_cons (pe_tup (pa_cons (pe_op op_powW (pe_op op_powW pe_int pe_int) pe_int) pa_nil)) (pa_cons pe_bl (pa_cons pe_bl pa_nil)))) (nomark _)) (pe_one (pe_not (pe_callTy (call_boolMine hsB hfB GZ (hr.mono (by decide)) bZ) (by rfl) T.n_bool (by decide +kernel) (pa_cons (pe_call GW (hr.mono (by decide)) (by rfl) dW.g dW.F.kp dW.b .nil pass0 (pa_cons (pe_tup (pa_cons pe_int pa_nil)) (pa_cons (pe_tup (pa_cons (pv 2) pa_nil)) (pa_cons (pv 6) pa_nil)))) pa_nil)))))))))))))), ?_⟩
    have lM : (ns.map V.int).length = ns.length := List.length_map ..
    obtain ⟨j0, j1, j2, j3⟩ := turns (((ns.map V.int).length : Nat) : Int) (by omega)
    refine ⟨.ref a, rfl, a, _, rfl, .inl hS, _, _, rfl, _, _, rfl, _, rfl, j0, j1, ?_⟩
    refine for_range (fun i σ Z => (∃ y1 y2 y3 y4 y5 y6, σ = [some (.ref a), y1, y2, y3, y4, y5, y6]) ∧ SqL K Z a (ns.map V.int)) ⟨⟨_, _, _, _, _, _, rfl⟩, hS⟩ ?_ ?_
    · rintro i σ Z hi ⟨⟨y1, y2, y3, y4, y5, y6, rfl⟩, sz⟩
      have cnd : i < ns.length ∨ ns = [] := by
        rcases j3 with h | h
        · exact .inl (by omega)
        · exact .inr (List.length_eq_zero_iff.mp (by omega))
      refine ⟨_, rfl, _, rfl, a, i, ns, (by simp), sz, by omega, cnd, fun H1 u s1 n1 u1 => ?_⟩
      refine ⟨u, rfl, u1, fun H2 o2 => ⟨true, rfl, ite2 (fun z => absurd z Bool.false_ne_true) (fun _ => ?_)⟩⟩
      exact ⟨⟨_, _, _, _, _, _, rfl⟩, seq_upd sz n1 s1 o2⟩
    rintro σ Z ⟨⟨y1, y2, y3, y4, y5, y6, rfl⟩, -⟩
    -- the maker
    refine ⟨(by show 1 ≤ sizeLine; decide), fun p1 n1 => fun D nD => ⟨(by show 3 ≤ sizeLine; decide), fun pk nk => ?_⟩⟩
    have D1 : D ≠ pk := fun z => by rw [← z, upd_same] at nk; cases nk
    refine ⟨(upd_ne D1).trans upd_same, pk, triK (0, 0, 1), rfl, upd_same, ?_⟩
    have eS : upd (upd (upd (upd Z p1 (.tup [.int 2])) D (.dT [])) pk (.tup [.int 0, .int 0, .int 1])) D (.dT [(triK (0, 0, 1), V.int 1)]) D = some (.dT (dictO (pl [2]) x1)) := upd_same.trans (by rw [dict_x1])
    have ep : upd (upd (upd (upd Z p1 (.tup [.int 2])) D (.dT [])) pk (.tup [.int 0, .int 0, .int 1])) D (.dT [(triK (0, 0, 1), V.int 1)]) p1 = some (.tup ([2].map V.int)) := by
      have a1 : p1 ≠ D := fun z => by rw [← z, upd_same] at nD; cases nD
      have a2 : p1 ≠ pk := fun z => by rw [← z, upd_ne a1, upd_same] at nk; cases nk
      rw [upd_ne a1, upd_ne a2, upd_ne a1, upd_same]
      rfl
    revert eS ep
    generalize upd (upd (upd (upd Z p1 (.tup [.int 2])) D (.dT [])) pk (.tup [.int 0, .int 0, .int 1])) D (.dT [(triK (0, 0, 1), V.int 1)]) = H1
    intro eS ep
    clear n1 nD nk D1
    refine fun x dx nx ndx ne => ?_
    have s7 := (sub_same (o := .own x) ndx).trans (sub_same (H := upd H1 dx (.own x)) (p := x) (o := .ins C dx []) (by rw [upd_ne (Ne.symm ne)]; exact nx))
    refine ⟨x, p1, D, dx, [2], dictO (pl [2]) x1, rfl, upd_same, sqt_new (s7 _ _ ep), shp2, s7 _ _ eS, ent_dictO shp2 (fun t m => m) (by decide +kernel) sm_x1, fun H2 o5 st => ⟨rfl, ?_⟩⟩
    rw [nums_dictO fun t m n => absurd m n] at st
    clear o5 eS ep s7 nx ndx ne
    -- twice
    refine ⟨(by show 2 ≤ sizeLine; decide), fun p2 n2 => ⟨(by show 1 ≤ sizeLine; decide), fun L nL => ?_⟩⟩
    have s2 := sub_same (o := .tup [V.str "maker", V.int 0]) n2
    have s3 := sub_same (o := .lst [V.ref p2]) nL
    have e2 := s3 _ _ (upd_same (H := H2) (a := p2) (o := .tup [V.str "maker", V.int 0]))
    refine ⟨100, rfl, by decide, by decide, ?_⟩
    refine for_range (lo := 0) (n := 100) (fun i σ Z => (∃ y1 y4, σ = [some (.ref a), y1, some (.ref x), some (.ref L), y4, y5, y6]) ∧ StairO K Z x C [2] (numsL x1 [2]) ∧ ∃ xs, Z L = some (.lst xs) ∧ StpL K Z xs (dblS i)) ⟨⟨_, _, rfl⟩, st.same (s2.trans s3), [.ref p2], upd_same, .cons (.mk (sqt_new e2)) .nil⟩ ?_ ?_
    · rintro i σ Y hi ⟨⟨y1, y4, rfl⟩, sx, xs, hd, sl⟩
      rw [Int.zero_add]
      refine ⟨.ref L, rfl, tyl hd, ?_⟩
      refine ⟨_, rfl, (by show 2 ≤ sizeLine; decide), fun q1 m1 => ⟨(by show 1 ≤ sizeLine; decide), fun q2 m2 => ⟨(by show 2 ≤ sizeLine; decide), fun q3 m3 => ?_⟩⟩⟩
      have t1 := sub_same (o := .tup [V.int (i : Nat), V.int 2]) m1
      have t2 := sub_same (o := .tup [V.ref q1]) m2
      have t3 := sub_same (o := .tup [V.str "product", V.ref q2]) m3
      have f1 := t3 _ _ (t2 _ _ (upd_same (H := Y) (a := q1) (o := .tup [V.int (i : Nat), V.int 2])))
      have f2 := t3 _ _ (upd_same (H := upd Y q1 (.tup [V.int (i : Nat), V.int 2])) (a := q2) (o := .tup [V.ref q1]))
      have t13 := t1.trans (t2.trans t3)
      have hd3 := t13 _ _ hd
      have sv : StpV K _ (.ref q3) (.pr [(i, 2)]) := .pr (sqt_new upd_same) ⟨q2, _, rfl, sqt_new f2, .cons f1 .nil⟩
      refine ⟨L, _, _, rfl, rfl, hd3, ?_, ⟨_, _, rfl⟩, (sx.same t13).putL hd3, xs ++ [.ref q3], upd_same, ?_⟩
      · rw [sl.len, dbl_len, sizeLine_eq]
        omega
      · rw [dbl_succ]
        exact ((sl.same t13).snoc sv).put hd3
    rintro σ Y ⟨⟨y1, y4, rfl⟩, sx, xs, hd, sl⟩
    clear s2 s3 e2 st n2 nL
    have lxs : xs.length = 101 := by rw [sl.len, dbl_len]
    -- told
    refine ⟨(by show 1 ≤ sizeLine; decide), fun q1 m1 => ⟨_, rfl, (by show 1 ≤ sizeLine; decide), fun q2 m2 => ⟨_, rfl, ?_⟩⟩⟩
    have s1 := sub_same (o := .tup [V.int 2]) m1
    have s2 := sub_same (o := .tup [V.ref x]) m2
    have hd2 := s2 _ _ (s1 _ _ hd)
    refine .inl ⟨L, _, rfl, .inl (.inl hd2), fun q3 m3 => ?_⟩
    have s3 := sub_same (o := .tup xs) m3
    have g1 := s3 _ _ (s2 _ _ (upd_same (H := Y) (a := q1) (o := .tup [V.int 2])))
    have g2 := s3 _ _ (upd_same (H := upd Y q1 (.tup [V.int 2])) (a := q2) (o := .tup [V.ref x]))
    have s13 := s1.trans (s2.trans s3)
    have sx3 := sx.same s13
    refine ⟨q1, q2, .ref q3, [2], [.ref x], [x1], dblS 100, 2 ^ 102, rfl, sqt_new g1, sqt_new g2, .cons sx3 .nil, (by show 1 ≤ 16; decide), ⟨q3, _, rfl, sqt_new upd_same, sl.same s13⟩, shp2, dbl_may, by rw [dbl_len]; decide, dbl_fine x1_abs, fun Y4 c4 s4 t4 => ?_⟩
    obtain ⟨dx4, _, _, _, ea4, _, _, _⟩ := id t4
    refine ⟨c4, dx4, _, rfl, ea4, c4, [2], _, rfl, t4, fun nm enm => ?_⟩
    rw [dbl_last] at enm
    have sx4 := sx3.same s4
    clear s1 s2 s3 g1 g2 s13 sx3 s4 hd hd2 sl m1 m2 m3 t4 ea4
    refine ⟨(by show 1 ≤ sizeLine; decide), fun q1 m1 => ⟨_, rfl, (by show 1 ≤ sizeLine; decide), fun q2 m2 => ?_⟩⟩
    have s1 := sub_same (o := .tup [V.int 2]) m1
    have s2 := sub_same (o := .tup [V.ref x]) m2
    refine ⟨q2, 16, .ref x, rfl, rfl, .inl (.inl upd_same), by decide, by decide, fun q3 m3 => ?_⟩
    have s3 := sub_same (o := .tup (List.replicate 16 (V.ref x))) m3
    refine ⟨(by show 2 ≤ sizeLine; decide), fun q4 m4 => ⟨(by show 1 ≤ sizeLine; decide), fun q5 m5 => ?_⟩⟩
    have s4 := sub_same (o := .tup [V.str "maker", V.int 15]) m4
    have s5 := sub_same (o := .tup [V.ref q4]) m5
    have s15 := s1.trans (s2.trans (s3.trans (s4.trans s5)))
    have sx5 := sx4.same s15
    have g1 := s5 _ _ (s4 _ _ (s3 _ _ (s2 _ _ (upd_same (H := Y4) (a := q1) (o := .tup [V.int 2])))))
    have g3 := s5 _ _ (s4 _ _ (upd_same (H := upd (upd Y4 q1 (.tup [V.int 2])) q2 (.tup [V.ref x])) (a := q3) (o := .tup (List.replicate 16 (V.ref x)))))
    have g4 := s5 _ _ (upd_same (H := upd (upd (upd Y4 q1 (.tup [V.int 2])) q2 (.tup [V.ref x])) q3 (.tup (List.replicate 16 (V.ref x)))) (a := q4) (o := .tup [V.str "maker", V.int 15]))
    have w16 : ∀ M ∈ List.replicate 16 x1, WtB 1 M [2] := fun M hM => by
      rw [List.eq_of_mem_replicate hM]
      exact wt_x1
    have ok16 : StpsOk (List.replicate 16 x1).length [.mk 15] := by rw [List.length_replicate]; exact ok15
    refine ⟨q1, q3, .ref q5, [2], List.replicate 16 (.ref x), List.replicate 16 x1, [.mk 15], _, rfl, sqt_new g1, sqt_new g3, Sts.rep sx5 16, by rw [List.length_replicate]; decide, ⟨q5, _, rfl, sqt_new upd_same, .cons (.mk (sqt_new g4)) .nil⟩, shp2, ok16.may, (by show 1 ≤ 3000; decide), fine_of shp2 w16 ok16 (by decide +kernel), fun Y6 c6 s6 t6 => ?_⟩
    have sx6 := sx5.same s6
    have enm6 := s6 _ _ (s15 _ _ enm)
    refine ⟨_, rfl, c6, .ref C, rfl, ins_of t6, sx6.ty IC, nfC, c6, .ref x, [2], _, rfl, t6, .inl ⟨x, [2], _, rfl, sx6, ?_⟩⟩
    rw [show (decide (([2] : List Int) = [2]) && decide (numsL (lastS [2] (List.replicate 16 x1) [.mk 15]) [2] = numsL x1 [2])) = true from eq_true rfl]
    refine ⟨(by show 2 ≤ sizeLine; decide), fun M nM => ?_⟩
    have s7 := sub_same (o := .lst [V.ref nm, .bl true]) nM
    have enm7 := s7 _ _ enm6
    have sx7 := sx6.same s7
    have hM : upd Y6 M (.lst [V.ref nm, .bl true]) M = some (.lst [V.ref nm, .bl true]) := upd_same
    revert enm7 sx7 hM
    generalize upd Y6 M (.lst [V.ref nm, .bl true]) = Y7
    intro enm7 sx7 hM
    clear s1 s2 s3 s4 s5 s15 sx5 g1 g3 g4 s6 t6 sx6 enm6 s7 nM sx4 enm m1 m2 m3 m4 m5
    -- without steps
    refine ⟨.ref M, rfl, tyl hM, ?_⟩
    refine ⟨(by show 2 ≤ sizeLine; decide), fun q1 m1 => ⟨(by show 0 ≤ sizeLine; decide), fun q2 m2 => ⟨(by show 0 ≤ sizeLine; decide), fun q3 m3 => ?_⟩⟩⟩
    have s1 := sub_same (o := .tup [V.int 6, V.int 2]) m1
    have s2 := sub_same (o := .tup []) m2
    have s3 := sub_same (o := .tup []) m3
    have g1 := s3 _ _ (s2 _ _ (upd_same (H := Y7) (a := q1) (o := .tup [V.int 6, V.int 2])))
    have g2 := s3 _ _ (upd_same (H := upd Y7 q1 (.tup [V.int 6, V.int 2])) (a := q2) (o := .tup []))
    have s13 := s1.trans (s2.trans s3)
    refine ⟨q1, q2, .ref q3, [6, 2], [], [], [], _, rfl, sqt_new g1, sqt_new g2, .nil, (by show 0 ≤ 16; decide), ⟨q3, _, rfl, sqt_new upd_same, .nil⟩, shp62, (okNil 0).may, (by show 0 ≤ 3000; decide), fine_of (c := 1) shp62 (fun M hM => by cases hM) (okNil 0) (by decide +kernel), fun Y8 c8 s8 t8 => ?_⟩
    refine ⟨rfl, (by show 2 ≤ sizeLine; decide), fun q4 m4 => ?_⟩
    have s4 := sub_same (o := .tup [V.int 6, V.int 2]) m4
    refine ⟨q4, [6, 2], rfl, sqt_new upd_same, shp62, fun Y9 c9 s9 t9 => ?_⟩
    have t8 := (t8.same s4).same s9
    refine ⟨c8, .ref C, rfl, ins_of t8, t9.ty IC, nfC, c8, .ref c9, [6, 2], _, rfl, t8, .inl ⟨c9, [6, 2], _, rfl, t9, ?_⟩⟩
    rw [show (decide (([6, 2] : List Int) = [6, 2]) && decide (numsL (lastS [6, 2] [] []) [6, 2] = numsL (fun _ => 0) [6, 2])) = true from eq_true rfl]
    have s19 := s13.trans (s8.trans (s4.trans s9))
    have hM9 := s19 _ _ hM
    have enm9 := s19 _ _ enm7
    have sx9 := sx7.same s19
    refine ⟨M, _, _, rfl, rfl, hM9, (by show 2 < sizeLine; decide), ?_⟩
    have Mn : nm ≠ M := fun z => by rw [z, hM9] at enm9; cases enm9
    have enmA : upd Y9 M (.lst ([V.ref nm, .bl true] ++ [.bl true])) nm = some (.tup ([2 ^ 100].map V.int)) := (upd_ne Mn).trans enm9
    have sxA := sx9.putL (ys := [V.ref nm, .bl true] ++ [.bl true]) hM9
    have hMA : upd Y9 M (.lst ([V.ref nm, .bl true] ++ [.bl true])) M = some (.lst [V.ref nm, .bl true, .bl true]) := upd_same
    revert enmA sxA hMA
    generalize upd Y9 M (.lst ([V.ref nm, .bl true] ++ [.bl true])) = YA
    intro enmA sxA hMA
    clear s1 s2 s3 g1 g2 s13 s8 t8 s4 s9 t9 s19 hM9 enm9 sx9 Mn m1 m2 m3 m4 hM enm7 sx7
    -- flat
    refine ⟨(by show 2 ≤ sizeLine; decide), fun q1 m1 => ⟨(by show 1 ≤ sizeLine; decide), fun q2 m2 => ?_⟩⟩
    refine ⟨(by show 2 ≤ sizeLine; decide), fun q3 m3 => ⟨_, rfl, (by show 2 ≤ sizeLine; decide), fun q4 m4 => ⟨(by show 2 ≤ sizeLine; decide), fun q5 m5 => ⟨(by show 2 ≤ sizeLine; decide), fun q6 m6 => ⟨(by show 1 ≤ sizeLine; decide), fun q7 m7 => ?_⟩⟩⟩⟩⟩
    refine ⟨q7, 2999, .ref q6, rfl, rfl, .inl (.inl upd_same), by decide, by decide, fun q8 m8 => ?_⟩
    have s1 := sub_same (o := .tup [V.str "maker", V.int 0]) m1
    have s2 := sub_same (o := .tup [V.ref q1]) m2
    have s3 := sub_same (o := .tup [V.int 0, V.int 3]) m3
    have s4 := sub_same (o := .tup [V.int 0, V.int (-3)]) m4
    have s5 := sub_same (o := .tup [V.ref q3, V.ref q4]) m5
    have s6 := sub_same (o := .tup [V.str "product", V.ref q5]) m6
    have s7 := sub_same (o := .tup [V.ref q6]) m7
    have s8 := sub_same (o := .tup (List.replicate 2999 (V.ref q6))) m8
    have g1 := s8 _ _ (s7 _ _ (s6 _ _ (s5 _ _ (s4 _ _ (s3 _ _ (s2 _ _ (upd_same (H := YA) (a := q1) (o := .tup [V.str "maker", V.int 0]))))))))
    have g2 := s8 _ _ (s7 _ _ (s6 _ _ (s5 _ _ (s4 _ _ (s3 _ _ (upd_same (H := upd YA q1 (.tup [V.str "maker", V.int 0])) (a := q2) (o := .tup [V.ref q1])))))))
    have g3 := s8 _ _ (s7 _ _ (s6 _ _ (s5 _ _ (s4 _ _ (upd_same (H := upd (upd YA q1 (.tup [V.str "maker", V.int 0])) q2 (.tup [V.ref q1])) (a := q3) (o := .tup [V.int 0, V.int 3]))))))
    have g4 := s8 _ _ (s7 _ _ (s6 _ _ (s5 _ _ (upd_same (H := upd (upd (upd YA q1 (.tup [V.str "maker", V.int 0])) q2 (.tup [V.ref q1])) q3 (.tup [V.int 0, V.int 3])) (a := q4) (o := .tup [V.int 0, V.int (-3)])))))
    have g5 := s8 _ _ (s7 _ _ (s6 _ _ (upd_same (H := upd (upd (upd (upd YA q1 (.tup [V.str "maker", V.int 0])) q2 (.tup [V.ref q1])) q3 (.tup [V.int 0, V.int 3])) q4 (.tup [V.int 0, V.int (-3)])) (a := q5) (o := .tup [V.ref q3, V.ref q4]))))
    have g6 := s8 _ _ (s7 _ _ (upd_same (H := upd (upd (upd (upd (upd YA q1 (.tup [V.str "maker", V.int 0])) q2 (.tup [V.ref q1])) q3 (.tup [V.int 0, V.int 3])) q4 (.tup [V.int 0, V.int (-3)])) q5 (.tup [V.ref q3, V.ref q4])) (a := q6) (o := .tup [V.str "product", V.ref q5])))
    have s18 := s1.trans (s2.trans (s3.trans (s4.trans (s5.trans (s6.trans (s7.trans s8))))))
    have enmB := s18 _ _ enmA
    have sxB := sxA.same s18
    have hMB := s18 _ _ hMA
    revert g1 g2 g3 g4 g5 g6 enmB sxB hMB
    have g8 : ∀ H, upd H q8 (.tup (List.replicate 2999 (V.ref q6))) q8 = some (.tup (List.replicate 2999 (V.ref q6))) := fun H => upd_same
    have g8 := g8 (upd (upd (upd (upd (upd (upd (upd YA q1 (.tup [V.str "maker", V.int 0])) q2 (.tup [V.ref q1])) q3 (.tup [V.int 0, V.int 3])) q4 (.tup [V.int 0, V.int (-3)])) q5 (.tup [V.ref q3, V.ref q4])) q6 (.tup [V.str "product", V.ref q5])) q7 (.tup [V.ref q6]))
    revert g8
    generalize upd (upd (upd (upd (upd (upd (upd (upd YA q1 (.tup [V.str "maker", V.int 0])) q2 (.tup [V.ref q1])) q3 (.tup [V.int 0, V.int 3])) q4 (.tup [V.int 0, V.int (-3)])) q5 (.tup [V.ref q3, V.ref q4])) q6 (.tup [V.str "product", V.ref q5])) q7 (.tup [V.ref q6])) q8 (.tup (List.replicate 2999 (V.ref q6))) = YB
    intro g8 g1 g2 g3 g4 g5 g6 enmB sxB hMB
    clear s1 s2 s3 s4 s5 s6 s7 s8 s18 m1 m2 m3 m4 m5 m6 m7 m8 enmA sxA hMA
    refine ⟨q2, q8, [.ref q1], List.replicate 2999 (.ref q6), rfl, rfl, sqt_new g2, sqt_new g8, fun z => (by cases z), ?_, fun z => ?_, fun _ q9 m9 => ?_⟩
    · rw [List.length_replicate, sizeLine_eq]
      show 1 + 2999 ≤ 16777216
      omega
    · have l := congrArg List.length z
      rw [List.length_replicate] at l
      cases l
    have s9 := sub_same (o := .tup ([.ref q1] ++ List.replicate 2999 (V.ref q6))) m9
    have pv6 : StpV K YB (.ref q6) (.pr [(0, 3), (0, -3)]) := .pr (sqt_new g6) ⟨q5, _, rfl, sqt_new g5, .cons g3 (.cons g4 .nil)⟩
    have fl : StpL K YB ([.ref q1] ++ List.replicate 2999 (V.ref q6)) (flatS 2999) := .cons (.mk (sqt_new g1)) (StpL.rep pv6 2999)
    have fl9 := fl.same s9
    have sx9 := sxB.same s9
    have enm9 := s9 _ _ enmB
    have hM9 := s9 _ _ hMB
    have g9 : upd YB q9 (.tup ([.ref q1] ++ List.replicate 2999 (V.ref q6))) q9 = some (.tup ([.ref q1] ++ List.replicate 2999 (V.ref q6))) := upd_same
    revert fl9 sx9 enm9 hM9 g9
    generalize upd YB q9 (.tup ([.ref q1] ++ List.replicate 2999 (V.ref q6))) = YC
    generalize ([.ref q1] ++ List.replicate 2999 (V.ref q6)) = fs
    intro fl9 sx9 enm9 hM9 g9
    clear fl pv6 s9 g1 g2 g3 g4 g5 g6 g8 enmB sxB hMB m9
    -- the end
    refine ⟨_, rfl, _, _, rfl, rfl, ⟨by decide, by decide +kernel⟩, _, _, rfl, rfl, ⟨by decide, by decide +kernel⟩, (by show 1 ≤ sizeLine; decide), fun q1 m1 => ⟨(by show 3 ≤ sizeLine; decide), fun q2 m2 => ?_⟩⟩
    dsimp only
    dsimp only at m2
    rw [show ((2 : Int) ^ Int.toNat 50) ^ Int.toNat 2 = 2 ^ 100 by decide +kernel] at m2 ⊢
    have t1 := sub_same (o := .tup [V.int (2 ^ 100)]) m1
    have t2 := sub_same (o := .lst [V.ref q1, V.bl true, V.bl true]) m2
    have e1 := t2 _ _ (upd_same (H := YC) (a := q1) (o := .tup [V.int (2 ^ 100)]))
    have dM : Dp K _ (.ref M) (.list told18) := .lst (.inl (.inl (t2 _ _ (t1 _ _ hM9)))) (.cons (.tup (sqt_new (t2 _ _ (t1 _ _ enm9))) (.cons (.int _) .nil)) (.cons (.bl _) (.cons (.bl _) .nil)))
    have dq : Dp K (upd (upd YC q1 (.tup [V.int (2 ^ 100)])) q2 (.lst [V.ref q1, V.bl true, V.bl true])) (.ref q2) (.list told18) := .lst (.inl (.inl upd_same)) (.cons (.tup (sqt_new e1) (.cons (.int _) .nil)) (.cons (.bl _) (.cons (.bl _) .nil)))
    obtain ⟨h1, h2⟩ := told18_ok
    refine ⟨.list told18, .list told18, dM, dq, h1, h1, ?_⟩
    rw [h2]
    refine ⟨_, rfl, iteT ?_⟩
    have s12 := t1.trans t2
    have sx := sx9.same s12
    have g := s12 _ _ g9
    have fl := fl9.same s12
    clear dM dq t1 t2 e1 s12 h1 h2
    refine ⟨(by show 1 ≤ sizeLine; decide), fun r1 k1 => ⟨_, rfl, (by show 1 ≤ sizeLine; decide), fun r2 k2 => ?_⟩⟩
    have v1 := sub_same (o := .tup [V.int 2]) k1
    have v2 := sub_same (o := .tup [V.ref x]) k2
    have w1 := v2 _ _ (upd_same (a := r1) (o := .tup [V.int 2]))
    have v12 := v1.trans v2
    refine ⟨_, rfl, r1, r2, .ref q9, [2], [.ref x], [x1], flatS 2999, 8, rfl, sqt_new w1, sqt_new upd_same, .cons (sx.same v12) .nil, (by show 1 ≤ 16; decide), ⟨q9, fs, rfl, sqt_new (v12 _ _ g), fl.same v12⟩, shp2, flat_may 2999, by rw [flat_len]; omega, flat_fine x1_abs 2999, fun YD c sD tD => ?_⟩
    refine ⟨c, rfl, ins_of tD, c, [2], _, rfl, tD, _, rfl, _, rfl, ?_⟩
    rw [show ((numsL (lastS [2] [x1] (flatS 2999)) [2]).any fun n => n != 0) = false from any_zero (flat_last 2999 (by decide))]
    exact q _
end
end K18
namespace K18
open PySem PySem.Spec PyProof.Rows L2 PySem.HandSPX
theorem kit_self {K : PySem.W.Frag} (t : Value) : PySem.W.kitOne K t t = some true := by
  unfold PySem.W.kitOne
  rw [if_pos (beq_self_eq_true t)]
theorem all_of {l : PySem.W.OpenLaw} {w : World} {K : PySem.W.Frag} {h : Heap} {mg : Str → Option Value} {fa : Addr} (X : K.In h) (G : h.Ns mainGlobals mg) (hfa : mg "law" = some (.ref fa))
    {C CS TL fI gO gN gZ gQ gL gE CM fM pO qN : Addr} {rO rN : List Value}
    (aC : PySem.W.nsIn K mainGlobals "Stair" = some (some (.ref C)))
    (pg : PySem.W.plainGet K C Str.empty = true) (hd : PySem.W.hasDictIn K C = true) (po : PySem.W.plainOver K C = true) (sa : PySem.W.findIn K (.ref C) "__setattr__" = some (some (.builtin "object.__setattr__")))
    (nS : PySem.W.findIn K (.ref C) "_shape" = some none) (nP : PySem.W.findIn K (.ref C) "_plan" = some none) (nN : PySem.W.findIn K (.ref C) "_numbers" = some none)
    (ha : PySem.W.findIn K (.ref C) "__class__" = some (some (.builtin "object.__class__"))) (hn : PySem.W.specialIn K (.builtin "object.__class__") "__get__" = some (some (.builtin "getset_descriptor.__get__"))) (htk : PySem.W.takesIn K (.builtin "object.__class__") = some true) (hm : PySem.W.mroIn K C (.type "object") = some true) (ne : PySem.W.findIn K (.ref C) "__ne__" = some (some (.builtin "object.__ne__")))
    (sf : PySem.W.selfFirst K C = true) (nfC : PySem.W.notFirst K C (.ref C) = true) (ki : PySem.W.kitOne K (.ref C) (.type "int") = some false)
    (mks : PySem.W.makesIn K C = true) (ini : PySem.W.findIn K (.ref C) "__init__" = some (some (.ref fI))) (ifn : PySem.W.isFn K (.ref fI) = true) (kpC : PySem.W.keepIn K (.ref C) = true)
    (eZ : PySem.W.findIn K (.ref C) "__bool__" = some (some (.ref gZ))) (iZ : PySem.W.isFn K (.ref gZ) = true)
    (eQ : PySem.W.findIn K (.ref C) "__eq__" = some (some (.ref gQ))) (iQ : PySem.W.isFn K (.ref gQ) = true)
    (eL : PySem.W.findIn K (.ref C) "led" = some (some (.ref gL))) (iL : PySem.W.isFn K (.ref gL) = true)
    (eE : PySem.W.findIn K (.ref C) "beside" = some (some (.ref gE))) (iE : PySem.W.isFn K (.ref gE) = true)
    (pNa : PySem.W.findIn K (.ref C) "numbers" = some (some (.ref qN))) (pNg : PySem.W.specialIn K (.ref qN) "__get__" = some (some (.builtin "property.__get__"))) (pNt : PySem.W.takesIn K (.ref qN) = some true) (pNr : PySem.W.recIn K qN "property" = some (.ref gN :: rN))
    (rd : PySem.W.readsIn K C (.type "type") = true) (rga : PySem.W.specialIn K (.ref C) "__getattribute__" = some (some (.builtin "type.__getattribute__")))
    (cAO : PySem.W.findCls K (.ref C) (.type "type") "one" = some (.get (.builtin "classmethod.__get__") (.ref pO) .none (.ref C))) (cRO : PySem.W.recIn K pO "classmethod" = some (.ref gO :: rO)) (cFO : PySem.W.fnIn K gO = true)
    (aX : PySem.W.nsIn K mainGlobals "InvalidShape" = some (some (.ref CS))) (xX : PySem.W.excIn K CS [.type "ValueError", .type "Exception", .type "BaseException", .type "object"] "ValueError.__new__" = true) (kX : PySem.W.keepIn K (.ref CS) = true) (bX : PySem.W.subIn K (.ref CS) (.type "BaseException") = some true) (tX : PySem.W.typeIn K (.ref CS) = some (.type "type"))
    {nmM qnM : Str} {NM : Addr} {bsM subM : List Value} {snM : List Str} {abM : Bool} {colM : Option Bool} {ddM : Option Addr} {m0M m1M m2M m3M m5M : Option Value} {odeM aneM : Option Addr} {sleM : Array (Option Value)} {oceM dceM pmeM cdeM cteM : Value}
    (gM_ : PySem.W.nsIn K mainGlobals "TooMany" = some (some (.ref CM)))
    (xM : K.lookup CM = some (excClassObj nmM qnM CM NM bsM [.type "OverflowError", .type "ArithmeticError", .type "Exception", .type "BaseException", .type "object"] true snM subM abM colM ddM m0M m1M m2M m3M m5M "OverflowError.__new__"))
    (ovM : PySem.W.excOver K CM PySem.MostX.tailOV = true) (tkM : PySem.W.takerIn K CM "most" = some none)
    (saM : PySem.W.findIn K (.ref CM) "__setattr__" = some (some (.builtin "object.__setattr__"))) (gaM : PySem.W.findIn K (.ref CM) "__getattribute__" = some (some (.builtin "BaseException.__getattribute__"))) (ggM : PySem.W.findIn K (.ref CM) "__getattr__" = some none) (nbM : PySem.W.findIn K (.ref CM) "most" = some none)
    (icM : PySem.W.findIn K (.ref CM) "__init__" = some (some (.ref fM))) (tyM_ : PySem.W.typeIn K (.ref fM) = some (.type "function"))
    (leM : K.lookup fM = some ⟨oceM, odeM, .func (PySem.W.fnOf "__init__" "TooMany.__init__" (PySem.MostX.iA ⟨23, 17, 23, 21⟩ ⟨23, 23, 23, 27⟩) (PySem.MostX.iB ⟨24, 8, 24, 12⟩ ⟨24, 8, 24, 17⟩ ⟨24, 20, 24, 24⟩ ⟨24, 8, 24, 24⟩) PySem.MostX.iS .none .none dceM pmeM aneM cdeM cteM), sleM⟩) (ceM : PySem.W.codeIn K cdeM "TooMany.__init__" = true)
    (keM : PySem.W.keepIn K (.ref CM) = true) (exM : PySem.W.subIn K (.ref CM) (.type "BaseException") = some true) (ttM : PySem.W.typeIn K (.ref CM) = some (.type "type")) (hdM : PySem.W.hasDictIn K CM = true) (sbM : PySem.W.subIn K (.ref CM) (.ref CM) = some true)
    {t0 : Tok} (cst0 : PySem.W.nsIn K mainGlobals "_MOST_BLOCKS" = some (some (.int 3 t0)))
    {t1 : Tok} (cst1 : PySem.W.nsIn K mainGlobals "_LEAST_SIZE" = some (some (.int 2 t1)))
    {t2 : Tok} (cst2 : PySem.W.nsIn K mainGlobals "_MOST_SIZE" = some (some (.int 6 t2)))
    {t3 : Tok} (cst3 : PySem.W.nsIn K mainGlobals "MAX_BOXES" = some (some (.int 8 t3)))
    {t4 : Tok} (cst4 : PySem.W.nsIn K mainGlobals "_LIMIT" = some (some (.int (10 ^ 60) t4)))
    {t__MOST_POWERS : Tok} (cst__MOST_POWERS : PySem.W.nsIn K mainGlobals "_MOST_POWERS" = some (some (.int 20000 t__MOST_POWERS)))
    {t_MAX_STEPS : Tok} (cst_MAX_STEPS : PySem.W.nsIn K mainGlobals "MAX_STEPS" = some (some (.int 3000 t_MAX_STEPS)))
    {t__MOST_STAIRS : Tok} (cst__MOST_STAIRS : PySem.W.nsIn K mainGlobals "_MOST_STAIRS" = some (some (.int 16 t__MOST_STAIRS)))
    {odTL : Option Addr} {slTL : Array (Option Value)} {tTL : Tok} {nTL : Nat} (aTL : PySem.W.nsIn K mainGlobals "_LEAST_SHAPE" = some (some (.ref TL))) (lTL : K.lookup TL = some ⟨.type "tuple", odTL, .seq #[.int 2 tTL] nTL, slTL⟩)
    (n_len : PySem.W.nsIn K mainGlobals "len" = some none)
    (n_abs : PySem.W.nsIn K mainGlobals "abs" = some none)
    (n_int : PySem.W.nsIn K mainGlobals "int" = some none)
    (n_bool : PySem.W.nsIn K mainGlobals "bool" = some none)
    (n_max : PySem.W.nsIn K mainGlobals "max" = some none)
    (n_min : PySem.W.nsIn K mainGlobals "min" = some none)
    (n_sum : PySem.W.nsIn K mainGlobals "sum" = some none)
    (n_tuple : PySem.W.nsIn K mainGlobals "tuple" = some none)
    (n_range : PySem.W.nsIn K mainGlobals "range" = some none)
    (n_repr : PySem.W.nsIn K mainGlobals "repr" = some none)
    (n_isinstance : PySem.W.nsIn K mainGlobals "isinstance" = some none)
    (n_reversed : PySem.W.nsIn K mainGlobals "reversed" = some none)
    (n_all : PySem.W.nsIn K mainGlobals "all" = some none)
    (n_any : PySem.W.nsIn K mainGlobals "any" = some none)
    (n_list : PySem.W.nsIn K mainGlobals "list" = some none)
    (n_dict : PySem.W.nsIn K mainGlobals "dict" = some none)
    (n_enumerate : PySem.W.nsIn K mainGlobals "enumerate" = some none)
    (n_sorted : PySem.W.nsIn K mainGlobals "sorted" = some none)
    (n_str : PySem.W.nsIn K mainGlobals "str" = some none)
    (n_zip : PySem.W.nsIn K mainGlobals "zip" = some none)
    {od_I an_I : Option Addr} {sl_I : Array (Option Value)} {oc_I kV_I dc_I pm_I cd_I ct_I : Value} (l_I : K.lookup fI = some ⟨oc_I, od_I, .func (PySem.W.fnOf "__init__" "Stair.__init__" (defArgs s_init) (defBody s_init) (defScope s_init) .none kV_I dc_I pm_I an_I cd_I ct_I), sl_I⟩) (c_I : PySem.W.codeIn K cd_I "Stair.__init__" = true) (k_I : PySem.W.keepIn K (.ref fI) = true)
    {od_O an_O : Option Addr} {sl_O : Array (Option Value)} {oc_O kV_O dc_O pm_O cd_O ct_O : Value} (l_O : K.lookup gO = some ⟨oc_O, od_O, .func (PySem.W.fnOf "one" "Stair.one" (defArgs s_one1) (defBody s_one1) (defScope s_one1) .none kV_O dc_O pm_O an_O cd_O ct_O), sl_O⟩) (c_O : PySem.W.codeIn K cd_O "Stair.one" = true) (k_O : PySem.W.keepIn K (.ref gO) = true)
    {od_N an_N : Option Addr} {sl_N : Array (Option Value)} {oc_N kV_N dc_N pm_N cd_N ct_N : Value} (l_N : K.lookup gN = some ⟨oc_N, od_N, .func (PySem.W.fnOf "numbers" "Stair.numbers" (defArgs s_nums) (defBody s_nums) (defScope s_nums) .none kV_N dc_N pm_N an_N cd_N ct_N), sl_N⟩) (c_N : PySem.W.codeIn K cd_N "Stair.numbers" = true) (k_N : PySem.W.keepIn K (.ref gN) = true)
    {od_Z an_Z : Option Addr} {sl_Z : Array (Option Value)} {oc_Z kV_Z dc_Z pm_Z cd_Z ct_Z : Value} (l_Z : K.lookup gZ = some ⟨oc_Z, od_Z, .func (PySem.W.fnOf "__bool__" "Stair.__bool__" (defArgs s_sbool) (defBody s_sbool) (defScope s_sbool) .none kV_Z dc_Z pm_Z an_Z cd_Z ct_Z), sl_Z⟩) (c_Z : PySem.W.codeIn K cd_Z "Stair.__bool__" = true) (k_Z : PySem.W.keepIn K (.ref gZ) = true)
    {od_Q an_Q : Option Addr} {sl_Q : Array (Option Value)} {oc_Q kV_Q dc_Q pm_Q cd_Q ct_Q : Value} (l_Q : K.lookup gQ = some ⟨oc_Q, od_Q, .func (PySem.W.fnOf "__eq__" "Stair.__eq__" (defArgs s_seq) (defBody s_seq) (defScope s_seq) .none kV_Q dc_Q pm_Q an_Q cd_Q ct_Q), sl_Q⟩) (c_Q : PySem.W.codeIn K cd_Q "Stair.__eq__" = true) (k_Q : PySem.W.keepIn K (.ref gQ) = true)
    {od_L an_L : Option Addr} {sl_L : Array (Option Value)} {oc_L kV_L dc_L pm_L cd_L ct_L : Value} (l_L : K.lookup gL = some ⟨oc_L, od_L, .func (PySem.W.fnOf "led" "Stair.led" (defArgs s_ledm) (defBody s_ledm) (defScope s_ledm) .none kV_L dc_L pm_L an_L cd_L ct_L), sl_L⟩) (c_L : PySem.W.codeIn K cd_L "Stair.led" = true) (k_L : PySem.W.keepIn K (.ref gL) = true)
    {od_E an_E : Option Addr} {sl_E : Array (Option Value)} {oc_E kV_E dc_E pm_E cd_E ct_E : Value} (l_E : K.lookup gE = some ⟨oc_E, od_E, .func (PySem.W.fnOf "beside" "Stair.beside" (defArgs s_beside) (defBody s_beside) (defScope s_beside) .none kV_E dc_E pm_E an_E cd_E ct_E), sl_E⟩) (c_E : PySem.W.codeIn K cd_E "Stair.beside" = true) (k_E : PySem.W.keepIn K (.ref gE) = true)
    {f0 : Addr} {od0 an0 : Option Addr} {sl0 : Array (Option Value)} {oc0 kV0 dc0 pm0 cd0 ct0 : Value} (a0 : PySem.W.nsIn K mainGlobals "is_whole" = some (some (.ref f0))) (l0 : K.lookup f0 = some ⟨oc0, od0, .func (PySem.W.fnOf "is_whole" "is_whole" (defArgs s_is_whole) (defBody s_is_whole) (defScope s_is_whole) .none kV0 dc0 pm0 an0 cd0 ct0), sl0⟩) (c0 : PySem.W.codeIn K cd0 "is_whole" = true) (k0 : PySem.W.keepIn K (.ref f0) = true)
    {f1 : Addr} {od1 an1 : Option Addr} {sl1 : Array (Option Value)} {oc1 kV1 dc1 pm1 cd1 ct1 : Value} (a1 : PySem.W.nsIn K mainGlobals "is_integer" = some (some (.ref f1))) (l1 : K.lookup f1 = some ⟨oc1, od1, .func (PySem.W.fnOf "is_integer" "is_integer" (defArgs s_is_integer) (defBody s_is_integer) (defScope s_is_integer) .none kV1 dc1 pm1 an1 cd1 ct1), sl1⟩) (c1 : PySem.W.codeIn K cd1 "is_integer" = true) (k1 : PySem.W.keepIn K (.ref f1) = true)
    {f2 : Addr} {od2 an2 : Option Addr} {sl2 : Array (Option Value)} {oc2 kV2 dc2 pm2 cd2 ct2 : Value} (a2 : PySem.W.nsIn K mainGlobals "is_between" = some (some (.ref f2))) (l2 : K.lookup f2 = some ⟨oc2, od2, .func (PySem.W.fnOf "is_between" "is_between" (defArgs s_is_between) (defBody s_is_between) (defScope s_is_between) .none kV2 dc2 pm2 an2 cd2 ct2), sl2⟩) (c2 : PySem.W.codeIn K cd2 "is_between" = true) (k2 : PySem.W.keepIn K (.ref f2) = true)
    {f3 : Addr} {od3 an3 : Option Addr} {sl3 : Array (Option Value)} {oc3 kV3 dc3 pm3 cd3 ct3 : Value} (a3 : PySem.W.nsIn K mainGlobals "is_index" = some (some (.ref f3))) (l3 : K.lookup f3 = some ⟨oc3, od3, .func (PySem.W.fnOf "is_index" "is_index" (defArgs s_is_index) (defBody s_is_index) (defScope s_is_index) .none kV3 dc3 pm3 an3 cd3 ct3), sl3⟩) (c3 : PySem.W.codeIn K cd3 "is_index" = true) (k3 : PySem.W.keepIn K (.ref f3) = true)
    {f4 : Addr} {od4 an4 : Option Addr} {sl4 : Array (Option Value)} {oc4 kV4 dc4 pm4 cd4 ct4 : Value} (a4 : PySem.W.nsIn K mainGlobals "is_shape" = some (some (.ref f4))) (l4 : K.lookup f4 = some ⟨oc4, od4, .func (PySem.W.fnOf "is_shape" "is_shape" (defArgs s_is_shape) (defBody s_is_shape) (defScope s_is_shape) .none kV4 dc4 pm4 an4 cd4 ct4), sl4⟩) (c4 : PySem.W.codeIn K cd4 "is_shape" = true) (k4 : PySem.W.keepIn K (.ref f4) = true)
    {f5 : Addr} {od5 an5 : Option Addr} {sl5 : Array (Option Value)} {oc5 kV5 dc5 pm5 cd5 ct5 : Value} (a5 : PySem.W.nsIn K mainGlobals "check_shape" = some (some (.ref f5))) (l5 : K.lookup f5 = some ⟨oc5, od5, .func (PySem.W.fnOf "check_shape" "check_shape" (defArgs s_check) (defBody s_check) (defScope s_check) .none kV5 dc5 pm5 an5 cd5 ct5), sl5⟩) (c5 : PySem.W.codeIn K cd5 "check_shape" = true) (k5 : PySem.W.keepIn K (.ref f5) = true)
    {f6 : Addr} {od6 an6 : Option Addr} {sl6 : Array (Option Value)} {oc6 kV6 dc6 pm6 cd6 ct6 : Value} (a6 : PySem.W.nsIn K mainGlobals "places" = some (some (.ref f6))) (l6 : K.lookup f6 = some ⟨oc6, od6, .func (PySem.W.fnOf "places" "places" (defArgs s_places) (defBody s_places) (defScope s_places) .none kV6 dc6 pm6 an6 cd6 ct6), sl6⟩) (c6 : PySem.W.codeIn K cd6 "places" = true) (k6 : PySem.W.keepIn K (.ref f6) = true)
    {f7 : Addr} {od7 an7 : Option Addr} {sl7 : Array (Option Value)} {oc7 kV7 dc7 pm7 cd7 ct7 : Value} (a7 : PySem.W.nsIn K mainGlobals "is_place" = some (some (.ref f7))) (l7 : K.lookup f7 = some ⟨oc7, od7, .func (PySem.W.fnOf "is_place" "is_place" (defArgs s_place) (defBody s_place) (defScope s_place) .none kV7 dc7 pm7 an7 cd7 ct7), sl7⟩) (c7 : PySem.W.codeIn K cd7 "is_place" = true) (k7 : PySem.W.keepIn K (.ref f7) = true)
    {f8 : Addr} {od8 an8 : Option Addr} {sl8 : Array (Option Value)} {oc8 kV8 dc8 pm8 cd8 ct8 : Value} (a8 : PySem.W.nsIn K mainGlobals "plan_of" = some (some (.ref f8))) (l8 : K.lookup f8 = some ⟨oc8, od8, .func (PySem.W.fnOf "plan_of" "plan_of" (defArgs s_plan) (defBody s_plan) (defScope s_plan) .none kV8 dc8 pm8 an8 cd8 ct8), sl8⟩) (c8 : PySem.W.codeIn K cd8 "plan_of" = true) (k8 : PySem.W.keepIn K (.ref f8) = true)
    {f9 : Addr} {od9 an9 : Option Addr} {sl9 : Array (Option Value)} {oc9 kV9 dc9 pm9 cd9 ct9 : Value} (a9 : PySem.W.nsIn K mainGlobals "are_entries" = some (some (.ref f9))) (l9 : K.lookup f9 = some ⟨oc9, od9, .func (PySem.W.fnOf "are_entries" "are_entries" (defArgs s_ents) (defBody s_ents) (defScope s_ents) .none kV9 dc9 pm9 an9 cd9 ct9), sl9⟩) (c9 : PySem.W.codeIn K cd9 "are_entries" = true) (k9 : PySem.W.keepIn K (.ref f9) = true)
    {f10 : Addr} {od10 an10 : Option Addr} {sl10 : Array (Option Value)} {oc10 kV10 dc10 pm10 cd10 ct10 : Value} (a10 : PySem.W.nsIn K mainGlobals "stair_with" = some (some (.ref f10))) (l10 : K.lookup f10 = some ⟨oc10, od10, .func (PySem.W.fnOf "stair_with" "stair_with" (defArgs s_with) (defBody s_with) (defScope s_with) .none kV10 dc10 pm10 an10 cd10 ct10), sl10⟩) (c10 : PySem.W.codeIn K cd10 "stair_with" = true) (k10 : PySem.W.keepIn K (.ref f10) = true)
    {f11 : Addr} {od11 an11 : Option Addr} {sl11 : Array (Option Value)} {oc11 kV11 dc11 pm11 cd11 ct11 : Value} (a11 : PySem.W.nsIn K mainGlobals "is_stair" = some (some (.ref f11))) (l11 : K.lookup f11 = some ⟨oc11, od11, .func (PySem.W.fnOf "is_stair" "is_stair" (defArgs s_isst) (defBody s_isst) (defScope s_isst) .none kV11 dc11 pm11 an11 cd11 ct11), sl11⟩) (c11 : PySem.W.codeIn K cd11 "is_stair" = true) (k11 : PySem.W.keepIn K (.ref f11) = true)
    {f12 : Addr} {od12 an12 : Option Addr} {sl12 : Array (Option Value)} {oc12 kV12 dc12 pm12 cd12 ct12 : Value} (a12 : PySem.W.nsIn K mainGlobals "rest" = some (some (.ref f12))) (l12 : K.lookup f12 = some ⟨oc12, od12, .func (PySem.W.fnOf "rest" "rest" (defArgs s_rest) (defBody s_rest) (defScope s_rest) .none kV12 dc12 pm12 an12 cd12 ct12), sl12⟩) (c12 : PySem.W.codeIn K cd12 "rest" = true) (k12 : PySem.W.keepIn K (.ref f12) = true)
    {f13 : Addr} {od13 an13 : Option Addr} {sl13 : Array (Option Value)} {oc13 kV13 dc13 pm13 cd13 ct13 : Value} (a13 : PySem.W.nsIn K mainGlobals "check_stair" = some (some (.ref f13))) (l13 : K.lookup f13 = some ⟨oc13, od13, .func (PySem.W.fnOf "check_stair" "check_stair" (defArgs s_ckst) (defBody s_ckst) (defScope s_ckst) .none kV13 dc13 pm13 an13 cd13 ct13), sl13⟩) (c13 : PySem.W.codeIn K cd13 "check_stair" = true) (k13 : PySem.W.keepIn K (.ref f13) = true)
    {f14 : Addr} {od14 an14 : Option Addr} {sl14 : Array (Option Value)} {oc14 kV14 dc14 pm14 cd14 ct14 : Value} (a14 : PySem.W.nsIn K mainGlobals "ones" = some (some (.ref f14))) (l14 : K.lookup f14 = some ⟨oc14, od14, .func (PySem.W.fnOf "ones" "ones" (defArgs s_ones) (defBody s_ones) (defScope s_ones) .none kV14 dc14 pm14 an14 cd14 ct14), sl14⟩) (c14 : PySem.W.codeIn K cd14 "ones" = true) (k14 : PySem.W.keepIn K (.ref f14) = true)
    {f15 : Addr} {od15 an15 : Option Addr} {sl15 : Array (Option Value)} {oc15 kV15 dc15 pm15 cd15 ct15 : Value} (a15 : PySem.W.nsIn K mainGlobals "divided_by" = some (some (.ref f15))) (l15 : K.lookup f15 = some ⟨oc15, od15, .func (PySem.W.fnOf "divided_by" "divided_by" (defArgs s_div) (defBody s_div) (defScope s_div) .none kV15 dc15 pm15 an15 cd15 ct15), sl15⟩) (c15 : PySem.W.codeIn K cd15 "divided_by" = true) (k15 : PySem.W.keepIn K (.ref f15) = true)
    {f16 : Addr} {od16 an16 : Option Addr} {sl16 : Array (Option Value)} {oc16 kV16 dc16 pm16 cd16 ct16 : Value} (a16 : PySem.W.nsIn K mainGlobals "times_between" = some (some (.ref f16))) (l16 : K.lookup f16 = some ⟨oc16, od16, .func (PySem.W.fnOf "times_between" "times_between" (defArgs s_tbt) (defBody s_tbt) (defScope s_tbt) .none kV16 dc16 pm16 an16 cd16 ct16), sl16⟩) (c16 : PySem.W.codeIn K cd16 "times_between" = true) (k16 : PySem.W.keepIn K (.ref f16) = true)
    {f17 : Addr} {od17 an17 : Option Addr} {sl17 : Array (Option Value)} {oc17 kV17 dc17 pm17 cd17 ct17 : Value} (a17 : PySem.W.nsIn K mainGlobals "are_stairs" = some (some (.ref f17))) (l17 : K.lookup f17 = some ⟨oc17, od17, .func (PySem.W.fnOf "are_stairs" "are_stairs" (defArgs s_arest) (defBody s_arest) (defScope s_arest) .none kV17 dc17 pm17 an17 cd17 ct17), sl17⟩) (c17 : PySem.W.codeIn K cd17 "are_stairs" = true) (k17 : PySem.W.keepIn K (.ref f17) = true)
    {f18 : Addr} {od18 an18 : Option Addr} {sl18 : Array (Option Value)} {oc18 kV18 dc18 pm18 cd18 ct18 : Value} (a18 : PySem.W.nsIn K mainGlobals "worth" = some (some (.ref f18))) (l18 : K.lookup f18 = some ⟨oc18, od18, .func (PySem.W.fnOf "worth" "worth" (defArgs s_worth) (defBody s_worth) (defScope s_worth) .none kV18 dc18 pm18 an18 cd18 ct18), sl18⟩) (c18 : PySem.W.codeIn K cd18 "worth" = true) (k18 : PySem.W.keepIn K (.ref f18) = true)
    {f19 : Addr} {od19 an19 : Option Addr} {sl19 : Array (Option Value)} {oc19 kV19 dc19 pm19 cd19 ct19 : Value} (a19 : PySem.W.nsIn K mainGlobals "are_steps" = some (some (.ref f19))) (l19 : K.lookup f19 = some ⟨oc19, od19, .func (PySem.W.fnOf "are_steps" "are_steps" (defArgs s_aresteps) (defBody s_aresteps) (defScope s_aresteps) .none kV19 dc19 pm19 an19 cd19 ct19), sl19⟩) (c19 : PySem.W.codeIn K cd19 "are_steps" = true) (k19 : PySem.W.keepIn K (.ref f19) = true)
    {f20 : Addr} {od20 an20 : Option Addr} {sl20 : Array (Option Value)} {oc20 kV20 dc20 pm20 cd20 ct20 : Value} (a20 : PySem.W.nsIn K mainGlobals "is_step" = some (some (.ref f20))) (l20 : K.lookup f20 = some ⟨oc20, od20, .func (PySem.W.fnOf "is_step" "is_step" (defArgs s_isstep) (defBody s_isstep) (defScope s_isstep) .none kV20 dc20 pm20 an20 cd20 ct20), sl20⟩) (c20 : PySem.W.codeIn K cd20 "is_step" = true) (k20 : PySem.W.keepIn K (.ref f20) = true)
    {f21 : Addr} {od21 an21 : Option Addr} {sl21 : Array (Option Value)} {oc21 kV21 dc21 pm21 cd21 ct21 : Value} (a21 : PySem.W.nsIn K mainGlobals "are_pairs" = some (some (.ref f21))) (l21 : K.lookup f21 = some ⟨oc21, od21, .func (PySem.W.fnOf "are_pairs" "are_pairs" (defArgs s_arepr) (defBody s_arepr) (defScope s_arepr) .none kV21 dc21 pm21 an21 cd21 ct21), sl21⟩) (c21 : PySem.W.codeIn K cd21 "are_pairs" = true) (k21 : PySem.W.keepIn K (.ref f21) = true)
    {f22 : Addr} {od22 an22 : Option Addr} {sl22 : Array (Option Value)} {oc22 kV22 dc22 pm22 cd22 ct22 : Value} (a22 : PySem.W.nsIn K mainGlobals "worth_of" = some (some (.ref f22))) (l22 : K.lookup f22 = some ⟨oc22, od22, .func (PySem.W.fnOf "worth_of" "worth_of" (defArgs s_wof) (defBody s_wof) (defScope s_wof) .none kV22 dc22 pm22 an22 cd22 ct22), sl22⟩) (c22 : PySem.W.codeIn K cd22 "worth_of" = true) (k22 : PySem.W.keepIn K (.ref f22) = true)
    {f23 : Addr} {od23 an23 : Option Addr} {sl23 : Array (Option Value)} {oc23 kV23 dc23 pm23 cd23 ct23 : Value} (a23 : PySem.W.nsIn K mainGlobals "_law_jug" = some (some (.ref f23))) (l23 : K.lookup f23 = some ⟨oc23, od23, .func (PySem.W.fnOf "_law_jug" "_law_jug" (defArgs s_jug) (defBody s_jug) (defScope s_jug) .none kV23 dc23 pm23 an23 cd23 ct23), sl23⟩) (c23 : PySem.W.codeIn K cd23 "_law_jug" = true) (k23 : PySem.W.keepIn K (.ref f23) = true)
    {f24 : Addr} {od24 an24 : Option Addr} {sl24 : Array (Option Value)} {oc24 kV24 dc24 pm24 cd24 ct24 : Value} (a24 : PySem.W.nsIn K mainGlobals "_law_pour" = some (some (.ref f24))) (l24 : K.lookup f24 = some ⟨oc24, od24, .func (PySem.W.fnOf "_law_pour" "_law_pour" (defArgs s_pour) (defBody s_pour) (defScope s_pour) .none kV24 dc24 pm24 an24 cd24 ct24), sl24⟩) (c24 : PySem.W.codeIn K cd24 "_law_pour" = true) (k24 : PySem.W.keepIn K (.ref f24) = true)
    {f25 : Addr} {od25 an25 : Option Addr} {sl25 : Array (Option Value)} {oc25 kV25 dc25 pm25 cd25 ct25 : Value} (a25 : PySem.W.nsIn K mainGlobals "_law_of" = some (some (.ref f25))) (l25 : K.lookup f25 = some ⟨oc25, od25, .func (PySem.W.fnOf "_law_of" "_law_of" (defArgs s_of18) (defBody s_of18) (defScope s_of18) .none kV25 dc25 pm25 an25 cd25 ct25), sl25⟩) (c25 : PySem.W.codeIn K cd25 "_law_of" = true) (k25 : PySem.W.keepIn K (.ref f25) = true)
    {f26 : Addr} {od26 an26 : Option Addr} {sl26 : Array (Option Value)} {oc26 kV26 dc26 pm26 cd26 ct26 : Value} (a26 : PySem.W.nsIn K mainGlobals "_law_spots" = some (some (.ref f26))) (l26 : K.lookup f26 = some ⟨oc26, od26, .func (PySem.W.fnOf "_law_spots" "_law_spots" (defArgs s_spots) (defBody s_spots) (defScope s_spots) .none kV26 dc26 pm26 an26 cd26 ct26), sl26⟩) (c26 : PySem.W.codeIn K cd26 "_law_spots" = true) (k26 : PySem.W.keepIn K (.ref f26) = true)
    {f27 : Addr} {od27 an27 : Option Addr} {sl27 : Array (Option Value)} {oc27 kV27 dc27 pm27 cd27 ct27 : Value} (a27 : PySem.W.nsIn K mainGlobals "_law_terms" = some (some (.ref f27))) (l27 : K.lookup f27 = some ⟨oc27, od27, .func (PySem.W.fnOf "_law_terms" "_law_terms" (defArgs s_terms) (defBody s_terms) (defScope s_terms) .none kV27 dc27 pm27 an27 cd27 ct27), sl27⟩) (c27 : PySem.W.codeIn K cd27 "_law_terms" = true) (k27 : PySem.W.keepIn K (.ref f27) = true)
    {f28 : Addr} {od28 an28 : Option Addr} {sl28 : Array (Option Value)} {oc28 kV28 dc28 pm28 cd28 ct28 : Value} (a28 : PySem.W.nsIn K mainGlobals "_law_mixed" = some (some (.ref f28))) (l28 : K.lookup f28 = some ⟨oc28, od28, .func (PySem.W.fnOf "_law_mixed" "_law_mixed" (defArgs s_mixed) (defBody s_mixed) (defScope s_mixed) .none kV28 dc28 pm28 an28 cd28 ct28), sl28⟩) (c28 : PySem.W.codeIn K cd28 "_law_mixed" = true) (k28 : PySem.W.keepIn K (.ref f28) = true)
    {f29 : Addr} {od29 an29 : Option Addr} {sl29 : Array (Option Value)} {oc29 kV29 dc29 pm29 cd29 ct29 : Value} (a29 : PySem.W.nsIn K mainGlobals "_law_back" = some (some (.ref f29))) (l29 : K.lookup f29 = some ⟨oc29, od29, .func (PySem.W.fnOf "_law_back" "_law_back" (defArgs s_back) (defBody s_back) (defScope s_back) .none kV29 dc29 pm29 an29 cd29 ct29), sl29⟩) (c29 : PySem.W.codeIn K cd29 "_law_back" = true) (k29 : PySem.W.keepIn K (.ref f29) = true)
    {f30 : Addr} {od30 an30 : Option Addr} {sl30 : Array (Option Value)} {oc30 kV30 dc30 pm30 cd30 ct30 : Value} (a30 : PySem.W.nsIn K mainGlobals "_law_raised" = some (some (.ref f30))) (l30 : K.lookup f30 = some ⟨oc30, od30, .func (PySem.W.fnOf "_law_raised" "_law_raised" (defArgs s_raised) (defBody s_raised) (defScope s_raised) .none kV30 dc30 pm30 an30 cd30 ct30), sl30⟩) (c30 : PySem.W.codeIn K cd30 "_law_raised" = true) (k30 : PySem.W.keepIn K (.ref f30) = true)
    {f31 : Addr} {od31 an31 : Option Addr} {sl31 : Array (Option Value)} {oc31 kV31 dc31 pm31 cd31 ct31 : Value} (a31 : PySem.W.nsIn K mainGlobals "_law_stair" = some (some (.ref f31))) (l31 : K.lookup f31 = some ⟨oc31, od31, .func (PySem.W.fnOf "_law_stair" "_law_stair" (defArgs s_lstair) (defBody s_lstair) (defScope s_lstair) .none kV31 dc31 pm31 an31 cd31 ct31), sl31⟩) (c31 : PySem.W.codeIn K cd31 "_law_stair" = true) (k31 : PySem.W.keepIn K (.ref f31) = true)
    {f32 : Addr} {od32 an32 : Option Addr} {sl32 : Array (Option Value)} {oc32 kV32 dc32 pm32 cd32 ct32 : Value} (a32 : PySem.W.nsIn K mainGlobals "_law_entries" = some (some (.ref f32))) (l32 : K.lookup f32 = some ⟨oc32, od32, .func (PySem.W.fnOf "_law_entries" "_law_entries" (defArgs s_lent) (defBody s_lent) (defScope s_lent) .none kV32 dc32 pm32 an32 cd32 ct32), sl32⟩) (c32 : PySem.W.codeIn K cd32 "_law_entries" = true) (k32 : PySem.W.keepIn K (.ref f32) = true)
    {f33 : Addr} {od33 an33 : Option Addr} {sl33 : Array (Option Value)} {oc33 kV33 dc33 pm33 cd33 ct33 : Value} (a33 : PySem.W.nsIn K mainGlobals "_law_all_stairs" = some (some (.ref f33))) (l33 : K.lookup f33 = some ⟨oc33, od33, .func (PySem.W.fnOf "_law_all_stairs" "_law_all_stairs" (defArgs s_lall) (defBody s_lall) (defScope s_lall) .none kV33 dc33 pm33 an33 cd33 ct33), sl33⟩) (c33 : PySem.W.codeIn K cd33 "_law_all_stairs" = true) (k33 : PySem.W.keepIn K (.ref f33) = true)
    {f34 : Addr} {od34 an34 : Option Addr} {sl34 : Array (Option Value)} {oc34 kV34 dc34 pm34 cd34 ct34 : Value} (a34 : PySem.W.nsIn K mainGlobals "_law_twist" = some (some (.ref f34))) (l34 : K.lookup f34 = some ⟨oc34, od34, .func (PySem.W.fnOf "_law_twist" "_law_twist" (defArgs s_twist) (defBody s_twist) (defScope s_twist) .none kV34 dc34 pm34 an34 cd34 ct34), sl34⟩) (c34 : PySem.W.codeIn K cd34 "_law_twist" = true) (k34 : PySem.W.keepIn K (.ref f34) = true)
    {f35 : Addr} {od35 an35 : Option Addr} {sl35 : Array (Option Value)} {oc35 kV35 dc35 pm35 cd35 ct35 : Value} (a35 : PySem.W.nsIn K mainGlobals "_law_worths" = some (some (.ref f35))) (l35 : K.lookup f35 = some ⟨oc35, od35, .func (PySem.W.fnOf "_law_worths" "_law_worths" (defArgs s_lworths) (defBody s_lworths) (defScope s_lworths) .none kV35 dc35 pm35 an35 cd35 ct35), sl35⟩) (c35 : PySem.W.codeIn K cd35 "_law_worths" = true) (k35 : PySem.W.keepIn K (.ref f35) = true)
    {f36 : Addr} {od36 an36 : Option Addr} {sl36 : Array (Option Value)} {oc36 kV36 dc36 pm36 cd36 ct36 : Value} (a36 : PySem.W.nsIn K mainGlobals "_law_worth" = some (some (.ref f36))) (l36 : K.lookup f36 = some ⟨oc36, od36, .func (PySem.W.fnOf "_law_worth" "_law_worth" (defArgs s_lworth) (defBody s_lworth) (defScope s_lworth) .none kV36 dc36 pm36 an36 cd36 ct36), sl36⟩) (c36 : PySem.W.codeIn K cd36 "_law_worth" = true) (k36 : PySem.W.keepIn K (.ref f36) = true)
    {f37 : Addr} {od37 an37 : Option Addr} {sl37 : Array (Option Value)} {oc37 kV37 dc37 pm37 cd37 ct37 : Value} (a37 : PySem.W.nsIn K mainGlobals "_law_pairs" = some (some (.ref f37))) (l37 : K.lookup f37 = some ⟨oc37, od37, .func (PySem.W.fnOf "_law_pairs" "_law_pairs" (defArgs s_lpairs) (defBody s_lpairs) (defScope s_lpairs) .none kV37 dc37 pm37 an37 cd37 ct37), sl37⟩) (c37 : PySem.W.codeIn K cd37 "_law_pairs" = true) (k37 : PySem.W.keepIn K (.ref f37) = true)
    {f38 : Addr} {od38 an38 : Option Addr} {sl38 : Array (Option Value)} {oc38 kV38 dc38 pm38 cd38 ct38 : Value} (a38 : PySem.W.nsIn K mainGlobals "_law_steps" = some (some (.ref f38))) (l38 : K.lookup f38 = some ⟨oc38, od38, .func (PySem.W.fnOf "_law_steps" "_law_steps" (defArgs s_lsteps) (defBody s_lsteps) (defScope s_lsteps) .none kV38 dc38 pm38 an38 cd38 ct38), sl38⟩) (c38 : PySem.W.codeIn K cd38 "_law_steps" = true) (k38 : PySem.W.keepIn K (.ref f38) = true)
    {f39 : Addr} {od39 an39 : Option Addr} {sl39 : Array (Option Value)} {oc39 kV39 dc39 pm39 cd39 ct39 : Value} (a39 : PySem.W.nsIn K mainGlobals "_law_right" = some (some (.ref f39))) (l39 : K.lookup f39 = some ⟨oc39, od39, .func (PySem.W.fnOf "_law_right" "_law_right" (defArgs s_lright) (defBody s_lright) (defScope s_lright) .none kV39 dc39 pm39 an39 cd39 ct39), sl39⟩) (c39 : PySem.W.codeIn K cd39 "_law_right" = true) (k39 : PySem.W.keepIn K (.ref f39) = true)
    {f40 : Addr} {od40 an40 : Option Addr} {sl40 : Array (Option Value)} {oc40 kV40 dc40 pm40 cd40 ct40 : Value} (a40 : PySem.W.nsIn K mainGlobals "law" = some (some (.ref f40))) (l40 : K.lookup f40 = some ⟨oc40, od40, .func (PySem.W.fnOf "law" "law" (defArgs s_law) (defBody s_law) (defScope s_law) .none kV40 dc40 pm40 an40 cd40 ct40), sl40⟩) (c40 : PySem.W.codeIn K cd40 "law" = true) (k40 : PySem.W.keepIn K (.ref f40) = true)
    {fY DY : Addr} {odY anY odDY : Option Addr} {slY slDY : Array (Option Value)} {ocY kVY dcY pmY cdY ctY ocDY : Value} {tDY : Tok} {nDY : Nat} (aY : PySem.W.nsIn K mainGlobals "times" = some (some (.ref fY))) (lY : K.lookup fY = some ⟨ocY, odY, .func (PySem.W.fnOf "times" "times" (defArgs s_times) (defBody s_times) (defScope s_times) (.ref DY) kVY dcY pmY anY cdY ctY), slY⟩) (cY : PySem.W.codeIn K cdY "times" = true) (kY : PySem.W.keepIn K (.ref fY) = true) (lDY : K.lookup DY = some ⟨ocDY, odDY, .seq #[.int 0 tDY] nDY, slDY⟩)
    {fU DU : Addr} {odU anU odDU : Option Addr} {slU slDU : Array (Option Value)} {ocU kVU dcU pmU cdU ctU ocDU : Value} {tDU : Tok} {nDU : Nat} (aU : PySem.W.nsIn K mainGlobals "undone" = some (some (.ref fU))) (lU : K.lookup fU = some ⟨ocU, odU, .func (PySem.W.fnOf "undone" "undone" (defArgs s_und) (defBody s_und) (defScope s_und) (.ref DU) kVU dcU pmU anU cdU ctU), slU⟩) (cU : PySem.W.codeIn K cdU "undone" = true) (kU : PySem.W.keepIn K (.ref fU) = true) (lDU : K.lookup DU = some ⟨ocDU, odDU, .seq #[.int 0 tDU] nDU, slDU⟩)
    {fBR DBR : Addr} {odBR anBR odDBR : Option Addr} {slBR slDBR : Array (Option Value)} {ocBR kVBR dcBR pmBR cdBR ctBR ocDBR : Value} {tDBR : Tok} {nDBR : Nat} (aBR : PySem.W.nsIn K mainGlobals "bracket" = some (some (.ref fBR))) (lBR : K.lookup fBR = some ⟨ocBR, odBR, .func (PySem.W.fnOf "bracket" "bracket" (defArgs s_brk) (defBody s_brk) (defScope s_brk) (.ref DBR) kVBR dcBR pmBR anBR cdBR ctBR), slBR⟩) (cBR : PySem.W.codeIn K cdBR "bracket" = true) (kBR : PySem.W.keepIn K (.ref fBR) = true) (lDBR : K.lookup DBR = some ⟨ocDBR, odDBR, .seq #[.int 0 tDBR] nDBR, slDBR⟩)
    {fLE DLE : Addr} {odLE anLE odDLE : Option Addr} {slLE slDLE : Array (Option Value)} {ocLE kVLE dcLE pmLE cdLE ctLE ocDLE : Value} {tDLE : Tok} {nDLE : Nat} (aLE : PySem.W.nsIn K mainGlobals "led" = some (some (.ref fLE))) (lLE : K.lookup fLE = some ⟨ocLE, odLE, .func (PySem.W.fnOf "led" "led" (defArgs s_led) (defBody s_led) (defScope s_led) (.ref DLE) kVLE dcLE pmLE anLE cdLE ctLE), slLE⟩) (cLE : PySem.W.codeIn K cdLE "led" = true) (kLE : PySem.W.keepIn K (.ref fLE) = true) (lDLE : K.lookup DLE = some ⟨ocDLE, odDLE, .seq #[.int 0 tDLE] nDLE, slDLE⟩)
    {fRS DRS : Addr} {odRS anRS odDRS : Option Addr} {slRS slDRS : Array (Option Value)} {ocRS kVRS dcRS pmRS cdRS ctRS ocDRS : Value} {tDRS : Tok} {nDRS : Nat} (aRS : PySem.W.nsIn K mainGlobals "raised" = some (some (.ref fRS))) (lRS : K.lookup fRS = some ⟨ocRS, odRS, .func (PySem.W.fnOf "raised" "raised" (defArgs s_rsd) (defBody s_rsd) (defScope s_rsd) (.ref DRS) kVRS dcRS pmRS anRS cdRS ctRS), slRS⟩) (cRS : PySem.W.codeIn K cdRS "raised" = true) (kRS : PySem.W.keepIn K (.ref fRS) = true) (lDRS : K.lookup DRS = some ⟨ocDRS, odDRS, .seq #[.int 0 tDRS] nDRS, slDRS⟩)
    (aBT : PySem.W.nsIn K mainGlobals "bracket_tables" = some (some (.ref fBR)))
    (aLT : PySem.W.nsIn K mainGlobals "led_tables" = some (some (.ref fLE))) :
    ∃ fd : FuncData, (∀ (s : Shared) (u : Value), BindsTo s fd ⟨[u], []⟩ [("_law_script", u)]) ∧ ∀ base : Heap, K.In base → base.Ns mainGlobals mg → FnOk l.prog w K mg base CX0 13 fa fd ["_law_script"] (spLaw K) := by
  have e := hfa.symm.trans (PySem.W.mg_of X G a40)
  cases e
  have cls : Cls K C := ⟨pg, hd, po, sa⟩
  have R : SC K mg C := ⟨cls, nS, nP, nN, PySem.W.mg_of X G aC⟩
  have IC : C8.InsC K C := ⟨cls, ha, hn, htk, hm, kit_self _⟩
  have own : kit K (.ref C) (.ref C) true := kit_self _
  have mk : Mk K C fI := ⟨mks, ini, ifn, kpC⟩
  have O : OpX K mg "InvalidShape" CS := ⟨xX, PySem.W.mg_of X G aX, kX, bX, tX⟩
  have nz : mg "zip" = none := PySem.W.mg_none_of X G n_zip
  have least : ∀ H : Hp, SqT K H TL ([2].map V.int) := fun H => .inr ⟨_, _, _, lTL, rfl, rfl, by show 1 ≤ sizeLine; decide, .cons ⟨_, rfl⟩ .nil⟩
  have T : Txt mg := ⟨PySem.W.mg_none_of X G n_len, PySem.W.mg_none_of X G n_abs, PySem.W.mg_none_of X G n_int, PySem.W.mg_none_of X G n_bool, PySem.W.mg_none_of X G n_max, PySem.W.mg_none_of X G n_min, PySem.W.mg_none_of X G n_sum, PySem.W.mg_none_of X G n_tuple, PySem.W.mg_none_of X G n_range, PySem.W.mg_none_of X G n_repr, PySem.W.mg_none_of X G n_isinstance, PySem.W.mg_none_of X G n_reversed⟩
  have N : Nam mg := ⟨PySem.W.mg_none_of X G n_all, PySem.W.mg_none_of X G n_any, PySem.W.mg_none_of X G n_list, PySem.W.mg_none_of X G n_dict, PySem.W.mg_none_of X G n_enumerate, PySem.W.mg_none_of X G n_sorted, PySem.W.mg_none_of X G n_str, ⟨_, PySem.W.mg_of X G cst0⟩, ⟨_, PySem.W.mg_of X G cst1⟩, ⟨_, PySem.W.mg_of X G cst2⟩, ⟨_, PySem.W.mg_of X G cst3⟩, ⟨_, PySem.W.mg_of X G cst4⟩⟩
  have F_I := fun_mk (st := s_init) l_I c_I k_I
  have M_I : M K "__init__" "Stair.__init__" s_init ["self", "shape", "entries"] fI _ := ⟨F_I, F_I.binds (ps := ["self", "shape", "entries"]) fun _ _ _ _ _ _ us hl => match us, hl with | [_, _, _], _ => rfl⟩
  have F_O := fun_mk (st := s_one1) l_O c_O k_O
  have M_O : M K "one" "Stair.one" s_one1 ["cls", "shape"] gO _ := ⟨F_O, F_O.binds (ps := ["cls", "shape"]) fun _ _ _ _ _ _ us hl => match us, hl with | [_, _], _ => rfl⟩
  have F_N := fun_mk (st := s_nums) l_N c_N k_N
  have M_N : M K "numbers" "Stair.numbers" s_nums ["self"] gN _ := ⟨F_N, F_N.binds (ps := ["self"]) fun _ _ _ _ _ _ us hl => match us, hl with | [_], _ => rfl⟩
  have F_Z := fun_mk (st := s_sbool) l_Z c_Z k_Z
  have M_Z : M K "__bool__" "Stair.__bool__" s_sbool ["self"] gZ _ := ⟨F_Z, F_Z.binds (ps := ["self"]) fun _ _ _ _ _ _ us hl => match us, hl with | [_], _ => rfl⟩
  have F_Q := fun_mk (st := s_seq) l_Q c_Q k_Q
  have M_Q : M K "__eq__" "Stair.__eq__" s_seq ["self", "other"] gQ _ := ⟨F_Q, F_Q.binds (ps := ["self", "other"]) fun _ _ _ _ _ _ us hl => match us, hl with | [_, _], _ => rfl⟩
  have F_L := fun_mk (st := s_ledm) l_L c_L k_L
  have M_L : M K "led" "Stair.led" s_ledm ["self", "other"] gL _ := ⟨F_L, F_L.binds (ps := ["self", "other"]) fun _ _ _ _ _ _ us hl => match us, hl with | [_, _], _ => rfl⟩
  have F_E := fun_mk (st := s_beside) l_E c_E k_E
  have M_E : M K "beside" "Stair.beside" s_beside ["self", "other"] gE _ := ⟨F_E, F_E.binds (ps := ["self", "other"]) fun _ _ _ _ _ _ us hl => match us, hl with | [_, _], _ => rfl⟩
  have F0 := fun_mk (st := s_is_whole) l0 c0 k0
  have d_is_whole : D K mg "is_whole" s_is_whole ["value"] _ _ := ⟨F0, PySem.W.mg_of X G a0, F0.binds (ps := ["value"]) fun _ _ _ _ _ _ us hl => match us, hl with | [_], _ => rfl⟩
  have F1 := fun_mk (st := s_is_integer) l1 c1 k1
  have d_is_integer : D K mg "is_integer" s_is_integer ["value"] _ _ := ⟨F1, PySem.W.mg_of X G a1, F1.binds (ps := ["value"]) fun _ _ _ _ _ _ us hl => match us, hl with | [_], _ => rfl⟩
  have F2 := fun_mk (st := s_is_between) l2 c2 k2
  have d_is_between : D K mg "is_between" s_is_between ["value", "least", "most"] _ _ := ⟨F2, PySem.W.mg_of X G a2, F2.binds (ps := ["value", "least", "most"]) fun _ _ _ _ _ _ us hl => match us, hl with | [_, _, _], _ => rfl⟩
  have F3 := fun_mk (st := s_is_index) l3 c3 k3
  have d_is_index : D K mg "is_index" s_is_index ["value", "many"] _ _ := ⟨F3, PySem.W.mg_of X G a3, F3.binds (ps := ["value", "many"]) fun _ _ _ _ _ _ us hl => match us, hl with | [_, _], _ => rfl⟩
  have F4 := fun_mk (st := s_is_shape) l4 c4 k4
  have d_is_shape : D K mg "is_shape" s_is_shape ["value"] _ _ := ⟨F4, PySem.W.mg_of X G a4, F4.binds (ps := ["value"]) fun _ _ _ _ _ _ us hl => match us, hl with | [_], _ => rfl⟩
  have F5 := fun_mk (st := s_check) l5 c5 k5
  have d_check_shape : D K mg "check_shape" s_check ["shape"] _ _ := ⟨F5, PySem.W.mg_of X G a5, F5.binds (ps := ["shape"]) fun _ _ _ _ _ _ us hl => match us, hl with | [_], _ => rfl⟩
  have F6 := fun_mk (st := s_places) l6 c6 k6
  have d_places : D K mg "places" s_places ["shape"] _ _ := ⟨F6, PySem.W.mg_of X G a6, F6.binds (ps := ["shape"]) fun _ _ _ _ _ _ us hl => match us, hl with | [_], _ => rfl⟩
  have F7 := fun_mk (st := s_place) l7 c7 k7
  have d_is_place : D K mg "is_place" s_place ["shape", "value"] _ _ := ⟨F7, PySem.W.mg_of X G a7, F7.binds (ps := ["shape", "value"]) fun _ _ _ _ _ _ us hl => match us, hl with | [_, _], _ => rfl⟩
  have F8 := fun_mk (st := s_plan) l8 c8 k8
  have d_plan_of : D K mg "plan_of" s_plan ["shape"] _ _ := ⟨F8, PySem.W.mg_of X G a8, F8.binds (ps := ["shape"]) fun _ _ _ _ _ _ us hl => match us, hl with | [_], _ => rfl⟩
  have F9 := fun_mk (st := s_ents) l9 c9 k9
  have d_are_entries : D K mg "are_entries" s_ents ["shape", "value"] _ _ := ⟨F9, PySem.W.mg_of X G a9, F9.binds (ps := ["shape", "value"]) fun _ _ _ _ _ _ us hl => match us, hl with | [_, _], _ => rfl⟩
  have F10 := fun_mk (st := s_with) l10 c10 k10
  have d_stair_with : D K mg "stair_with" s_with ["shape", "plan", "numbers"] _ _ := ⟨F10, PySem.W.mg_of X G a10, F10.binds (ps := ["shape", "plan", "numbers"]) fun _ _ _ _ _ _ us hl => match us, hl with | [_, _, _], _ => rfl⟩
  have F11 := fun_mk (st := s_isst) l11 c11 k11
  have d_is_stair : D K mg "is_stair" s_isst ["shape", "value"] _ _ := ⟨F11, PySem.W.mg_of X G a11, F11.binds (ps := ["shape", "value"]) fun _ _ _ _ _ _ us hl => match us, hl with | [_, _], _ => rfl⟩
  have F12 := fun_mk (st := s_rest) l12 c12 k12
  have d_rest : D K mg "rest" s_rest ["numbers", "modulus"] _ _ := ⟨F12, PySem.W.mg_of X G a12, F12.binds (ps := ["numbers", "modulus"]) fun _ _ _ _ _ _ us hl => match us, hl with | [_, _], _ => rfl⟩
  have F13 := fun_mk (st := s_ckst) l13 c13 k13
  have d_check_stair : D K mg "check_stair" s_ckst ["shape", "value"] _ _ := ⟨F13, PySem.W.mg_of X G a13, F13.binds (ps := ["shape", "value"]) fun _ _ _ _ _ _ us hl => match us, hl with | [_, _], _ => rfl⟩
  have F14 := fun_mk (st := s_ones) l14 c14 k14
  have d_ones : D K mg "ones" s_ones ["plan"] _ _ := ⟨F14, PySem.W.mg_of X G a14, F14.binds (ps := ["plan"]) fun _ _ _ _ _ _ us hl => match us, hl with | [_], _ => rfl⟩
  have F15 := fun_mk (st := s_div) l15 c15 k15
  have d_divided_by : D K mg "divided_by" s_div ["plan", "numbers", "other", "modulus"] _ _ := ⟨F15, PySem.W.mg_of X G a15, F15.binds (ps := ["plan", "numbers", "other", "modulus"]) fun _ _ _ _ _ _ us hl => match us, hl with | [_, _, _, _], _ => rfl⟩
  have F16 := fun_mk (st := s_tbt) l16 c16 k16
  have d_times_between : D K mg "times_between" s_tbt ["plan", "one", "other", "modulus"] _ _ := ⟨F16, PySem.W.mg_of X G a16, F16.binds (ps := ["plan", "one", "other", "modulus"]) fun _ _ _ _ _ _ us hl => match us, hl with | [_, _, _, _], _ => rfl⟩
  have F17 := fun_mk (st := s_arest) l17 c17 k17
  have d_are_stairs : D K mg "are_stairs" s_arest ["shape", "value", "most"] _ _ := ⟨F17, PySem.W.mg_of X G a17, F17.binds (ps := ["shape", "value", "most"]) fun _ _ _ _ _ _ us hl => match us, hl with | [_, _, _], _ => rfl⟩
  have F18 := fun_mk (st := s_worth) l18 c18 k18
  have d_worth : D K mg "worth" s_worth ["shape", "stairs", "steps"] _ _ := ⟨F18, PySem.W.mg_of X G a18, F18.binds (ps := ["shape", "stairs", "steps"]) fun _ _ _ _ _ _ us hl => match us, hl with | [_, _, _], _ => rfl⟩
  have F19 := fun_mk (st := s_aresteps) l19 c19 k19
  have d_are_steps : D K mg "are_steps" s_aresteps ["many", "value"] _ _ := ⟨F19, PySem.W.mg_of X G a19, F19.binds (ps := ["many", "value"]) fun _ _ _ _ _ _ us hl => match us, hl with | [_, _], _ => rfl⟩
  have F20 := fun_mk (st := s_isstep) l20 c20 k20
  have d_is_step : D K mg "is_step" s_isstep ["many", "ahead", "value"] _ _ := ⟨F20, PySem.W.mg_of X G a20, F20.binds (ps := ["many", "ahead", "value"]) fun _ _ _ _ _ _ us hl => match us, hl with | [_, _, _], _ => rfl⟩
  have F21 := fun_mk (st := s_arepr) l21 c21 k21
  have d_are_pairs : D K mg "are_pairs" s_arepr ["ahead", "value"] _ _ := ⟨F21, PySem.W.mg_of X G a21, F21.binds (ps := ["ahead", "value"]) fun _ _ _ _ _ _ us hl => match us, hl with | [_, _], _ => rfl⟩
  have F22 := fun_mk (st := s_wof) l22 c22 k22
  have d_worth_of : D K mg "worth_of" s_wof ["plan", "stairs", "steps"] _ _ := ⟨F22, PySem.W.mg_of X G a22, F22.binds (ps := ["plan", "stairs", "steps"]) fun _ _ _ _ _ _ us hl => match us, hl with | [_, _, _], _ => rfl⟩
  have F23 := fun_mk (st := s_jug) l23 c23 k23
  have d_law_jug : D K mg "_law_jug" s_jug ["_law_script", "_law_spot"] _ _ := ⟨F23, PySem.W.mg_of X G a23, F23.binds (ps := ["_law_script", "_law_spot"]) fun _ _ _ _ _ _ us hl => match us, hl with | [_, _], _ => rfl⟩
  have F24 := fun_mk (st := s_pour) l24 c24 k24
  have d_law_pour : D K mg "_law_pour" s_pour ["_law_jug_here", "_law_many"] _ _ := ⟨F24, PySem.W.mg_of X G a24, F24.binds (ps := ["_law_jug_here", "_law_many"]) fun _ _ _ _ _ _ us hl => match us, hl with | [_, _], _ => rfl⟩
  have F25 := fun_mk (st := s_of18) l25 c25 k25
  have d_law_of : D K mg "_law_of" s_of18 ["_law_jug_here", "_law_items"] _ _ := ⟨F25, PySem.W.mg_of X G a25, F25.binds (ps := ["_law_jug_here", "_law_items"]) fun _ _ _ _ _ _ us hl => match us, hl with | [_, _], _ => rfl⟩
  have F26 := fun_mk (st := s_spots) l26 c26 k26
  have d_law_spots : D K mg "_law_spots" s_spots ["_law_sizes"] _ _ := ⟨F26, PySem.W.mg_of X G a26, F26.binds (ps := ["_law_sizes"]) fun _ _ _ _ _ _ us hl => match us, hl with | [_], _ => rfl⟩
  have F27 := fun_mk (st := s_terms) l27 c27 k27
  have d_law_terms : D K mg "_law_terms" s_terms ["_law_sizes"] _ _ := ⟨F27, PySem.W.mg_of X G a27, F27.binds (ps := ["_law_sizes"]) fun _ _ _ _ _ _ us hl => match us, hl with | [_], _ => rfl⟩
  have F28 := fun_mk (st := s_mixed) l28 c28 k28
  have d_law_mixed : D K mg "_law_mixed" s_mixed ["_law_terms_here", "_law_one", "_law_other"] _ _ := ⟨F28, PySem.W.mg_of X G a28, F28.binds (ps := ["_law_terms_here", "_law_one", "_law_other"]) fun _ _ _ _ _ _ us hl => match us, hl with | [_, _, _], _ => rfl⟩
  have F29 := fun_mk (st := s_back) l29 c29 k29
  have d_law_back : D K mg "_law_back" s_back ["_law_terms_here", "_law_one"] _ _ := ⟨F29, PySem.W.mg_of X G a29, F29.binds (ps := ["_law_terms_here", "_law_one"]) fun _ _ _ _ _ _ us hl => match us, hl with | [_, _], _ => rfl⟩
  have F30 := fun_mk (st := s_raised) l30 c30 k30
  have d_law_raised : D K mg "_law_raised" s_raised ["_law_terms_here", "_law_one", "_law_many"] _ _ := ⟨F30, PySem.W.mg_of X G a30, F30.binds (ps := ["_law_terms_here", "_law_one", "_law_many"]) fun _ _ _ _ _ _ us hl => match us, hl with | [_, _, _], _ => rfl⟩
  have F31 := fun_mk (st := s_lstair) l31 c31 k31
  have d_law_stair : D K mg "_law_stair" s_lstair ["_law_sizes", "_law_one"] _ _ := ⟨F31, PySem.W.mg_of X G a31, F31.binds (ps := ["_law_sizes", "_law_one"]) fun _ _ _ _ _ _ us hl => match us, hl with | [_, _], _ => rfl⟩
  have F32 := fun_mk (st := s_lent) l32 c32 k32
  have d_law_entries : D K mg "_law_entries" s_lent ["_law_jug_here", "_law_terms_here"] _ _ := ⟨F32, PySem.W.mg_of X G a32, F32.binds (ps := ["_law_jug_here", "_law_terms_here"]) fun _ _ _ _ _ _ us hl => match us, hl with | [_, _], _ => rfl⟩
  have F33 := fun_mk (st := s_lall) l33 c33 k33
  have d_law_all_stairs : D K mg "_law_all_stairs" s_lall ["_law_sizes", "_law_raws"] _ _ := ⟨F33, PySem.W.mg_of X G a33, F33.binds (ps := ["_law_sizes", "_law_raws"]) fun _ _ _ _ _ _ us hl => match us, hl with | [_, _], _ => rfl⟩
  have F34 := fun_mk (st := s_twist) l34 c34 k34
  have d_law_twist : D K mg "_law_twist" s_twist ["_law_terms_here", "_law_one", "_law_other"] _ _ := ⟨F34, PySem.W.mg_of X G a34, F34.binds (ps := ["_law_terms_here", "_law_one", "_law_other"]) fun _ _ _ _ _ _ us hl => match us, hl with | [_, _, _], _ => rfl⟩
  have F35 := fun_mk (st := s_lworths) l35 c35 k35
  have d_law_worths : D K mg "_law_worths" s_lworths ["_law_terms_here", "_law_raws", "_law_steps_here"] _ _ := ⟨F35, PySem.W.mg_of X G a35, F35.binds (ps := ["_law_terms_here", "_law_raws", "_law_steps_here"]) fun _ _ _ _ _ _ us hl => match us, hl with | [_, _, _], _ => rfl⟩
  have F36 := fun_mk (st := s_lworth) l36 c36 k36
  have d_law_worth : D K mg "_law_worth" s_lworth ["_law_terms_here", "_law_raws", "_law_steps_here"] _ _ := ⟨F36, PySem.W.mg_of X G a36, F36.binds (ps := ["_law_terms_here", "_law_raws", "_law_steps_here"]) fun _ _ _ _ _ _ us hl => match us, hl with | [_, _, _], _ => rfl⟩
  have F37 := fun_mk (st := s_lpairs) l37 c37 k37
  have d_law_pairs : D K mg "_law_pairs" s_lpairs ["_law_jug_here", "_law_at"] _ _ := ⟨F37, PySem.W.mg_of X G a37, F37.binds (ps := ["_law_jug_here", "_law_at"]) fun _ _ _ _ _ _ us hl => match us, hl with | [_, _], _ => rfl⟩
  have F38 := fun_mk (st := s_lsteps) l38 c38 k38
  have d_law_steps : D K mg "_law_steps" s_lsteps ["_law_jug_here", "_law_many", "_law_most"] _ _ := ⟨F38, PySem.W.mg_of X G a38, F38.binds (ps := ["_law_jug_here", "_law_many", "_law_most"]) fun _ _ _ _ _ _ us hl => match us, hl with | [_, _, _], _ => rfl⟩
  have F39 := fun_mk (st := s_lright) l39 c39 k39
  have d_law_right : D K mg "_law_right" s_lright ["_law_jug_here"] _ _ := ⟨F39, PySem.W.mg_of X G a39, F39.binds (ps := ["_law_jug_here"]) fun _ _ _ _ _ _ us hl => match us, hl with | [_], _ => rfl⟩
  have F40 := fun_mk (st := s_law) l40 c40 k40
  have d_law : D K mg "law" s_law ["_law_script"] _ _ := ⟨F40, PySem.W.mg_of X G a40, F40.binds (ps := ["_law_script"]) fun _ _ _ _ _ _ us hl => match us, hl with | [_], _ => rfl⟩
  have FY : FunD K "times" "times" (defArgs s_times) (defBody s_times) (defScope s_times) [.int 0] [] fY (PySem.W.fnOf "times" "times" (defArgs s_times) (defBody s_times) (defScope s_times) (.ref DY) kVY dcY pmY anY cdY ctY) :=
    ⟨⟨_, _, _, _, _, _, _, _, _, _, rfl, lY, cY, .inr ⟨List.cons_ne_nil _ _, DY, _, [.int 0 tDY], nDY, rfl, lDY, rfl, .cons ⟨tDY, rfl⟩ .nil⟩, .inl rfl⟩, kY⟩
  obtain ⟨dsY, vY, bY⟩ : ∃ ds, Vals [V.int 0] ds ∧ Binds K (PySem.W.fnOf "times" "times" (defArgs s_times) (defBody s_times) (defScope s_times) (.ref DY) kVY dcY pmY anY cdY ctY) ["plan", "one", "other", "modulus"] ds :=
    FY.binds1 (ps := ["plan", "one", "other", "modulus"]) 3 0 (List.cons_ne_nil _ _) rfl fun T kV doc pm an cdv ct us its hl hi => match us, its, hl, hi with | [_, _, _], [_], _, _ => ⟨_, rfl, rfl⟩
  have bFY : Binds K (PySem.W.fnOf "times" "times" (defArgs s_times) (defBody s_times) (defScope s_times) (.ref DY) kVY dcY pmY anY cdY ctY) ["plan", "one", "other", "modulus"] [] := by
    obtain ⟨z, v, b⟩ : ∃ ds, Vals (([V.int 0] : List V).drop 1) ds ∧ Binds K (PySem.W.fnOf "times" "times" (defArgs s_times) (defBody s_times) (defScope s_times) (.ref DY) kVY dcY pmY anY cdY ctY) ["plan", "one", "other", "modulus"] ds :=
      FY.binds1 (ps := ["plan", "one", "other", "modulus"]) 4 1 (List.cons_ne_nil _ _) rfl fun T kV doc pm an cdv ct us its hl hi => match us, its, hl, hi with | [_, _, _, _], [_], _, _ => ⟨_, rfl, rfl⟩
    cases v
    exact b
  have FU : FunD K "undone" "undone" (defArgs s_und) (defBody s_und) (defScope s_und) [.int 0] [] fU (PySem.W.fnOf "undone" "undone" (defArgs s_und) (defBody s_und) (defScope s_und) (.ref DU) kVU dcU pmU anU cdU ctU) :=
    ⟨⟨_, _, _, _, _, _, _, _, _, _, rfl, lU, cU, .inr ⟨List.cons_ne_nil _ _, DU, _, [.int 0 tDU], nDU, rfl, lDU, rfl, .cons ⟨tDU, rfl⟩ .nil⟩, .inl rfl⟩, kU⟩
  obtain ⟨dsU, vU, bU⟩ : ∃ ds, Vals [V.int 0] ds ∧ Binds K (PySem.W.fnOf "undone" "undone" (defArgs s_und) (defBody s_und) (defScope s_und) (.ref DU) kVU dcU pmU anU cdU ctU) ["plan", "numbers", "modulus"] ds :=
    FU.binds1 (ps := ["plan", "numbers", "modulus"]) 2 0 (List.cons_ne_nil _ _) rfl fun T kV doc pm an cdv ct us its hl hi => match us, its, hl, hi with | [_, _], [_], _, _ => ⟨_, rfl, rfl⟩
  have bFU : Binds K (PySem.W.fnOf "undone" "undone" (defArgs s_und) (defBody s_und) (defScope s_und) (.ref DU) kVU dcU pmU anU cdU ctU) ["plan", "numbers", "modulus"] [] := by
    obtain ⟨z, v, b⟩ : ∃ ds, Vals (([V.int 0] : List V).drop 1) ds ∧ Binds K (PySem.W.fnOf "undone" "undone" (defArgs s_und) (defBody s_und) (defScope s_und) (.ref DU) kVU dcU pmU anU cdU ctU) ["plan", "numbers", "modulus"] ds :=
      FU.binds1 (ps := ["plan", "numbers", "modulus"]) 3 1 (List.cons_ne_nil _ _) rfl fun T kV doc pm an cdv ct us its hl hi => match us, its, hl, hi with | [_, _, _], [_], _, _ => ⟨_, rfl, rfl⟩
    cases v
    exact b
  have FBR : FunD K "bracket" "bracket" (defArgs s_brk) (defBody s_brk) (defScope s_brk) [.int 0] [] fBR (PySem.W.fnOf "bracket" "bracket" (defArgs s_brk) (defBody s_brk) (defScope s_brk) (.ref DBR) kVBR dcBR pmBR anBR cdBR ctBR) :=
    ⟨⟨_, _, _, _, _, _, _, _, _, _, rfl, lBR, cBR, .inr ⟨List.cons_ne_nil _ _, DBR, _, [.int 0 tDBR], nDBR, rfl, lDBR, rfl, .cons ⟨tDBR, rfl⟩ .nil⟩, .inl rfl⟩, kBR⟩
  obtain ⟨dsBR, vBR, bBR⟩ : ∃ ds, Vals [V.int 0] ds ∧ Binds K (PySem.W.fnOf "bracket" "bracket" (defArgs s_brk) (defBody s_brk) (defScope s_brk) (.ref DBR) kVBR dcBR pmBR anBR cdBR ctBR) ["plan", "one", "other", "modulus"] ds :=
    FBR.binds1 (ps := ["plan", "one", "other", "modulus"]) 3 0 (List.cons_ne_nil _ _) rfl fun T kV doc pm an cdv ct us its hl hi => match us, its, hl, hi with | [_, _, _], [_], _, _ => ⟨_, rfl, rfl⟩
  have FLE : FunD K "led" "led" (defArgs s_led) (defBody s_led) (defScope s_led) [.int 0] [] fLE (PySem.W.fnOf "led" "led" (defArgs s_led) (defBody s_led) (defScope s_led) (.ref DLE) kVLE dcLE pmLE anLE cdLE ctLE) :=
    ⟨⟨_, _, _, _, _, _, _, _, _, _, rfl, lLE, cLE, .inr ⟨List.cons_ne_nil _ _, DLE, _, [.int 0 tDLE], nDLE, rfl, lDLE, rfl, .cons ⟨tDLE, rfl⟩ .nil⟩, .inl rfl⟩, kLE⟩
  obtain ⟨dsLE, vLE, bLE⟩ : ∃ ds, Vals [V.int 0] ds ∧ Binds K (PySem.W.fnOf "led" "led" (defArgs s_led) (defBody s_led) (defScope s_led) (.ref DLE) kVLE dcLE pmLE anLE cdLE ctLE) ["plan", "numbers", "other", "modulus"] ds :=
    FLE.binds1 (ps := ["plan", "numbers", "other", "modulus"]) 3 0 (List.cons_ne_nil _ _) rfl fun T kV doc pm an cdv ct us its hl hi => match us, its, hl, hi with | [_, _, _], [_], _, _ => ⟨_, rfl, rfl⟩
  have FRS : FunD K "raised" "raised" (defArgs s_rsd) (defBody s_rsd) (defScope s_rsd) [.int 0] [] fRS (PySem.W.fnOf "raised" "raised" (defArgs s_rsd) (defBody s_rsd) (defScope s_rsd) (.ref DRS) kVRS dcRS pmRS anRS cdRS ctRS) :=
    ⟨⟨_, _, _, _, _, _, _, _, _, _, rfl, lRS, cRS, .inr ⟨List.cons_ne_nil _ _, DRS, _, [.int 0 tDRS], nDRS, rfl, lDRS, rfl, .cons ⟨tDRS, rfl⟩ .nil⟩, .inl rfl⟩, kRS⟩
  obtain ⟨dsRS, vRS, bRS⟩ : ∃ ds, Vals [V.int 0] ds ∧ Binds K (PySem.W.fnOf "raised" "raised" (defArgs s_rsd) (defBody s_rsd) (defScope s_rsd) (.ref DRS) kVRS dcRS pmRS anRS cdRS ctRS) ["plan", "numbers", "many", "modulus"] ds :=
    FRS.binds1 (ps := ["plan", "numbers", "many", "modulus"]) 3 0 (List.cons_ne_nil _ _) rfl fun T kV doc pm an cdv ct us its hl hi => match us, its, hl, hi with | [_, _, _], [_], _, _ => ⟨_, rfl, rfl⟩
  refine ⟨PySem.W.fnOf "law" "law" (defArgs s_law) (defBody s_law) (defScope s_law) .none kV40 dc40 pm40 an40 cd40 ct40, fun s u => .of_eq rfl, fun base _ _ => ?_⟩

  have MT : PySem.MostX.MostTxt K mg CM fM := ⟨PySem.W.mg_of X G gM_, ⟨_, _, _, _, _, _, _, _, _, _, _, _, _, _, _, xM, by rfl⟩, ovM, tkM, saM, gaM, ggM, nbM, icM, tyM_, keM, exM, ttM, hdM, PySem.W.exm_ref exM hdM ttM sbM, ⟨_, _, _, _, _, _, _, _, _, _, _, _, _, _, leM, ceM⟩⟩
  have Gsh : FnOk l.prog w K mg base CX0 3 _ _ ["value"] (spShape K) := ok_shape (k := 0) T N d_is_shape d_is_between d_is_whole
  have Gck := ok_check (k := 0) (base := base) (P := l.prog) (w := w) T O d_check_shape d_is_shape Gsh
  have Gpl := ok_places T N d_places d_check_shape Gck
  have Gix : FnOk l.prog w K mg base CX0 3 _ _ ["value", "many"] (spIdx K) := ok_index (k := 0) T d_is_index d_is_between d_is_whole
  have Gip := ok_place T d_is_place d_check_shape d_is_index Gck Gix
  have Gin : FnOk l.prog w K mg base CX0 2 _ _ ["value"] spInt := ok_integer (k := 0) T N d_is_integer d_is_whole
  have Gen := ok_ents T N d_are_entries d_is_place d_is_integer Gip Gin
  have Gpn := ok_plan T N d_plan_of d_places Gpl
  have GI := ok_init T N R M_I d_check_shape d_are_entries d_plan_of d_places Gck Gen Gpn Gpl
  have Gwi := ok_with R (PySem.W.mg_of X G aTL) least d_stair_with mk GI M_I.b
  have ppN : PropOf K C "numbers" qN gN := ⟨pNa, pNg, pNt, ⟨_, pNr⟩⟩
  have GN : FnOk l.prog w K mg base CX0 1 gN _ ["self"] (spNums K C) := ok_nums (k := 0) R M_N
  have GZ : FnOk l.prog w K mg base CX0 1 gZ _ ["self"] (spSBool K C) := ok_sbool (k := 0) N R M_Z
  have GQ : FnOk l.prog w K mg base CX0 1 gQ _ ["self", "other"] (spSEq K C) := ok_seq (k := 0) T R IC own M_Q
  have Gis : FnOk l.prog w K mg base CX0 1 _ _ ["shape", "value"] (spIsSt K C) := ok_isst (k := 0) T R IC own d_is_stair
  have Gcs := ok_ckst (k := 0) d_check_stair d_is_stair Gis
  have Gti : FnOk l.prog w K mg base CX0 2 fY _ ["plan", "one", "other", "modulus"] (spTimes K) := ok_times (k := 0) T nz (fun sp j len hb => FY.ok sc_times len fun cdv A outer s H vs Q E hr h => by obtain ⟨t, h1, h2⟩ := hb cdv A outer s H vs Q E hr h; exact ⟨t, h1.nox, h2⟩) d_rest
  have Gt3 : FnOk l.prog w K mg base CX0 3 fY _ ["plan", "one", "other", "modulus"] (spTimes K) := ok_times (k := 1) T nz (fun sp j len hb => FY.ok sc_times len fun cdv A outer s H vs Q E hr h => by obtain ⟨t, h1, h2⟩ := hb cdv A outer s H vs Q E hr h; exact ⟨t, h1.nox, h2⟩) d_rest
  have Gdv : FnOk l.prog w K mg base CX0 1 _ _ ["plan", "numbers", "other", "modulus"] (spDiv K) := ok_div (k := 0) T N d_divided_by
  have Gun : FnOk l.prog w K mg base CX0 2 fU _ ["plan", "numbers", "modulus"] (spUnd K) := ok_und (fun sp j len hb => FU.ok sc_und len fun cdv A outer s H vs Q E hr h => by obtain ⟨t, h1, h2⟩ := hb cdv A outer s H vs Q E hr h; exact ⟨t, h1.nox, h2⟩) d_divided_by Gdv
  have Gon : FnOk l.prog w K mg base CX0 1 _ _ ["plan"] (spOnes K) := ok_ones (k := 0) T d_ones
  have Gbt : FnOk l.prog w K mg base CX0 2 _ _ ["plan", "one", "other", "modulus"] (spTbt K) := ok_tbt (k := 0) T nz d_times_between d_rest
  have Gbk : FnOk l.prog w K mg base CX0 3 fBR _ ["plan", "one", "other", "modulus"] (spBrk K) := ok_brk T N nz (fun sp j len hb => FBR.ok sc_brk len fun cdv A outer s H vs Q E hr h => by obtain ⟨t, h1, h2⟩ := hb cdv A outer s H vs Q E hr h; exact ⟨t, h1.nox, h2⟩) d_ones Gon (PySem.W.mg_of X G aY) kY bFY Gti d_divided_by Gdv
  have Gld : FnOk l.prog w K mg base CX0 3 fLE _ ["plan", "numbers", "other", "modulus"] (spLed K) := ok_led nz (fun sp j len hb => FLE.ok sc_led len fun cdv A outer s H vs Q E hr h => by obtain ⟨t, h1, h2⟩ := hb cdv A outer s H vs Q E hr h; exact ⟨t, h1.nox, h2⟩) (PySem.W.mg_of X G aY) kY bFY Gti d_divided_by Gdv
  have Grs : FnOk l.prog w K mg base CX0 3 fRS _ ["plan", "numbers", "many", "modulus"] (spRsd K) := ok_rsd T N nz (fun sp j len hb => FRS.ok sc_rsd len fun cdv A outer s H vs Q E hr h => by obtain ⟨t, h1, h2⟩ := hb cdv A outer s H vs Q E hr h; exact ⟨t, h1.nox, h2⟩) d_rest d_times_between Gbt (PySem.W.mg_of X G aU) kU bFU Gun
  have GL := ok_ledm R M_L d_check_stair Gcs d_stair_with Gwi (PySem.W.mg_of X G aLT) kLE bLE vLE Gld
  have mL : Meth K C "led" gL := ⟨eL, iL, k_L⟩
  have GE := ok_beside T N nz R IC own MT M_E d_is_shape Gsh d_places Gpl d_plan_of Gpn d_stair_with Gwi
  have mE : Meth K C "beside" gE := ⟨eE, iE, k_E⟩
  have GO := ok_one M_O mk GI M_I.b
  have rdC : ClX.CRead K C (.type "type") := ⟨rd, rga⟩
  have cmO : ClX.CMet K C (.type "type") "one" pO gO := ⟨cAO, ⟨_, cRO⟩, cFO⟩
  have Gas := ok_arest T N d_are_stairs d_is_stair Gis
  have Gap : FnOk l.prog w K mg base CX0 1 _ _ ["ahead", "value"] (spArePr K) := ok_arepr (k := 0) T N d_are_pairs
  have Gse := ok_isstep T N d_is_step d_is_index Gix d_are_pairs Gap
  have Gat := ok_aresteps T N (PySem.W.mg_of X G cst_MAX_STEPS) d_are_steps d_is_step Gse
  have Gwo := ok_wof T N (PySem.W.mg_of X G cst__MOST_POWERS) d_worth_of (PySem.W.mg_of X G aRS) kRS bRS vRS Grs (PySem.W.mg_of X G aBT) kBR bBR vBR Gbk (PySem.W.mg_of X G aY) kY bY vY Gt3 d_ones Gon
  have GW := ok_worth T N R (PySem.W.mg_of X G cst__MOST_STAIRS) d_worth d_check_shape Gck d_are_stairs Gas d_are_steps Gat d_plan_of Gpn d_stair_with Gwi d_worth_of Gwo ppN GN M_N.b
  have Gpo : FnOk l.prog w K mg base CX0 1 _ _ ["_law_jug_here", "_law_many"] spPour := ok_pour (k := 0) T d_law_pour
  have Gof : FnOk l.prog w K mg base CX0 2 _ _ ["_law_jug_here", "_law_items"] (spOf18 K) := ok_of18 (k := 0) T d_law_of d_law_pour
  have Gsp : FnOk l.prog w K mg base CX0 1 _ _ ["_law_sizes"] (spSpots K) := ok_spots (k := 0) T N d_law_spots
  have Gte := ok_terms T N d_law_terms d_law_spots Gsp
  have Gmx : FnOk l.prog w K mg base CX0 1 _ _ ["_law_terms_here", "_law_one", "_law_other"] (spMixed K) := ok_mixed (k := 0) T N d_law_mixed
  have Gba : FnOk l.prog w K mg base CX0 1 _ _ ["_law_terms_here", "_law_one"] (spBack K) := ok_back (k := 0) T N d_law_back
  have Gra := ok_raised T N d_law_raised d_law_back Gba d_law_mixed Gmx
  have Gtw := ok_twist d_law_twist d_law_back Gba d_law_mixed Gmx
  have Gst := ok_lstair T N nz R d_law_stair d_law_spots Gsp mk GI M_I.b
  have Gle := ok_lent T N d_law_entries d_law_of Gof
  have Gla := ok_lall T N d_law_all_stairs d_law_stair Gst
  have Glw := ok_lworths T N d_law_worths d_law_twist Gtw d_law_mixed Gmx d_law_raised Gra
  have Gl1 := ok_lworth T N d_law_worth d_law_worths Glw
  have Gpr := ok_lpairs T N d_law_pairs d_law_pour Gpo d_law_of Gof
  have Gss := ok_lsteps T N d_law_steps d_law_pairs Gpr d_law_pour Gpo
  have Grg := ok_lright T N nz R IC d_law_right d_law_of Gof d_law_pour Gpo d_law_terms Gte d_law_entries Gle d_law_steps Gss d_law_worth Gl1 d_law_all_stairs Gla d_law_stair Gst d_worth GW ppN GN M_N.b hm ne nfC eQ iQ GQ M_Q.b mL GL M_L.b mE GE M_E.b eZ iZ GZ M_Z.b rdC cmO GO M_O.b
  exact ok_law T N R IC d_law d_law_right Grg d_law_jug (ok_jug (k := 0) T d_law_jug) d_worth GW mk GI M_I.b ppN GN M_N.b nfC eQ iQ GQ M_Q.b eZ iZ GZ M_Z.b rdC cmO GO M_O.b
end K18
open PySem PySem.W PyProof.Rows
set_option maxRecDepth 100000 in
set_option maxHeartbeats 0 in
theorem PySem.Challenge.cw_stairlots_k18_whole_worths_of_steps_holds : PySem.Challenge.rw_stairlots_k18_whole_worths_of_steps.Holds := by
  w_on; o_law; k_head; (case hw => w_witness2)
  k_fill
  refine L2.walk_ofK (l := PySem.Challenge.rw_stairlots_k18_whole_worths_of_steps) (n := 63) (k := 13) (x := "_law_script") (CX := L2.CX0) (sp := K18.spLaw) rfl (by decide) rfl ⟨rfl, by decide, by decide⟩ (fun w h Y => PySem.W.kIn_of Y) ?F (fun _ _ a ns hl _ hS => ⟨a, ns, rfl, hS, hl, fun _ => rfl⟩) (fun _ _ _ _ z => z.elim)
  case F =>
    intro w mg fa h KX G hmg
    refine' K18.all_of KX G hmg ?aC ?pg ?hd ?po ?sa ?nS ?nP ?nN ?ha ?hn ?htk ?hm ?ne ?sf ?nfC ?ki ?mks ?ini ?ifn ?kpC ?eZ ?iZ ?eQ ?iQ ?eL ?iL ?eE ?iE ?pNa ?pNg ?pNt ?pNr ?rd ?rga ?cAO ?cRO ?cFO ?aX ?xX ?kX ?bX ?tX ?gM_ ?xM ?ovM ?tkM ?saM ?gaM ?ggM ?nbM ?icM ?tyM_ ?leM ?ceM ?keM ?exM ?ttM ?hdM ?sbM ?cst0 ?cst1 ?cst2 ?cst3 ?cst4 ?cst__MOST_POWERS ?cst_MAX_STEPS ?cst__MOST_STAIRS ?aTL ?lTL ?n_len ?n_abs ?n_int ?n_bool ?n_max ?n_min ?n_sum ?n_tuple ?n_range ?n_repr ?n_isinstance ?n_reversed ?n_all ?n_any ?n_list ?n_dict ?n_enumerate ?n_sorted ?n_str ?n_zip ?l_I ?c_I ?k_I ?l_O ?c_O ?k_O ?l_N ?c_N ?k_N ?l_Z ?c_Z ?k_Z ?l_Q ?c_Q ?k_Q ?l_L ?c_L ?k_L ?l_E ?c_E ?k_E ?a0 ?l0 ?c0 ?k0 ?a1 ?l1 ?c1 ?k1 ?a2 ?l2 ?c2 ?k2 ?a3 ?l3 ?c3 ?k3 ?a4 ?l4 ?c4 ?k4 ?a5 ?l5 ?c5 ?k5 ?a6 ?l6 ?c6 ?k6 ?a7 ?l7 ?c7 ?k7 ?a8 ?l8 ?c8 ?k8 ?a9 ?l9 ?c9 ?k9 ?a10 ?l10 ?c10 ?k10 ?a11 ?l11 ?c11 ?k11 ?a12 ?l12 ?c12 ?k12 ?a13 ?l13 ?c13 ?k13 ?a14 ?l14 ?c14 ?k14 ?a15 ?l15 ?c15 ?k15 ?a16 ?l16 ?c16 ?k16 ?a17 ?l17 ?c17 ?k17 ?a18 ?l18 ?c18 ?k18 ?a19 ?l19 ?c19 ?k19 ?a20 ?l20 ?c20 ?k20 ?a21 ?l21 ?c21 ?k21 ?a22 ?l22 ?c22 ?k22 ?a23 ?l23 ?c23 ?k23 ?a24 ?l24 ?c24 ?k24 ?a25 ?l25 ?c25 ?k25 ?a26 ?l26 ?c26 ?k26 ?a27 ?l27 ?c27 ?k27 ?a28 ?l28 ?c28 ?k28 ?a29 ?l29 ?c29 ?k29 ?a30 ?l30 ?c30 ?k30 ?a31 ?l31 ?c31 ?k31 ?a32 ?l32 ?c32 ?k32 ?a33 ?l33 ?c33 ?k33 ?a34 ?l34 ?c34 ?k34 ?a35 ?l35 ?c35 ?k35 ?a36 ?l36 ?c36 ?k36 ?a37 ?l37 ?c37 ?k37 ?a38 ?l38 ?c38 ?k38 ?a39 ?l39 ?c39 ?k39 ?a40 ?l40 ?c40 ?k40 ?aY ?lY ?cY ?kY ?lDY ?aU ?lU ?cU ?kU ?lDU ?aBR ?lBR ?cBR ?kBR ?lDBR ?aLE ?lLE ?cLE ?kLE ?lDLE ?aRS ?lRS ?cRS ?kRS ?lDRS ?aBT ?aLT
    (case aC => k_is)
    (case pg => k_is)
    (case hd => k_is)
    (case po => k_is)
    (case sa => k_is)
    (case nS => k_is)
    (case nP => k_is)
    (case nN => k_is)
    (case ha => k_is)
    (case hn => k_is)
    (case htk => k_is)
    (case hm => k_is)
    (case ne => k_is)
    (case sf => k_is)
    (case nfC => k_is)
    (case ki => first | kit_is | k_is)
    (case mks => k_is)
    (case ini => k_is)
    (case ifn => k_is)
    (case kpC => k_is)
    (case eZ => k_is)
    (case iZ => k_is)
    (case eQ => k_is)
    (case iQ => k_is)
    (case eL => k_is)
    (case iL => k_is)
    (case eE => k_is)
    (case iE => k_is)
    (case pNa => k_is)
    (case pNg => k_is)
    (case pNt => k_is)
    (case pNr => k_is)
    (case rd => k_is)
    (case rga => k_is)
    (case cAO => k_is)
    (case cRO => k_is)
    (case cFO => k_is)
    (case aX => k_is)
    (case xX => first | k_exc | k_is)
    (case kX => k_is)
    (case bX => k_is)
    (case tX => k_is)
    (case gM_ => k_is)
    (case xM => k_is)
    (case ovM => first | kx_is | k_is)
    (case tkM => k_is)
    (case saM => k_is)
    (case gaM => k_is)
    (case ggM => k_is)
    (case nbM => k_is)
    (case icM => k_is)
    (case tyM_ => k_is)
    (case leM => k_is)
    (case ceM => k_is)
    (case keM => k_is)
    (case exM => k_is)
    (case ttM => k_is)
    (case hdM => k_is)
    (case sbM => first | rfl | k_is)
    (case cst0 => k_is)
    (case cst1 => k_is)
    (case cst2 => k_is)
    (case cst3 => k_is)
    (case cst4 => k_is)
    (case cst__MOST_POWERS => k_is)
    (case cst_MAX_STEPS => k_is)
    (case cst__MOST_STAIRS => k_is)
    (case aTL => k_is)
    (case lTL => k_is)
    (case n_len => k_is)
    (case n_abs => k_is)
    (case n_int => k_is)
    (case n_bool => k_is)
    (case n_max => k_is)
    (case n_min => k_is)
    (case n_sum => k_is)
    (case n_tuple => k_is)
    (case n_range => k_is)
    (case n_repr => k_is)
    (case n_isinstance => k_is)
    (case n_reversed => k_is)
    (case n_all => k_is)
    (case n_any => k_is)
    (case n_list => k_is)
    (case n_dict => k_is)
    (case n_enumerate => k_is)
    (case n_sorted => k_is)
    (case n_str => k_is)
    (case n_zip => k_is)
    (case l_I => k_is)
    (case c_I => k_is)
    (case k_I => k_is)
    (case l_O => k_is)
    (case c_O => k_is)
    (case k_O => k_is)
    (case l_N => k_is)
    (case c_N => k_is)
    (case k_N => k_is)
    (case l_Z => k_is)
    (case c_Z => k_is)
    (case k_Z => k_is)
    (case l_Q => k_is)
    (case c_Q => k_is)
    (case k_Q => k_is)
    (case l_L => k_is)
    (case c_L => k_is)
    (case k_L => k_is)
    (case l_E => k_is)
    (case c_E => k_is)
    (case k_E => k_is)
    (case a0 => k_is)
    (case l0 => k_is)
    (case c0 => k_is)
    (case k0 => k_is)
    (case a1 => k_is)
    (case l1 => k_is)
    (case c1 => k_is)
    (case k1 => k_is)
    (case a2 => k_is)
    (case l2 => k_is)
    (case c2 => k_is)
    (case k2 => k_is)
    (case a3 => k_is)
    (case l3 => k_is)
    (case c3 => k_is)
    (case k3 => k_is)
    (case a4 => k_is)
    (case l4 => k_is)
    (case c4 => k_is)
    (case k4 => k_is)
    (case a5 => k_is)
    (case l5 => k_is)
    (case c5 => k_is)
    (case k5 => k_is)
    (case a6 => k_is)
    (case l6 => k_is)
    (case c6 => k_is)
    (case k6 => k_is)
    (case a7 => k_is)
    (case l7 => k_is)
    (case c7 => k_is)
    (case k7 => k_is)
    (case a8 => k_is)
    (case l8 => k_is)
    (case c8 => k_is)
    (case k8 => k_is)
    (case a9 => k_is)
    (case l9 => k_is)
    (case c9 => k_is)
    (case k9 => k_is)
    (case a10 => k_is)
    (case l10 => k_is)
    (case c10 => k_is)
    (case k10 => k_is)
    (case a11 => k_is)
    (case l11 => k_is)
    (case c11 => k_is)
    (case k11 => k_is)
    (case a12 => k_is)
    (case l12 => k_is)
    (case c12 => k_is)
    (case k12 => k_is)
    (case a13 => k_is)
    (case l13 => k_is)
    (case c13 => k_is)
    (case k13 => k_is)
    (case a14 => k_is)
    (case l14 => k_is)
    (case c14 => k_is)
    (case k14 => k_is)
    (case a15 => k_is)
    (case l15 => k_is)
    (case c15 => k_is)
    (case k15 => k_is)
    (case a16 => k_is)
    (case l16 => k_is)
    (case c16 => k_is)
    (case k16 => k_is)
    (case a17 => k_is)
    (case l17 => k_is)
    (case c17 => k_is)
    (case k17 => k_is)
    (case a18 => k_is)
    (case l18 => k_is)
    (case c18 => k_is)
    (case k18 => k_is)
    (case a19 => k_is)
    (case l19 => k_is)
    (case c19 => k_is)
    (case k19 => k_is)
    (case a20 => k_is)
    (case l20 => k_is)
    (case c20 => k_is)
    (case k20 => k_is)
    (case a21 => k_is)
    (case l21 => k_is)
    (case c21 => k_is)
    (case k21 => k_is)
    (case a22 => k_is)
    (case l22 => k_is)
    (case c22 => k_is)
    (case k22 => k_is)
    (case a23 => k_is)
    (case l23 => k_is)
    (case c23 => k_is)
    (case k23 => k_is)
    (case a24 => k_is)
    (case l24 => k_is)
    (case c24 => k_is)
    (case k24 => k_is)
    (case a25 => k_is)
    (case l25 => k_is)
    (case c25 => k_is)
    (case k25 => k_is)
    (case a26 => k_is)
    (case l26 => k_is)
    (case c26 => k_is)
    (case k26 => k_is)
    (case a27 => k_is)
    (case l27 => k_is)
    (case c27 => k_is)
    (case k27 => k_is)
    (case a28 => k_is)
    (case l28 => k_is)
    (case c28 => k_is)
    (case k28 => k_is)
    (case a29 => k_is)
    (case l29 => k_is)
    (case c29 => k_is)
    (case k29 => k_is)
    (case a30 => k_is)
    (case l30 => k_is)
    (case c30 => k_is)
    (case k30 => k_is)
    (case a31 => k_is)
    (case l31 => k_is)
    (case c31 => k_is)
    (case k31 => k_is)
    (case a32 => k_is)
    (case l32 => k_is)
    (case c32 => k_is)
    (case k32 => k_is)
    (case a33 => k_is)
    (case l33 => k_is)
    (case c33 => k_is)
    (case k33 => k_is)
    (case a34 => k_is)
    (case l34 => k_is)
    (case c34 => k_is)
    (case k34 => k_is)
    (case a35 => k_is)
    (case l35 => k_is)
    (case c35 => k_is)
    (case k35 => k_is)
    (case a36 => k_is)
    (case l36 => k_is)
    (case c36 => k_is)
    (case k36 => k_is)
    (case a37 => k_is)
    (case l37 => k_is)
    (case c37 => k_is)
    (case k37 => k_is)
    (case a38 => k_is)
    (case l38 => k_is)
    (case c38 => k_is)
    (case k38 => k_is)
    (case a39 => k_is)
    (case l39 => k_is)
    (case c39 => k_is)
    (case k39 => k_is)
    (case a40 => k_is)
    (case l40 => k_is)
    (case c40 => k_is)
    (case k40 => k_is)
    (case aY => k_is)
    (case lY => k_is)
    (case cY => k_is)
    (case kY => k_is)
    (case lDY => k_is)
    (case aU => k_is)
    (case lU => k_is)
    (case cU => k_is)
    (case kU => k_is)
    (case lDU => k_is)
    (case aBR => k_is)
    (case lBR => k_is)
    (case cBR => k_is)
    (case kBR => k_is)
    (case lDBR => k_is)
    (case aLE => k_is)
    (case lLE => k_is)
    (case cLE => k_is)
    (case kLE => k_is)
    (case lDLE => k_is)
    (case aRS => k_is)
    (case lRS => k_is)
    (case cRS => k_is)
    (case kRS => k_is)
    (case lDRS => k_is)
    (case aBT => k_is)
    (case aLT => k_is)
