import PyProof.Rows.All
import Wide.All
import OpenK.AllK
import Wide.FinOn
import PySem.Challenge.RW_stairlots_k00_errors_and_their_classes
import HandS.ForMost
import HandS.Exc
import HandS.TryOnly
import HandS.ExcOwn
import HandS.WordsExc
import HandS.Wide
import HandS.IsInst
import HandS.Hot
import HandS.HotCalls
import HandS.ExcCtx
import HandS.ExcIs
import HandS.ExcField
import HandS.TryMany
import PyProof.Rows.TupIter
import HandS.Comp
import KE.KTryMore
import KE.KExcInit
import HandS.Codes
import HandS.Walk
import HandS.Style
import KE.IntTextText
import PyProof.RowDictHeap
import PyProof.ReprNest
import PyProof.ReprDict
import PyProof.ReprRoads
import HandS.Deep
import PyProof.StrLawsRepr
import PyProof.FitsInt
import PyProof.ListStr
import HandS.More
import HandS.Conv
import PyProof.StrBlockL
import HandS.Defaults
import KE.KExcLine
set_option Elab.async false
set_option linter.all false
set_option maxRecDepth 100000
set_option maxHeartbeats 8000000
/-! # ends of walks while an error is handled -/
namespace K00W
open PySem PySem.Spec PyProof.Rows
section
variable {prog : Program} {w : World} {A : Around} {E : PySem.Value → Shared → Prop} {s : Shared}
/-- StopIteration is made, chained to what is handled, and thrown -/
theorem stop_hot {α : Type} {x1 : Addr} {Q : α → Shared → Prop} (hot : HotX.HotAt A x1 s.heap)
    (go : ∀ h' a o, (∀ b u, s.heap.get? b = some u → h'.get? b = some u) → h'.get? a = some o → o.cls = .type "StopIteration" → E (.ref a) { s with heap := h' }) :
    wpAny (model prog w) A ((newExc (.type "StopIteration") [] : Sem PySem.Value) >>= fun e => (raiseNew e : Sem α)) Q E s := by
  obtain ⟨hh, oh, vh, gh, dh, ch⟩ := hot
  apply wpAny_bind
  simp only [newExc, newTuple]
  apply wpAny_bind
  apply wpAny_newObj_type
  case hd => size_fits
  apply wpAny_bind
  have fa : ∀ {Q : PySem.Value → Shared → Prop} {s : Shared}, Q .none s → wpAny (model prog w) A (firstArgMember (.type "StopIteration") []) Q E s := fun q => wpAny_of_eq (a := PySem.Value.none) (by first | rfl | (simp only [firstArgMember]; rfl)) q
  apply fa
  apply wpAny_newObj_type
  case hd => size_fits
  have up : ∀ b u, s.heap.get? b = some u → ∀ {x y : Obj}, ((s.heap.push x).push y).get? b = some u := fun b u e _ _ => Heap.get?_push_of_some _ (Heap.get?_push_of_some _ e)
  have far := Heap.lt_size gh
  apply HotX.raiseNew_hot (x1 := x1) ⟨hh, oh, vh, up _ _ gh, dh, ch⟩
  case ha => exact Heap.get?_push_size _ rfl
  case da => rfl
  case hi => first | decide | (simp; done) | (simp; omega)
  case hne => exact Nat.ne_of_lt (Heap.lt_size (Heap.get?_push_of_some _ gh))
  refine go _ _ _ (fun b u e => ?_) (Heap.get?_update_self _ (Heap.get?_push_size _ rfl) rfl) rfl
  rw [Heap.get?_update_other _ _ (Nat.ne_of_gt (Heap.lt_size (Heap.get?_push_of_some _ e)))]
  exact up b u e
/-- an iterator's object is not what is handled -/
theorem hot_off {x1 it : Addr} {u v : PySem.Value} {o : Obj} (hot : HotX.HotAt A x1 s.heap) (h : s.heap.get? it = some o) (d : o.data = .fields #[u, v]) : x1 ≠ it := fun e => by
  obtain ⟨_, oh, vh, gh, dh, ch⟩ := hot
  rw [e, h] at gh
  cases gh
  rw [d] at dh
  cases dh
  simp at ch
/-- no more items of a list -/
theorem list_end_hot {x1 it l : Addr} {i : Nat} {items : Array PySem.Value} {Q : Option PySem.Value → Shared → Prop} (hot : HotX.HotAt A x1 s.heap) (hi : s.heap.IsListIter it l i) (hl : s.heap.IsList l items) (no : items[i]? = none)
    (q : ∀ h', Heap.ExtBut it s.heap h' → Q none { s with heap := h' }) : wpAny (model prog w) A (pyNext (.ref it)) Q E s := by
  obtain ⟨oi, gi, ci, di⟩ := id hi
  obtain ⟨ol, gl, _, nl, dl⟩ := hl
  have off := hot_off hot gi di
  obtain ⟨hh, oh, vh, gh, dh, ch⟩ := hot
  unfold pyNext
  apply wpAny_bind
  apply wpAny_attempt
  apply wpAny_callSpecial?_slot (name := Str.ofString "__next__") hi.typeIs slot_listiter_next
  apply wpAny_call_entry slot_listiter_next hi.typeIs entry_listiter_next _ (args_listiter_next _)
  show wpAny _ _ (field (.ref it) 0 >>= _) _ _ _
  apply wpAny_bind
  apply wpAny_field gi di (x := .ref l) rfl
  have nn : ¬ ((PySem.Value.ref l == PySem.Value.none) = true) := fun z => by cases z
  rw [if_neg nn]
  show wpAny _ _ (field (.ref it) 1 >>= _) _ _ _
  apply wpAny_bind
  apply wpAny_field gi di (x := .int i 0) rfl
  show wpAny _ _ (seqItems? (.ref l) >>= _) _ _ _
  apply wpAny_bind
  apply wpAny_seqItems gl dl
  simp only [Int.toNat_natCast, no]
  apply wpAny_bind
  apply wpAny_rule
  apply wpAny_bind
  apply wpAny_setField gi di (by simp)
  have same : ∀ b u, b ≠ it → s.heap.get? b = some u → (s.heap.update it (Obj.mapFields fun x => x.setIfInBounds 0 PySem.Value.none)).get? b = some u := fun b u hb e => (Heap.get?_update_ne _ _ _ _ hb).trans e
  show wpAny _ _ ((newExc (.type "StopIteration") [] : Sem PySem.Value) >>= fun e => raiseNew e) _ _ _
  apply stop_hot (A := A.in1) (x1 := x1) ⟨hh, oh, vh, same _ _ off gh, dh, ch⟩
  intro h' a o keep ga ca
  apply wpAny_bind
  have ti : ({ s with heap := h' } : Shared).TypeIs (.ref a) "StopIteration" := ⟨o, ga, ca⟩
  apply wpAny_isInstance (b := true) ti isSubtype_stop
  apply wpAny_pure
  exact q _ fun b u hb e => keep _ _ (same _ _ hb e)
/-- no more items of a tuple -/
theorem tup_end_hot {x1 it l : Addr} {i : Nat} {items : Array PySem.Value} {Q : Option PySem.Value → Shared → Prop} (hot : HotX.HotAt A x1 s.heap) (hi : IsTupIter s.heap it l i) (hl : IsTup s.heap l items) (no : items[i]? = none)
    (q : ∀ h', Heap.ExtBut it s.heap h' → Q none { s with heap := h' }) : wpAny (model prog w) A (pyNext (.ref it)) Q E s := by
  obtain ⟨oi, gi, ci, di⟩ := id hi
  obtain ⟨ol, gl, _, nl, dl⟩ := hl
  have off := hot_off hot gi di
  obtain ⟨hh, oh, vh, gh, dh, ch⟩ := hot
  unfold pyNext
  apply wpAny_bind
  apply wpAny_attempt
  apply wpAny_callSpecial?_slot (name := Str.ofString "__next__") hi.typeIs slot_tupleiter_next
  apply wpAny_call_entry slot_tupleiter_next hi.typeIs entry_tupleiter_next _ (args_tupleiter_next _)
  show wpAny _ _ (field (.ref it) 0 >>= _) _ _ _
  apply wpAny_bind
  apply wpAny_field gi di (x := .ref l) rfl
  have nn : ¬ ((PySem.Value.ref l == PySem.Value.none) = true) := fun z => by cases z
  rw [if_neg nn]
  show wpAny _ _ (field (.ref it) 1 >>= _) _ _ _
  apply wpAny_bind
  apply wpAny_field gi di (x := .int i 0) rfl
  show wpAny _ _ (seqItems? (.ref l) >>= _) _ _ _
  apply wpAny_bind
  apply wpAny_seqItems gl dl
  simp only [Int.toNat_natCast, no]
  apply wpAny_bind
  apply wpAny_rule
  apply wpAny_bind
  apply wpAny_setField gi di (by simp)
  have same : ∀ b u, b ≠ it → s.heap.get? b = some u → (s.heap.update it (Obj.mapFields fun x => x.setIfInBounds 0 PySem.Value.none)).get? b = some u := fun b u hb e => (Heap.get?_update_ne _ _ _ _ hb).trans e
  show wpAny _ _ ((newExc (.type "StopIteration") [] : Sem PySem.Value) >>= fun e => raiseNew e) _ _ _
  apply stop_hot (A := A.in1) (x1 := x1) ⟨hh, oh, vh, same _ _ off gh, dh, ch⟩
  intro h' a o keep ga ca
  apply wpAny_bind
  have ti : ({ s with heap := h' } : Shared).TypeIs (.ref a) "StopIteration" := ⟨o, ga, ca⟩
  apply wpAny_isInstance (b := true) ti isSubtype_stop
  apply wpAny_pure
  exact q _ fun b u hb e => keep _ _ (same _ _ hb e)
/-- a tuple's items at names, while an error is handled -/
theorem unpack_hot {x1 t : Addr} {items : Array PySem.Value} {env : Env} {elts : List PySem.Expr} {k : _} {pos : Pos} {Q : Unit → Shared → Prop} (hot : HotX.HotAt A x1 s.heap) (ht : IsTup s.heap t items)
    (len : (assignEach elts env).length = items.size) (nost : (assignEach elts env).findIdx? (·.1) = none)
    (q : ∀ h', Heap.ExtBut s.heap.objs.size s.heap h' → wpAny (model prog w) A (assignInOrder ((assignEach elts env).map (·.2)) items.toList) Q E { s with heap := h' }) : wpAny (model prog w) A (assign (.Tuple elts k pos) env (.ref t)) Q E s := by
  rw [assign_Tuple]
  apply wpAny_bind
  apply wpAny_standAt
  unfold unpack
  rw [len, nost]
  apply wpAny_bind
  apply wpAny_holding
  have tl : t ≠ s.heap.objs.size := by
    obtain ⟨o, e, _⟩ := ht
    exact Nat.ne_of_lt (Heap.lt_size e)
  obtain ⟨hh, oh, vh, gh, dh, ch⟩ := hot
  have hl : x1 ≠ s.heap.objs.size := Nat.ne_of_lt (Heap.lt_size gh)
  unfold unpackItems notIterableAtAll
  apply wpAny_bind
  apply wpAny_bind
  apply wpAny_specialOf ht.typeIs slot_tuple_iter.lookup
  apply wpAny_pure
  simp only [Bool.false_eq_true, if_false]
  apply wpAny_bind
  apply wpAny_holding
  apply iter_tuple ht
  apply wpAny_bind
  apply wpAny_holding
  apply draw_tuple tl items.size 0 _ _ ⟨_, Heap.get?_push_size _ rfl, rfl, rfl⟩ (ht.push _) (by omega)
  intro h1 it1 same1
  have all : List.take items.size (List.drop 0 items.toList) = items.toList := by
    rw [List.drop_zero]
    exact List.take_of_length_le (by rw [Array.length_toList]; exact Nat.le_refl _)
  rw [all, if_neg (by simp)]
  have ht1 : IsTup h1 t items := (ht.push _).extBut same1.extBut tl
  apply wpAny_bind
  apply wpAny_holding
  apply tup_end_hot (x1 := x1) ⟨hh, oh, vh, same1.extBut _ _ hl (Heap.get?_push_of_some _ gh), dh, ch⟩ it1 ht1 (by simp)
  intro h2 ext2
  simp only [Option.isSome_none, Bool.false_eq_true, if_false]
  apply wpAny_pure
  exact q h2 fun b u hb e => ext2 b u hb (same1.extBut b u hb (Heap.get?_push_of_some _ e))
end
end K00W

/-! # a comprehension over a list while an error is handled -/
namespace K00
open PySem PySem.Spec PyProof.Rows L2
/-- what is handled stood at the start, out of the reach of what is tracked, its context None -/
def HotB (X : Cx) : Prop := ∃ p : Addr × Obj, L2H.Hot1 X.A p ∧ X.s_0.heap.get? p.1 = some p.2 ∧ X.H_0 p.1 = none ∧ p.1 ∉ X.fs ∧ p.1 ∉ X.ex
section
variable {X : Cx} {pins : List (Addr × Obj)} {σ : L2.St} {H : Hp} {s : Shared}
theorem HotB.at (c : HotB X) (I : Inv X pins σ H s) : ∃ x1, HotX.HotAt X.A x1 s.heap := by
  obtain ⟨p, ⟨hh, v, e, n⟩, h1, h2, h3, h4⟩ := c
  exact ⟨p.1, hh, p.2, v, I.base.keep _ _ h1 h2 h3 h4, e, n⟩
theorem hotB_blk {scope : Scope} {ce : Env} {fp : List Addr} (c : L2H.HotC X) (I : Inv X pins σ H s) (hf : ∀ b ∈ fp, FpOk X pins H b) : HotB (X.blk s H scope ce fp) := by
  obtain ⟨p, hot, hp⟩ := c
  obtain ⟨p1, p2, p3, p4, p5⟩ := I.pin p (List.mem_append_left _ hp)
  exact ⟨p, hot, p1, p2, fun m => (List.mem_cons.mp (I.stkSub p.1 m)).elim p3 p4, fun m => (hf _ m).2.2.2.2.2 p (List.mem_append_left _ hp) rfl⟩
/-- names = a tuple, while an error is handled -/
theorem pg_tupH {es : List Expr} {k : _} {pos : Pos} {t : TGs} {n : Nat} (c : HotB X) (h : PGs X es t) (len : (assignEach es X.env).length = n := by rfl) (nost : (assignEach es X.env).findIdx? (·.1) = none := by rfl) : PG X (.Tuple es k pos) (gTup X.K n t) := by
  constructor
  intro pins s σ H v u Q I r hw
  obtain ⟨a, xs, rfl, hq, ln, go⟩ := hw
  cases r
  obtain ⟨its, rv, at_, _⟩ := I.tuple hq
  obtain ⟨x1, hot⟩ := c.at I
  have le : its.length = n := rv.length.symm.trans ln
  refine K00W.unpack_hot hot at_ (by rw [len]; simpa using le.symm) nost fun h' ext => ?_
  have J : Inv X pins σ H { s with heap := h' } := I.kept (t' := s.toks) fun b o e => ext b o (Nat.ne_of_lt (Heap.lt_size e)) e
  exact h.run pins _ σ H xs _ Q J (by simpa using rv) go
theorem pe_lcH {elt tg l : Expr} {ifs : List Expr} {scope : Scope} {own : List (Str × Nat)} {pos : Pos} {tl : TE} {g : TG} {tt : TT} {te : TE} (hot : L2H.HotC X) (nd : X.N.Nodup) (src : PE X l tl) (bo : BlkOk X.N X.env.scope scope own)
    (tgt : ∀ (s : Shared) (H : Hp) (C : Addr) (cl : List (Str × Addr)) (fp : List Addr), HotB (X.blk s H scope (compEnvC scope cl C X.env) fp) → PG (X.blk s H scope (compEnvC scope cl C X.env) fp) tg g)
    (tst : ∀ (s : Shared) (H : Hp) (C : Addr) (cl : List (Str × Addr)) (fp : List Addr), PTs (X.blk s H scope (compEnvC scope cl C X.env) fp) ifs tt)
    (itm : ∀ (s : Shared) (H : Hp) (C : Addr) (cl : List (Str × Addr)) (fp : List Addr), PE (X.blk s H scope (compEnvC scope cl C X.env) fp) elt te) (fs : ∀ x, foldedSetIterable l X.env x = pure x := by intro _; rfl) :
    PE X (.ListComp elt [⟨tg, l, ifs, 0⟩] scope pos) (tLc (iList X.K tl) g tt te (own.map (·.2))) := by
  constructor
  intro pins s σ H Q I h
  rw [eval_ListComp]
  have clo : ∀ y ∈ scope.names, y.2 = .free → ∃ c, X.env.cells.lookup y.1 = some c := fun y m e => (bo.free y m e).elim (fun k => I.ok.has _ (.inl k)) fun k => I.ok.has _ (.inr k)
  refine wpAny_comprehension_free (use := none) rfl fs (closure_ok clo) bo.kind (fun y m e => by rw [bo.uniq y m, e]) ?_
  refine thn (src.run pins s σ H _ I h) fun v1 s1 hv => ?_
  obtain ⟨x0, H1, I1, r0, a, rfl, ⟨xs0, q0⟩, more⟩ := hv
  cases r0
  obtain ⟨its0, rv0, pl0, z0⟩ := I1.list q0
  refine wpAny_pyIter_list pl0.isList ?_
  have I2 : Inv X pins σ H1 { s1 with heap := s1.heap.push { cls := .type "list_iterator", data := .fields #[.ref a, .int 0 0] } } := I1.kept (t' := s1.toks) fun b o e => Heap.get?_push_of_some _ e
  generalize hit : s1.heap.objs.size = it
  have itr : ({ s1 with heap := s1.heap.push { cls := .type "list_iterator", data := .fields #[.ref a, .int 0 0] } } : Shared).heap.IsListIter it a 0 := ⟨_, by rw [← hit]; exact Heap.get?_push_size _ rfl, rfl, rfl⟩
  have off : FpOk X pins H1 it := by rw [← hit]; exact I1.fpOk (Nat.le_refl _) (I1.hok.fresh (Nat.le_refl _))
  generalize hs2 : ({ s1 with heap := s1.heap.push { cls := .type "list_iterator", data := .fields #[.ref a, .int 0 0] } } : Shared) = s2 at I2 itr ⊢
  have itS : it < s2.heap.objs.size := by
    obtain ⟨_, e, _⟩ := itr
    exact Heap.lt_size e
  clear hs2 hit
  -- the new list, the block
  generalize hL : s2.heap.objs.size = L
  have freeL : H1 L = none := I2.hok.fresh (Nat.le_of_eq hL)
  obtain ⟨W, ⟨m0, w0⟩, turn⟩ := more L freeL
  have J0 : Inv X pins σ (upd H1 L (.lst [])) { s2 with heap := s2.heap.push { cls := .type "list", data := .seq ([] : List Value).toArray } } :=
    I2.laid (t' := s2.toks) (fun b o e => Heap.get?_push_of_some _ e) (Nat.le_of_eq hL) ⟨Nat.zero_le _, [], 0, .nil, by rw [← hL]; exact Heap.get?_push_size _ rfl⟩
  have itr0 : ({ s2 with heap := s2.heap.push { cls := .type "list", data := .seq ([] : List Value).toArray } } : Shared).heap.IsListIter it a 0 := itr.at fun o e => Heap.get?_push_of_some _ e
  have off0 : FpOk X pins (upd H1 L (.lst [])) it := ⟨(upd_ne (by rw [← hL]; exact Nat.ne_of_lt itS)).trans off.1, off.2⟩
  refine wpAny_newObj_type (newEnv_comp ?_) (Nat.zero_le sizeLine)
  rw [hL]
  have itS0 : it < ({ s2 with heap := s2.heap.push { cls := .type "list", data := .seq ([] : List Value).toArray } } : Shared).heap.objs.size := Nat.lt_of_lt_of_le itS (by show _ ≤ (s2.heap.push _).objs.size; rw [Heap.size_push]; exact Nat.le_succ _)
  generalize hs3 : ({ s2 with heap := s2.heap.push { cls := .type "list", data := .seq ([] : List Value).toArray } } : Shared) = s3 at J0 itr0 itS0
  have one : ∀ b ∈ [it], b = it := fun b m => List.mem_singleton.mp m
  have okB : ∀ b ∈ [it], FpOk X pins (upd H1 L (.lst [])) b ∧ b < s3.heap.objs.size := fun b m => by
    rw [one b m]
    exact ⟨off0, itS0⟩
  have B0 := block_start J0 bo nd okB
  have hb := hotB_blk (scope := scope) (ce := compEnvC scope (cellsFrom (s3.heap.objs.size + 1) scope.names (cloFrom X.env.cells scope.names [])) s3.heap.objs.size X.env) (fp := [it]) hot J0 fun b m => (okB b m).1
  have gT := tgt s3 (upd H1 L (.lst [])) s3.heap.objs.size (cellsFrom (s3.heap.objs.size + 1) scope.names (cloFrom X.env.cells scope.names [])) [it] hb
  have gC := tst s3 (upd H1 L (.lst [])) s3.heap.objs.size (cellsFrom (s3.heap.objs.size + 1) scope.names (cloFrom X.env.cells scope.names [])) [it]
  have gI := itm s3 (upd H1 L (.lst [])) s3.heap.objs.size (cellsFrom (s3.heap.objs.size + 1) scope.names (cloFrom X.env.cells scope.names [])) [it]
  change codeAny _ _ (.compStart (.ListComp elt [⟨tg, l, ifs, 0⟩] scope pos) 0 (.ref it) (.ref L) (compEnvC scope (cellsFrom (s3.heap.objs.size + 1) scope.names (cloFrom X.env.cells scope.names [])) s3.heap.objs.size X.env)) (compPost (model X.prog X.w) X.A X.xe none (EP X pins σ Q) (.ref L) s3.heap.objs.size) { s3 with heap := pushCells (s3.heap.push { cls := .type "dict", data := .dict #[] }) scope.names }
  have loc0 : (compEnvC scope (cellsFrom (s3.heap.objs.size + 1) scope.names (cloFrom X.env.cells scope.names [])) s3.heap.objs.size X.env).locals = s3.heap.objs.size := rfl
  generalize compEnvC scope (cellsFrom (s3.heap.objs.size + 1) scope.names (cloFrom X.env.cells scope.names [])) s3.heap.objs.size X.env = ce at B0 hb gT gC gI loc0 ⊢
  have itr4 : (pushCells (s3.heap.push { cls := .type "dict", data := .dict #[] }) scope.names).IsListIter it a 0 := itr0.at fun o e => pushCells_keeps _ _ _ _ (Heap.get?_push_of_some _ e)
  generalize hs4 : ({ s3 with heap := pushCells (s3.heap.push { cls := .type "dict", data := .dict #[] }) scope.names } : Shared) = s4 at B0 ⊢
  have itr4' : s4.heap.IsListIter it a 0 := by rw [← hs4]; exact itr4
  have out := off0.1
  generalize upd H1 L (.lst []) = H3 at *
  have stays : ∀ {τ : L2.St} {G : Hp} {t : Shared}, Inv (X.blk s3 H3 scope ce [it]) [] τ G t → G it = none → FpOk (X.blk s3 H3 scope ce [it]) [] G it := fun {τ G t} J e =>
    have m : it ∈ (X.blk s3 H3 scope ce [it]).ex := List.mem_singleton.mpr rfl
    ⟨e, (J.ok.exf it m).1, J.ok.exfs it m, .inl m, (J.ok.exf it m).2, fun p hp => by cases hp⟩
  have loop : codeAny (model X.prog X.w) X.A (.compLoop (.ListComp elt [⟨tg, l, ifs, 0⟩] scope pos) 0 (.ref it) (.ref L) ce) (compPost (model X.prog X.w) X.A X.xe none (EP X pins σ Q) (.ref L) s3.heap.objs.size) s4 := by
    refine compLoop_any (fun n t => ∃ i G, Inv (X.blk s3 H3 scope ce [it]) [] (wipe σ (own.map (·.2))) G t ∧ t.heap.IsListIter it a i ∧ G it = none ∧ W i n G) ?_ m0 ⟨0, H3, B0, itr4', out, w0⟩
    rintro n t ⟨i, G, J, ji, jn, jw⟩
    obtain ⟨f0, f1, f2, f3, f4, f5⟩ := stays J jn
    rcases turn i n G jw with ⟨⟨ys, yq, yl⟩, done⟩ | ⟨⟨ys, y, yq, ye⟩, Nx, nx, step⟩
    · obtain ⟨its, rv, pl, _⟩ := J.list yq
      obtain ⟨x1, hx⟩ := hb.at J
      have le := rv.length
      refine K00W.list_end_hot hx ji pl.isList (by simp; omega) fun h' ext => ?_
      have J1 : Inv (X.blk s3 H3 scope ce [it]) [] (wipe σ (own.map (·.2))) G { t with heap := h' } := J.turned (t' := t.toks) (fun b o ne e => ext b o ne e) f0 f1 f3 f4 f5
      have J2 : Inv X pins σ G { t with heap := h' } := J0.call' (ch := [it]) J1.os J1.base J1.hok J1.bare fun b m => by
        rw [one b m]
        exact ⟨off0.2.2.2.1, off0.2.1, off0.2.2.2.2.1, off0.2.2.2.2.2⟩
      have nC : G s3.heap.objs.size = none := by
        rw [← loc0]
        exact J1.free
      obtain ⟨mm, ns, _⟩ := J1.loc
      refine ⟨mm, by rw [← loc0]; exact ns, fun h2 sb => ?_⟩
      obtain ⟨d0, d1, d2, d3, d4, d5⟩ := J0.fpOk (Nat.le_refl _) nC
      exact ⟨.ref L, G, J2.turned (t' := t.toks) (fun b o ne e => (sb.2 b ne).trans e) d0 d1 d3 d4 d5, rfl, done⟩
    · obtain ⟨its, rv, pl, _⟩ := J.list yq
      obtain ⟨u, hu, ru⟩ := rv.get ye
      refine wpAny_pyNext_list_item ji pl.isList (x := u) (by simpa using hu) fun h' ji' sb => ?_
      have J1 : Inv (X.blk s3 H3 scope ce [it]) [] (wipe σ (own.map (·.2))) G { t with heap := h' } := J.turned (t' := t.toks) (fun b o ne e => (sb.2 b ne).trans e) f0 f1 f3 f4 f5
      obtain ⟨oi, ei, ci, di⟩ := id ji'
      refine go_of (s := { t with heap := h' }) ei ci di (by decide) ?_
      have J1p := J1.pinned (fp := [it]) (fun b m => by rw [one b m]; exact stays J1 jn) (fun b m => by rw [one b m]; exact ⟨oi, ei, fun v z => by rw [di] at z; cases z⟩)
      have st := step y G ⟨rfl, fun zs zq => by rw [J.list_inj zq yq]; exact ye⟩
      refine thnF (gT.run _ _ _ G y u _ J1p ru st) fun _ s8 ⟨σ8, H8, I8, hw8, q8⟩ => ?_
      refine thnF (gC.run _ s8 σ8 H8 _ I8 q8) fun b s9 ⟨H9, I9, q9⟩ => ?_
      have again : ∀ {r : Shared} {G' : Hp}, Inv (X.blk s3 H3 scope ce [it]) ([] ++ pinsAt [it] h') σ8 G' r → Nx G' → ∃ m, m < n ∧ ∃ i G, Inv (X.blk s3 H3 scope ce [it]) [] (wipe σ (own.map (·.2))) G r ∧ r.heap.IsListIter it a i ∧ G it = none ∧ W i m G := fun {r G'} R x => by
        obtain ⟨m', lt, w'⟩ := nx G' x
        have pi := R.pin (it, oi) (List.mem_append_right _ (List.mem_append_right _ (mem_pinsAt (List.mem_singleton.mpr rfl) ei)))
        have same : (wipe σ (own.map (·.2))).length = σ8.length := by rw [← hw8, wipe_length]
        refine ⟨m', lt, i + 1, G', (R.unpinned (pins := [])).weak same (fun j v e => ?_), ji'.at fun o e => ?_, pi.2.1, w'⟩
        · rw [← hw8] at e
          exact (wipe_some e).1
        · rw [ei] at e
          cases e
          exact pi.1
      cases b with
      | false =>
        rw [if_neg (by decide)] at q9 ⊢
        exact again I9 q9
      | true =>
        rw [if_pos rfl] at q9 ⊢
        refine thnF (gI.run _ s9 σ8 H9 _ I9 q9) fun z s10 ⟨yv, H10, I10, r10, acc, a1, a2, a3⟩ => ?_
        exact app_ok (X := X.blk s3 H3 scope ce [it]) I10 a1 a2 r10 fun s11 I11 => again I11 a3
  exact codeAny_compStart_list loop (wpAny_pyIter_listiter itr4' loop)
end
end K00

/-! # except (A, B, ..) as e -/
namespace K00W
open PySem PySem.Spec PyProof.Rows PySem.W
section
variable {M : Model} {K : Frag}
inductive ExA (K : Frag) (cls : PySem.Value) : List PySem.Value → Bool → Prop
  | nil : ExA K cls [] false
  | cons {c : PySem.Value} {b d : Bool} {r : List PySem.Value} : exmOne K cls c = some b → ExA K cls r d → ExA K cls (c :: r) (b || d)
theorem exm_tupN {cs : List PySem.Value} {cls : PySem.Value} {tp e : Addr} {b : Bool} {h : Heap} (X : K.In h) (LT : Looks M h (typeOf (.ref e)) cls) (hp : h.get? tp = some { cls := .type "tuple", data := .seq cs.toArray }) (hx : ExA K cls cs b) :
    Looks M h (excMatches (.ref e) (.ref tp)) b := by
  intro A Q E s kp q
  have tt : Looks M h (isInstance (.ref tp) (.type "tuple")) true := ((Looks.ld hp).andThen .now).andThen (Looks.of_pure isSubtype_tuple_tuple)
  have tt1 := tt.keeps kp
  have LT1 := LT.keeps kp
  have hp1 := kp _ _ hp
  unfold excMatches
  refine wpAny_bind (tt1.here ?_)
  dsimp only
  rw [if_pos rfl]
  refine wpAny_bind (wpAny_seqItems hp1 rfl (wpAny_bind (wpAny_pure ?_)))
  dsimp only [Option.getD_some, Option.getD]
  have first_ : ∀ (l : List PySem.Value) (b : Bool), ExA K cls l b → ∀ (Q' : PUnit → Shared → Prop), Q' PUnit.unit s →
      wpAny M A (forIn l PUnit.unit fun c (_ : PUnit) => do
        let a ← isExcClass c
        if (!a) = true then do
          rule "try.except-non-exception-class"
          raiseErrorWords "TypeError" "catching classes that do not inherit from BaseException is not allowed"
          pure (ForInStep.yield PUnit.unit)
        else pure (ForInStep.yield PUnit.unit)) Q' E s := by
    intro l b hl
    induction hl with
    | nil =>
      intro Q' z
      exact wpAny_pure z
    | @cons c b d r he hr ih =>
      intro Q' z
      obtain ⟨e1, _⟩ := exm_cls (M := M) X he
      rw [List.forIn_cons]
      refine wpAny_bind (wpAny_bind ((e1.keeps kp).here ?_))
      rw [if_neg (by decide)]
      exact wpAny_pure (ih Q' z)
  refine wpAny_bind (first_ cs b hx _ ?_)
  refine wpAny_bind (LT1.here ?_)
  have second : ∀ (l : List PySem.Value) (b : Bool), ExA K cls l b → ∀ (Q' : Option Bool × Unit → Shared → Prop), Q' (if b = true then some true else none, ()) s →
      wpAny M A (forIn l ((none, ()) : Option Bool × Unit) fun c (_ : Option Bool × Unit) => do
        let a ← isSubtype cls c
        if a = true then pure (ForInStep.done (some true, ())) else pure (ForInStep.yield (none, ()))) Q' E s := by
    intro l b hl
    induction hl with
    | nil =>
      intro Q' z
      exact wpAny_pure z
    | @cons c b d r he hr ih =>
      intro Q' z
      obtain ⟨_, S1⟩ := exm_cls (M := M) X he
      rw [List.forIn_cons]
      refine wpAny_bind (wpAny_bind ((S1.keeps kp).here ?_))
      cases b with
      | true =>
        rw [if_pos rfl]
        exact wpAny_pure (wpAny_pure z)
      | false =>
        rw [if_neg (by decide)]
        exact wpAny_pure (ih Q' (by simpa using z))
  refine wpAny_bind (second cs b hx _ ?_)
  cases b with
  | true => exact wpAny_pure q
  | false => exact wpAny_pure q
end
end K00W

/-! # try with named clauses, over one class or several; the context of what is caught is None -/
namespace K00
open PySem PySem.Spec PyProof.Rows L2
theorem sp_map {X Y : Cx} {ps qs : List (Addr × Obj)} {D D' : Ends} {f : Flow} {s : Shared} (g : ∀ σ H, Inv X ps σ H s → ∃ τ, Inv Y qs τ H s ∧ (D.nx σ H → D'.nx τ H) ∧ (D.bk σ H → D'.bk τ H) ∧ (D.ct σ H → D'.ct τ H)) (gr : ∀ σ H v, Inv X ps σ H s → D.rt v H → (∃ τ, Inv Y qs τ H s) ∧ D'.rt v H)
    (h : SP X ps D f s) : SP Y qs D' f s := by
  cases f with
  | next => obtain ⟨σ, H, I, q⟩ := h; obtain ⟨τ, J, a, _, _⟩ := g σ H I; exact ⟨τ, H, J, a q⟩
  | brk => obtain ⟨σ, H, I, q⟩ := h; obtain ⟨τ, J, _, a, _⟩ := g σ H I; exact ⟨τ, H, J, a q⟩
  | cont => obtain ⟨σ, H, I, q⟩ := h; obtain ⟨τ, J, _, _, a⟩ := g σ H I; exact ⟨τ, H, J, a q⟩
  | ret u => obtain ⟨v, σ, H, I, r, q⟩ := h; obtain ⟨⟨τ, J⟩, a⟩ := gr σ H v I q; exact ⟨v, τ, H, J, r, a⟩
/-- what a clause asks of the caught exception's class -/
structure Asks (X : Cx) (e : Expr) (ask : Value → Bool → Prop) : Prop where
  run : ∀ (a : Addr) (oA : Obj) (pn : List (Addr × Obj)) (σ : L2.St) (H : Hp) (s : Shared) (b : Bool), Inv (X.suite a ((a, oA) :: pn)) [] σ H s → ask oA.cls b → ∀ (Q : Bool → Shared → Prop) (E : Value → Shared → Prop),
    (∀ h', (∀ b o, s.heap.get? b = some o → h'.get? b = some o) → Q b { s with heap := h' }) →
    wpAny (model X.prog X.w) (X.A.mark (some (.ref a))) (eval e X.env) (fun t s1 => wpAny (model X.prog X.w) (X.A.mark (some (.ref a))) (excMatches (.ref a) t) Q E s1) E s
section
variable {X : Cx}
theorem name_at {a : Addr} {pn : List (Addr × Obj)} {σ : L2.St} {H : Hp} {s : Shared} {x : Str} {c : Value} {p : Pos} {Q : Value → Shared → Prop} {E : Value → Shared → Prop} (nm : Names X x c) (S : Inv (X.suite a pn) [] σ H s) (q : Q c s) :
    wpAny (model X.prog X.w) (X.A.mark (some (.ref a))) (eval (.Name x p) X.env) Q E s := by
  obtain ⟨hg, hdbg, hm | ⟨hm, hv, hnn⟩⟩ := nm
  · exact ld_glob (X := X.suite a pn) S hg hm q hdbg
  · exact ld_blt (X := X.suite a pn) S hg hm hv q hnn hdbg
theorem asks_one {x : Str} {c : Value} {p : Pos} (nm : Names X x c) : Asks X (.Name x p) (fun cls b => PySem.W.exmOne X.K cls c = some b) := by
  constructor
  intro a oA pn σ H s b S eb Q E q
  obtain ⟨ga, _⟩ := S.pin (a, oA) (List.mem_append_left _ List.mem_cons_self)
  have typ : PySem.W.Looks (model X.prog X.w) s.heap (typeOf (.ref a)) oA.cls := fun _ _ _ _ k z => wpAny_typeOf_ref (k _ _ ga) z
  have LM := PySem.W.exm_one (M := model X.prog X.w) S.kIn typ eb
  exact name_at nm S (LM.here (q s.heap fun _ _ e => e))
inductive AllN (X : Cx) : List Expr → List Value → Prop
  | nil : AllN X [] []
  | cons {x : Str} {c : Value} {p : Pos} {es : List Expr} {cs : List Value} : Names X x c → AllN X es cs → AllN X (.Name x p :: es) (c :: cs)
theorem asks_tup {es : List Expr} {k : _} {p : Pos} {cs : List Value} (nm : AllN X es cs) (sz : cs.length ≤ sizeLine) : Asks X (.Tuple es k p) (fun cls b => K00W.ExA X.K cls cs b) := by
  constructor
  intro a oA pn σ H s b S eb Q E q
  obtain ⟨ga, _⟩ := S.pin (a, oA) (List.mem_append_left _ List.mem_cons_self)
  have go : ∀ {es : List Expr} {cs : List Value}, AllN X es cs → ∀ (Q' : List Value → Shared → Prop), Q' cs s → wpAny (model X.prog X.w) (X.A.mark (some (.ref a))) (spliced (backTo p (starEach es X.env))) Q' E s := by
    intro es cs h
    induction h with
    | nil => exact fun Q' z => Calls.spliced_nil z
    | @cons x c p' es cs nm r ih =>
      intro Q' z
      show wpAny _ _ (spliced ((false, eval (.Name x p') X.env) :: backTo p (starEach es X.env))) _ _ s
      exact Calls.spliced_cons (name_at nm S (ih _ z))
  refine wpAny_Tuple_spliced (go nm _ ⟨sz, ?_⟩)
  have keep : ∀ b o, s.heap.get? b = some o → (s.heap.push { cls := .type "tuple", data := .seq cs.toArray }).get? b = some o := fun b o e => Heap.get?_push_of_some _ e
  have typ : PySem.W.Looks (model X.prog X.w) (s.heap.push { cls := .type "tuple", data := .seq cs.toArray }) (typeOf (.ref a)) oA.cls := fun _ _ _ _ k z => wpAny_typeOf_ref (k _ _ (keep _ _ ga)) z
  exact (K00W.exm_tupN (M := model X.prog X.w) (S.kIn.keeps keep) typ (Heap.get?_push_size _ rfl) eb).here (q _ keep)
/-- a clause: what it asks, the name's slot, the suite -/
abbrev Cl := (Value → Bool → Prop) × Nat × (Addr → Value → Option Addr → TS)
def lose (i : Nat) (D : Ends) : Ends := { nx := fun σ H => D.nx (σ.set i none) H, rt := D.rt, bk := fun σ H => D.bk (σ.set i none) H, ct := fun σ H => D.ct (σ.set i none) H }
def wMix (W0 : WX) (D : Ends) : List Cl → WX
  | [] => W0
  | (ask, i, ts) :: r => fun cls d σ H => ∃ b, ask cls b ∧ (b = true → ∀ a, H a = none → ts a cls d (lose i D) (σ.set i (some (.ref a))) H) ∧ (b = false → wMix W0 D r cls d σ H)
inductive Mix (X : Cx) : List ExceptHandler → List Cl → Prop
  | nil : Mix X [] []
  | named {e : Expr} {n : Str} {i : Nat} {ask : Value → Bool → Prop} {ts : Addr → Value → Option Addr → TS} {b : Stmt} {su : List Stmt} {q : Pos} {hs : List ExceptHandler} {l : List Cl} (at_ : X.N[i]? = some n) (lo : X.env.kindOf n = some .local) (nm : Asks X e ask)
      (run : ∀ (a : Addr) (oe : Obj) (cls : Value) (d : Option Addr) (pn : List (Addr × Obj)), L2N.Zn cls d oe → (∃ vs, oe.data = .fields vs) → PSs (X.suite a ((a, oe) :: pn)) (b :: su) (ts a cls d)) (r : Mix X hs l) :
      Mix X (.ExceptHandler (some e) (some n) (b :: su) q :: hs) ((ask, i, ts) :: l)
theorem fly_keep {B h h' : Heap} {l : List Env} {a : Addr} {Z : Obj → Prop} (k : ∀ b o, h.get? b = some o → h'.get? b = some o) (f : HandSPX.FlyingZ B l a Z h) : HandSPX.FlyingZ B l a Z h' := by
  obtain ⟨f1, f2, f3, oe, vs, T, oT, ts, h1, h2, h3, h4, h5, h6, h7, h8, h9⟩ := f
  exact ⟨fun b o e => k _ _ (f1 b o e), f2, Heap.FunFrames.of_keeps (fun b o e _ => ⟨o, k _ _ e, rfl⟩) f3, oe, vs, T, oT, ts, k _ _ h1, h2, h3, h4, h5, h6, k _ _ h7, h8, h9⟩
end
section
variable {X : Cx} {body : List Stmt} {h0 : ExceptHandler} {hs : List ExceptHandler} {l : List Cl} {pos : Pos} {tb : WX → TS} {W0 : WX}
theorem ps_try_mix (st : X.stack = X.env :: X.outer) (fr : X.env.frame = some X.env.locals) (nd : X.N.Nodup) (tk : L2N.Takes X W0)
    (bd : ∀ (W : WX) (pn : List (Addr × Obj)) (xe : Value → Shared → Prop), L2N.Takes (X.tr pn xe) W → PassesOwn (model X.prog X.w) X.A X.env xe → PSs (X.tr pn xe) body (tb W))
    (mx : Mix X (h0 :: hs) l) : PS X (.Try body (h0 :: hs) [] [] pos) (fun D σ H => tb (wMix W0 D l) D σ H) := by
  refine ⟨fun pins s σ H D I h => wpAny_Try_except ?_⟩
  have ok := I.ok
  have frs_ : X.A.frames = some (X.env :: X.outer) := by rw [ok.frames, st]
  refine wpAny_mono ((bd (wMix W0 D l) (X.pn ++ pins) (fun e s1 => wpAny (model X.prog X.w) X.A (noteFrame e X.env) (fun _ s2 => wpAny (model X.prog X.w) X.A (setFlight e none) (fun _ s3 =>
    wpAny (model X.prog X.w) X.A (handleBy e X.env (h0 :: hs)) (SP X pins D) X.xe s3) X.xe s2) X.xe s1) (fun u s' xx => ?_) PassesOwn.looking).run [] s σ H D (I.toTry _) h)
    (fun f s1 ends => ?_) (fun e s1 he => he)
  · obtain ⟨a, B, sI, pins', σ', H', cls, d, rfl, J', nb, up, sky, na, os, ag, w⟩ := xx
    have J : Inv X pins σ' H' sI := J'.ofTry ok
    rw [st] at sky
    refine L2N.Sky.land L2N.Zn.steady frs_ fr sky fun hA flA upA => ?_
    have go : ∀ {hs' : List ExceptHandler} {l' : List Cl}, Mix X hs' l' → ∀ (hA : Heap), HandSPX.FlyingZ B (X.env :: X.outer) a (L2N.Zn cls d) hA → s'.heap.UpToSlots hA → wMix W0 D l' cls d σ' H' → wpAny (model X.prog X.w) X.A (handleBy (.ref a) X.env hs') (SP X pins D) X.xe { s' with heap := hA } := by
      intro hs' l' hk
      induction hk with
      | nil =>
        intro hA flA upA w
        obtain ⟨k1, k2, k3, oe, vs, T, oT, ts', he, hz, hd, e1, hr⟩ := id flA
        refine wpAny_handleBy_nil ?_
        unfold PySem.passOn
        refine wpAny_bind (wpAny_field he hd e1 ?_)
        rw [if_neg (by simp)]
        have fin : wpAny (model X.prog X.w) X.A (setFlight (.ref a) X.env.frame) (fun _ s4 => wpAny (model X.prog X.w) X.A (throw (.ref a) : Sem Flow) (SP X pins D) X.xe s4) X.xe { s' with heap := hA } := by
          rw [fr]
          exact HandSPX.setFlight_upZ flA fun hB hhB upB => wpAny_throw (tk _ _ ⟨a, B, sI, pins, σ', H', cls, d, rfl, J, nb, (up.trans upA).trans upB, .inr (.inr (by rw [st]; exact hhB)), na, os, ag, w⟩)
        first | exact wpAny_bind fin | exact wpAny_bind (wpAny_pure (wpAny_bind fin))
      | @named e n i ask ts b su q hs2 l2 at_ lo nm run r ih =>
        intro hA flA upA w
        have JA : Inv X pins σ' H' { s' with heap := hA } := J.landed nb flA.1 (up.trans upA) os ag
        obtain ⟨oA, vA, eA, zA, dA⟩ : ∃ oe vs, hA.get? a = some oe ∧ L2N.Zn cls d oe ∧ oe.data = .fields vs := flA.there
        have off : a ∉ frs (X.env :: X.outer) := fun hm => by
          obtain ⟨_, o', e', no⟩ := (flA.2.2.1).mem hm
          rw [eA] at e'
          cases e'
          exact no _ dA
        have nL : a ≠ X.env.locals := fun z => off (List.mem_filterMap.mpr ⟨X.env, List.mem_cons_self, by rw [fr, z]⟩)
        have nF : a ∉ X.fs := fun hm => (List.mem_filterMap.mp hm).elim fun e he => off (List.mem_filterMap.mpr ⟨e, List.mem_cons_of_mem _ he.1, he.2⟩)
        have SA := JA.suite eA dA na nL nF
        obtain ⟨k, ek, yes, no⟩ := w
        refine wpAny_handleBy_cons (codeAny_handlers_test (nm.run a oA (X.pn ++ pins) σ' H' _ k SA (by rw [zA.1]; exact ek) _ _ fun hP kP => ?_)) (by intro q; cases q)
        have flP : HandSPX.FlyingZ B (X.env :: X.outer) a (L2N.Zn cls d) hP := fly_keep kP flA
        have upP : s'.heap.UpToSlots hP := upA.trans (Heap.UpToSlots.of_keeps kP)
        cases k with
        | false => exact ih hP flP upP (no rfl)
        | true =>
          refine codeAny_handlers_suite_as (HandSPX.lands_againZ flP fun hB flB upB => ?_)
          have JB : Inv X pins σ' H' { s' with heap := hB } := J.landed nb flB.1 ((up.trans upP).trans upB) os ag
          obtain ⟨oB, vB, eB, zB, dB⟩ : ∃ oe vs, hB.get? a = some oe ∧ L2N.Zn cls d oe ∧ oe.data = .fields vs := flB.there
          refine store_ok (X := X.suite a ((a, oB) :: (X.pn ++ pins))) (v := .ref a) (JB.suite eB dB na nL nF) nd at_ (.inl lo) rfl (fun s5 S5 => ?_) (.inr lo)
          refine wpAny_mono ((run a oB cls d (X.pn ++ pins) zB ⟨_, dB⟩).run [] s5 _ H' _ S5 (yes rfl a na)) (fun f s6 e6 => ?_) (fun _ _ z => False.elim z)
          have done : ∀ {σ6 : L2.St} {H6 : Hp} {Q : Shared → Prop}, Inv (X.suite a ((a, oB) :: (X.pn ++ pins))) [] σ6 H6 s6 → (∀ s7, Inv X pins (σ6.set i none) H6 s7 → Q s7) →
              wpAny (model X.prog X.w) X.A (do bindName X.env n .none; unbindBehindTheSuite X.env n q) (fun _ s7 => Q s7) X.xe s6 := fun {σ6 H6 Q} S6 hq => gone_ok (S6.unsuite ok) nd at_ lo hq
          cases f with
          | next => obtain ⟨τ, G, S6, q6⟩ := e6; exact done S6 fun s7 J7 => ⟨_, _, J7, q6⟩
          | brk => obtain ⟨τ, G, S6, q6⟩ := e6; exact done S6 fun s7 J7 => ⟨_, _, J7, q6⟩
          | cont => obtain ⟨τ, G, S6, q6⟩ := e6; exact done S6 fun s7 J7 => ⟨_, _, J7, q6⟩
          | ret u => obtain ⟨v6, τ, G, S6, r6, q6⟩ := e6; exact done S6 fun s7 J7 => ⟨_, _, _, J7, r6, q6⟩
    exact go mx hA flA upA w
  · have z := sp_map (Y := X) (qs := pins) (D' := D) (fun σ H I => ⟨σ, I.ofTry ok, id, id, id⟩) (fun σ H v I q => ⟨⟨σ, I.ofTry ok⟩, q⟩) ends
    cases f with
    | next => exact wpAny_execs_nil z
    | brk => exact z
    | cont => exact z
    | ret u => exact z
end
end K00

/-! # the caught error in the hands of defs -/
namespace K00W
open PySem PySem.Spec PySem.Calls PyProof.Rows PySem.W
section
variable {prog : Program} {w : World} {A : Around} {E : PySem.Value → Shared → Prop} {s : Shared} {K : Frag} {x D : Addr} {ox : Obj} {od : Option Obj}
abbrev bga : PySem.Value := .builtin "BaseException.__getattribute__"
/-- error.__class__, the error with a dict or without -/
theorem class_of (C : L2.ExcC K D) (X : K.In s.heap) (I : InstAt s.heap x ox D od) {Q : Option PySem.Value → Shared → Prop} (q : Q (some (.ref D)) { s with toks := s.toks + 1 }) : wpAny (model prog w) A (getAttr? (.ref x) "__class__") Q E s := by
  have ci : (clsIn K D).isSome = true := by
    obtain ⟨cd, e, _⟩ := any_some C.hd
    rw [e]
    rfl
  have fo : findObj K D od "__class__" = some (.bind (.builtin "getset_descriptor.__get__") (.builtin "object.__class__")) := by
    cases od with
    | none => exact findObj_dataN ci C.ha C.hn C.ht
    | some o => exact findObj_data ci C.ha C.hn C.ht
  obtain ⟨hp, g, d, t, os⟩ := s
  have ty := I.type (M := model prog w)
  have lg := looks_findIn (M := model prog w) X C.hg
  have lk := looks_findIn (M := model prog w) X C.hk
  have lf := looks_find (M := model prog w) X I fo
  have isE : Looks (model prog w) hp (isInstance (.ref x) (.type "BaseException")) true := ty.andThen (looks_subIn X C.hs)
  have off : (bga == PySem.Value.builtin "object.__getattribute__") = false := by decide +kernel
  have off1 : (onTheHeap (PySem.Value.ref D) && bga == PySem.Value.builtin "object.__getattribute__") = false := by rw [off]; rfl
  have off0 : (false && onTheHeap bga) = false := rfl
  unfold getAttr? getAttrBy? getAttrBy
  apply wpAny_bind
  apply wpAny_mkText
  apply wpAny_bind
  apply wpAny_attempt
  apply wpAny_holding
  apply wpAny_bind
  refine ty.at (wpAny_bind (lg.at ?_))
  show wpAny _ _ (if (onTheHeap (PySem.Value.ref D) && bga == PySem.Value.builtin "object.__getattribute__") = true then _ else _) _ _ _
  rw [off1, if_neg Bool.false_ne_true]
  unfold getAttrByItsOwn hookBefore
  apply wpAny_bind
  rw [if_pos (show onTheHeap (PySem.Value.ref D) = true from rfl)]
  refine lk.at ?_
  apply wpAny_bind
  apply wpAny_attempt
  apply wpAny_holding
  unfold callGetattribute
  rw [off0, if_neg Bool.false_ne_true]
  unfold boundAndCalled
  rw [PySem.F.excAttr_ValueError.ga.bind (.ref x)]
  apply wpAny_bind
  apply wpAny_pure
  show wpAny _ _ (call bga [.ref x, .str "__class__" t]) _ _ _
  apply wpAny_call
  apply codeAny_call_builtin PySem.F.excAttr_ValueError.ga.plain PySem.F.entry_bexc_ga
  apply @check_slot (model prog w) _ _ ⟨hp, g, d, t + 1, os⟩ "BaseException.__getattribute__" "BaseException" "__getattribute__" (.ref x) [.str "__class__" t] [] _ (by decide +kernel) (by decide +kernel) isE (PySem.F.args_bexc_ga (.ref x) (.str "__class__" t))
  unfold Builtin.«object.__getattribute__»
  refine wpAny_bind (wpAny_of_eq (a := ((PySem.Value.ref x : PySem.Value), [PySem.Value.str "__class__" t])) (by first | rfl | (simp only [slotArgs]; rfl)) ?_)
  apply wpAny_bind
  apply wpAny_pure
  apply wpAny_bind
  refine ty.at (wpAny_bind (lf.at ?_))
  show wpAny _ _ (holding [PySem.Value.builtin "object.__class__"] (call (.builtin "getset_descriptor.__get__") [.builtin "object.__class__", .ref x, .ref D]) >>= ret) _ _ _
  apply wpAny_bind
  apply wpAny_holding
  apply wpAny_call
  apply class_get (s := ⟨hp, g, d, t + 1, os⟩) (ox := ox) (od := od) X I C.hm
  apply wpAny_pure
  show wpAny _ _ (handedOut (.ref D)) _ _ _
  rw [handedOut_of (v := .ref D) rfl]
  first
    | exact wpAny_pure (wpAny_pure q)
    | exact wpAny_pure q
    | exact wpAny_pure (wpAny_bind (wpAny_pure (wpAny_pure q)))
theorem kit_err (C : L2.ExcC K D) : KitX K (.ref x) (.ref D) (fun h => InstAt h x ox D od) := by
  have Z := handS_kitx_exc (x := x) (ox := ox) C.hg C.hk C.hs C.hd C.ha C.hn C.ht C.hm
  obtain ⟨cd, hc, _⟩ := any_some C.hd
  refine ⟨fun _ _ _ I => I.type, fun M h X _ => ?_, fun h tp dd its n sl X e => ?_, fun X I k => class_of C X I k⟩
  · unfold clsIn at hc
    split at hc
    · rename_i ho
      intro A' Q' E' s' kk z
      unfold isType loadHead
      apply wpAny_bind
      apply wpAny_loadPart (kk _ _ (X _ _ ho))
      exact wpAny_pure z
    · cases hc
  · refine Bool.eq_false_iff.mpr fun z => ?_
    obtain rfl : D = tp := PySem.Value.ref.inj (beq_iff_eq.mp z)
    unfold clsIn at hc
    split at hc
    · rename_i ho
      have y := (X _ _ ho).symm.trans e
      cases y
    · cases hc
end
end K00W
namespace K00
open PySem PySem.Spec PyProof.Rows L2
section
variable {X : Cx} {a D : Addr} {oe : Obj} {d : Option Addr}
/-- isinstance(error, c), the error pinned -/
theorem call_isP (C : ExcC X.K D) (hz : Zc (.ref D) d oe) (hf : ∃ vs, oe.data = .fields vs) (hp : (a, oe) ∈ X.pn) : CallR X (.builtin "isinstance") (fun xs H Q => ∃ (c : V) (cv : Value) (b : Bool), xs = [.ref a, c] ∧ (∀ u, RelV c u → u = cv) ∧ PySem.W.kitOne X.K (.ref D) cv = some b ∧
    (∀ dd, d = some dd → ∃ fs, H dd = some (.xd fs)) ∧ Q (.bl b) H) := by
  intro pins s σ H xs us Q I r h
  obtain ⟨c, cv, b, rfl, hcv, e, hd, q⟩ := h
  cases r with
  | cons rx rr =>
    cases rr with
    | cons rt rr =>
      cases rr
      cases rx
      obtain rfl := hcv _ rt
      obtain ⟨ga, _⟩ := I.pin (a, oe) (List.mem_append.mpr (.inl hp))
      obtain ⟨vs, hv⟩ := hf
      have nc : PySem.W.notCls oe = true := by
        unfold PySem.W.notCls
        rw [hv] <;> rfl
      obtain ⟨od, J⟩ : ∃ od, PySem.W.InstAt s.heap a oe D od := by
        cases d with
        | none => exact ⟨none, ga, hz.1, nc, by rw [hz.2]; trivial⟩
        | some dd =>
          obtain ⟨fs, ed⟩ := hd dd rfl
          obtain ⟨mA, hns, _⟩ := (show ObjOk X.prog X.w H s.heap dd (.xd fs) from I.hok dd _ ed)
          obtain ⟨od, ho, _⟩ := lookIn_ns hns
          exact ⟨some od, ga, hz.1, nc, by rw [hz.2]; exact ho⟩
      exact PySem.W.kia_one (K00W.kit_err C) I.kIn J e (fun z => nomatch z) fun tk => ⟨.bl b, H, I.kept (t' := tk) fun _ _ z => z, rfl, q⟩
/-- error.field, the error pinned -/
theorem pe_fldP {e : Expr} {te : TE} {pos : Pos} {n : Str} {cls : Value} (T : XfC X.K D) (hno : PySem.W.findIn X.K (.ref D) n = some none) (hz : Zc cls d oe) (hf : ∃ vs, oe.data = .fields vs) (hp : (a, oe) ∈ X.pn) (he : PE X e te)
    (hb : attributeBase e n X.env (eval e X.env) = eval e X.env := by rfl) : PE X (.Attribute e n pos) (tXf a cls d D n te) := by
  constructor
  intro pins s σ H Q I h
  refine attr_of hb (thn (he.run pins s σ H _ I h) fun u s1 hh => ?_)
  obtain ⟨x, H1, I1, rx, rfl, rfl, dd, fs, v, rfl, ea, l, q⟩ := hh
  obtain rfl : u = Value.ref a := rx
  obtain ⟨ga, _⟩ := I1.pin (a, oe) (List.mem_append.mpr (.inl hp))
  obtain ⟨vs, hv⟩ := hf
  obtain ⟨mA, hns, hr⟩ := (show ObjOk X.prog X.w H1 s1.heap dd (.xd fs) from I1.hok dd _ ea)
  obtain ⟨od, ho, hl⟩ := lookIn_ns hns
  obtain ⟨u, hu, ru⟩ := RelO.some_of (v := v) (o := mA n) (by rw [← l]; exact hr n)
  have nc : PySem.W.notCls oe = true := by
    unfold PySem.W.notCls
    rw [hv] <;> rfl
  have J : PySem.W.InstAt s1.heap a oe D (some od) := ⟨ga, hz.1, nc, by rw [hz.2]; exact ho⟩
  exact HandSPX.exc_get I1.kIn J T.ga T.gg T.exC (PySem.W.findObj_own T.hdC hno rfl (by rw [hl, hu])) (handed_of ru) ⟨v, H1, I1.tok _, ru, q⟩
end
/-! ### defs of one argument, the handled error -/
structure FnP (P : Program) (w : World) (K : PySem.W.Frag) (mg : Str → Option Value) (base : Heap) (k : Nat) (f : Addr) (fd : FuncData) (n : Str) (sp : Addr → Value → Option Addr → Hp → VK → Prop) : Prop where
  run : ∀ (A : Around) (out : List Env) (s : Shared) (H : Hp) (ar : Args) (p : Addr × Obj) (cls : Value) (d : Option Addr) (Q : VK), L2H.RoomH k A → L2H.Hot1 A p → L2H.PinOk out H s p → L2N.Zn cls d p.2 → Env0 P w K mg base A out s H →
    BindsTo s fd ar [(n, .ref p.1)] → sp p.1 cls d H Q → codeAny (model P w) A (.call (.ref f) ar) (CR CX0 out P w H s Q E0) s
theorem FnP.of {P : Program} {w : World} {K : PySem.W.Frag} {mg : Str → Option Value} {base : Heap} {k : Nat} {x qual n : Str} {st : Stmt} {f : Addr} {fd : FuncData} {N : List Str} {sp : Addr → Value → Option Addr → Hp → VK → Prop} (F : Fun K x qual st f fd) (S : FnScope N [n] (defScope st))
    (body : ∀ (cdv : Value) (A : Around) (out : List Env) (s : Shared) (H : Hp) (p : Addr × Obj) (cls : Value) (d : Option Addr) (Q : VK), L2H.Hot1 A p → L2N.Zn cls d p.2 → L2H.RoomH k (A.deeper (envOfC qual (defScope st) s.heap.objs.size f cdv)) → sp p.1 cls d H Q →
      ∃ t, PSs (L2H.cxH CX0 P w K mg base N qual (defScope st) f cdv A out s H E0 p) (defBody st) t ∧ t { nx := fun _ H' => Q .non H', rt := Q } (L2.start N [.ref p.1]) H) : FnP P w K mg base (k + 1) f fd n sp := by
  obtain ⟨oc, od, kV, doc, pm, an, cdv, ct, osl, rfl, lk, hcd⟩ := F.ex
  constructor
  intro A out s H ar p cls d Q room hot pin hz e0 binds want
  have inK : K.In s.heap := e0.mod.kin.keeps fun b o e => (e0.bs b o e).1
  have nolim : s.heap.NoLimit := e0.mod.nolimit.keeps fun b o e => (e0.bs b o e).1
  have kinds : ∀ y ∈ [(n, Value.ref p.1)], (defScope st).names.lookup y.1 = some .local ∨ ((defScope st).names.lookup y.1 = some .cell ∧ ((cellsFrom (s.heap.objs.size + 1) (defScope st).names []).lookup y.1).isSome = true) := fun y hy => by
    obtain rfl := List.mem_singleton.mp hy
    rcases S.par n (List.mem_singleton.mpr rfl) with z | z
    · exact .inl z
    · exact .inr ⟨z, PySem.W.cellsFrom_some _ _ _ (.inl z)⟩
  refine codeAny_call_function room.depth (inK _ _ lk) rfl S.co S.gen rfl (PySem.W.codeRec_of inK hcd) (binds _ _ _ _ ?_)
  refine wpAny_newFunctionEnv_cells S.kind kinds fun env he s1 inC => ?_
  subst he
  refine ⟨nolim.keeps inC.toInCall.keep, codeAny_func ?_⟩
  obtain ⟨t, ht, hq⟩ := body cdv A out s H p cls d Q hot hz (room.deeper _) want
  have I : Inv (L2H.cxH CX0 P w K mg base N qual (defScope st) f cdv A out s H E0 p) [] (L2.start N [.ref p.1]) H s1 := L2H.inv_startH (ps := [n]) (us := [.ref p.1]) S pin e0 rfl (.cons rfl .nil) inC
  refine wpAny_mono (ht.run [] s1 _ H _ I hq) (fun fl s' hs => ?_) fun e s' hs => hs
  cases fl with
  | ret u =>
    obtain ⟨v, τ, G, J, rv, z⟩ := hs
    exact ⟨v, G, J.os, J.bare, J.base, J.hok, rv, z⟩
  | next =>
    obtain ⟨τ, G, J, z⟩ := hs
    exact ⟨V.non, G, J.os, J.bare, J.base, J.hok, rfl, z⟩
  | brk =>
    obtain ⟨_, _, _, z⟩ := hs
    exact z.elim
  | cont =>
    obtain ⟨_, _, _, z⟩ := hs
    exact z.elim
section
variable {X : Cx} {f : Addr} {fd : FuncData} {n : Str} {k : Nat} {sp : Addr → Value → Option Addr → Hp → VK → Prop}
/-- f(e), e the handled error -/
def tCallP (a : Addr) (cls : Value) (d : Option Addr) (sp : Addr → Value → Option Addr → Hp → VK → Prop) (te : TE) : TE := fun σ H Q => tCons te tNil σ H fun vs H1 => vs = [.ref a] ∧ sp a cls d H1 Q
theorem pe_callP {e : Expr} {te : TE} {x : Str} {q pos : Pos} {a : Addr} {oe : Obj} {cls : Value} {d : Option Addr} (F : FnP X.prog X.w X.K X.mg X.base k f fd n sp) (hr : L2H.RoomH k X.A) (hot : L2H.Hot1 X.A (a, oe)) (hp : (a, oe) ∈ X.pn) (hz : L2N.Zn cls d oe) (hg : Gl X x) (hm : X.mg x = some (.ref f)) (hk : PySem.W.keepIn X.K (.ref f) = true) (hb : Binds X.K fd [n] [])
    (he : PE X e te) (hdb : (x == ("__debug__" : Str)) = false := by decide) (hs : starEach (e :: []) X.env = (false, eval e X.env) :: starEach [] X.env := by rfl) (hpl : (backTo pos (starEach [] X.env)).any (·.1) = false := by rfl) :
    PE X (.Call (.Name x q) [e] [] pos) (tCallP a cls d sp te) := by
  constructor
  intro pins s σ H Q I h
  refine wpAny_Call_Name_kw (ld_glob I hg hm ?_ hdb)
  refine PySem.W.callWith_K (h₀ := X.base) I.ok.mod.kin hk (thn ((pa_cons he pa_nil hs).run pos pins s σ H (fun vs H1 => vs = [.ref a] ∧ sp a cls d H1 Q) I ?_) fun us s1 ⟨vs, H1, I1, r, e1, want⟩ => ⟨I1.kIn, ?_⟩) hs hpl
  · exact h
  · subst e1
    cases r with
    | cons r0 r1 =>
      cases r0
      cases r1
      have b := hb s1 [.ref a] I1.kIn rfl
      have P1 := I1.pin (a, oe) (List.mem_append_left _ hp)
      have po : L2H.PinOk X.stack H1 s1 (a, oe) := ⟨P1.1, P1.2.1, fun m => (List.mem_cons.mp (I1.stkSub a m)).elim P1.2.2.1 P1.2.2.2.1, P1.2.2.2.2⟩
      refine wpAny_call (codeAny_mono (F.run X.A X.stack s1 H1 ⟨[.ref a], []⟩ (a, oe) cls d Q hr hot po hz I1.env0 b want) fun r s' z => ?_)
      cases r with
      | error e => exact False.elim z
      | ok fl =>
        cases fl with
        | ret u => exact I1.after z
        | next => exact False.elim z
        | brk => exact False.elim z
        | cont => exact False.elim z
end
end K00

/-! # errors with an own __init__, over any base -/
namespace PySem
namespace F
theorem store_KeyErr : StoreFacts "KeyError" [.type "KeyError", .type "LookupError", .type "Exception", .type "BaseException", .type "object"] "object.__setattr__" "object" :=
  { mro := by kernel_rfl, slot := Slot.of (owner := "object") (n := "__setattr__") (by rw [typeLookup_type, builtinLookup_eq_fast]; kernel_rfl) (by decide +kernel) (by decide +kernel) (by decide +kernel) (by first | exact .inl (by decide +kernel) | exact .inr (by decide +kernel)) (by rw [isSubtype_type]; kernel_rfl), entry := entry_object_sa,
    kind := by decide +kernel, split := by decide +kernel, hasOwner := by decide +kernel, args := fun a b c => by unfold argsOk; kernel_rfl, passes := fun self => by kernel_rfl }
end F
namespace E6
open PySem.W PySem.Calls PyProof.Rows PySem.HandSPX
section
variable {M : Model} {A : Around} {E : PySem.Value → Shared → Prop} {hp : Heap} {g : Array GenState} {dr : Drawn} {t : Nat} {os : OsState}
variable {nm q : Str} {C N : Addr} {bs bm bmB : List PySem.Value} {hdct : Bool} {sn : List Str} {sub : List PySem.Value} {ab : Bool} {col : Option Bool} {dd : Option Addr} {k0 k1 k2 k3 k5 : Option PySem.Value} {B newId initId : String}
/-- of the class's bases: the one whose __new__ it is, no AttributeError, no NameError -/
structure Bases (B : String) (C : Addr) (bm : List PySem.Value) : Prop where
  b : (PySem.Value.ref C :: bm).contains (.type B) = true
  a : (PySem.Value.ref C :: bm).contains (.type "AttributeError") = false
  n : (PySem.Value.ref C :: bm).contains (.type "NameError") = false
theorem new_checked (F : ExcBaseFacts B newId initId bmB) (Z : Bases B C bm) {rest : List PySem.Value} {Q : Unit → Shared → Prop} (gC : hp.get? C = some (excClassObj nm q C N bs bm hdct sn sub ab col dd k0 k1 k2 k3 k5 newId)) (go : Q () ⟨hp, g, dr, t, os⟩) :
    wpAny M A (checkBuiltinCall newId ⟨.ref C :: rest, []⟩) Q E ⟨hp, g, dr, t, os⟩ := by
  have zb := Z.b
  have star := F.noStar
  simp only [checkBuiltinCall, F.newKind, F.newSplit, F.newRow]
  repeat (first | refine wpAny_loadPart_at gC ?_ | (refine wpAny_isSubtype_exc gC ?_; rw [zb]) | refine wpAny_staticBase_exc gC ?_ | refine wpAny_madeBy_exc gC ?_ | simp only [bne_self_eq_false, Bool.false_eq_true, if_false] | wp_step)
  exact go
end
section
variable {prog : Program} {w : World} {A : Around} {E : PySem.Value → Shared → Prop} {R : Result → Shared → Prop} {hp : Heap} {g : Array GenState} {dr : Drawn} {t : Nat} {os : OsState}
variable {nm q : Str} {C N : Addr} {bs bm bmB : List PySem.Value} {hdct : Bool} {sn : List Str} {sub : List PySem.Value} {ab : Bool} {col : Option Bool} {dd : Option Addr} {k0 k1 k2 k3 k5 : Option PySem.Value} {B newId initId : String}
theorem new_made (F : ExcBaseFacts B newId initId bmB) (Z : Bases B C bm) {rest : List PySem.Value} (gC : hp.get? C = some (excClassObj nm q C N bs bm hdct sn sub ab col dd k0 k1 k2 k3 k5 newId)) (sz : rest.length ≤ sizeLine)
    (go : R (.ok (.ret (.ref (hp.objs.size + 1)))) ⟨(hp.push { cls := .type "tuple", data := .seq rest.toArray }).push (excO C hp.objs.size), g, dr, t, os⟩) : codeAny (model prog w) A (.builtin newId ⟨.ref C :: rest, []⟩) R ⟨hp, g, dr, t, os⟩ := by
  have ends := F.ends
  have zb := Z.b
  have za := Z.a
  have zn := Z.n
  refine codeAny_builtinAt F.entry ?_
  unfold Builtin.«BaseException.__new__»
  refine wpAt_bind ?_
  show wpAt _ _ _ (stack >>= _) _ _ _
  refine wpAt_bind (wpAt_stack fun p below => wpAt_of_wpAny ?_)
  wp_walk
  refine wpAt_of_wpAny ?_
  rw [F.owner]
  repeat (first | with_reducible refine wpAny_madeHere_exc F.canon gC ?_ | with_reducible refine wpAny_loadPart_at gC ?_ | (with_reducible refine wpAny_isSubtype_exc gC ?_; first | rw [zb] | rw [za] | rw [zn]) | wp_step)
  show R _ _
  rw [Heap.size_push]
  exact go
theorem call_made (F : ExcBaseFacts B newId initId bmB) (Z : Bases B C bm) {rest : List PySem.Value} {fI : Addr} (gC : hp.get? C = some (excClassObj nm q C N bs bm hdct sn sub ab col dd k0 k1 k2 k3 k5 newId))
    (li : W.Looks (model prog w) hp (typeLookup (.ref C) "__init__") (some (.ref fI))) (lb : ∀ self, W.Looks (model prog w) hp (bindSpecial (.ref fI) self) (.ref fI, [self])) (sz : rest.length ≤ sizeLine)
    (go : codeAny (model prog w) (A.under (.builtin "type.__call__" ⟨.ref C :: rest, []⟩)) (.call (.ref fI) ⟨.ref (hp.objs.size + 1) :: rest, []⟩) (W.InitBack (hp.objs.size + 1) R) ⟨(hp.push (W.kdv_tup rest)).push (excO C hp.objs.size), g, dr, t, os⟩) :
    codeAny (model prog w) A (.call (.ref C) ⟨rest, []⟩) R ⟨hp, g, dr, t, os⟩ := by
  have f1 := tc_lookup
  have f2 := tc_bind (.ref C)
  have ty : (⟨hp, g, dr, t, os⟩ : Shared).TypeIs (.ref C) "type" := ⟨_, gC, rfl⟩
  refine codeAny_of_tree ?_
  show wpAny _ _ (callAny (.ref C) _) _ _ _
  repeat (any_goals (first | assumption | with_reducible refine wpAny_loadPart_at gC ?_ | wp_step))
  refine ⟨rfl, ?_⟩
  refine codeAny_call_builtin_at (Code.quiet_builtin _ (by decide +kernel)) entry_typeCall (wpAny_check_type_call_sub gC ?_)
  show wpAny _ _ (Builtin.«type.__call__» ⟨.ref C :: rest, []⟩) _ _ _
  repeat (first | with_reducible refine wpAny_loadPart_at gC ?_ | with_reducible refine wpAny_madeBy_exc gC ?_ | wp_step)
  refine codeAny_call_builtin_code (Code.quiet_builtin _ F.quiet) (new_checked F Z gC ?_)
  refine new_made F Z gC sz ?_
  show wpAny _ _ _ _ _ _
  have kp : ∀ b o, hp.get? b = some o → ((hp.push (W.kdv_tup rest)).push (excO C hp.objs.size)).get? b = some o := fun b o e => Heap.get?_push_of_some _ (Heap.get?_push_of_some _ e)
  have gC1 := kp _ _ gC
  have gx : ((hp.push (W.kdv_tup rest)).push (excO C hp.objs.size)).get? (hp.objs.size + 1) = some { cls := .ref C, data := .fields #[.ref hp.objs.size, .none, .none, .none, .bool false, .none] } := by heap_get
  have self : (PySem.Value.ref C :: bm).contains (.ref C) = true := by simp
  have i1 := li.keeps kp
  have b1 := (lb (.ref (hp.objs.size + 1))).keeps kp
  unfold isInstance
  repeat (first | with_reducible refine wpAny_loadPart_at gx ?_ | (with_reducible refine wpAny_isSubtype_exc gC1 ?_; rw [self]) | wp_step)
  show wpAny _ _ (typeLookup (.ref C) _) _ _ _
  refine i1.at ?_
  refine wpAny_holding (wpAny_bind (b1.at ?_))
  refine wpAny_bind (wpAny_call (codeAny_mono go fun r s' z => ?_))
  cases r with
  | error e => exact z
  | ok fl =>
    cases fl with
    | ret v =>
      obtain ⟨rfl, y⟩ := z
      first
        | exact wpAny_pure (wpAny_pure y)
        | (wp_walk; first | done | exact y)
    | next => first | exact z | exact False.elim z
    | brk => first | exact z | exact False.elim z
    | cont => first | exact z | exact False.elim z
end
end E6
end PySem

/-! # the six errors that keep something -/
namespace PySem
namespace E6
open PySem.W PySem.Calls PyProof.Rows PySem.HandSPX
inductive I6
  | spot | given | wanted | most | reason | many
def fld : I6 → Str
  | .spot => "spot" | .given => "given" | .wanted => "wanted" | .most => "most" | .reason => "reason" | .many => "many"
def gname : I6 → Str
  | .spot => "ParseError" | .given => "InvalidNumber" | .wanted => "UnknownName" | .most => "TooMany" | .reason => "Refused" | .many => "NothingToUndo"
def ini : I6 → Str
  | .spot => "ParseError.__init__" | .given => "InvalidNumber.__init__" | .wanted => "UnknownName.__init__" | .most => "TooMany.__init__" | .reason => "Refused.__init__" | .many => "NothingToUndo.__init__"
/-- whose __new__ it is -/
def ownN : I6 → String
  | .spot => "ValueError" | .given => "IndexError" | .wanted => "LookupError" | .most => "OverflowError" | .reason => "ArithmeticError" | .many => "LookupError"
def newN : I6 → String
  | .spot => "ValueError.__new__" | .given => "IndexError.__new__" | .wanted => "LookupError.__new__" | .most => "OverflowError.__new__" | .reason => "ArithmeticError.__new__" | .many => "LookupError.__new__"
def initN : I6 → String
  | .spot => "ValueError.__init__" | .given => "IndexError.__init__" | .wanted => "LookupError.__init__" | .most => "OverflowError.__init__" | .reason => "ArithmeticError.__init__" | .many => "LookupError.__init__"
def baseTail : I6 → List PySem.Value
  | .spot => [.type "ValueError", .type "Exception", .type "BaseException", .type "object"] | .given => [.type "IndexError", .type "LookupError", .type "Exception", .type "BaseException", .type "object"] | .wanted => [.type "LookupError", .type "Exception", .type "BaseException", .type "object"]
  | .most => [.type "OverflowError", .type "ArithmeticError", .type "Exception", .type "BaseException", .type "object"] | .reason => [.type "ArithmeticError", .type "Exception", .type "BaseException", .type "object"] | .many => [.type "LookupError", .type "Exception", .type "BaseException", .type "object"]
/-- the built-in bases -/
def tail6 : I6 → List PySem.Value
  | .spot => [.type "ValueError", .type "Exception", .type "BaseException", .type "object"] | .given => [.type "IndexError", .type "LookupError", .type "Exception", .type "BaseException", .type "object"] | .wanted => [.type "KeyError", .type "LookupError", .type "Exception", .type "BaseException", .type "object"]
  | .most => [.type "OverflowError", .type "ArithmeticError", .type "Exception", .type "BaseException", .type "object"] | .reason => [.type "ArithmeticError", .type "Exception", .type "BaseException", .type "object"] | .many => [.type "LookupError", .type "Exception", .type "BaseException", .type "object"]
theorem facts : ∀ i : I6, ExcBaseFacts (ownN i) (newN i) (initN i) (baseTail i)
  | .spot => F.excBase_ValueError
  | .given => F.excBase_IndexError
  | .wanted => F.excBase_LookupError
  | .most => F.excBase_OverflowError
  | .reason => F.excBase_ArithmeticError
  | .many => F.excBase_LookupError
def eA (i : I6) (p1 p2 : Pos) : Arguments := { posonlyargs := [], args := [{ arg := "self", annotation := none, pos := p1 }, { arg := fld i, annotation := none, pos := p2 }], vararg := none, kwonlyargs := [], kw_defaults := [], kwarg := none, defaults := [] }
def eB (i : I6) (q1 q2 q3 q4 : Pos) : List Stmt := [.Assign [.Attribute (.Name "self" q1) (fld i) q2] (.Name (fld i) q3) q4]
def eS (i : I6) : Scope := { kind := .function, names := [(PySem.Str.ofString "self", .local), (fld i, .local)], isGenerator := false, isCoroutine := false, more := [] }
/-- what the written part says of the class, at C, and of its __init__, at fI -/
structure Txt6 (i : I6) (K : Frag) (mg : Str → Option PySem.Value) (C fI : Addr) : Prop where
  gC : mg (gname i) = some (.ref C)
  cls : ∃ nm q N bs bm sn sub ab col dd k0 k1 k2 k3 k5, K.lookup C = some (excClassObj nm q C N bs bm true sn sub ab col dd k0 k1 k2 k3 k5 (newN i)) ∧ Bases (ownN i) C bm
  over : excOver K C (tail6 i) = true
  tk : takerIn K C (fld i) = some none
  sa : findIn K (.ref C) "__setattr__" = some (some (.builtin "object.__setattr__"))
  iC : findIn K (.ref C) "__init__" = some (some (.ref fI))
  tC : typeIn K (.ref fI) = some (.type "function")
  kC : keepIn K (.ref C) = true
  exC : subIn K (.ref C) (.type "BaseException") = some true
  tyC : typeIn K (.ref C) = some (.type "type")
  fn : ∃ (oc : PySem.Value) (od : Option Addr) (doc pm : PySem.Value) (an : Option Addr) (cdv ct : PySem.Value) (osl : Array (Option PySem.Value)) (p1 p2 q1 q2 q3 q4 : Pos),
    K.lookup fI = some ⟨oc, od, .func (fnOf "__init__" (ini i) (eA i p1 p2) (eB i q1 q2 q3 q4) (eS i) .none .none doc pm an cdv ct), osl⟩ ∧ codeIn K cdv (ini i) = true
theorem stores : ∀ i : I6, ∃ B : String, StoreFacts B (tail6 i) "object.__setattr__" "object"
  | .spot => ⟨_, F.store_ValueError⟩
  | .given => ⟨_, F.store_IndexError⟩
  | .wanted => ⟨_, F.store_KeyErr⟩
  | .most => ⟨_, F.store_OverflowError⟩
  | .reason => ⟨_, F.store_ArithmeticError⟩
  | .many => ⟨_, F.store_LookupError⟩
section
open Builtin Builtin.ObjectAttr
variable {prog : Program} {w : World} {A : Around} {E : PySem.Value → Shared → Prop} {R : Result → Shared → Prop} {hp : Heap} {g : Array GenState} {d : Drawn} {t : Nat} {os : OsState}
/-- the field is stored: the dict is made -/
theorem osa6 {i : I6} {K : Frag} {nam : Str} {tok : Tok} {u : PySem.Value} {ex C t0 : Addr} {cdt : ClassData} (X : K.In hp) (he : hp.get? ex = some (excO C t0)) (hcl : clsIn K C = some cdt) (hdi : cdt.hasDict = true) (hov : excOver K C (tail6 i) = true) (htk : takerIn K C nam = some none)
    (go : ∀ h' tk' dx, (∀ b o, b ≠ ex → hp.get? b = some o → h'.get? b = some o) → hp.objs.size ≤ dx → dx ≠ ex → h'.get? ex = some { cls := .ref C, dict := some dx, data := .fields #[.ref t0, .none, .none, .none, .bool false, .none] } →
      h'.Ns1 dx (fun y => if y = nam then some u else none) → R (.ok (.ret .none)) ⟨h', g, d, tk', os⟩) :
    codeAny (model prog w) A (.call (.builtin "object.__setattr__") ⟨[.ref ex, .str nam tok, u], []⟩) R ⟨hp, g, d, t, os⟩ := by
  have J : InstAt hp ex (excO C t0) C none := ⟨he, rfl, rfl, trivial⟩
  have away : ex ≠ hp.objs.size := Nat.ne_of_lt (Heap.lt_size he)
  have look : Looks (model prog w) hp (classData C) cdt := looks_clsIn X hcl
  obtain ⟨B, SF⟩ := stores i
  refine osa_openX SF X J hov htk (fun b => ?_)
  show wpAny _ _ (storeInOwnDict (.ref ex) (.ref C) (.str nam tok) nam u b) _ _ _
  obtain ⟨c1, c2, c3, c4, c5, c6, c7, c8, c9, c10, c11⟩ := cdt
  dsimp only at hdi
  subst hdi
  unfold storeInOwnDict ownDictForStores
  repeat (first | with_reducible refine store_in_new ?_ ?_ | with_reducible refine wpAny_loadPart_at he ?_ | with_reducible refine look.at ?_ | wp_step)
  · exact ⟨_, #[], _, (Heap.get?_update_ne _ _ _ _ away.symm).trans (Heap.get?_push_at rfl rfl), rfl, fun z hz => absurd hz (by simp), fun _ => rfl⟩
  · intro h' tk' hn' same
    have he1 : (hp.push { cls := .type "dict", data := .dict #[] }).get? ex = some (excO C t0) := Heap.get?_push_of_some _ he
    refine go h' tk' hp.objs.size (fun b o hb ho => ?_) (Nat.le_refl _) away.symm ?_ hn'
    · have y := same.2 b (Nat.ne_of_lt (Heap.lt_size ho))
      exact y.trans ((Heap.get?_update_ne _ _ _ _ hb).trans (Heap.get?_push_of_some _ ho))
    · exact (same.2 ex away).trans (Heap.get?_update_self _ he1 rfl)
end
theorem one_size (v : PySem.Value) : [v].length ≤ sizeLine := by
  rw [sizeLine_eq]
  exact (by decide : 1 ≤ 16777216)
theorem ldC {M : Model} {s : Shared} {name : Str} {scope : Scope} {L a : Addr} {cd : PySem.Value} {m : Str → Option PySem.Value} {x : Str} {pos : Pos} {v : PySem.Value} {Q : PySem.Value → Shared → Prop} {A : Around} {E : PySem.Value → Shared → Prop} (hn : s.heap.Ns L m) (hv : m x = some v) (h : Q v s)
    (hk : scope.kind = .function := by rfl) (hl : (envOfC name scope L a cd).kindOf x = some .local := by rfl) (hd : (x == ("__debug__" : Str)) = false := by decide) :
    wpAny M A (eval (.Name x pos) (envOfC name scope L a cd)) Q E s := wpAny_Name (wpAny_loadName_local hk hl hn hv h) hd
/-- what __init__ leaves of a fresh exception at x -/
structure InitEnd (n : Str) (h h' : Heap) (x C dx t1 : Addr) (v : PySem.Value) : Prop where
  keep : ∀ b o, b ≠ x → h.get? b = some o → h'.get? b = some o
  obj : h'.get? x = some { cls := .ref C, dict := some dx, data := .fields #[.ref t1, .none, .none, .none, .bool false, .none] }
  dbig : h.objs.size ≤ dx
  dne : dx ≠ x
  ns : h'.Ns1 dx (fun y => if y = n then some v else none)
/-- a made error -/
structure OwnMade (n : Str) (h h' : Heap) (e C d : Addr) (v : PySem.Value) : Prop where
  keep : ∀ b o, h.get? b = some o → h'.get? b = some o
  new : h.objs.size ≤ e
  obj : ∃ oe vs, h'.get? e = some oe ∧ oe.cls = .ref C ∧ oe.dict = some d ∧ oe.data = .fields vs ∧ vs[1]? = some .none ∧ vs[2]? = some .none
  dbig : h.objs.size ≤ d
  dne : d ≠ e
  ns : h'.Ns1 d (fun y => if y = n then some v else none)
section
variable {prog : Program} {w : World} {A : Around} {E : PySem.Value → Shared → Prop} {R : Result → Shared → Prop} {s : Shared} {K : Frag} {mg : Str → Option PySem.Value} {C fI : Addr} {i : I6}
theorem init6 (T : Txt6 i K mg C fI) {x t0 : Addr} {v : PySem.Value} (X : K.In s.heap) (hlim : s.heap.NoLimit) (hx : s.heap.get? x = some (excO C t0)) (hnx : K.lookup x = none) (hroom : A.depth < recursionLimit)
    (hq : ∀ h' tk dx, InitEnd (fld i) s.heap h' x C dx t0 v → R (.ok (.ret .none)) { s with heap := h', toks := tk }) :
    codeAny (model prog w) A (.call (.ref fI) ⟨[.ref x, v], []⟩) R s := by
  obtain ⟨oc, od, doc, pm, an, cdv, ct, osl, p1, p2, q1, q2, q3, q4, ho, hcd⟩ := T.fn
  obtain ⟨nm, q, N, bs, bm, sn, sub, ab, col, dd, k0, k1, k2, k3, k5, hC, hbm⟩ := T.cls
  have hcl : clsIn K C = some { name := nm, bases := bs, mro := .ref C :: bm, ns := N, qualname := q, hasDict := true, slotNames := sn, subclasses := sub, abstract := ab, collection := col, hasDel := false } := by unfold clsIn; rw [hC] <;> rfl
  refine Att.call_fn (binds := [("self", .ref x), (fld i, v)]) X hlim ho hcd hroom (BindsTo.of_eq (by cases i <;> first | rfl | with_unfolding_all rfl)) (by cases i <;> first | rfl | decide | with_unfolding_all rfl) (fun s₁ IC => ?_) rfl rfl rfl
  obtain ⟨h₁, tk₁, rfl⟩ := IC.toInCall.same
  have k : ∀ b o, s.heap.get? b = some o → h₁.get? b = some o := IC.toInCall.keep
  have hn := IC.toInCall.ns
  have X₁ : K.In h₁ := X.keeps k
  have hx₁ := k _ _ hx
  show wpAny _ _ (execs _ _) _ _ _
  refine wpAny_execs_cons (plainObj_wpAny_Assign_Attribute ?_)
  refine ldC (v := v) hn (by cases i <;> first | rfl | with_unfolding_all rfl | kernel_rfl) (ldC (v := .ref x) hn (by cases i <;> first | rfl | with_unfolding_all rfl | kernel_rfl) ?_ rfl (by cases i <;> rfl) (by decide)) rfl (by cases i <;> rfl) (by cases i <;> decide)
  refine set_plain X₁ (ox := excO C t0) (od := none) ⟨hx₁, rfl, rfl, trivial⟩ T.sa ?_
  refine osa6 X₁ hx₁ hcl rfl T.over T.tk (fun h₃ tk₃ dx k₃ dn dne hx₃ hn₃ => ?_)
  show wpAny _ _ (execs _ _) _ _ _
  have z : s.heap.objs.size < h₁.objs.size := hn.lt
  exact wpAny_execs_nil (hq h₃ tk₃ dx ⟨fun b o hb e => k₃ b o hb (k b o e), hx₃, Nat.le_of_lt (Nat.lt_of_lt_of_le z dn), dne, hn₃⟩)
theorem made6 (T : Txt6 i K mg C fI) {v : PySem.Value} (X : K.In s.heap) (hlim : s.heap.NoLimit) (hroom : A.depth + 1 < recursionLimit)
    (hq : ∀ h' tk e d, OwnMade (fld i) s.heap h' e C d v → R (.ok (.ret (.ref e))) { s with heap := h', toks := tk }) :
    codeAny (model prog w) A (.call (.ref C) ⟨[v], []⟩) R s := by
  obtain ⟨nm, q, N, bs, bm, sn, sub, ab, col, dd, k0, k1, k2, k3, k5, hC, hbm⟩ := T.cls
  obtain ⟨hp, g, dr, tk, os⟩ := s
  have k : ∀ b o, hp.get? b = some o → ((hp.push (kdv_tup [v])).push (excO C hp.objs.size)).get? b = some o := fun b o e => Heap.get?_push_of_some _ (Heap.get?_push_of_some _ e)
  have hget : ((hp.push (kdv_tup [v])).push (excO C hp.objs.size)).get? (hp.objs.size + 1) = some (excO C hp.objs.size) := by heap_get
  have hnx : K.lookup (hp.objs.size + 1) = none := by
    cases e : K.lookup (hp.objs.size + 1) with
    | none => rfl
    | some o =>
      have z : hp.get? (hp.objs.size + 1) = some o := X _ _ e
      exact absurd (Nat.lt_of_succ_lt (Heap.lt_size z)) (Nat.lt_irrefl _)
  refine call_made (facts i) hbm (X _ _ hC) (looks_findIn X T.iC) (fun self => bind_fn X self T.tC) (one_size v) ?_
  refine init6 (s := ⟨(hp.push (kdv_tup [v])).push (excO C hp.objs.size), g, dr, tk, os⟩) T (X.keeps k) (hlim.keeps k) hget hnx ?_ fun h' tk' dx ⟨k', hx, dn, dne, hns⟩ => ?_
  · show A.depth + 1 < recursionLimit
    exact hroom
  · have old : ∀ b o, hp.get? b = some o → h'.get? b = some o := fun b o e => k' b o (Nat.ne_of_lt (Nat.lt_succ_of_lt (Heap.lt_size e))) (k b o e)
    have z : hp.objs.size + 1 + 1 ≤ dx := by
      first
        | (simpa only [Heap.size_push] using dn)
        | exact dn
        | (have q := dn; rw [Heap.size_push, Heap.size_push] at q; exact q)
    exact ⟨rfl, hq h' tk' (hp.objs.size + 1) dx ⟨old, Nat.le_succ _, ⟨_, _, hx, rfl, rfl, rfl, rfl, rfl⟩, Nat.le_trans (Nat.le_trans (Nat.le_succ _) (Nat.le_succ _)) z, dne, hns⟩⟩
end
end E6
end PySem
namespace K00
open PySem PySem.Spec PyProof.Rows L2 PySem.E6
theorem relO6 {n : Str} {v : V} {v' : Value} (r : RelV v v') (f : Str) : RelO (List.lookup f [(n, v)]) (if f = n then some v' else none) := by
  by_cases hw : f = n
  · subst hw
    rw [if_pos rfl]
    have q : List.lookup f [(f, v)] = some v := by simp [List.lookup]
    rw [q]
    exact r
  · rw [if_neg hw]
    have qw : (f == n) = false := by simpa using hw
    have q2 : List.lookup f [(n, v)] = none := by simp [List.lookup, qw]
    rw [q2]
    trivial
section
variable {X : Cx} {C fI : Addr} {i : I6}
/-- an error of the six is made -/
def tMk6 (i : I6) (C : Addr) (ta : TA) : L2.St → Hp → XK → Prop := fun σ H Q => ta σ H fun vs H1 => ∃ v, vs = [v] ∧ ∀ d, H1 d = none → Q (.ref C) (some d) (upd H1 d (.xd [(fld i, v)]))
theorem pmk6 {a : Expr} {ta : TA} {p pos : Pos} {k : Nat} (T : Txt6 i X.K X.mg C fI) (hr : Room k X.A) (ha : PA X [a] ta) (hg : Gl X (gname i)) (hdb : (gname i == ("__debug__" : Str)) = false)
    (he : starEach (a :: []) X.env = (false, eval a X.env) :: starEach [] X.env := by rfl) (hpl : (backTo pos (starEach [] X.env)).any (·.1) = false := by rfl) :
    L2N.PMk X (.Call (.Name (gname i) p) [a] [] pos) (tMk6 i C ta) := by
  intro pins s σ H Q I h
  refine wpAny_Call_Name_kw (ld_glob I hg T.gC ?_ hdb)
  refine PySem.W.callWith_K (h₀ := X.base) I.ok.mod.kin T.kC (thn (ha.run pos pins s σ H _ I h) fun us s1 hh => ?_) he hpl
  obtain ⟨vs, H1, I1, r1, v, ev, q1⟩ := hh
  subst ev
  refine ⟨I1.kIn, ?_⟩
  cases r1 with
  | cons rv rn =>
    rename_i v' us'
    cases rn
    show wpAny _ _ (call (.ref C) [v']) _ _ _
    have hlim := I1.nolimit
    obtain ⟨hp, g, dr, tk, os⟩ := s1
    refine wpAny_call (made6 T I1.kIn hlim (by have := hr.dp; omega) fun h' tk' e d M => ?_)
    show L2N.MkP X pins σ Q (.ref e) ⟨h', g, dr, tk', os⟩
    obtain ⟨oe, fv, hoe, hc, hd, hdat, h1, h2⟩ := M.obj
    have hns := M.ns
    obtain ⟨G', g1, g2⟩ := restrict h' fun b => decide (b ≠ e)
    have gk : ∀ b, b ≠ e → G'.get? b = h'.get? b := fun b hb => g1 b (decide_eq_true hb)
    have ge : G'.get? e = none := g2 e (by simp)
    have old : ∀ b o, hp.get? b = some o → G'.get? b = some o := fun b o q => (gk b (Nat.ne_of_lt (Nat.lt_of_lt_of_le (Heap.lt_size q) M.new))).trans (M.keep b o q)
    have ob : ObjOk X.prog X.w (upd H1 d (.xd [(fld i, v)])) G' d (.xd [(fld i, v)]) :=
      ⟨_, hns.at (fun o q => (gk d M.dne).trans q), fun f => relO6 rv f⟩
    have J : Inv X pins σ (upd H1 d (.xd [(fld i, v)])) ⟨G', g, dr, tk', os⟩ := I1.laid (t' := tk') old M.dbig ob
    refine ⟨e, oe, fv, ⟨G', g, dr, tk', os⟩, _, .ref C, some d, rfl, J, fun b o q => ?_, ge, hoe, ⟨hc, hd, fun vs e => by rw [hdat] at e; cases e; exact h2⟩, hdat, h1, ?_, rfl, I1.bare, raises_own T.exC T.tyC, q1 d (I1.hok.fresh M.dbig)⟩
    · by_cases hb : b = e
      · have q' : G'.get? b = some o := q
        rw [hb, ge] at q'; cases q'
      · exact (gk b hb).symm.trans q
    · rw [upd_ne (Ne.symm M.dne)]
      exact I1.hok.fresh M.new
theorem ps_raise6 {a : Expr} {ta : TA} {W : WX} {p pos pos2 : Pos} {k : Nat} (hc : X.calm = true) (T : Txt6 i X.K X.mg C fI) (hr : Room k X.A) (tk : L2N.Takes X W) (ha : PA X [a] ta) (hg : Gl X (gname i)) (hdb : (gname i == ("__debug__" : Str)) = false)
    (he : starEach (a :: []) X.env = (false, eval a X.env) :: starEach [] X.env := by rfl) (hpl : (backTo pos (starEach [] X.env)).any (·.1) = false := by rfl) :
    PS X (.Raise (some (.Call (.Name (gname i) p) [a] [] pos)) none pos2) (fun _ σ H => tMk6 i C ta σ H fun cls d H' => W cls d σ H') := L2N.ps_raise hc tk (pmk6 T hr ha hg hdb he hpl)
/-- X(text) -/
theorem pmk_ownV {bmB : List Value} {B newId initId : String} {x : Str} {p pos : Pos} {a : Expr} {ta : TA} (F : ExcBaseFacts B newId initId bmB) (q : PySem.W.excIn X.K C bmB newId = true) (gC : X.mg x = some (.ref C)) (kC : PySem.W.keepIn X.K (.ref C) = true) (r : Raises X (.ref C)) (hg : Gl X x) (ha : PA X [a] ta)
    (hdb : (x == ("__debug__" : Str)) = false := by decide) (he : starEach (a :: []) X.env = (false, eval a X.env) :: starEach [] X.env := by rfl) (hpl : (backTo pos (starEach [] X.env)).any (·.1) = false := by rfl) :
    L2N.PMk X (.Call (.Name x p) [a] [] pos) (fun σ H Q => ta σ H fun vs H1 => ∃ v, vs = [v] ∧ Q (.ref C) none H1) := by
  intro pins s σ H Q I h
  refine wpAny_Call_Name_kw (ld_glob I hg gC ?_ hdb)
  refine PySem.W.callWith_K (h₀ := X.base) I.ok.mod.kin kC (thn (ha.run pos pins s σ H _ I h) fun us s1 hh => ?_) he hpl
  obtain ⟨vs, H1, I1, r1, v, rfl, q1⟩ := hh
  refine ⟨I1.kIn, ?_⟩
  cases r1 with
  | cons ru rn =>
    rename_i u us'
    cases rn
    show wpAny _ _ (call (.ref C) [u]) _ _ _
    obtain ⟨bm, N, nm, qn, bs, hdct, sn, sub, ab, col, dd, k0, k1, k2, k3, k5, mN, hC, hN, hni, T⟩ := exc_obj I1.kIn q
    refine wpAny_call_exc_subT F T hC hN hni (fun h' e hm => ?_) (one_size u)
    exact L2N.mk_of I1 hm r q1 (I1.hok.gone hm.new)
end
end K00

/-! # the urn; what the law's functions are -/
namespace K00
open PySem PySem.Spec PyProof.Rows L2
def topS (i : Nat) : Stmt := PySem.Challenge.pw_stairlots_k00_errors_and_their_classes.main.body.getD i (.Pass ⟨0, 0, 0, 0⟩)
/-! ### rules of my own -/
/-- ** of a base of any size, the result below 2 ^ 27 bits -/
def CPowW (i j : Int) : Prop := 0 ≤ j ∧ (Builtin.Int.intBits i : Int) * j ≤ 2 ^ 27
theorem op_powW {X : Cx} : OpR X (binaryOp .Pow) (rI CPowW fun i j => .int (i ^ j.toNat)) := opI fun _ _ _ _ _ _ _ hc q => pow_int hc.1 hc.2 q
theorem sub_same {H : Hp} {p : Addr} {o : HO} (h : H p = none) : Same H (upd H p o) := fun b x e => by
  rw [upd_ne (ne_of_none e h)]
  exact e
/-- all but one address as before -/
def But (a : Addr) (H H' : Hp) : Prop := ∀ b, b ≠ a → H' b = H b
theorem But.refl (a : Addr) (H : Hp) : But a H H := fun _ _ => rfl
theorem But.trans {a : Addr} {H H1 H2 : Hp} (x : But a H H1) (y : But a H1 H2) : But a H H2 := fun b hb => (y b hb).trans (x b hb)
theorem but_upd (a : Addr) (H : Hp) (o : HO) : But a H (upd H a o) := fun b hb => upd_ne hb
/-! ### the urn: a list of three ints -/
def Urn (H : Hp) (a : Addr) : Prop := ∃ g m c : Int, H a = some (.lst [.int g, .int m, .int c])
theorem Urn.seq {K : PySem.W.Frag} {H : Hp} {a : Addr} {xs : List V} (h : H a = some (.lst xs)) : SqL K H a xs := .inl (.inl h)
abbrev s_law_take : Stmt := topS 17
theorem sc_law_take : FnScope ["_law_urn_here", "_law_total", "_law_found", "_law_one", "_law_two"] ["_law_urn_here", "_law_total"] (defScope s_law_take) := ⟨rfl, rfl, rfl, by decide +kernel, rfl, by decide +kernel, by decide +kernel⟩
abbrev s_law_some : Stmt := topS 18
theorem sc_law_some : FnScope ["_law_urn_here", "_law_items"] ["_law_urn_here", "_law_items"] (defScope s_law_some) := ⟨rfl, rfl, rfl, by decide +kernel, rfl, by decide +kernel, by decide +kernel⟩
section
variable {P : Program} {w : World} {K : PySem.W.Frag} {mg : Str → Option Value} {base : Heap}
structure Txt (mg : Str → Option Value) : Prop where
  n_len : mg "len" = none
  n_abs : mg "abs" = none
  n_int : mg "int" = none
  n_bool : mg "bool" = none
  n_max : mg "max" = none
  n_min : mg "min" = none
  n_sum : mg "sum" = none
  n_tuple : mg "tuple" = none
  n_range : mg "range" = none
  n_repr : mg "repr" = none
  n_isinstance : mg "isinstance" = none
  n_reversed : mg "reversed" = none
structure D (K : PySem.W.Frag) (mg : Str → Option Value) (x : Str) (st : Stmt) (ps : List Str) (f : Addr) (fd : FuncData) : Prop where
  F : Fun K x x st f fd
  g : mg x = some (.ref f)
  b : Binds K fd ps []
/-- a drawn number below the total -/
def spTake : Sp := fun vs H Q _ => ∃ (a : Addr) (t : Int), vs = [.ref a, .int t] ∧ Urn H a ∧ 0 < t ∧ t.natAbs.log2 < 9000 ∧
  ∀ (v : Int) (H' : Hp), 0 ≤ v → v < t → Urn H' a → But a H H' → Q (.int v) H'
theorem ok_take {f : Addr} {fd : FuncData} {k : Nat} (T : Txt mg) (d : D K mg "_law_take" s_law_take ["_law_urn_here", "_law_total"] f fd) :
    FnOk P w K mg base CX0 (k + 1) f fd ["_law_urn_here", "_law_total"] spTake := by
  refine d.F.ok sc_law_take (fun vs H Q E h => ?_) (fun cdv A outer s H vs Q E hr h => ?_)
  · obtain ⟨a, t, rfl, _⟩ := h
    rfl
  · obtain ⟨a, t, rfl, ⟨g, m, c, hu⟩, ht, hl, q⟩ := h
    refine ⟨_, (pss_cons (ps_if (pt_cmpR op_gt (pe_ix ix_list (pv 0) pe_int (fun _ _ => rfl)) pe_int (nomark _)) (pss_cons (ps_set (i := 2) sc_law_take.nd rfl (.inl rfl) (pe_op op_mod (pe_callTy call_int1 (by rfl) T.n_int (by decide +kernel) (pa_cons (pe_ix ix_list (pv 0) pe_int (fun _ _ => rfl)) pa_nil)) (pv 1)))
        (pss_cons (ps_asg (pe_op op_fdivW (pe_ix ix_list (pv 0) pe_int (fun _ _ => rfl)) (pv 1)) (pg_sub (pv 0) pe_int set_list))
        (pss_one (ps_ret (pv 2))))) pss_nil)
      (pss_cons (ps_asg (pe_op op_add (pe_ix ix_list (pv 0) pe_int (fun _ _ => rfl)) pe_int) (pg_sub (pv 0) pe_int set_list))
      (pss_cons (ps_set (i := 3) sc_law_take.nd rfl (.inl rfl) (pe_op op_mod (pe_callTy call_int1 (by rfl) T.n_int (by decide +kernel) (pa_cons (pe_op op_add (pe_ix ix_list (pv 0) pe_int (fun _ _ => rfl)) (pe_op op_mul pe_int (pe_ix ix_list (pv 0) pe_int (fun _ _ => rfl)))) pa_nil)) pe_int))
      (pss_cons (ps_set (i := 4) sc_law_take.nd rfl (.inl rfl) (pe_op op_mod (pe_callTy call_int1 (by rfl) T.n_int (by decide +kernel) (pa_cons (pe_op op_add (pe_op op_mul (pv 3) (pv 3)) (pe_op op_mul pe_int (pe_ix ix_list (pv 0) pe_int (fun _ _ => rfl)))) pa_nil)) pe_int))
      (pss_one (ps_ret (pe_op op_mod (pe_callTy call_int1 (by rfl) T.n_int (by decide +kernel) (pa_cons (pe_op op_fdivW (pe_op op_mod (pe_callTy call_int1 (by rfl) T.n_int (by decide +kernel) (pa_cons (pe_op op_add (pe_op op_mul (pv 4) pe_int) (pv 3)) pa_nil)) pe_int) pe_int) pa_nil)) (pv 1)))))))), ?_⟩
    have A0 : ∀ {xs : List V} {v : V} {i : Int}, xs = [.int g, .int m, .int c] → atI xs i = some v → True := fun _ _ => trivial
    -- if urn[0] > 0
    refine ⟨.ref a, rfl, a, _, 0, .int g, rfl, rfl, Urn.seq hu, atI_nat (j := 0) rfl, g, 0, rfl, rfl, _, rfl, ite2 (fun e => ?_) (fun e => ?_)⟩
    · refine ⟨.ref a, rfl, ⟨a, _, 0, .int g, rfl, rfl, Urn.seq hu, atI_nat (j := 0) rfl, .inl ⟨g, rfl, .int t, rfl, g, t, rfl, rfl, ht, ?_⟩⟩⟩
      refine ⟨.ref a, rfl, ⟨a, _, 0, .int g, rfl, rfl, Urn.seq hu, atI_nat (j := 0) rfl, .int t, rfl, g, t, rfl, rfl, ⟨ht, hl⟩, ?_⟩⟩
      refine ⟨.ref a, rfl, a, _, 0, 0, rfl, rfl, hu, rfl, ?_⟩
      exact ⟨_, rfl, q _ _ (Int.emod_nonneg _ (by omega)) (Int.emod_lt_of_pos _ ht) ⟨_, _, _, upd_same⟩ (but_upd _ _ _)⟩
    · refine ⟨.ref a, rfl, ⟨a, _, 2, .int c, rfl, rfl, Urn.seq hu, atI_nat (j := 2) rfl, c, 1, rfl, rfl, ?_⟩⟩
      refine ⟨.ref a, rfl, a, _, 2, 2, rfl, rfl, hu, rfl, ?_⟩
      have h1 : (upd H a (.lst ([.int g, .int m, .int c].set 2 (.int (c + 1))))) a = some (.lst [.int g, .int m, .int (c + 1)]) := upd_same
      have b1 := but_upd a H (.lst ([.int g, .int m, .int c].set 2 (.int (c + 1))))
      revert h1 b1
      generalize upd H a (.lst ([.int g, .int m, .int c].set 2 (.int (c + 1)))) = H1
      intro h1 b1
      refine ⟨.ref a, rfl, ⟨a, _, 1, .int m, rfl, rfl, Urn.seq h1, atI_nat (j := 1) rfl, ?_⟩⟩
      refine ⟨.ref a, rfl, ⟨a, _, 2, .int (c + 1), rfl, rfl, Urn.seq h1, atI_nat (j := 2) rfl, ?_⟩⟩
      refine ⟨_, _, rfl, rfl, .inl (by decide), _, _, rfl, rfl, .inl ⟨_, rfl, _, _, rfl, rfl, (by show (0 : Int) < _; decide), ?_⟩⟩
      generalize ho : (m + 1299709 * (c + 1)) % 2305843009213693951 = o
      have o0 : 0 ≤ o := by omega
      have o1 : o < 2305843009213693951 := by omega
      refine ⟨_, rfl, _, rfl, _, _, rfl, rfl, .inl (by omega), ?_⟩
      refine ⟨.ref a, rfl, ⟨a, _, 2, .int (c + 1), rfl, rfl, Urn.seq h1, atI_nat (j := 2) rfl, ?_⟩⟩
      refine ⟨_, _, rfl, rfl, .inl (by decide), _, _, rfl, rfl, .inl ⟨_, rfl, _, _, rfl, rfl, (by show (0 : Int) < _; decide), ?_⟩⟩
      generalize (o * o + 15485863 * (c + 1)) % 1152921504606846883 = z
      refine ⟨_, rfl, _, _, rfl, rfl, .inr (by decide), _, rfl, _, _, rfl, rfl, .inl ⟨_, rfl, _, _, rfl, rfl, (by show (0 : Int) < _; decide), _, _, rfl, rfl, ⟨by decide, by decide⟩, .inl ⟨_, rfl, _, rfl, _, _, rfl, rfl, ht, ?_⟩⟩⟩
      exact q _ _ (Int.emod_nonneg _ (by omega)) (Int.emod_lt_of_pos _ ht) ⟨_, _, _, h1⟩ b1
/-- one of the items -/
def spSome : Sp := fun vs H Q _ => ∃ (a b : Addr) (xs : List V), vs = [.ref a, .ref b] ∧ Urn H a ∧ H b = some (.lst xs) ∧ b ≠ a ∧ xs ≠ [] ∧ xs.length ≤ 1000 ∧
  ∀ (i : Nat) (x : V) (H' : Hp), xs[i]? = some x → Urn H' a → But a H H' → Q x H'
theorem ok_some {f ft : Addr} {fd fdt : FuncData} {k : Nat} (T : Txt mg) (d : D K mg "_law_some" s_law_some ["_law_urn_here", "_law_items"] f fd) (dt : D K mg "_law_take" s_law_take ["_law_urn_here", "_law_total"] ft fdt) :
    FnOk P w K mg base CX0 (k + 2) f fd ["_law_urn_here", "_law_items"] spSome := by
  have G : FnOk P w K mg base CX0 (k + 1) ft fdt ["_law_urn_here", "_law_total"] spTake := ok_take T dt
  refine d.F.ok sc_law_some (fun vs H Q E h => ?_) (fun cdv A outer s H vs Q E hr h => ?_)
  · obtain ⟨a, b, xs, rfl, _⟩ := h
    rfl
  · obtain ⟨a, b, xs, rfl, hu, hb, hne, hx, hz, q⟩ := h
    refine ⟨_, (pss_one (ps_ret (pe_ix ix_list (pv 1) (pe_call G hr (by rfl) dt.g dt.F.kp dt.b .nil pass0 (pa_cons (pv 0) (pa_cons (pe_callB call_len_seq (by rfl) T.n_len PySem.boot_len (pa_cons (pv 1) pa_nil)) pa_nil))) (fun _ _ => rfl)))), ?_⟩
    refine ⟨.ref b, rfl, .ref a, rfl, .ref b, rfl, b, xs, rfl, .inl (Urn.seq hb), a, _, rfl, hu, ?_, ?_, fun v H' v0 v1 hu' hk => ?_⟩
    · cases xs with
      | nil => exact absurd rfl hx
      | cons x r => rw [List.length_cons]; omega
    · have e : ((xs.length : Int)).natAbs = xs.length := Int.natAbs_natCast _
      rw [e]
      exact Nat.lt_of_le_of_lt (Nat.log2_le_self _) (by omega)
    · obtain ⟨j, rfl⟩ : ∃ j : Nat, v = (j : Int) := ⟨v.toNat, by omega⟩
      have hv : j < xs.length := by omega
      exact ⟨b, xs, j, xs[j], rfl, rfl, Urn.seq ((hk b hne).trans hb), atI_nat (List.getElem?_eq_getElem hv), q j _ H' (List.getElem?_eq_getElem hv) hu' hk⟩
end

/-- a def's promise, kept where no repr is under way -/
structure FnG (P : Program) (w : World) (K : PySem.W.Frag) (mg : Str → Option Value) (base : Heap) (CX : CXT) (k : Nat) (f : Addr) (fd : FuncData) (ps : List Str) (sp : Sp) : Prop where
  size : ∀ vs H Q E, sp vs H Q E → vs.length = ps.length
  runs : ∀ (A : Around) (out : List Env) (s : Shared) (H : Hp) (ar : Args) (us : List Value) (vs : List V) (Q : VK) (E : XK), A.guards = some [] → Room k A → Env0 P w K mg base A out s H → BindsTo s fd ar (ps.zip us) → Vals vs us → sp vs H Q E →
    codeAny (model P w) A (.call (.ref f) ar) (CR CX out P w H s Q E) s
theorem deep_guards {A : Around} {env : Env} (h : A.guards = some []) : (A.deeper env).guards = some [] := by
  first | exact h | (simp [Around.deeper, h])
theorem FnG.of {P : Program} {w : World} {K : PySem.W.Frag} {mg : Str → Option Value} {base : Heap} {k : Nat} {x qual : Str} {st : Stmt} {f : Addr} {fd : FuncData} {N ps : List Str} {sp : Sp} (F : Fun K x qual st f fd) (S : FnScope N ps (defScope st))
    (size : ∀ vs H Q E, sp vs H Q E → vs.length = ps.length)
    (body : ∀ (cdv : Value) (A : Around) (out : List Env) (s : Shared) (H : Hp) (vs : List V) (Q : VK) (E : XK), (A.deeper (envOfC qual (defScope st) s.heap.objs.size f cdv)).guards = some [] → Room k (A.deeper (envOfC qual (defScope st) s.heap.objs.size f cdv)) → sp vs H Q E →
      ∃ t, PSs (cxOf CX0 P w K mg base N qual (defScope st) f cdv A out s H E).nox (defBody st) t ∧ t { nx := fun _ H' => Q .non H', rt := Q } (start N vs) H) :
    FnG P w K mg base CX0 (k + 1) f fd ps sp := by
  obtain ⟨oc, od, kV, doc, pm, an, cdv, ct, osl, rfl, lk, hcd⟩ := F.ex
  refine ⟨size, fun A out s H ar us vs Q E hg hr e0 hb r hs => ?_⟩
  have many := size _ _ _ _ hs
  have low : ∀ b o, base.get? b = some o → s.heap.get? b = some o := fun b o e => (e0.bs b o e).1
  refine Att.call_fn (e0.mod.kin.keeps low) (e0.mod.nolimit.keeps low) lk hcd hr.depth hb ?_ (fun s1 x => ?_) S.co S.gen S.kind
  · rw [List.all_eq_true]
    rintro ⟨n, v⟩ hy
    have z := S.par n (List.of_mem_zip hy).1
    rcases z with z | z <;> simp [z]
  · obtain ⟨t, ht, hq⟩ := body cdv A out s H vs Q E (deep_guards hg) (hr.deeper _) hs
    have I : Inv (cxOf CX0 P w K mg base N qual (defScope st) f cdv A out s H E) [] (start N vs) H s1 := inv_start S hr.hd e0 many r x
    refine wpAny_mono (ht.nox.run [] s1 (start N vs) H _ I hq) (fun fl s' ends => ?_) fun e s' z => z
    have fin : ∀ {σ : L2.St} {H' : Hp} {v : V} {u : Value}, Inv (cxOf CX0 P w K mg base N qual (defScope st) f cdv A out s H E) [] σ H' s' → RelV v u → Q v H' → CE out P w H s Q u s' := fun {_ H' v _} J rv q =>
      ⟨v, H', J.os, J.bare, J.base, J.hok, rv, q⟩
    cases fl with
    | ret u =>
      obtain ⟨v, σ, H', J, rv, q⟩ := ends
      exact fin J rv q
    | next =>
      obtain ⟨σ, H', J, q⟩ := ends
      exact fin (v := V.non) (u := Value.none) J rfl q
    | brk =>
      obtain ⟨_, _, _, no⟩ := ends
      exact False.elim no
    | cont =>
      obtain ⟨_, _, _, no⟩ := ends
      exact False.elim no
section
variable {X : Cx} {k : Nat} {f : Addr} {fd : FuncData} {ps : List Str} {sp : Sp} {x : Str} {p pos : Pos} {e : Expr} {es : List Expr} {t : TA}
/-- f(e, ..) where no repr is under way -/
theorem pe_callG (G : FnG X.prog X.w X.K X.mg X.base CX0 k f fd ps sp) (no : X.A.guards = some []) (hr : Room k X.A) (hg : Gl X x) (hm : X.mg x = some (.ref f)) (hk : PySem.W.keepIn X.K (.ref f) = true) (hb : Binds X.K fd ps [])
    (ha : PA X (e :: es) t) (hdb : (x == ("__debug__" : Str)) = false := by decide) (he : starEach (e :: es) X.env = (false, eval e X.env) :: starEach es X.env := by rfl) (hpl : (backTo pos (starEach es X.env)).any (·.1) = false := by rfl) :
    PE X (.Call (.Name x p) (e :: es) [] pos) (tCall sp [] E0 t) := by
  refine ⟨fun pins s σ H Q I h => wpAny_Call_Name_kw (ld_glob I hg hm ?_ hdb)⟩
  refine PySem.W.callWith_K (h₀ := X.base) I.ok.mod.kin hk (thn (ha.run pos pins s σ H _ I h) fun us s1 ⟨vs, H1, I1, r, q⟩ => ⟨I1.kIn, ?_⟩) he hpl
  have q1 : sp vs H1 Q E0 := by
    have q2 : sp (vs ++ []) H1 Q E0 := q
    rwa [List.append_nil] at q2
  have many : (us ++ []).length = ps.length := by
    rw [List.append_nil, ← r.length]
    exact G.size _ _ _ _ q1
  have bnd := hb s1 us I1.kIn many
  rw [List.append_nil] at bnd
  refine wpAny_call (codeAny_mono (G.runs X.A X.stack s1 H1 ⟨us, []⟩ us vs Q E0 no hr I1.env0 bnd r q1) fun res s' z => ?_)
  cases res with
  | error e => exact False.elim z
  | ok fl =>
    cases fl with
    | ret u => exact I1.after z
    | next => exact False.elim z
    | brk => exact False.elim z
    | cont => exact False.elim z
/-- repr of a list or tuple of data, where no repr is under way -/
theorem call_repr_D (no : X.A.guards = some []) (hu : X.A.units + 100 < cLine) : CallR X (.builtin "repr") (fun xs H Q => ∃ (a : Addr) (d : PyData), xs = [.ref a] ∧ (∀ (pins : List (Addr × Obj)) (σ : L2.St) (s : Shared), Inv X pins σ H s → ∃ as, Reads s.heap (.ref a) d as ∧ (d.hasDict = true → sysModules ∉ as)) ∧
    d.showable = true ∧ d.depth ≤ 90 ∧ d.shown.length ≤ sizeLine ∧ Q (.str d.shown) H) := by
  intro pins s σ H vs us Q I r h
  obtain ⟨a, d, rfl, rd, sh, dp, sz, q⟩ := h
  obtain ⟨as, hr, hs⟩ := rd pins σ s I
  cases r with
  | cons r1 r2 =>
    cases r2
    obtain rfl := (show _ = Value.ref a from r1)
    refine repr_of_reads' hr sh hs no (by omega) (fun b o e => e) (fun h' u tk k => ?_) sz
    exact ⟨.str d.shown, H, I.kept (h' := h') (t' := tk) k, ⟨_, rfl⟩, q⟩
end
/-! ### the root -/
/-- nothing is tracked, but the script where the module does not hold it -/
def onlyS (K : PySem.W.Frag) (a : Addr) (u : HO) : Hp := fun b => if b = a ∧ K.lookup a = none then some u else none
theorem onlyS_at {K : PySem.W.Frag} {a b : Addr} {u v : HO} (h : onlyS K a u b = some v) : b = a ∧ K.lookup a = none ∧ v = u := by
  unfold onlyS at h
  by_cases c : b = a ∧ K.lookup a = none
  · rw [if_pos c] at h
    exact ⟨c.1, c.2, (Option.some.inj h).symm⟩
  · rw [if_neg c] at h
    cases h
theorem onlyS_off {K : PySem.W.Frag} {a b : Addr} {u : HO} (h : b ≠ a) : onlyS K a u b = none := if_neg fun c => h c.1
theorem onlyS_none {K : PySem.W.Frag} {a b : Addr} {u : HO} {o : Obj} (h : K.lookup b = some o) : onlyS K a u b = none := if_neg fun c => by
  obtain ⟨rfl, c2⟩ := c
  rw [h] at c2
  cases c2
theorem root_of {P : Program} {w : World} {K : PySem.W.Frag} {mg mb : Str → Option Value} {k : Nat} {fa a : Addr} {fd : FuncData} {x : Str} {sp : Sp} {s1 : Shared} {us : List Value} {ns : List Int}
    (KX : K.In s1.heap) (main : s1.heap.Ns mainGlobals mg) (blt : s1.heap.Ns builtinsNs mb) (boot : ∀ y : Str, y ≠ "__name__" → mb y = bootBuiltins y) (lim : s1.heap.NoLimit) (gens : s1.gens = #[])
    (ha : s1.heap.get? a = some { cls := .type "list", data := .seq us.toArray }) (hi : IntsAre us ns) (hl : ns.length ≤ sizeLine) (hr : Room k callerA)
    (G : ∀ base : Heap, K.In base → base.Ns mainGlobals mg → FnG P w K mg base CX0 k fa fd [x] sp) (bnd : ∀ (s : Shared) (u : Value), BindsTo s fd ⟨[u], []⟩ [(x, u)])
    (hsp : ∀ H : Hp, SqL K H a (ns.map V.int) → sp [.ref a] H (fun v _ => v = .bl true) E0) :
    codeAny (model P w) callerA (.call (.ref fa) ⟨[.ref a], []⟩) (fun r s' => r = .ok (.ret (.bool true)) ∧ OldK s1.heap s'.heap ∧ s'.os = s1.os ∧ AllBare s'.gens) s1 := by
  have rv := vals_ints hi
  have sized : (ns.map V.int).length ≤ sizeLine := by rwa [List.length_map]
  generalize hu : HO.frz { cls := .type "list", data := .seq us.toArray } (.lst (ns.map V.int)) = u
  have far : ∀ {b : Addr} {o : Obj} {es : Array DictEntry} {ep : Nat}, s1.heap.get? b = some o → o.data = .dict es ep → b ≠ a := fun {b o es ep} e d z => by
    subst z
    rw [ha] at e
    cases e
    cases d
  have space : ∀ {b : Addr} {m : Str → Option Value}, s1.heap.Ns b m → (hidT s1.heap (onlyS K a u)).Ns b m := fun {b m} ⟨o, es, ep, e, d, r⟩ => ⟨o, es, ep, hidT_get e (onlyS_off (far e d)), d, r⟩
  have KB : K.In (hidT s1.heap (onlyS K a u)) := fun b o e => hidT_get (KX b o e) (onlyS_none e)
  have M : Mod K mg (hidT s1.heap (onlyS K a u)) := ⟨KB, space main, ⟨mb, space blt, boot⟩, let ⟨mc, h1, h2⟩ := lim; ⟨mc, space h1, h2⟩⟩
  have ok : HOk P w (onlyS K a u) s1.heap := fun b v e => by
    obtain ⟨rfl, _, rfl⟩ := onlyS_at e
    subst hu
    exact ⟨ha, sized, us, _, rv, ha⟩
  have list : SqL K (onlyS K a u) a (ns.map V.int) := by
    cases hk : K.lookup a with
    | none =>
      refine .inl (.inr ⟨{ cls := .type "list", data := .seq us.toArray }, ?_⟩)
      rw [hu]
      exact if_pos ⟨rfl, hk⟩
    | some o =>
      have e := KX a o hk
      rw [ha] at e
      cases e
      exact .inr ⟨_, us.toArray, _, hk, rfl, rfl, rfl, by rw [List.size_toArray, hi.length]; exact hl, by simpa using rv⟩
  have e0 : Env0 P w K mg (hidT s1.heap (onlyS K a u)) callerA [] s1 (onlyS K a u) :=
    ⟨rfl, M, fun b o e => of_hidT e, Nat.le_of_eq (hidT_size _ _), trivial, fun b hb => absurd (show b ∈ ([] : List Addr) from hb) (by simp), ok, .of_eq gens⟩
  refine codeAny_mono ((G _ KB (space main)).runs callerA [] s1 _ ⟨[.ref a], []⟩ [.ref a] [.ref a] _ _ rfl hr e0 (bnd s1 (.ref a)) (.cons rfl .nil) (hsp _ list)) fun r s' z => ?_
  cases r with
  | error e => exact False.elim z
  | ok fl =>
    cases fl with
    | next => exact False.elim z
    | brk => exact False.elim z
    | cont => exact False.elim z
    | ret out =>
      obtain ⟨v, H', os, bare, un, ok', r', q⟩ := z
      obtain rfl : v = .bl true := q
      obtain rfl : out = Value.bool true := r'
      refine ⟨rfl, OldK.of_keep fun b o e => ?_, os, bare⟩
      cases q : onlyS K a u b with
      | none => exact un.keep b o e q (fun y => absurd (show b ∈ ([] : List Addr) from y) (by simp)) (by simp)
      | some v =>
        obtain ⟨rfl, _, rfl⟩ := onlyS_at q
        subst hu
        rw [ha] at e
        cases e
        exact (ok' _ _ (un.frzs _ _ _ q)).1
theorem walk_ofG {l : PySem.W.OpenLaw} {n k : Nat} {q : Program} {loose : List Str} {XP : (Str → Option Value) → Heap → Prop} {YP : World → Heap → Prop} {d : DefRec} {K : Params → PySem.W.Frag} {sp : PySem.W.Frag → Sp} {x : Str}
    (most : l.most = some n) (fits : n ≤ sizeLine) (plain : d.params.defaults = []) (hr : Room k callerA) (hY : ∀ (w : World) (h : Heap), YP w h → (K w.params).In h)
    (F : ∀ (w : World) (mg : Str → Option Value) (fa : Addr) (h : Heap), (K w.params).In h → h.Ns mainGlobals mg → mg d.name = some (.ref fa) →
      ∃ fd : FuncData, (∀ (s : Shared) (u : Value), BindsTo s fd ⟨[u], []⟩ [(x, u)]) ∧ ∀ base : Heap, (K w.params).In base → base.Ns mainGlobals mg → FnG l.prog w (K w.params) mg base CX0 k fa fd [x] (sp (K w.params)))
    (hsp : ∀ (K : PySem.W.Frag) (H : Hp) (a : Addr) (ns : List Int), ns.length ≤ n → SqL K H a (ns.map V.int) → sp K [.ref a] H (fun v _ => v = .bl true) E0) :
    PySem.W.WalkO q loose XP YP l.row.toRowW d [] (fun f vs => PySem.call f vs) := by
  refine Att.attach_call most plain fun w s0 s1 mg mb fa o pm cd doc a vs ns G Y ho hd hcd hmg hobj hints hlen hg => ?_
  have KX := hY w _ Y
  obtain ⟨fd, hb, hF⟩ := F w mg fa _ KX G.T.g hmg
  exact root_of KX G.T.g G.T.b G.T.builtins G.T.nolimit hg hobj hints (Nat.le_trans hlen fits) hr hF hb fun H hS => hsp _ H a ns hlen hS

abbrev s_law_urn : Stmt := topS 16
theorem sc_law_urn : FnScope ["_law_script", "_law_at", "_law_mixed", "_law_cell", "_law_great"] ["_law_script", "_law_at"] (defScope s_law_urn) := ⟨rfl, rfl, rfl, by decide +kernel, rfl, by decide +kernel, by decide +kernel⟩

theorem cut_ints (ns : List Int) (lo hi : Option Int) : ∃ ms : List Int, cutV (ns.map V.int) lo hi = ms.map V.int := by
  refine ⟨(ns.drop (HT.sIx ns.length 0 lo)).take (HT.sIx ns.length ns.length hi - HT.sIx ns.length 0 lo), ?_⟩
  unfold cutV
  rw [List.length_map, List.map_take, List.map_drop]
theorem int_at {ns : List Int} {i : Nat} {x : V} (h : (ns.map V.int)[i]? = some x) : ∃ z : Int, ns[i]? = some z ∧ x = .int z := by
  rw [List.getElem?_map] at h
  cases e : ns[i]? with
  | none =>
    rw [e] at h
    cases h
  | some z =>
    rw [e] at h
    exact ⟨z, rfl, (Option.some.inj h).symm⟩
section
variable {P : Program} {w : World} {K : PySem.W.Frag} {mg : Str → Option Value} {base : Heap} {C fI : Addr}
/-- a new urn -/
def spUrn (K : PySem.W.Frag) : Sp := fun vs H Q _ => ∃ (a : Addr) (i : Nat) (ns : List Int), vs = [.ref a, .int i] ∧ SqL K H a (ns.map V.int) ∧ i ≤ 1000 ∧
  ∀ (H' : Hp) (p : Addr), Same H H' → H p = none → Urn H' p → Q (.ref p) H'
theorem ok_urn {f : Addr} {fd : FuncData} {k : Nat} (T : Txt mg) (d : D K mg "_law_urn" s_law_urn ["_law_script", "_law_at"] f fd) : FnOk P w K mg base CX0 (k + 1) f fd ["_law_script", "_law_at"] (spUrn K) := by
  refine d.F.ok sc_law_urn (fun vs H Q E h => ?_) (fun cdv A outer s H vs Q E hr h => ?_)
  · obtain ⟨a, i, ns, rfl, _⟩ := h
    rfl
  · obtain ⟨a, i, ns, rfl, hS, hi, q⟩ := h
    refine ⟨_, (pss_cons (ps_set (i := 2) sc_law_urn.nd rfl (.inl rfl) (pe_op op_add (pe_op op_mul pe_int (pv 1)) pe_int))
      (pss_cons (ps_for PassesOwn.never rfl (pi_list (pe_slice sl_list (pv 0) (po_some (pv 1)) po_none)) (pg_name (i := 3) sc_law_urn.nd rfl (.inl rfl))
        (pss_one (ps_set (i := 2) sc_law_urn.nd rfl (.inl rfl) (pe_op op_mod (pe_callTy call_int1 (by rfl) T.n_int (by decide +kernel) (pa_cons (pe_op op_add (pe_op op_add (pe_op op_mul (pv 2) pe_int) (pe_op op_mul (pe_op op_mod (pe_callTy call_int1 (by rfl) T.n_int (by decide +kernel) (pa_cons (pe_callB call_abs (by rfl) T.n_abs (by decide +kernel) (pa_cons (pv 3) pa_nil)) pa_nil)) (pe_op op_powW pe_int pe_int)) pe_int)) (pe_op op_mul (pe_callTy call_int1 (by rfl) T.n_int (by decide +kernel) (pa_cons (pe_cmpR op_gt (pv 3) pe_int (nomark _)) pa_nil)) pe_int)) pa_nil)) pe_int))))
      (pss_cons (ps_set (i := 4) sc_law_urn.nd rfl (.inl rfl) (pe_ifExp (pt_cmpR op_lt (pv 1) (pe_callB call_len_seq (by rfl) T.n_len PySem.boot_len (pa_cons (pv 0) pa_nil)) (nomark _)) (pe_op op_mod (pe_callTy call_int1 (by rfl) T.n_int (by decide +kernel) (pa_cons (pe_callB call_abs (by rfl) T.n_abs (by decide +kernel) (pa_cons (pe_ix ix_list (pv 0) (pv 1) (fun _ _ => rfl)) pa_nil)) pa_nil)) (pe_op op_powW (pe_op op_powW pe_int pe_int) pe_int)) pe_int))
      (pss_one (ps_ret (pe_lst (pa_cons (pe_callB (call_max2 rfl) (by rfl) T.n_max (by decide +kernel) (pa_cons pe_int (pa_cons (pe_op op_sub (pv 4) (pe_op op_powW pe_int pe_int)) pa_nil))) (pa_cons (pv 2) (pa_cons pe_int pa_nil))))))))), ?_⟩
    refine ⟨_, rfl, _, _, rfl, rfl, .inl (by decide), _, _, rfl, rfl, ?_⟩
    refine ⟨.ref a, rfl, _, rfl, _, rfl, a, _, rfl, hS, fun c nc => ?_⟩
    obtain ⟨ms, em⟩ := cut_ints ns (some (i : Int)) none
    have s1 : Same H (upd H c (.lst (cutV (ns.map V.int) (some (i : Int)) none))) := sub_same nc
    have hc : (upd H c (.lst (cutV (ns.map V.int) (some (i : Int)) none))) c = some (.lst (ms.map V.int)) := by rw [upd_same, em]
    revert s1 hc
    generalize upd H c (.lst (cutV (ns.map V.int) (some (i : Int)) none)) = H1
    intro s1 hc
    refine ⟨c, rfl, ⟨_, .inl (.inl hc)⟩, for_list (K := K) (a := c) (xs := ms.map V.int) (fun j σ H2 => (∃ (m : Int) (y : Option V), σ = [some (.ref a), some (.int i), some (.int m), y, none]) ∧ H2 = H1) ⟨⟨_, none, rfl⟩, rfl⟩ (fun j σ H2 _ z => by rw [z.2]; exact .inl (.inl hc)) ?_ ?_⟩
    · rintro j x σ H2 hj ⟨⟨m, y, rfl⟩, rfl⟩
      obtain ⟨z, _, rfl⟩ := int_at hj
      refine ⟨_, rfl, _, _, rfl, rfl, .inr (by decide), ?_⟩
      refine ⟨_, rfl, _, rfl, .inl ⟨_, rfl, _, _, rfl, rfl, ⟨by decide, by decide +kernel⟩, _, _, rfl, rfl, (by show (0 : Int) < _; decide), _, _, rfl, rfl, .inr (by decide), _, _, rfl, rfl, ?_⟩⟩
      refine ⟨_, rfl, _, _, rfl, rfl, .inr ⟨_, rfl, _, _, rfl, rfl, .inr (by decide), _, _, rfl, rfl, .inl ⟨_, rfl, _, _, rfl, rfl, (by show (0 : Int) < _; decide), ?_⟩⟩⟩
      exact ⟨⟨_, some (.int z), rfl⟩, rfl⟩
    · rintro σ H2 ⟨⟨m, y, rfl⟩, rfl⟩
      have rest : ∀ (g : Int), (fun (g : Int) => ∀ p, H2 p = none → Q (.ref p) (upd H2 p (.lst [.int g, .int m, .int 0]))) g := fun g p np => q _ p (s1.trans (sub_same np)) (s1.free np) ⟨_, _, _, upd_same⟩
      refine ⟨_, rfl, .ref a, rfl, a, _, rfl, .inl (s1.seq hS), _, _, rfl, rfl, _, rfl, ite2 (fun e => ?_) (fun e => ?_)⟩
      · have hlt : i < ns.length := by
          have z := of_decide_eq_true e
          rw [List.length_map] at z
          omega
        refine ⟨.ref a, rfl, _, rfl, a, _, _, .int ns[i], rfl, rfl, s1.seq hS, atI_nat (by rw [List.getElem?_map, List.getElem?_eq_getElem hlt]; rfl), ?_⟩
        refine ⟨_, rfl, .inl ⟨_, rfl, _, _, rfl, rfl, ⟨by decide, by decide +kernel⟩, _, _, rfl, rfl, ⟨by decide, by decide +kernel⟩, _, _, rfl, rfl, (by show (0 : Int) < _; decide), ?_⟩⟩
        refine ⟨_, rfl, _, _, rfl, rfl, ⟨by decide, by decide +kernel⟩, _, _, rfl, rfl, _, _, rfl, _, rfl, (by show 3 ≤ sizeLine; decide), fun p np => rest _ p np⟩
      · refine ⟨_, rfl, _, _, rfl, rfl, ⟨by decide, by decide +kernel⟩, _, _, rfl, rfl, _, _, rfl, _, rfl, (by show 3 ≤ sizeLine; decide), fun p np => rest _ p np⟩
/-- an int of at most fifty-nine digits and a one -/

theorem iteP {p A B : Prop} [Decidable p] (h : p) (a : A) : if decide p = true then A else B := by
  rw [if_pos (decide_eq_true h)]
  exact a
theorem iteQ {p A B : Prop} [Decidable p] (h : ¬ p) (b : B) : if decide p = true then A else B := by
  rw [if_neg (fun z => h (of_decide_eq_true z))]
  exact b
theorem ab_eq (z : Int) : (if z < 0 then -z else z) = ((z.natAbs : Nat) : Int) := by split <;> omega

end
end K00

/-! # the fourteen errors, thrown -/
namespace K00
open PySem PySem.Spec PyProof.Rows L2 PySem.E6
inductive P8
  | S | h | t | l | m | p | s | o
def gnP : P8 → Str
  | .S => "StairlotError" | .h => "InvalidShape" | .t => "InvalidStair" | .l => "InvalidLot" | .m => "InvalidMap" | .p => "InvalidPolynomial" | .s => "InvalidSpan" | .o => "InvalidOperation"
def leP : P8 → Str
  | .S => "S" | .h => "h" | .t => "t" | .l => "l" | .m => "m" | .p => "p" | .s => "s" | .o => "o"
def le6 : I6 → Str
  | .spot => "e" | .given => "n" | .wanted => "u" | .most => "y" | .reason => "r" | .many => "d"
/-- an error class that keeps nothing -/
structure Plain (K : PySem.W.Frag) (mg : Str → Option Value) (k : P8) (C : Addr) : Prop where
  x : PySem.W.excIn K C [.type "ValueError", .type "Exception", .type "BaseException", .type "object"] "ValueError.__new__" = true
  g : mg (gnP k) = some (.ref C)
  k : PySem.W.keepIn K (.ref C) = true
  b : PySem.W.subIn K (.ref C) (.type "BaseException") = some true
  t : PySem.W.typeIn K (.ref C) = some (.type "type")
/-- all of them -/
structure Errs (K : PySem.W.Frag) (mg : Str → Option Value) (cp : P8 → Addr) (c6 f6 : I6 → Addr) : Prop where
  p : ∀ k, Plain K mg k (cp k)
  s : ∀ i, Txt6 i K mg (c6 i) (f6 i)
/-- which of the fourteen -/
abbrev Kd := P8 ⊕ I6
def le : Kd → Str
  | .inl k => leP k
  | .inr i => le6 i
def clsA (cp : P8 → Addr) (c6 : I6 → Addr) : Kd → Addr
  | .inl k => cp k
  | .inr i => c6 i
theorem stepNo {u v : Str} {A B : Prop} (n : ¬ u = v) (b : B) : if decide (V.str u = V.str v) = true then A else B := by
  rw [if_neg (fun z => n (V.str.inj (of_decide_eq_true z)))]
  exact b
theorem stepYes {u : Str} {A B : Prop} (a : A) : if decide (V.str u = V.str u) = true then A else B := by
  rw [if_pos (decide_eq_true rfl)]
  exact a
section
variable {P : Program} {w : World} {K : PySem.W.Frag} {mg : Str → Option Value} {base : Heap} {cp : P8 → Addr} {c6 f6 : I6 → Addr}
abbrev s_throw : Stmt := topS 19
theorem sc_throw : FnScope ["_law_word", "_law_text", "_law_kept_here"] ["_law_word", "_law_text", "_law_kept_here"] (defScope s_throw) := ⟨rfl, rfl, rfl, by decide +kernel, rfl, by decide +kernel, by decide +kernel⟩
theorem okN {x qual : Str} {st : Stmt} {f : Addr} {fd : FuncData} {N ps : List Str} {k : Nat} {sp : Sp} (F : Fun K x qual st f fd) (S : FnScope N ps (defScope st)) (len : ∀ vs H Q E, sp vs H Q E → vs.length = ps.length)
    (body : ∀ (cdv : Value) (A : Around) (outer : List Env) (s : Shared) (H : Hp) (vs : List V) (Q : VK) (E : XK), Room k (A.deeper (envOfC qual (defScope st) s.heap.objs.size f cdv)) → sp vs H Q E →
      ∃ t, PSs (cxOf (L2N.CX P w) P w K mg base N qual (defScope st) f cdv A outer s H E) (defBody st) t ∧ t { nx := fun _ H' => Q .non H', rt := Q } (L2.start N vs) H) : FnOk P w K mg base (L2N.CX P w) (k + 1) f fd ps sp := by
  obtain ⟨_, _, _, _, _, _, _, _, _, rfl, lk, hcd⟩ := F.ex
  exact fn_of lk hcd S len (body _)
def spThrow (cp : P8 → Addr) (c6 : I6 → Addr) : Sp := fun vs H _ E => ∃ (c : Kd) (t : Str) (x : V), vs = [.str (le c), .str t, x] ∧ (∀ k, c = .inl k → E (.ref (cp k)) none H) ∧ (∀ i, c = .inr i → ∀ d, H d = none → E (.ref (c6 i)) (some d) (upd H d (.xd [(fld i, x)])))
theorem ok_throw {f : Addr} {fd : FuncData} {k : Nat} (O : Errs K mg cp c6 f6) (d : D K mg "_law_throw" s_throw ["_law_word", "_law_text", "_law_kept_here"] f fd) : FnOk P w K mg base (L2N.CX P w) (k + 3) f fd ["_law_word", "_law_text", "_law_kept_here"] (spThrow cp c6) := by
  refine okN d.F sc_throw (fun vs H Q E h => ?_) (fun cdv A outer s H vs Q E hr h => ?_)
  · obtain ⟨c, t, x, rfl, _⟩ := h
    rfl
  · obtain ⟨c, t, x, rfl, gp, g6⟩ := h
    refine ⟨_, (pss_cons (ps_if (pt_cmpR op_eq (pv 0) pe_str (nomark _)) (pss_one (L2N.ps_raise rfl (L2N.takes_of rfl rfl rfl rfl) (by exact (pmk_ownV PySem.F.excBase_ValueError (O.p .S).x (O.p .S).g (O.p .S).k (raises_own (O.p .S).b (O.p .S).t) rfl (pa_cons (pv 1) pa_nil))))) pss_nil)
      (pss_cons (ps_if (pt_cmpR op_eq (pv 0) pe_str (nomark _)) (pss_one (L2N.ps_raise rfl (L2N.takes_of rfl rfl rfl rfl) (by exact (pmk_ownV PySem.F.excBase_ValueError (O.p .h).x (O.p .h).g (O.p .h).k (raises_own (O.p .h).b (O.p .h).t) rfl (pa_cons (pv 1) pa_nil))))) pss_nil)
      (pss_cons (ps_if (pt_cmpR op_eq (pv 0) pe_str (nomark _)) (pss_one (L2N.ps_raise rfl (L2N.takes_of rfl rfl rfl rfl) (by exact (pmk_ownV PySem.F.excBase_ValueError (O.p .t).x (O.p .t).g (O.p .t).k (raises_own (O.p .t).b (O.p .t).t) rfl (pa_cons (pv 1) pa_nil))))) pss_nil)
      (pss_cons (ps_if (pt_cmpR op_eq (pv 0) pe_str (nomark _)) (pss_one (L2N.ps_raise rfl (L2N.takes_of rfl rfl rfl rfl) (by exact (pmk_ownV PySem.F.excBase_ValueError (O.p .l).x (O.p .l).g (O.p .l).k (raises_own (O.p .l).b (O.p .l).t) rfl (pa_cons (pv 1) pa_nil))))) pss_nil)
      (pss_cons (ps_if (pt_cmpR op_eq (pv 0) pe_str (nomark _)) (pss_one (L2N.ps_raise rfl (L2N.takes_of rfl rfl rfl rfl) (by exact (pmk_ownV PySem.F.excBase_ValueError (O.p .m).x (O.p .m).g (O.p .m).k (raises_own (O.p .m).b (O.p .m).t) rfl (pa_cons (pv 1) pa_nil))))) pss_nil)
      (pss_cons (ps_if (pt_cmpR op_eq (pv 0) pe_str (nomark _)) (pss_one (L2N.ps_raise rfl (L2N.takes_of rfl rfl rfl rfl) (by exact (pmk_ownV PySem.F.excBase_ValueError (O.p .p).x (O.p .p).g (O.p .p).k (raises_own (O.p .p).b (O.p .p).t) rfl (pa_cons (pv 1) pa_nil))))) pss_nil)
      (pss_cons (ps_if (pt_cmpR op_eq (pv 0) pe_str (nomark _)) (pss_one (L2N.ps_raise rfl (L2N.takes_of rfl rfl rfl rfl) (by exact (pmk_ownV PySem.F.excBase_ValueError (O.p .s).x (O.p .s).g (O.p .s).k (raises_own (O.p .s).b (O.p .s).t) rfl (pa_cons (pv 1) pa_nil))))) pss_nil)
      (pss_cons (ps_if (pt_cmpR op_eq (pv 0) pe_str (nomark _)) (pss_one (L2N.ps_raise rfl (L2N.takes_of rfl rfl rfl rfl) (by exact (pmk_ownV PySem.F.excBase_ValueError (O.p .o).x (O.p .o).g (O.p .o).k (raises_own (O.p .o).b (O.p .o).t) rfl (pa_cons (pv 1) pa_nil))))) pss_nil)
      (pss_cons (ps_if (pt_cmpR op_eq (pv 0) pe_str (nomark _)) (pss_one (by exact (ps_raise6 (i := .spot) rfl (O.s .spot) hr (L2N.takes_of rfl rfl rfl rfl) (pa_cons (pv 2) pa_nil) (by rfl) (by decide)))) pss_nil)
      (pss_cons (ps_if (pt_cmpR op_eq (pv 0) pe_str (nomark _)) (pss_one (by exact (ps_raise6 (i := .given) rfl (O.s .given) hr (L2N.takes_of rfl rfl rfl rfl) (pa_cons (pv 2) pa_nil) (by rfl) (by decide)))) pss_nil)
      (pss_cons (ps_if (pt_cmpR op_eq (pv 0) pe_str (nomark _)) (pss_one (by exact (ps_raise6 (i := .wanted) rfl (O.s .wanted) hr (L2N.takes_of rfl rfl rfl rfl) (pa_cons (pv 2) pa_nil) (by rfl) (by decide)))) pss_nil)
      (pss_cons (ps_if (pt_cmpR op_eq (pv 0) pe_str (nomark _)) (pss_one (by exact (ps_raise6 (i := .most) rfl (O.s .most) hr (L2N.takes_of rfl rfl rfl rfl) (pa_cons (pv 2) pa_nil) (by rfl) (by decide)))) pss_nil)
      (pss_cons (ps_if (pt_cmpR op_eq (pv 0) pe_str (nomark _)) (pss_one (by exact (ps_raise6 (i := .reason) rfl (O.s .reason) hr (L2N.takes_of rfl rfl rfl rfl) (pa_cons (pv 2) pa_nil) (by rfl) (by decide)))) pss_nil)
      (pss_one (by exact (ps_raise6 (i := .many) rfl (O.s .many) hr (L2N.takes_of rfl rfl rfl rfl) (pa_cons (pv 2) pa_nil) (by rfl) (by decide))))))))))))))))), ?_⟩
    cases c with
    | inl c =>
      cases c with
      | S => exact ⟨_, rfl, rfl, _, rfl, stepYes ⟨_, rfl, _, rfl, gp _ rfl⟩⟩
      | h => exact ⟨_, rfl, rfl, _, rfl, stepNo (by decide +kernel) ⟨_, rfl, rfl, _, rfl, stepYes ⟨_, rfl, _, rfl, gp _ rfl⟩⟩⟩
      | t => exact ⟨_, rfl, rfl, _, rfl, stepNo (by decide +kernel) ⟨_, rfl, rfl, _, rfl, stepNo (by decide +kernel) ⟨_, rfl, rfl, _, rfl, stepYes ⟨_, rfl, _, rfl, gp _ rfl⟩⟩⟩⟩
      | l => exact ⟨_, rfl, rfl, _, rfl, stepNo (by decide +kernel) ⟨_, rfl, rfl, _, rfl, stepNo (by decide +kernel) ⟨_, rfl, rfl, _, rfl, stepNo (by decide +kernel) ⟨_, rfl, rfl, _, rfl, stepYes ⟨_, rfl, _, rfl, gp _ rfl⟩⟩⟩⟩⟩
      | m => exact ⟨_, rfl, rfl, _, rfl, stepNo (by decide +kernel) ⟨_, rfl, rfl, _, rfl, stepNo (by decide +kernel) ⟨_, rfl, rfl, _, rfl, stepNo (by decide +kernel) ⟨_, rfl, rfl, _, rfl, stepNo (by decide +kernel) ⟨_, rfl, rfl, _, rfl, stepYes ⟨_, rfl, _, rfl, gp _ rfl⟩⟩⟩⟩⟩⟩
      | p => exact ⟨_, rfl, rfl, _, rfl, stepNo (by decide +kernel) ⟨_, rfl, rfl, _, rfl, stepNo (by decide +kernel) ⟨_, rfl, rfl, _, rfl, stepNo (by decide +kernel) ⟨_, rfl, rfl, _, rfl, stepNo (by decide +kernel) ⟨_, rfl, rfl, _, rfl, stepNo (by decide +kernel) ⟨_, rfl, rfl, _, rfl, stepYes ⟨_, rfl, _, rfl, gp _ rfl⟩⟩⟩⟩⟩⟩⟩
      | s => exact ⟨_, rfl, rfl, _, rfl, stepNo (by decide +kernel) ⟨_, rfl, rfl, _, rfl, stepNo (by decide +kernel) ⟨_, rfl, rfl, _, rfl, stepNo (by decide +kernel) ⟨_, rfl, rfl, _, rfl, stepNo (by decide +kernel) ⟨_, rfl, rfl, _, rfl, stepNo (by decide +kernel) ⟨_, rfl, rfl, _, rfl, stepNo (by decide +kernel) ⟨_, rfl, rfl, _, rfl, stepYes ⟨_, rfl, _, rfl, gp _ rfl⟩⟩⟩⟩⟩⟩⟩⟩
      | o => exact ⟨_, rfl, rfl, _, rfl, stepNo (by decide +kernel) ⟨_, rfl, rfl, _, rfl, stepNo (by decide +kernel) ⟨_, rfl, rfl, _, rfl, stepNo (by decide +kernel) ⟨_, rfl, rfl, _, rfl, stepNo (by decide +kernel) ⟨_, rfl, rfl, _, rfl, stepNo (by decide +kernel) ⟨_, rfl, rfl, _, rfl, stepNo (by decide +kernel) ⟨_, rfl, rfl, _, rfl, stepNo (by decide +kernel) ⟨_, rfl, rfl, _, rfl, stepYes ⟨_, rfl, _, rfl, gp _ rfl⟩⟩⟩⟩⟩⟩⟩⟩⟩
    | inr c =>
      cases c with
      | spot => exact ⟨_, rfl, rfl, _, rfl, stepNo (by decide +kernel) ⟨_, rfl, rfl, _, rfl, stepNo (by decide +kernel) ⟨_, rfl, rfl, _, rfl, stepNo (by decide +kernel) ⟨_, rfl, rfl, _, rfl, stepNo (by decide +kernel) ⟨_, rfl, rfl, _, rfl, stepNo (by decide +kernel) ⟨_, rfl, rfl, _, rfl, stepNo (by decide +kernel) ⟨_, rfl, rfl, _, rfl, stepNo (by decide +kernel) ⟨_, rfl, rfl, _, rfl, stepNo (by decide +kernel) ⟨_, rfl, rfl, _, rfl, stepYes ⟨_, rfl, _, rfl, fun d hd => g6 _ rfl d hd⟩⟩⟩⟩⟩⟩⟩⟩⟩⟩
      | given => exact ⟨_, rfl, rfl, _, rfl, stepNo (by decide +kernel) ⟨_, rfl, rfl, _, rfl, stepNo (by decide +kernel) ⟨_, rfl, rfl, _, rfl, stepNo (by decide +kernel) ⟨_, rfl, rfl, _, rfl, stepNo (by decide +kernel) ⟨_, rfl, rfl, _, rfl, stepNo (by decide +kernel) ⟨_, rfl, rfl, _, rfl, stepNo (by decide +kernel) ⟨_, rfl, rfl, _, rfl, stepNo (by decide +kernel) ⟨_, rfl, rfl, _, rfl, stepNo (by decide +kernel) ⟨_, rfl, rfl, _, rfl, stepNo (by decide +kernel) ⟨_, rfl, rfl, _, rfl, stepYes ⟨_, rfl, _, rfl, fun d hd => g6 _ rfl d hd⟩⟩⟩⟩⟩⟩⟩⟩⟩⟩⟩
      | wanted => exact ⟨_, rfl, rfl, _, rfl, stepNo (by decide +kernel) ⟨_, rfl, rfl, _, rfl, stepNo (by decide +kernel) ⟨_, rfl, rfl, _, rfl, stepNo (by decide +kernel) ⟨_, rfl, rfl, _, rfl, stepNo (by decide +kernel) ⟨_, rfl, rfl, _, rfl, stepNo (by decide +kernel) ⟨_, rfl, rfl, _, rfl, stepNo (by decide +kernel) ⟨_, rfl, rfl, _, rfl, stepNo (by decide +kernel) ⟨_, rfl, rfl, _, rfl, stepNo (by decide +kernel) ⟨_, rfl, rfl, _, rfl, stepNo (by decide +kernel) ⟨_, rfl, rfl, _, rfl, stepNo (by decide +kernel) ⟨_, rfl, rfl, _, rfl, stepYes ⟨_, rfl, _, rfl, fun d hd => g6 _ rfl d hd⟩⟩⟩⟩⟩⟩⟩⟩⟩⟩⟩⟩
      | most => exact ⟨_, rfl, rfl, _, rfl, stepNo (by decide +kernel) ⟨_, rfl, rfl, _, rfl, stepNo (by decide +kernel) ⟨_, rfl, rfl, _, rfl, stepNo (by decide +kernel) ⟨_, rfl, rfl, _, rfl, stepNo (by decide +kernel) ⟨_, rfl, rfl, _, rfl, stepNo (by decide +kernel) ⟨_, rfl, rfl, _, rfl, stepNo (by decide +kernel) ⟨_, rfl, rfl, _, rfl, stepNo (by decide +kernel) ⟨_, rfl, rfl, _, rfl, stepNo (by decide +kernel) ⟨_, rfl, rfl, _, rfl, stepNo (by decide +kernel) ⟨_, rfl, rfl, _, rfl, stepNo (by decide +kernel) ⟨_, rfl, rfl, _, rfl, stepNo (by decide +kernel) ⟨_, rfl, rfl, _, rfl, stepYes ⟨_, rfl, _, rfl, fun d hd => g6 _ rfl d hd⟩⟩⟩⟩⟩⟩⟩⟩⟩⟩⟩⟩⟩
      | reason => exact ⟨_, rfl, rfl, _, rfl, stepNo (by decide +kernel) ⟨_, rfl, rfl, _, rfl, stepNo (by decide +kernel) ⟨_, rfl, rfl, _, rfl, stepNo (by decide +kernel) ⟨_, rfl, rfl, _, rfl, stepNo (by decide +kernel) ⟨_, rfl, rfl, _, rfl, stepNo (by decide +kernel) ⟨_, rfl, rfl, _, rfl, stepNo (by decide +kernel) ⟨_, rfl, rfl, _, rfl, stepNo (by decide +kernel) ⟨_, rfl, rfl, _, rfl, stepNo (by decide +kernel) ⟨_, rfl, rfl, _, rfl, stepNo (by decide +kernel) ⟨_, rfl, rfl, _, rfl, stepNo (by decide +kernel) ⟨_, rfl, rfl, _, rfl, stepNo (by decide +kernel) ⟨_, rfl, rfl, _, rfl, stepNo (by decide +kernel) ⟨_, rfl, rfl, _, rfl, stepYes ⟨_, rfl, _, rfl, fun d hd => g6 _ rfl d hd⟩⟩⟩⟩⟩⟩⟩⟩⟩⟩⟩⟩⟩⟩
      | many => exact ⟨_, rfl, rfl, _, rfl, stepNo (by decide +kernel) ⟨_, rfl, rfl, _, rfl, stepNo (by decide +kernel) ⟨_, rfl, rfl, _, rfl, stepNo (by decide +kernel) ⟨_, rfl, rfl, _, rfl, stepNo (by decide +kernel) ⟨_, rfl, rfl, _, rfl, stepNo (by decide +kernel) ⟨_, rfl, rfl, _, rfl, stepNo (by decide +kernel) ⟨_, rfl, rfl, _, rfl, stepNo (by decide +kernel) ⟨_, rfl, rfl, _, rfl, stepNo (by decide +kernel) ⟨_, rfl, rfl, _, rfl, stepNo (by decide +kernel) ⟨_, rfl, rfl, _, rfl, stepNo (by decide +kernel) ⟨_, rfl, rfl, _, rfl, stepNo (by decide +kernel) ⟨_, rfl, rfl, _, rfl, stepNo (by decide +kernel) ⟨_, rfl, rfl, _, rfl, stepNo (by decide +kernel) ⟨_, rfl, _, rfl, fun d hd => g6 _ rfl d hd⟩⟩⟩⟩⟩⟩⟩⟩⟩⟩⟩⟩⟩⟩
end
end K00

/-! # marks -/
namespace K00
open PySem PySem.Spec PyProof.Rows L2 PySem.E6
inductive B6
  | V | I | K | L | O | A
def bN : B6 → String
  | .V => "ValueError" | .I => "IndexError" | .K => "KeyError" | .L => "LookupError" | .O => "OverflowError" | .A => "ArithmeticError"
def tabO : Kd → Kd → Bool
  | .inl k, .inl .S => true
  | .inr .spot, .inl .S => true
  | .inl .h, .inl .h => true | .inl .t, .inl .t => true | .inl .l, .inl .l => true | .inl .m, .inl .m => true | .inl .p, .inl .p => true | .inl .s, .inl .s => true | .inl .o, .inl .o => true
  | .inr .spot, .inr .spot => true | .inr .given, .inr .given => true | .inr .wanted, .inr .wanted => true | .inr .most, .inr .most => true | .inr .reason, .inr .reason => true | .inr .many, .inr .many => true
  | _, _ => false
def tabB : Kd → B6 → Bool
  | .inl _, .V => true
  | .inr .spot, .V => true
  | .inr .given, .I => true
  | .inr .given, .L => true
  | .inr .wanted, .K => true
  | .inr .wanted, .L => true
  | .inr .most, .O => true
  | .inr .most, .A => true
  | .inr .reason, .A => true
  | .inr .many, .L => true
  | _, _ => false
/-- what isinstance says of them -/
structure Kits (K : PySem.W.Frag) (cp : P8 → Addr) (c6 : I6 → Addr) : Prop where
  x : ∀ c, ExcC K (clsA cp c6 c)
  o : ∀ c c', PySem.W.kitOne K (.ref (clsA cp c6 c)) (.ref (clsA cp c6 c')) = some (tabO c c')
  b : ∀ c b, PySem.W.kitOne K (.ref (clsA cp c6 c)) (.type (bN b)) = some (tabB c b)
/-- the letters with their answers -/
def row (c : Kd) : List (Str × Bool) := [("S", tabO c (.inl .S)), ("h", tabO c (.inl .h)), ("t", tabO c (.inl .t)), ("l", tabO c (.inl .l)), ("m", tabO c (.inl .m)), ("p", tabO c (.inl .p)), ("s", tabO c (.inl .s)), ("o", tabO c (.inl .o)), ("e", tabO c (.inr .spot)), ("n", tabO c (.inr .given)), ("u", tabO c (.inr .wanted)), ("y", tabO c (.inr .most)), ("r", tabO c (.inr .reason)), ("d", tabO c (.inr .many)), ("V", tabB c .V), ("I", tabB c .I), ("K", tabB c .K), ("L", tabB c .L), ("O", tabB c .O), ("A", tabB c .A)]
def marks (c : Kd) : Str := Txt.join ("" : Str) (((row c).filter (·.2)).map (·.1))
/-- tuples of a letter and an answer -/
inductive Tups (H : Hp) : List V → List (Str × Bool) → Prop
  | nil : Tups H [] []
  | cons {t : Addr} {l : Str} {b : Bool} {ts : List V} {r : List (Str × Bool)} : H t = some (.tup [.str l, .bl b]) → Tups H ts r → Tups H (.ref t :: ts) ((l, b) :: r)
theorem Tups.same {H H' : Hp} (s : Same H H') : ∀ {ts r}, Tups H ts r → Tups H' ts r
  | _, _, .nil => .nil
  | _, _, .cons e r => .cons (s _ _ e) (r.same s)
theorem Tups.app {H : Hp} : ∀ {ts r us q}, Tups H ts r → Tups H us q → Tups H (ts ++ us) (r ++ q)
  | _, _, _, _, .nil, z => z
  | _, _, _, _, .cons e r, z => .cons e (r.app z)
theorem Tups.len {H : Hp} : ∀ {ts r}, Tups H ts r → ts.length = r.length
  | _, _, .nil => rfl
  | _, _, .cons _ r => congrArg (· + 1) r.len
theorem Tups.get {H : Hp} : ∀ {ts r} {i : Nat} {x : V}, Tups H ts r → ts[i]? = some x → ∃ t l b, x = .ref t ∧ r[i]? = some (l, b) ∧ H t = some (.tup [.str l, .bl b])
  | _, _, _, _, .nil, h => by simp at h
  | _, _, 0, _, .cons e _, h => by
    rw [List.getElem?_cons_zero] at h
    obtain rfl := Option.some.inj h
    exact ⟨_, _, _, rfl, rfl, e⟩
  | _, _, i + 1, _, .cons _ r, h => by
    rw [List.getElem?_cons_succ] at h
    exact r.get h
def OwnL (H : Hp) (L : Addr) (r : List (Str × Bool)) : Prop := ∃ ts, H L = some (.lst ts) ∧ Tups H ts r
/-- an answer that needs nothing but J, which stays -/
def Ans (J : Hp → Prop) (σ : L2.St) (te : TE) (b : Bool) : Prop := ∀ (H : Hp) (Q : VK), J H → Q (.bl b) H → te σ H Q
theorem rd_two {J : Hp → Prop} (st : ∀ {H H'}, Same H H' → J H → J H') {σ : L2.St} {te1 te2 : TE} {b1 b2 : Bool} (a1 : Ans J σ te1 b1) (a2 : Ans J σ te2 b2) {l1 l2 : Str} {H : Hp} {Q : VK} (j : J H)
    (q : ∀ H' p, Same H H' → H p = none → OwnL H' p [(l1, b1), (l2, b2)] → Q (.ref p) H') : tLst (tCons (tTup (tCons (tC (.str l1)) (tCons te1 tNil))) (tCons (tTup (tCons (tC (.str l2)) (tCons te2 tNil))) tNil)) σ H Q := by
  refine a1 _ _ j ⟨(by show 2 ≤ sizeLine; decide), fun t1 h1 => ?_⟩
  have s1 := sub_same (o := .tup [V.str l1, V.bl b1]) h1
  refine a2 _ _ (st s1 j) ⟨(by show 2 ≤ sizeLine; decide), fun t2 h2 => ⟨(by show 2 ≤ sizeLine; decide), fun p hp => ?_⟩⟩
  have s2 := sub_same (o := .tup [V.str l2, V.bl b2]) h2
  have s3 := sub_same (o := .lst [V.ref t1, V.ref t2]) hp
  exact q _ p ((s1.trans s2).trans s3) ((s1.trans s2).free hp) ⟨_, upd_same, .cons (s3 _ _ (s2 _ _ upd_same)) (.cons (s3 _ _ upd_same) .nil)⟩
theorem rd_cat {J : Hp → Prop} (st : ∀ {H H'}, Same H H' → J H → J H') {σ : L2.St} {te1 te2 : TE} {b1 b2 : Bool} (a1 : Ans J σ te1 b1) (a2 : Ans J σ te2 b2) {l1 l2 : Str} {L : Addr} {r : List (Str × Bool)} {H : Hp} {Q : VK} (j : J H) (o : OwnL H L r) (sz : r.length ≤ 100) (hv : σ[1]? = some (some (.ref L)))
    (q : ∀ H' p, Same H H' → H p = none → OwnL H' p (r ++ [(l1, b1), (l2, b2)]) → Q (.ref p) H') : tOp rCat (tVar 1) (tLst (tCons (tTup (tCons (tC (.str l1)) (tCons te1 tNil))) (tCons (tTup (tCons (tC (.str l2)) (tCons te2 tNil))) tNil))) σ H Q := by
  refine ⟨_, hv, rd_two st a1 a2 j fun H1 p s1 n1 o1 => ?_⟩
  obtain ⟨ts, e, t⟩ := o
  obtain ⟨us, e1, u⟩ := o1
  refine ⟨L, p, ts, us, rfl, rfl, s1 _ _ e, e1, ?_, fun z hz => ?_⟩
  · rw [t.len, u.len]
    exact Nat.le_trans (show r.length + 2 ≤ 102 by omega) (by decide)
  have s2 := sub_same (o := .lst (ts ++ us)) hz
  exact q _ z (s1.trans s2) (s1.free hz) ⟨_, upd_same, ((t.same s1).same s2).app (u.same s2)⟩
theorem st_two {J : Hp → Prop} (st : ∀ {H H'}, Same H H' → J H → J H') {σ : L2.St} {te1 te2 : TE} {b1 b2 : Bool} (a1 : Ans J σ te1 b1) (a2 : Ans J σ te2 b2) {l1 l2 : Str} {H : Hp} {D : Ends} {rest : TS} {i : Nat} (j : J H)
    (q : ∀ H' p, Same H H' → H p = none → OwnL H' p [(l1, b1), (l2, b2)] → rest D (σ.set i (some (.ref p))) H') : tSeq (tAsg (tLst (tCons (tTup (tCons (tC (.str l1)) (tCons te1 tNil))) (tCons (tTup (tCons (tC (.str l2)) (tCons te2 tNil))) tNil))) (gName i)) rest D σ H :=
  rd_two (Q := fun v H1 => gName i v σ H1 fun σ' H' => rest D σ' H') st a1 a2 j q
theorem st_cat {J : Hp → Prop} (st : ∀ {H H'}, Same H H' → J H → J H') {σ : L2.St} {te1 te2 : TE} {b1 b2 : Bool} (a1 : Ans J σ te1 b1) (a2 : Ans J σ te2 b2) {l1 l2 : Str} {L : Addr} {r : List (Str × Bool)} {H : Hp} {D : Ends} {rest : TS} {i : Nat} (j : J H) (o : OwnL H L r) (sz : r.length ≤ 100) (hv : σ[1]? = some (some (.ref L)))
    (q : ∀ H' p, Same H H' → H p = none → OwnL H' p (r ++ [(l1, b1), (l2, b2)]) → rest D (σ.set i (some (.ref p))) H') : tSeq (tAsg (tOp rCat (tVar 1) (tLst (tCons (tTup (tCons (tC (.str l1)) (tCons te1 tNil))) (tCons (tTup (tCons (tC (.str l2)) (tCons te2 tNil))) tNil)))) (gName i)) rest D σ H :=
  rd_cat (Q := fun v H1 => gName i v σ H1 fun σ' H' => rest D σ' H') st a1 a2 j o sz hv q
section
variable {P : Program} {w : World} {K : PySem.W.Frag} {mg : Str → Option Value} {base : Heap} {cp : P8 → Addr} {c6 f6 : I6 → Addr}
abbrev s_marks : Stmt := topS 20
theorem sc_marks : FnScope ["_law_error", "_law_own", "_law_letter", "_law_holds"] ["_law_error"] (defScope s_marks) := ⟨rfl, rfl, rfl, by decide +kernel, rfl, by decide +kernel, by decide +kernel⟩
/-- the handled error is of the class c, its dict (where it has one) stands -/
def ErrAt (cp : P8 → Addr) (c6 : I6 → Addr) (c : Kd) (cls : Value) (d : Option Addr) (H : Hp) : Prop := cls = .ref (clsA cp c6 c) ∧ ∀ dd, d = some dd → ∃ fs, H dd = some (.xd fs)
def spMarks (cp : P8 → Addr) (c6 : I6 → Addr) : Addr → Value → Option Addr → Hp → VK → Prop := fun _ cls d H Q => ∃ c, ErrAt cp c6 c cls d H ∧ ∀ H', Same H H' → Q (.str (marks c)) H'
theorem ok_marks {f : Addr} {fd : FuncData} {k : Nat} (T : Txt mg) (O : Errs K mg cp c6 f6) (Kt : Kits K cp c6) (nb : (∀ b, mg (Str.ofString (bN b)) = none)) (d : D K mg "_law_marks" s_marks ["_law_error"] f fd) : FnP P w K mg base (k + 1) f fd "_law_error" (spMarks cp c6) := by
  refine FnP.of d.F sc_marks (fun cdv A out s H p cls dd Q hot hz hr h => ?_)
  obtain ⟨c, ⟨rfl, hd⟩, g⟩ := h
  have hf : ∃ vs, p.2.data = .fields vs := let ⟨_, vs, e, _⟩ := hot; ⟨vs, e⟩
  have hp : (p.1, p.2) ∈ [p] := List.mem_singleton.mpr rfl
  have st : ∀ {H H' : Hp}, Same H H' → (∀ x, dd = some x → ∃ fs, H x = some (.xd fs)) → (∀ x, dd = some x → ∃ fs, H' x = some (.xd fs)) := fun s z x e => let ⟨fs, y⟩ := z x e; ⟨fs, s _ _ y⟩
  refine ⟨_, (pss_cons (ps_set (i := 1) sc_marks.nd rfl (.inl rfl) (pe_lst (pa_cons (pe_tup (pa_cons pe_str (pa_cons (pe_callB (call_isP (X := L2H.cxH CX0 P w K mg base _ _ _ _ _ _ _ _ _ _ _) (Kt.x c) hz.zc hf hp) (by rfl) T.n_isinstance (by decide +kernel) (pa_cons (pv 0) (pa_cons (pe_glob (v := .ref (clsA cp c6 (.inl .S))) (by rfl) (O.p .S).g rfl) pa_nil))) pa_nil))) (pa_cons (pe_tup (pa_cons pe_str (pa_cons (pe_callB (call_isP (X := L2H.cxH CX0 P w K mg base _ _ _ _ _ _ _ _ _ _ _) (Kt.x c) hz.zc hf hp) (by rfl) T.n_isinstance (by decide +kernel) (pa_cons (pv 0) (pa_cons (pe_glob (v := .ref (clsA cp c6 (.inl .h))) (by rfl) (O.p .h).g rfl) pa_nil))) pa_nil))) pa_nil))))
      (pss_cons (ps_set (i := 1) sc_marks.nd rfl (.inl rfl) (pe_op op_cat (pv 1) (pe_lst (pa_cons (pe_tup (pa_cons pe_str (pa_cons (pe_callB (call_isP (X := L2H.cxH CX0 P w K mg base _ _ _ _ _ _ _ _ _ _ _) (Kt.x c) hz.zc hf hp) (by rfl) T.n_isinstance (by decide +kernel) (pa_cons (pv 0) (pa_cons (pe_glob (v := .ref (clsA cp c6 (.inl .t))) (by rfl) (O.p .t).g rfl) pa_nil))) pa_nil))) (pa_cons (pe_tup (pa_cons pe_str (pa_cons (pe_callB (call_isP (X := L2H.cxH CX0 P w K mg base _ _ _ _ _ _ _ _ _ _ _) (Kt.x c) hz.zc hf hp) (by rfl) T.n_isinstance (by decide +kernel) (pa_cons (pv 0) (pa_cons (pe_glob (v := .ref (clsA cp c6 (.inl .l))) (by rfl) (O.p .l).g rfl) pa_nil))) pa_nil))) pa_nil)))))
      (pss_cons (ps_set (i := 1) sc_marks.nd rfl (.inl rfl) (pe_op op_cat (pv 1) (pe_lst (pa_cons (pe_tup (pa_cons pe_str (pa_cons (pe_callB (call_isP (X := L2H.cxH CX0 P w K mg base _ _ _ _ _ _ _ _ _ _ _) (Kt.x c) hz.zc hf hp) (by rfl) T.n_isinstance (by decide +kernel) (pa_cons (pv 0) (pa_cons (pe_glob (v := .ref (clsA cp c6 (.inl .m))) (by rfl) (O.p .m).g rfl) pa_nil))) pa_nil))) (pa_cons (pe_tup (pa_cons pe_str (pa_cons (pe_callB (call_isP (X := L2H.cxH CX0 P w K mg base _ _ _ _ _ _ _ _ _ _ _) (Kt.x c) hz.zc hf hp) (by rfl) T.n_isinstance (by decide +kernel) (pa_cons (pv 0) (pa_cons (pe_glob (v := .ref (clsA cp c6 (.inl .p))) (by rfl) (O.p .p).g rfl) pa_nil))) pa_nil))) pa_nil)))))
      (pss_cons (ps_set (i := 1) sc_marks.nd rfl (.inl rfl) (pe_op op_cat (pv 1) (pe_lst (pa_cons (pe_tup (pa_cons pe_str (pa_cons (pe_callB (call_isP (X := L2H.cxH CX0 P w K mg base _ _ _ _ _ _ _ _ _ _ _) (Kt.x c) hz.zc hf hp) (by rfl) T.n_isinstance (by decide +kernel) (pa_cons (pv 0) (pa_cons (pe_glob (v := .ref (clsA cp c6 (.inl .s))) (by rfl) (O.p .s).g rfl) pa_nil))) pa_nil))) (pa_cons (pe_tup (pa_cons pe_str (pa_cons (pe_callB (call_isP (X := L2H.cxH CX0 P w K mg base _ _ _ _ _ _ _ _ _ _ _) (Kt.x c) hz.zc hf hp) (by rfl) T.n_isinstance (by decide +kernel) (pa_cons (pv 0) (pa_cons (pe_glob (v := .ref (clsA cp c6 (.inl .o))) (by rfl) (O.p .o).g rfl) pa_nil))) pa_nil))) pa_nil)))))
      (pss_cons (ps_set (i := 1) sc_marks.nd rfl (.inl rfl) (pe_op op_cat (pv 1) (pe_lst (pa_cons (pe_tup (pa_cons pe_str (pa_cons (pe_callB (call_isP (X := L2H.cxH CX0 P w K mg base _ _ _ _ _ _ _ _ _ _ _) (Kt.x c) hz.zc hf hp) (by rfl) T.n_isinstance (by decide +kernel) (pa_cons (pv 0) (pa_cons (pe_glob (v := .ref (clsA cp c6 (.inr .spot))) (by rfl) (O.s .spot).gC rfl) pa_nil))) pa_nil))) (pa_cons (pe_tup (pa_cons pe_str (pa_cons (pe_callB (call_isP (X := L2H.cxH CX0 P w K mg base _ _ _ _ _ _ _ _ _ _ _) (Kt.x c) hz.zc hf hp) (by rfl) T.n_isinstance (by decide +kernel) (pa_cons (pv 0) (pa_cons (pe_glob (v := .ref (clsA cp c6 (.inr .given))) (by rfl) (O.s .given).gC rfl) pa_nil))) pa_nil))) pa_nil)))))
      (pss_cons (ps_set (i := 1) sc_marks.nd rfl (.inl rfl) (pe_op op_cat (pv 1) (pe_lst (pa_cons (pe_tup (pa_cons pe_str (pa_cons (pe_callB (call_isP (X := L2H.cxH CX0 P w K mg base _ _ _ _ _ _ _ _ _ _ _) (Kt.x c) hz.zc hf hp) (by rfl) T.n_isinstance (by decide +kernel) (pa_cons (pv 0) (pa_cons (pe_glob (v := .ref (clsA cp c6 (.inr .wanted))) (by rfl) (O.s .wanted).gC rfl) pa_nil))) pa_nil))) (pa_cons (pe_tup (pa_cons pe_str (pa_cons (pe_callB (call_isP (X := L2H.cxH CX0 P w K mg base _ _ _ _ _ _ _ _ _ _ _) (Kt.x c) hz.zc hf hp) (by rfl) T.n_isinstance (by decide +kernel) (pa_cons (pv 0) (pa_cons (pe_glob (v := .ref (clsA cp c6 (.inr .most))) (by rfl) (O.s .most).gC rfl) pa_nil))) pa_nil))) pa_nil)))))
      (pss_cons (ps_set (i := 1) sc_marks.nd rfl (.inl rfl) (pe_op op_cat (pv 1) (pe_lst (pa_cons (pe_tup (pa_cons pe_str (pa_cons (pe_callB (call_isP (X := L2H.cxH CX0 P w K mg base _ _ _ _ _ _ _ _ _ _ _) (Kt.x c) hz.zc hf hp) (by rfl) T.n_isinstance (by decide +kernel) (pa_cons (pv 0) (pa_cons (pe_glob (v := .ref (clsA cp c6 (.inr .reason))) (by rfl) (O.s .reason).gC rfl) pa_nil))) pa_nil))) (pa_cons (pe_tup (pa_cons pe_str (pa_cons (pe_callB (call_isP (X := L2H.cxH CX0 P w K mg base _ _ _ _ _ _ _ _ _ _ _) (Kt.x c) hz.zc hf hp) (by rfl) T.n_isinstance (by decide +kernel) (pa_cons (pv 0) (pa_cons (pe_glob (v := .ref (clsA cp c6 (.inr .many))) (by rfl) (O.s .many).gC rfl) pa_nil))) pa_nil))) pa_nil)))))
      (pss_cons (ps_set (i := 1) sc_marks.nd rfl (.inl rfl) (pe_op op_cat (pv 1) (pe_lst (pa_cons (pe_tup (pa_cons pe_str (pa_cons (pe_callB (call_isP (X := L2H.cxH CX0 P w K mg base _ _ _ _ _ _ _ _ _ _ _) (Kt.x c) hz.zc hf hp) (by rfl) T.n_isinstance (by decide +kernel) (pa_cons (pv 0) (pa_cons (pe_bltn (v := .ty "ValueError") (by rfl) (nb .V) (by decide +kernel) rfl) pa_nil))) pa_nil))) (pa_cons (pe_tup (pa_cons pe_str (pa_cons (pe_callB (call_isP (X := L2H.cxH CX0 P w K mg base _ _ _ _ _ _ _ _ _ _ _) (Kt.x c) hz.zc hf hp) (by rfl) T.n_isinstance (by decide +kernel) (pa_cons (pv 0) (pa_cons (pe_bltn (v := .ty "IndexError") (by rfl) (nb .I) (by decide +kernel) rfl) pa_nil))) pa_nil))) pa_nil)))))
      (pss_cons (ps_set (i := 1) sc_marks.nd rfl (.inl rfl) (pe_op op_cat (pv 1) (pe_lst (pa_cons (pe_tup (pa_cons pe_str (pa_cons (pe_callB (call_isP (X := L2H.cxH CX0 P w K mg base _ _ _ _ _ _ _ _ _ _ _) (Kt.x c) hz.zc hf hp) (by rfl) T.n_isinstance (by decide +kernel) (pa_cons (pv 0) (pa_cons (pe_bltn (v := .ty "KeyError") (by rfl) (nb .K) (by decide +kernel) rfl) pa_nil))) pa_nil))) (pa_cons (pe_tup (pa_cons pe_str (pa_cons (pe_callB (call_isP (X := L2H.cxH CX0 P w K mg base _ _ _ _ _ _ _ _ _ _ _) (Kt.x c) hz.zc hf hp) (by rfl) T.n_isinstance (by decide +kernel) (pa_cons (pv 0) (pa_cons (pe_bltn (v := .ty "LookupError") (by rfl) (nb .L) (by decide +kernel) rfl) pa_nil))) pa_nil))) pa_nil)))))
      (pss_cons (ps_set (i := 1) sc_marks.nd rfl (.inl rfl) (pe_op op_cat (pv 1) (pe_lst (pa_cons (pe_tup (pa_cons pe_str (pa_cons (pe_callB (call_isP (X := L2H.cxH CX0 P w K mg base _ _ _ _ _ _ _ _ _ _ _) (Kt.x c) hz.zc hf hp) (by rfl) T.n_isinstance (by decide +kernel) (pa_cons (pv 0) (pa_cons (pe_bltn (v := .ty "OverflowError") (by rfl) (nb .O) (by decide +kernel) rfl) pa_nil))) pa_nil))) (pa_cons (pe_tup (pa_cons pe_str (pa_cons (pe_callB (call_isP (X := L2H.cxH CX0 P w K mg base _ _ _ _ _ _ _ _ _ _ _) (Kt.x c) hz.zc hf hp) (by rfl) T.n_isinstance (by decide +kernel) (pa_cons (pv 0) (pa_cons (pe_bltn (v := .ty "ArithmeticError") (by rfl) (nb .A) (by decide +kernel) rfl) pa_nil))) pa_nil))) pa_nil)))))
      (pss_one (ps_ret (pe_join pe_str (pe_lcH (own := [("_law_letter", 2), ("_law_holds", 3)]) (g := gTup K 2 (gCons (gName 2) (gCons (gName 3) gNil))) ⟨p, hot, List.mem_singleton.mpr rfl⟩ sc_marks.nd (pv 1) (blkOk_by (own := [("_law_letter", 2), ("_law_holds", 3)]) (N := ["_law_error", "_law_own", "_law_letter", "_law_holds"]) (sc := defScope s_marks) (by decide +kernel)) (fun _ _ _ _ _ hb => pg_tupH hb (pgs_cons (pg_name (i := 2) sc_marks.nd rfl (Or.inl rfl)) (pgs_cons (pg_name (i := 3) sc_marks.nd rfl (Or.inl rfl)) pgs_nil))) (fun _ _ _ _ _ => pts_one (pt_val (pv 3))) (fun _ _ _ _ _ => pv 2))))))))))))))), ?_⟩
  have an : ∀ (σ : L2.St), σ[0]? = some (some (V.ref p.1)) → ∀ (x : V) (cv : Value) (b : Bool), (∀ u, RelV x u → u = cv) → PySem.W.kitOne K (.ref (clsA cp c6 c)) cv = some b →
      Ans (fun H => ∀ x, dd = some x → ∃ fs, H x = some (.xd fs)) σ (tCB (fun xs H Q => ∃ (y : V) (cv : Value) (b : Bool), xs = [V.ref p.1, y] ∧ (∀ u, RelV y u → u = cv) ∧ PySem.W.kitOne K (.ref (clsA cp c6 c)) cv = some b ∧ (∀ x, dd = some x → ∃ fs, H x = some (.xd fs)) ∧ Q (.bl b) H) (tCons (tVar 0) (tCons (tC x) tNil))) b :=
    fun σ hv x cv b h1 h2 H Q j q => ⟨_, hv, x, cv, b, rfl, h1, h2, j, q⟩
  refine st_two (σ := [some (V.ref p.1), none, none, none]) st (an _ (by rfl) (V.ref (clsA cp c6 (.inl .S))) (Value.ref (clsA cp c6 (.inl .S))) _ (fun u r => r) (Kt.o c (.inl .S))) (an _ (by rfl) (V.ref (clsA cp c6 (.inl .h))) (Value.ref (clsA cp c6 (.inl .h))) _ (fun u r => r) (Kt.o c (.inl .h))) hd fun H1 L1 s1 n1 o1 => ?_
  refine st_cat (σ := [some (V.ref p.1), some (V.ref L1), none, none]) st (an _ (by rfl) (V.ref (clsA cp c6 (.inl .t))) (Value.ref (clsA cp c6 (.inl .t))) _ (fun u r => r) (Kt.o c (.inl .t))) (an _ (by rfl) (V.ref (clsA cp c6 (.inl .l))) (Value.ref (clsA cp c6 (.inl .l))) _ (fun u r => r) (Kt.o c (.inl .l))) (st s1 hd) o1 (by show 2 ≤ 100; decide) rfl fun H2 L2 t2 n2 o2 => ?_
  have s2 := s1.trans t2
  refine st_cat (σ := [some (V.ref p.1), some (V.ref L2), none, none]) st (an _ (by rfl) (V.ref (clsA cp c6 (.inl .m))) (Value.ref (clsA cp c6 (.inl .m))) _ (fun u r => r) (Kt.o c (.inl .m))) (an _ (by rfl) (V.ref (clsA cp c6 (.inl .p))) (Value.ref (clsA cp c6 (.inl .p))) _ (fun u r => r) (Kt.o c (.inl .p))) (st s2 hd) o2 (by show 4 ≤ 100; decide) rfl fun H3 L3 t3 n3 o3 => ?_
  have s3 := s2.trans t3
  refine st_cat (σ := [some (V.ref p.1), some (V.ref L3), none, none]) st (an _ (by rfl) (V.ref (clsA cp c6 (.inl .s))) (Value.ref (clsA cp c6 (.inl .s))) _ (fun u r => r) (Kt.o c (.inl .s))) (an _ (by rfl) (V.ref (clsA cp c6 (.inl .o))) (Value.ref (clsA cp c6 (.inl .o))) _ (fun u r => r) (Kt.o c (.inl .o))) (st s3 hd) o3 (by show 6 ≤ 100; decide) rfl fun H4 L4 t4 n4 o4 => ?_
  have s4 := s3.trans t4
  refine st_cat (σ := [some (V.ref p.1), some (V.ref L4), none, none]) st (an _ (by rfl) (V.ref (clsA cp c6 (.inr .spot))) (Value.ref (clsA cp c6 (.inr .spot))) _ (fun u r => r) (Kt.o c (.inr .spot))) (an _ (by rfl) (V.ref (clsA cp c6 (.inr .given))) (Value.ref (clsA cp c6 (.inr .given))) _ (fun u r => r) (Kt.o c (.inr .given))) (st s4 hd) o4 (by show 8 ≤ 100; decide) rfl fun H5 L5 t5 n5 o5 => ?_
  have s5 := s4.trans t5
  refine st_cat (σ := [some (V.ref p.1), some (V.ref L5), none, none]) st (an _ (by rfl) (V.ref (clsA cp c6 (.inr .wanted))) (Value.ref (clsA cp c6 (.inr .wanted))) _ (fun u r => r) (Kt.o c (.inr .wanted))) (an _ (by rfl) (V.ref (clsA cp c6 (.inr .most))) (Value.ref (clsA cp c6 (.inr .most))) _ (fun u r => r) (Kt.o c (.inr .most))) (st s5 hd) o5 (by show 10 ≤ 100; decide) rfl fun H6 L6 t6 n6 o6 => ?_
  have s6 := s5.trans t6
  refine st_cat (σ := [some (V.ref p.1), some (V.ref L6), none, none]) st (an _ (by rfl) (V.ref (clsA cp c6 (.inr .reason))) (Value.ref (clsA cp c6 (.inr .reason))) _ (fun u r => r) (Kt.o c (.inr .reason))) (an _ (by rfl) (V.ref (clsA cp c6 (.inr .many))) (Value.ref (clsA cp c6 (.inr .many))) _ (fun u r => r) (Kt.o c (.inr .many))) (st s6 hd) o6 (by show 12 ≤ 100; decide) rfl fun H7 L7 t7 n7 o7 => ?_
  have s7 := s6.trans t7
  refine st_cat (σ := [some (V.ref p.1), some (V.ref L7), none, none]) st (an _ (by rfl) (V.ty "ValueError") (Value.type "ValueError") _ (fun u r => r) (Kt.b c .V)) (an _ (by rfl) (V.ty "IndexError") (Value.type "IndexError") _ (fun u r => r) (Kt.b c .I)) (st s7 hd) o7 (by show 14 ≤ 100; decide) rfl fun H8 L8 t8 n8 o8 => ?_
  have s8 := s7.trans t8
  refine st_cat (σ := [some (V.ref p.1), some (V.ref L8), none, none]) st (an _ (by rfl) (V.ty "KeyError") (Value.type "KeyError") _ (fun u r => r) (Kt.b c .K)) (an _ (by rfl) (V.ty "LookupError") (Value.type "LookupError") _ (fun u r => r) (Kt.b c .L)) (st s8 hd) o8 (by show 16 ≤ 100; decide) rfl fun H9 L9 t9 n9 o9 => ?_
  have s9 := s8.trans t9
  refine st_cat (σ := [some (V.ref p.1), some (V.ref L9), none, none]) st (an _ (by rfl) (V.ty "OverflowError") (Value.type "OverflowError") _ (fun u r => r) (Kt.b c .O)) (an _ (by rfl) (V.ty "ArithmeticError") (Value.type "ArithmeticError") _ (fun u r => r) (Kt.b c .A)) (st s9 hd) o9 (by show 18 ≤ 100; decide) rfl fun H10 L10 t10 n10 o10 => ?_
  have s10 := s9.trans t10
  obtain ⟨ts, eL, tu0⟩ := o10
  have tu : Tups H10 ts (row c) := tu0
  have ln : ts.length = 20 := tu.len
  have off : ∀ {Z : Hp} {o : HO} {D : Addr}, H10 D = none → Same H10 Z → Same H10 (upd Z D o) := fun hD sz b o h => by
    rw [upd_ne (ne_of_none h hD)]
    exact sz b o h
  refine ⟨⟨_, rfl⟩, _, rfl, L10, rfl, ⟨_, .inl (.inl eL)⟩, fun D hD => ?_⟩
  refine lc_list (K := K) (a := L10) (xs := ts) (fun i H' => Same H10 H' ∧ H' D = some (.lst ((((row c).take i).filter (·.2)).map fun x => V.str x.1))) ⟨sub_same hD, upd_same⟩ (fun i H' _ h => .inl (.inl (h.1 _ _ eL))) ?_ ?_
  · rintro i x H' hx ⟨sm, e⟩
    obtain ⟨t, l, b, rfl, hr', et⟩ := tu.get hx
    refine ⟨t, [V.str l, V.bl b], rfl, .inl (.inl (sm _ _ et)), rfl, _, _, rfl, _, _, rfl, rfl, rfl, _, rfl, b, rfl, ?_⟩
    have tk : (row c).take (i + 1) = (row c).take i ++ [(l, b)] := by rw [List.take_succ, hr']; rfl
    cases b with
    | false =>
      dsimp only
      rw [if_neg (by decide)]
      refine ⟨sm, ?_⟩
      rw [tk, List.filter_append, List.filter_cons_of_neg (by simp), List.filter_nil, List.append_nil]
      exact e
    | true =>
      dsimp only
      rw [if_pos rfl]
      refine ⟨_, rfl, _, e, ?_, off hD sm, ?_⟩
      · have z : (((row c).take i).filter (·.2)).length ≤ 20 := Nat.le_trans (List.length_filter_le _ _) (Nat.le_trans (List.length_take_le' _ _) (show 20 ≤ 20 from Nat.le_refl _))
        rw [List.length_map]
        exact Nat.lt_of_le_of_lt z (by decide)
      · rw [upd_same, tk, List.filter_append, List.filter_cons_of_pos (by rfl), List.filter_nil, List.map_append]
        rfl
  · rintro H' ⟨sm, e⟩
    rw [ln, List.take_of_length_le (show (row c).length ≤ 20 from Nat.le_refl _)] at e
    refine ⟨"", D, ((row c).filter fun (x : Str × Bool) => x.2).map fun (x : Str × Bool) => x.1, rfl, rfl, .inl (.inl (.inl ?_)), ?_, g _ (s10.trans sm)⟩
    · rw [e, List.map_map]
      rfl
    · cases c with
      | inl k => cases k <;> decide +kernel
      | inr k => cases k <;> decide +kernel

end
end K00

/-! # kept -/
namespace K00
open PySem PySem.Spec PyProof.Rows L2 PySem.E6
/-- the fields can be read -/
structure Flds (K : PySem.W.Frag) (c6 : I6 → Addr) : Prop where
  x : ∀ i, XfC K (c6 i)
  n : ∀ i, PySem.W.findIn K (.ref (c6 i)) (fld i) = some none
section
variable {P : Program} {w : World} {K : PySem.W.Frag} {mg : Str → Option Value} {base : Heap} {cp : P8 → Addr} {c6 f6 : I6 → Addr}
abbrev s_kept : Stmt := topS 21
theorem sc_kept : FnScope ["_law_error"] ["_law_error"] (defScope s_kept) := ⟨rfl, rfl, rfl, by decide +kernel, rfl, by decide +kernel, by decide +kernel⟩
/-- what the error keeps -/
def Keeps (d : Option Addr) (H : Hp) (x : V) : Kd → List V → Prop
  | .inl _, xs => d = none ∧ xs = []
  | .inr i, xs => xs = [x] ∧ ∃ dd, d = some dd ∧ H dd = some (.xd [(fld i, x)])
def spKept (cp : P8 → Addr) (c6 : I6 → Addr) : Addr → Value → Option Addr → Hp → VK → Prop := fun _ cls d H Q => ∃ c x xs, cls = .ref (clsA cp c6 c) ∧ Keeps d H x c xs ∧ ∀ H' a, Same H H' → H a = none → H' a = some (.lst xs) → Q (.ref a) H'
theorem lk6 (i : I6) (x : V) : List.lookup (fld i) [(fld i, x)] = some x := by simp [List.lookup]
theorem ok_kept {f : Addr} {fd : FuncData} {k : Nat} (T : Txt mg) (O : Errs K mg cp c6 f6) (Kt : Kits K cp c6) (Fl : Flds K c6) (d : D K mg "_law_kept" s_kept ["_law_error"] f fd) : FnP P w K mg base (k + 1) f fd "_law_error" (spKept cp c6) := by
  refine FnP.of d.F sc_kept (fun cdv A out s H p cls dd Q hot hz hr h => ?_)
  obtain ⟨c, x, xs, rfl, hk, g⟩ := h
  have hf : ∃ vs, p.2.data = .fields vs := let ⟨_, vs, e, _⟩ := hot; ⟨vs, e⟩
  have hp : (p.1, p.2) ∈ [p] := List.mem_singleton.mpr rfl
  have hd : ∀ y, dd = some y → ∃ fs, H y = some (.xd fs) := fun y e => by
    cases c with
    | inl k =>
      rw [hk.1] at e
      cases e
    | inr i =>
      obtain ⟨_, z, e1, e2⟩ := hk
      rw [e1] at e
      cases e
      exact ⟨_, e2⟩
  refine ⟨_, (pss_cons (ps_if (pt_val (pe_callB (call_isP (X := L2H.cxH CX0 P w K mg base _ _ _ _ _ _ _ _ _ _ _) (Kt.x c) hz.zc hf hp) (by rfl) T.n_isinstance (by decide +kernel) (pa_cons (pv 0) (pa_cons (pe_glob (v := .ref (clsA cp c6 (.inr .spot))) (by rfl) (O.s .spot).gC rfl) pa_nil)))) (pss_one (ps_ret (pe_lst (pa_cons (pe_fldP (X := L2H.cxH CX0 P w K mg base _ _ _ _ _ _ _ _ _ _ _) (n := fld .spot) (Fl.x .spot) (Fl.n .spot) hz.zc hf hp (pv 0)) pa_nil)))) pss_nil)
      (pss_cons (ps_if (pt_val (pe_callB (call_isP (X := L2H.cxH CX0 P w K mg base _ _ _ _ _ _ _ _ _ _ _) (Kt.x c) hz.zc hf hp) (by rfl) T.n_isinstance (by decide +kernel) (pa_cons (pv 0) (pa_cons (pe_glob (v := .ref (clsA cp c6 (.inr .given))) (by rfl) (O.s .given).gC rfl) pa_nil)))) (pss_one (ps_ret (pe_lst (pa_cons (pe_fldP (X := L2H.cxH CX0 P w K mg base _ _ _ _ _ _ _ _ _ _ _) (n := fld .given) (Fl.x .given) (Fl.n .given) hz.zc hf hp (pv 0)) pa_nil)))) pss_nil)
      (pss_cons (ps_if (pt_val (pe_callB (call_isP (X := L2H.cxH CX0 P w K mg base _ _ _ _ _ _ _ _ _ _ _) (Kt.x c) hz.zc hf hp) (by rfl) T.n_isinstance (by decide +kernel) (pa_cons (pv 0) (pa_cons (pe_glob (v := .ref (clsA cp c6 (.inr .wanted))) (by rfl) (O.s .wanted).gC rfl) pa_nil)))) (pss_one (ps_ret (pe_lst (pa_cons (pe_fldP (X := L2H.cxH CX0 P w K mg base _ _ _ _ _ _ _ _ _ _ _) (n := fld .wanted) (Fl.x .wanted) (Fl.n .wanted) hz.zc hf hp (pv 0)) pa_nil)))) pss_nil)
      (pss_cons (ps_if (pt_val (pe_callB (call_isP (X := L2H.cxH CX0 P w K mg base _ _ _ _ _ _ _ _ _ _ _) (Kt.x c) hz.zc hf hp) (by rfl) T.n_isinstance (by decide +kernel) (pa_cons (pv 0) (pa_cons (pe_glob (v := .ref (clsA cp c6 (.inr .most))) (by rfl) (O.s .most).gC rfl) pa_nil)))) (pss_one (ps_ret (pe_lst (pa_cons (pe_fldP (X := L2H.cxH CX0 P w K mg base _ _ _ _ _ _ _ _ _ _ _) (n := fld .most) (Fl.x .most) (Fl.n .most) hz.zc hf hp (pv 0)) pa_nil)))) pss_nil)
      (pss_cons (ps_if (pt_val (pe_callB (call_isP (X := L2H.cxH CX0 P w K mg base _ _ _ _ _ _ _ _ _ _ _) (Kt.x c) hz.zc hf hp) (by rfl) T.n_isinstance (by decide +kernel) (pa_cons (pv 0) (pa_cons (pe_glob (v := .ref (clsA cp c6 (.inr .reason))) (by rfl) (O.s .reason).gC rfl) pa_nil)))) (pss_one (ps_ret (pe_lst (pa_cons (pe_fldP (X := L2H.cxH CX0 P w K mg base _ _ _ _ _ _ _ _ _ _ _) (n := fld .reason) (Fl.x .reason) (Fl.n .reason) hz.zc hf hp (pv 0)) pa_nil)))) pss_nil)
      (pss_one (ps_ret (pe_ifExp (pt_val (pe_callB (call_isP (X := L2H.cxH CX0 P w K mg base _ _ _ _ _ _ _ _ _ _ _) (Kt.x c) hz.zc hf hp) (by rfl) T.n_isinstance (by decide +kernel) (pa_cons (pv 0) (pa_cons (pe_glob (v := .ref (clsA cp c6 (.inr .many))) (by rfl) (O.s .many).gC rfl) pa_nil)))) (pe_lst (pa_cons (pe_fldP (X := L2H.cxH CX0 P w K mg base _ _ _ _ _ _ _ _ _ _ _) (n := fld .many) (Fl.x .many) (Fl.n .many) hz.zc hf hp (pv 0)) pa_nil)) (pe_lst pa_nil))))))))), ?_⟩
  cases c with
  | inl c =>
    obtain ⟨_, rfl⟩ := hk
    cases c with
    | S => exact ⟨_, rfl, V.ref (clsA cp c6 (.inr .spot)), Value.ref (clsA cp c6 (.inr .spot)), _, rfl, (fun u r => r), Kt.o (.inl .S) (.inr .spot), hd, _, rfl, iteF ⟨_, rfl, V.ref (clsA cp c6 (.inr .given)), Value.ref (clsA cp c6 (.inr .given)), _, rfl, (fun u r => r), Kt.o (.inl .S) (.inr .given), hd, _, rfl, iteF ⟨_, rfl, V.ref (clsA cp c6 (.inr .wanted)), Value.ref (clsA cp c6 (.inr .wanted)), _, rfl, (fun u r => r), Kt.o (.inl .S) (.inr .wanted), hd, _, rfl, iteF ⟨_, rfl, V.ref (clsA cp c6 (.inr .most)), Value.ref (clsA cp c6 (.inr .most)), _, rfl, (fun u r => r), Kt.o (.inl .S) (.inr .most), hd, _, rfl, iteF ⟨_, rfl, V.ref (clsA cp c6 (.inr .reason)), Value.ref (clsA cp c6 (.inr .reason)), _, rfl, (fun u r => r), Kt.o (.inl .S) (.inr .reason), hd, _, rfl, iteF ⟨_, rfl, V.ref (clsA cp c6 (.inr .many)), Value.ref (clsA cp c6 (.inr .many)), _, rfl, (fun u r => r), Kt.o (.inl .S) (.inr .many), hd, _, rfl, ⟨(by show 0 ≤ sizeLine; decide), fun a na => g _ a (sub_same na) na upd_same⟩⟩⟩⟩⟩⟩⟩
    | h => exact ⟨_, rfl, V.ref (clsA cp c6 (.inr .spot)), Value.ref (clsA cp c6 (.inr .spot)), _, rfl, (fun u r => r), Kt.o (.inl .h) (.inr .spot), hd, _, rfl, iteF ⟨_, rfl, V.ref (clsA cp c6 (.inr .given)), Value.ref (clsA cp c6 (.inr .given)), _, rfl, (fun u r => r), Kt.o (.inl .h) (.inr .given), hd, _, rfl, iteF ⟨_, rfl, V.ref (clsA cp c6 (.inr .wanted)), Value.ref (clsA cp c6 (.inr .wanted)), _, rfl, (fun u r => r), Kt.o (.inl .h) (.inr .wanted), hd, _, rfl, iteF ⟨_, rfl, V.ref (clsA cp c6 (.inr .most)), Value.ref (clsA cp c6 (.inr .most)), _, rfl, (fun u r => r), Kt.o (.inl .h) (.inr .most), hd, _, rfl, iteF ⟨_, rfl, V.ref (clsA cp c6 (.inr .reason)), Value.ref (clsA cp c6 (.inr .reason)), _, rfl, (fun u r => r), Kt.o (.inl .h) (.inr .reason), hd, _, rfl, iteF ⟨_, rfl, V.ref (clsA cp c6 (.inr .many)), Value.ref (clsA cp c6 (.inr .many)), _, rfl, (fun u r => r), Kt.o (.inl .h) (.inr .many), hd, _, rfl, ⟨(by show 0 ≤ sizeLine; decide), fun a na => g _ a (sub_same na) na upd_same⟩⟩⟩⟩⟩⟩⟩
    | t => exact ⟨_, rfl, V.ref (clsA cp c6 (.inr .spot)), Value.ref (clsA cp c6 (.inr .spot)), _, rfl, (fun u r => r), Kt.o (.inl .t) (.inr .spot), hd, _, rfl, iteF ⟨_, rfl, V.ref (clsA cp c6 (.inr .given)), Value.ref (clsA cp c6 (.inr .given)), _, rfl, (fun u r => r), Kt.o (.inl .t) (.inr .given), hd, _, rfl, iteF ⟨_, rfl, V.ref (clsA cp c6 (.inr .wanted)), Value.ref (clsA cp c6 (.inr .wanted)), _, rfl, (fun u r => r), Kt.o (.inl .t) (.inr .wanted), hd, _, rfl, iteF ⟨_, rfl, V.ref (clsA cp c6 (.inr .most)), Value.ref (clsA cp c6 (.inr .most)), _, rfl, (fun u r => r), Kt.o (.inl .t) (.inr .most), hd, _, rfl, iteF ⟨_, rfl, V.ref (clsA cp c6 (.inr .reason)), Value.ref (clsA cp c6 (.inr .reason)), _, rfl, (fun u r => r), Kt.o (.inl .t) (.inr .reason), hd, _, rfl, iteF ⟨_, rfl, V.ref (clsA cp c6 (.inr .many)), Value.ref (clsA cp c6 (.inr .many)), _, rfl, (fun u r => r), Kt.o (.inl .t) (.inr .many), hd, _, rfl, ⟨(by show 0 ≤ sizeLine; decide), fun a na => g _ a (sub_same na) na upd_same⟩⟩⟩⟩⟩⟩⟩
    | l => exact ⟨_, rfl, V.ref (clsA cp c6 (.inr .spot)), Value.ref (clsA cp c6 (.inr .spot)), _, rfl, (fun u r => r), Kt.o (.inl .l) (.inr .spot), hd, _, rfl, iteF ⟨_, rfl, V.ref (clsA cp c6 (.inr .given)), Value.ref (clsA cp c6 (.inr .given)), _, rfl, (fun u r => r), Kt.o (.inl .l) (.inr .given), hd, _, rfl, iteF ⟨_, rfl, V.ref (clsA cp c6 (.inr .wanted)), Value.ref (clsA cp c6 (.inr .wanted)), _, rfl, (fun u r => r), Kt.o (.inl .l) (.inr .wanted), hd, _, rfl, iteF ⟨_, rfl, V.ref (clsA cp c6 (.inr .most)), Value.ref (clsA cp c6 (.inr .most)), _, rfl, (fun u r => r), Kt.o (.inl .l) (.inr .most), hd, _, rfl, iteF ⟨_, rfl, V.ref (clsA cp c6 (.inr .reason)), Value.ref (clsA cp c6 (.inr .reason)), _, rfl, (fun u r => r), Kt.o (.inl .l) (.inr .reason), hd, _, rfl, iteF ⟨_, rfl, V.ref (clsA cp c6 (.inr .many)), Value.ref (clsA cp c6 (.inr .many)), _, rfl, (fun u r => r), Kt.o (.inl .l) (.inr .many), hd, _, rfl, ⟨(by show 0 ≤ sizeLine; decide), fun a na => g _ a (sub_same na) na upd_same⟩⟩⟩⟩⟩⟩⟩
    | m => exact ⟨_, rfl, V.ref (clsA cp c6 (.inr .spot)), Value.ref (clsA cp c6 (.inr .spot)), _, rfl, (fun u r => r), Kt.o (.inl .m) (.inr .spot), hd, _, rfl, iteF ⟨_, rfl, V.ref (clsA cp c6 (.inr .given)), Value.ref (clsA cp c6 (.inr .given)), _, rfl, (fun u r => r), Kt.o (.inl .m) (.inr .given), hd, _, rfl, iteF ⟨_, rfl, V.ref (clsA cp c6 (.inr .wanted)), Value.ref (clsA cp c6 (.inr .wanted)), _, rfl, (fun u r => r), Kt.o (.inl .m) (.inr .wanted), hd, _, rfl, iteF ⟨_, rfl, V.ref (clsA cp c6 (.inr .most)), Value.ref (clsA cp c6 (.inr .most)), _, rfl, (fun u r => r), Kt.o (.inl .m) (.inr .most), hd, _, rfl, iteF ⟨_, rfl, V.ref (clsA cp c6 (.inr .reason)), Value.ref (clsA cp c6 (.inr .reason)), _, rfl, (fun u r => r), Kt.o (.inl .m) (.inr .reason), hd, _, rfl, iteF ⟨_, rfl, V.ref (clsA cp c6 (.inr .many)), Value.ref (clsA cp c6 (.inr .many)), _, rfl, (fun u r => r), Kt.o (.inl .m) (.inr .many), hd, _, rfl, ⟨(by show 0 ≤ sizeLine; decide), fun a na => g _ a (sub_same na) na upd_same⟩⟩⟩⟩⟩⟩⟩
    | p => exact ⟨_, rfl, V.ref (clsA cp c6 (.inr .spot)), Value.ref (clsA cp c6 (.inr .spot)), _, rfl, (fun u r => r), Kt.o (.inl .p) (.inr .spot), hd, _, rfl, iteF ⟨_, rfl, V.ref (clsA cp c6 (.inr .given)), Value.ref (clsA cp c6 (.inr .given)), _, rfl, (fun u r => r), Kt.o (.inl .p) (.inr .given), hd, _, rfl, iteF ⟨_, rfl, V.ref (clsA cp c6 (.inr .wanted)), Value.ref (clsA cp c6 (.inr .wanted)), _, rfl, (fun u r => r), Kt.o (.inl .p) (.inr .wanted), hd, _, rfl, iteF ⟨_, rfl, V.ref (clsA cp c6 (.inr .most)), Value.ref (clsA cp c6 (.inr .most)), _, rfl, (fun u r => r), Kt.o (.inl .p) (.inr .most), hd, _, rfl, iteF ⟨_, rfl, V.ref (clsA cp c6 (.inr .reason)), Value.ref (clsA cp c6 (.inr .reason)), _, rfl, (fun u r => r), Kt.o (.inl .p) (.inr .reason), hd, _, rfl, iteF ⟨_, rfl, V.ref (clsA cp c6 (.inr .many)), Value.ref (clsA cp c6 (.inr .many)), _, rfl, (fun u r => r), Kt.o (.inl .p) (.inr .many), hd, _, rfl, ⟨(by show 0 ≤ sizeLine; decide), fun a na => g _ a (sub_same na) na upd_same⟩⟩⟩⟩⟩⟩⟩
    | s => exact ⟨_, rfl, V.ref (clsA cp c6 (.inr .spot)), Value.ref (clsA cp c6 (.inr .spot)), _, rfl, (fun u r => r), Kt.o (.inl .s) (.inr .spot), hd, _, rfl, iteF ⟨_, rfl, V.ref (clsA cp c6 (.inr .given)), Value.ref (clsA cp c6 (.inr .given)), _, rfl, (fun u r => r), Kt.o (.inl .s) (.inr .given), hd, _, rfl, iteF ⟨_, rfl, V.ref (clsA cp c6 (.inr .wanted)), Value.ref (clsA cp c6 (.inr .wanted)), _, rfl, (fun u r => r), Kt.o (.inl .s) (.inr .wanted), hd, _, rfl, iteF ⟨_, rfl, V.ref (clsA cp c6 (.inr .most)), Value.ref (clsA cp c6 (.inr .most)), _, rfl, (fun u r => r), Kt.o (.inl .s) (.inr .most), hd, _, rfl, iteF ⟨_, rfl, V.ref (clsA cp c6 (.inr .reason)), Value.ref (clsA cp c6 (.inr .reason)), _, rfl, (fun u r => r), Kt.o (.inl .s) (.inr .reason), hd, _, rfl, iteF ⟨_, rfl, V.ref (clsA cp c6 (.inr .many)), Value.ref (clsA cp c6 (.inr .many)), _, rfl, (fun u r => r), Kt.o (.inl .s) (.inr .many), hd, _, rfl, ⟨(by show 0 ≤ sizeLine; decide), fun a na => g _ a (sub_same na) na upd_same⟩⟩⟩⟩⟩⟩⟩
    | o => exact ⟨_, rfl, V.ref (clsA cp c6 (.inr .spot)), Value.ref (clsA cp c6 (.inr .spot)), _, rfl, (fun u r => r), Kt.o (.inl .o) (.inr .spot), hd, _, rfl, iteF ⟨_, rfl, V.ref (clsA cp c6 (.inr .given)), Value.ref (clsA cp c6 (.inr .given)), _, rfl, (fun u r => r), Kt.o (.inl .o) (.inr .given), hd, _, rfl, iteF ⟨_, rfl, V.ref (clsA cp c6 (.inr .wanted)), Value.ref (clsA cp c6 (.inr .wanted)), _, rfl, (fun u r => r), Kt.o (.inl .o) (.inr .wanted), hd, _, rfl, iteF ⟨_, rfl, V.ref (clsA cp c6 (.inr .most)), Value.ref (clsA cp c6 (.inr .most)), _, rfl, (fun u r => r), Kt.o (.inl .o) (.inr .most), hd, _, rfl, iteF ⟨_, rfl, V.ref (clsA cp c6 (.inr .reason)), Value.ref (clsA cp c6 (.inr .reason)), _, rfl, (fun u r => r), Kt.o (.inl .o) (.inr .reason), hd, _, rfl, iteF ⟨_, rfl, V.ref (clsA cp c6 (.inr .many)), Value.ref (clsA cp c6 (.inr .many)), _, rfl, (fun u r => r), Kt.o (.inl .o) (.inr .many), hd, _, rfl, ⟨(by show 0 ≤ sizeLine; decide), fun a na => g _ a (sub_same na) na upd_same⟩⟩⟩⟩⟩⟩⟩
  | inr c =>
    obtain ⟨rfl, z, rfl, ez⟩ := hk
    cases c with
    | spot => exact ⟨_, rfl, V.ref (clsA cp c6 (.inr .spot)), Value.ref (clsA cp c6 (.inr .spot)), _, rfl, (fun u r => r), Kt.o (.inr .spot) (.inr .spot), hd, _, rfl, iteT ⟨_, rfl, rfl, rfl, z, _, x, rfl, ez, lk6 .spot x, (by show 1 ≤ sizeLine; decide), fun a na => g _ a (sub_same na) na upd_same⟩⟩
    | given => exact ⟨_, rfl, V.ref (clsA cp c6 (.inr .spot)), Value.ref (clsA cp c6 (.inr .spot)), _, rfl, (fun u r => r), Kt.o (.inr .given) (.inr .spot), hd, _, rfl, iteF ⟨_, rfl, V.ref (clsA cp c6 (.inr .given)), Value.ref (clsA cp c6 (.inr .given)), _, rfl, (fun u r => r), Kt.o (.inr .given) (.inr .given), hd, _, rfl, iteT ⟨_, rfl, rfl, rfl, z, _, x, rfl, ez, lk6 .given x, (by show 1 ≤ sizeLine; decide), fun a na => g _ a (sub_same na) na upd_same⟩⟩⟩
    | wanted => exact ⟨_, rfl, V.ref (clsA cp c6 (.inr .spot)), Value.ref (clsA cp c6 (.inr .spot)), _, rfl, (fun u r => r), Kt.o (.inr .wanted) (.inr .spot), hd, _, rfl, iteF ⟨_, rfl, V.ref (clsA cp c6 (.inr .given)), Value.ref (clsA cp c6 (.inr .given)), _, rfl, (fun u r => r), Kt.o (.inr .wanted) (.inr .given), hd, _, rfl, iteF ⟨_, rfl, V.ref (clsA cp c6 (.inr .wanted)), Value.ref (clsA cp c6 (.inr .wanted)), _, rfl, (fun u r => r), Kt.o (.inr .wanted) (.inr .wanted), hd, _, rfl, iteT ⟨_, rfl, rfl, rfl, z, _, x, rfl, ez, lk6 .wanted x, (by show 1 ≤ sizeLine; decide), fun a na => g _ a (sub_same na) na upd_same⟩⟩⟩⟩
    | most => exact ⟨_, rfl, V.ref (clsA cp c6 (.inr .spot)), Value.ref (clsA cp c6 (.inr .spot)), _, rfl, (fun u r => r), Kt.o (.inr .most) (.inr .spot), hd, _, rfl, iteF ⟨_, rfl, V.ref (clsA cp c6 (.inr .given)), Value.ref (clsA cp c6 (.inr .given)), _, rfl, (fun u r => r), Kt.o (.inr .most) (.inr .given), hd, _, rfl, iteF ⟨_, rfl, V.ref (clsA cp c6 (.inr .wanted)), Value.ref (clsA cp c6 (.inr .wanted)), _, rfl, (fun u r => r), Kt.o (.inr .most) (.inr .wanted), hd, _, rfl, iteF ⟨_, rfl, V.ref (clsA cp c6 (.inr .most)), Value.ref (clsA cp c6 (.inr .most)), _, rfl, (fun u r => r), Kt.o (.inr .most) (.inr .most), hd, _, rfl, iteT ⟨_, rfl, rfl, rfl, z, _, x, rfl, ez, lk6 .most x, (by show 1 ≤ sizeLine; decide), fun a na => g _ a (sub_same na) na upd_same⟩⟩⟩⟩⟩
    | reason => exact ⟨_, rfl, V.ref (clsA cp c6 (.inr .spot)), Value.ref (clsA cp c6 (.inr .spot)), _, rfl, (fun u r => r), Kt.o (.inr .reason) (.inr .spot), hd, _, rfl, iteF ⟨_, rfl, V.ref (clsA cp c6 (.inr .given)), Value.ref (clsA cp c6 (.inr .given)), _, rfl, (fun u r => r), Kt.o (.inr .reason) (.inr .given), hd, _, rfl, iteF ⟨_, rfl, V.ref (clsA cp c6 (.inr .wanted)), Value.ref (clsA cp c6 (.inr .wanted)), _, rfl, (fun u r => r), Kt.o (.inr .reason) (.inr .wanted), hd, _, rfl, iteF ⟨_, rfl, V.ref (clsA cp c6 (.inr .most)), Value.ref (clsA cp c6 (.inr .most)), _, rfl, (fun u r => r), Kt.o (.inr .reason) (.inr .most), hd, _, rfl, iteF ⟨_, rfl, V.ref (clsA cp c6 (.inr .reason)), Value.ref (clsA cp c6 (.inr .reason)), _, rfl, (fun u r => r), Kt.o (.inr .reason) (.inr .reason), hd, _, rfl, iteT ⟨_, rfl, rfl, rfl, z, _, x, rfl, ez, lk6 .reason x, (by show 1 ≤ sizeLine; decide), fun a na => g _ a (sub_same na) na upd_same⟩⟩⟩⟩⟩⟩
    | many => exact ⟨_, rfl, V.ref (clsA cp c6 (.inr .spot)), Value.ref (clsA cp c6 (.inr .spot)), _, rfl, (fun u r => r), Kt.o (.inr .many) (.inr .spot), hd, _, rfl, iteF ⟨_, rfl, V.ref (clsA cp c6 (.inr .given)), Value.ref (clsA cp c6 (.inr .given)), _, rfl, (fun u r => r), Kt.o (.inr .many) (.inr .given), hd, _, rfl, iteF ⟨_, rfl, V.ref (clsA cp c6 (.inr .wanted)), Value.ref (clsA cp c6 (.inr .wanted)), _, rfl, (fun u r => r), Kt.o (.inr .many) (.inr .wanted), hd, _, rfl, iteF ⟨_, rfl, V.ref (clsA cp c6 (.inr .most)), Value.ref (clsA cp c6 (.inr .most)), _, rfl, (fun u r => r), Kt.o (.inr .many) (.inr .most), hd, _, rfl, iteF ⟨_, rfl, V.ref (clsA cp c6 (.inr .reason)), Value.ref (clsA cp c6 (.inr .reason)), _, rfl, (fun u r => r), Kt.o (.inr .many) (.inr .reason), hd, _, rfl, iteF ⟨_, rfl, V.ref (clsA cp c6 (.inr .many)), Value.ref (clsA cp c6 (.inr .many)), _, rfl, (fun u r => r), Kt.o (.inr .many) (.inr .many), hd, _, rfl, ⟨_, rfl, rfl, rfl, z, _, x, rfl, ez, lk6 .many x, (by show 1 ≤ sizeLine; decide), fun a na => g _ a (sub_same na) na upd_same⟩⟩⟩⟩⟩⟩⟩
end
end K00

/-! # seen -/
namespace K00
open PySem PySem.Spec PyProof.Rows L2 PySem.E6
/-- what the clauses ask -/
structure Exm (K : PySem.W.Frag) (cp : P8 → Addr) (c6 : I6 → Addr) : Prop where
  s : ∀ c, PySem.W.exmOne K (.ref (clsA cp c6 c)) (.ref (cp .S)) = some (tabO c (.inl .S))
  e : ∀ i j, PySem.W.exmOne K (.ref (c6 i)) (.ref (c6 j)) = some (tabO (.inr i) (.inr j))
theorem takes0N {X : Cx} : L2N.Takes X (fun _ _ _ _ => False) := fun _ _ ⟨_, _, _, _, _, _, _, _, _, _, _, _, _, _, _, _, w⟩ => w.elim
/-- what is kept of x -/
def kx (c : Kd) (x : V) : List V := match c with
  | .inl _ => []
  | .inr _ => [x]
section
variable {P : Program} {w : World} {K : PySem.W.Frag} {mg : Str → Option Value} {base : Heap} {cp : P8 → Addr} {c6 f6 : I6 → Addr}
abbrev s_seen : Stmt := topS 22
theorem sc_seen : FnScope ["_law_word", "_law_text", "_law_kept_here", "_law_error"] ["_law_word", "_law_text", "_law_kept_here"] (defScope s_seen) := ⟨rfl, rfl, rfl, by decide +kernel, rfl, by decide +kernel, by decide +kernel⟩
def spSeen : Sp := fun vs H Q _ => ∃ (c : Kd) (t : Str) (x : V), vs = [.str (le c), .str t, x] ∧ ∀ H' a b, Same H H' → H' a = some (.tup [.str (marks c), .ref b]) → H' b = some (.lst (kx c x)) → Q (.ref a) H'
theorem ok_seen {f f1 f2 f3 : Addr} {fd fd1 fd2 fd3 : FuncData} {k : Nat} (O : Errs K mg cp c6 f6) (Kt : Kits K cp c6) (Ex : Exm K cp c6)
    (d1 : D K mg "_law_throw" s_throw ["_law_word", "_law_text", "_law_kept_here"] f1 fd1) (g1 : FnOk P w K mg base (L2N.CX P w) (k + 3) f1 fd1 ["_law_word", "_law_text", "_law_kept_here"] (spThrow cp c6))
    (d2 : D K mg "_law_marks" s_marks ["_law_error"] f2 fd2) (g2 : FnP P w K mg base (k + 1) f2 fd2 "_law_error" (spMarks cp c6))
    (d3 : D K mg "_law_kept" s_kept ["_law_error"] f3 fd3) (g3 : FnP P w K mg base (k + 1) f3 fd3 "_law_error" (spKept cp c6))
    (d : D K mg "_law_seen" s_seen ["_law_word", "_law_text", "_law_kept_here"] f fd) : FnOk P w K mg base CX0 (k + 4) f fd ["_law_word", "_law_text", "_law_kept_here"] spSeen := by
  refine d.F.ok sc_seen (fun vs H Q E h => ?_) (fun cdv A outer s H vs Q E hr h => ?_)
  · obtain ⟨c, t, x, rfl, _⟩ := h
    rfl
  · obtain ⟨c, t, x, rfl, g⟩ := h
    have rm : ∀ (v : Option Value), L2H.RoomH (k + 1) ((A.deeper (envOfC "_law_seen" (defScope s_seen) s.heap.objs.size f cdv)).mark v) := fun v => by
      have e1 : ((A.deeper (envOfC "_law_seen" (defScope s_seen) s.heap.objs.size f cdv)).mark v).depth = (A.deeper (envOfC "_law_seen" (defScope s_seen) s.heap.objs.size f cdv)).depth := rfl
      have e2 : ((A.deeper (envOfC "_law_seen" (defScope s_seen) s.heap.objs.size f cdv)).mark v).units = (A.deeper (envOfC "_law_seen" (defScope s_seen) s.heap.objs.size f cdv)).units := rfl
      have a1 := hr.dp
      have a2 := hr.un
      exact ⟨by rw [e1]; omega, by rw [e2]; omega⟩
    refine ⟨_, (pss_cons (ps_try_mix (W0 := fun _ _ _ _ => False) rfl rfl sc_seen.nd takes0N
        (fun W pn xe tk _ => pss_one (ps_expr (by exact (pe_callS g1 hr rfl d1.g d1.F.kp d1.b (fun σ => L2N.passAt tk σ) (by exact (pa_cons (pv 0) (pa_cons (pv 1) (pa_cons (pv 2) pa_nil))))))))
        (.named (i := 3) rfl rfl (asks_one ⟨rfl, by decide, Or.inl (O.p .S).g⟩) (fun a oe cls d pn hz hf => pss_one (ps_ret (pe_tup (pa_cons (by exact (pe_callP (X := (cxOf CX0 P w K mg base ["_law_word", "_law_text", "_law_kept_here", "_law_error"] "_law_seen" (defScope s_seen) f cdv A outer s H E).nox.suite a ((a, oe) :: pn)) (oe := oe) (cls := cls) (d := d) g2 (rm _) ⟨rfl, hf.elim fun vs e => ⟨vs, e, hz.2.2 vs e⟩⟩ List.mem_cons_self hz (by rfl) d2.g d2.F.kp d2.b (pv 3))) (pa_cons (by exact (pe_callP (X := (cxOf CX0 P w K mg base ["_law_word", "_law_text", "_law_kept_here", "_law_error"] "_law_seen" (defScope s_seen) f cdv A outer s H E).nox.suite a ((a, oe) :: pn)) (oe := oe) (cls := cls) (d := d) g3 (rm _) ⟨rfl, hf.elim fun vs e => ⟨vs, e, hz.2.2 vs e⟩⟩ List.mem_cons_self hz (by rfl) d3.g d3.F.kp d3.b (pv 3))) pa_nil)))))
        (.named (i := 3) rfl rfl (asks_tup (.cons ⟨rfl, by decide, Or.inl (O.s .given).gC⟩ (.cons ⟨rfl, by decide, Or.inl (O.s .wanted).gC⟩ (.cons ⟨rfl, by decide, Or.inl (O.s .most).gC⟩ (.cons ⟨rfl, by decide, Or.inl (O.s .reason).gC⟩ (.cons ⟨rfl, by decide, Or.inl (O.s .many).gC⟩ .nil))))) (by show 5 ≤ sizeLine; decide)) (fun a oe cls d pn hz hf => pss_one (ps_ret (pe_tup (pa_cons (by exact (pe_callP (X := (cxOf CX0 P w K mg base ["_law_word", "_law_text", "_law_kept_here", "_law_error"] "_law_seen" (defScope s_seen) f cdv A outer s H E).nox.suite a ((a, oe) :: pn)) (oe := oe) (cls := cls) (d := d) g2 (rm _) ⟨rfl, hf.elim fun vs e => ⟨vs, e, hz.2.2 vs e⟩⟩ List.mem_cons_self hz (by rfl) d2.g d2.F.kp d2.b (pv 3))) (pa_cons (by exact (pe_callP (X := (cxOf CX0 P w K mg base ["_law_word", "_law_text", "_law_kept_here", "_law_error"] "_law_seen" (defScope s_seen) f cdv A outer s H E).nox.suite a ((a, oe) :: pn)) (oe := oe) (cls := cls) (d := d) g3 (rm _) ⟨rfl, hf.elim fun vs e => ⟨vs, e, hz.2.2 vs e⟩⟩ List.mem_cons_self hz (by rfl) d3.g d3.F.kp d3.b (pv 3))) pa_nil)))))
        .nil)))
      (pss_one (ps_ret (pe_tup (pa_cons pe_str (pa_cons (pe_lst pa_nil) pa_nil)))))), ?_⟩
    have kept_ : ∀ {d : Option Addr} {H H' : Hp}, Same H H' → Keeps d H x c (kx c x) → Keeps d H' x c (kx c x) := fun {d H H'} sm kp => by
      cases c with
      | inl k => exact kp
      | inr i =>
        obtain ⟨e0, dd, e1, e2⟩ := kp
        exact ⟨e0, dd, e1, sm _ _ e2⟩
    have fin : ∀ (a : Addr) (d : Option Addr) (Hd : Hp) (D : Ends), D.rt = Q → Same H Hd → Keeps d Hd x c (kx c x) →
        tRet (tTup (tCons (tCallP a (.ref (clsA cp c6 c)) d (spMarks cp c6) (tVar 3)) (tCons (tCallP a (.ref (clsA cp c6 c)) d (spKept cp c6) (tVar 3)) tNil))) D [some (V.str (le c)), some (V.str t), some x, some (V.ref a)] Hd := fun a d Hd D eD sm kp => by
      have dict : ∀ dd, d = some dd → ∃ fs, Hd dd = some (.xd fs) := fun dd e => by
        cases c with
        | inl k =>
          rw [kp.1] at e
          cases e
        | inr i =>
          obtain ⟨_, z, e1, e2⟩ := kp
          rw [e1] at e
          cases e
          exact ⟨_, e2⟩
      refine ⟨_, rfl, rfl, c, ⟨rfl, dict⟩, fun H1 s1 => ⟨_, rfl, rfl, c, x, kx c x, rfl, kept_ s1 kp, fun H2 b s2 nb eb => ⟨(by show 2 ≤ sizeLine; decide), fun a2 ha2 => ?_⟩⟩⟩
      have s3 := sub_same (o := .tup [V.str (marks c), V.ref b]) ha2
      show D.rt _ _
      rw [eD]
      exact g _ a2 b (((sm.trans s1).trans s2).trans s3) upd_same (s3 _ _ eb)
    refine ⟨_, rfl, _, rfl, _, rfl, c, t, x, rfl, fun k e => ?_, fun i e d hd => ?_⟩
    · subst e
      refine ⟨true, (Ex.s (.inl k)).trans (by cases k <;> rfl), fun _ a na => fin a none H _ rfl (Same.refl H) ⟨rfl, rfl⟩, fun z => Bool.noConfusion z⟩
    · subst e
      have kp : Keeps (some d) (upd H d (.xd [(fld i, x)])) x (.inr i) (kx (.inr i) x) := ⟨rfl, d, rfl, upd_same⟩
      have five : K00W.ExA K (.ref (c6 i)) [.ref (c6 .given), .ref (c6 .wanted), .ref (c6 .most), .ref (c6 .reason), .ref (c6 .many)] (tabO (.inr i) (.inr .given) || (tabO (.inr i) (.inr .wanted) || (tabO (.inr i) (.inr .most) || (tabO (.inr i) (.inr .reason) || (tabO (.inr i) (.inr .many) || false))))) :=
        .cons (Ex.e i .given) (.cons (Ex.e i .wanted) (.cons (Ex.e i .most) (.cons (Ex.e i .reason) (.cons (Ex.e i .many) .nil))))
      cases sp : tabO (.inr i) (.inl .S) with
      | true => exact ⟨true, (Ex.s (.inr i)).trans (congrArg some sp), fun _ a na => fin a _ _ _ rfl (sub_same hd) kp, fun z => Bool.noConfusion z⟩
      | false =>
        refine ⟨false, (Ex.s (.inr i)).trans (congrArg some sp), fun z => Bool.noConfusion z, fun _ => ⟨true, ?_, fun _ a na => fin a _ _ _ rfl (sub_same hd) kp, fun z => Bool.noConfusion z⟩⟩
        cases i with
        | spot => cases sp
        | given => exact five
        | wanted => exact five
        | most => exact five
        | reason => exact five
        | many => exact five
end
end K00

/-! # due -/
namespace K00
open PySem PySem.Spec PyProof.Rows L2 PySem.E6
section
variable {P : Program} {w : World} {K : PySem.W.Frag} {mg : Str → Option Value} {base : Heap}
abbrev s_due : Stmt := topS 23
theorem sc_due : FnScope ["_law_word", "_law_kept_here", "_law_behind"] ["_law_word", "_law_kept_here"] (defScope s_due) := ⟨rfl, rfl, rfl, by decide +kernel, rfl, by decide +kernel, by decide +kernel⟩
def kv6 : List (Key × V) := [(.inr "e", .str "V"), (.inr "n", .str "IL"), (.inr "u", .str "KL"), (.inr "y", .str "OA"), (.inr "r", .str "A"), (.inr "d", .str "L")]
def bh : I6 → Str
  | .spot => "V" | .given => "IL" | .wanted => "KL" | .most => "OA" | .reason => "A" | .many => "L"
theorem kv6_at (i : I6) : valV (mergeK [] kv6) (.inr (le6 i)) = some (V.str (bh i)) := by cases i <;> decide +kernel
def spDue : Sp := fun vs H Q _ => ∃ (c : Kd) (x : V), vs = [.str (le c), x] ∧ ∀ H' a b, Same H H' → H' a = some (.tup [.str (marks c), .ref b]) → H' b = some (.lst (kx c x)) → Q (.ref a) H'
theorem ok_due {f : Addr} {fd : FuncData} {k : Nat} (d : D K mg "_law_due" s_due ["_law_word", "_law_kept_here"] f fd) : FnOk P w K mg base CX0 (k + 1) f fd ["_law_word", "_law_kept_here"] spDue := by
  refine d.F.ok sc_due (fun vs H Q E h => ?_) (fun cdv A outer s H vs Q E hr h => ?_)
  · obtain ⟨c, x, rfl, _⟩ := h
    rfl
  · obtain ⟨c, x, rfl, g⟩ := h
    have un : (A.deeper (envOfC "_law_due" (defScope s_due) s.heap.objs.size f cdv)).units + 1 < cLine := by have := hr.un; omega
    refine ⟨_, (pss_cons (ps_if (pt_cmpR op_eq (pv 0) pe_str (nomark _)) (pss_one (ps_ret (pe_tup (pa_cons pe_str (pa_cons (pe_lst pa_nil) pa_nil))))) pss_nil)
      (pss_cons (ps_if (pt_cmpR op_in_str (pv 0) pe_str (by with_unfolding_all rfl)) (pss_one (ps_ret (pe_tup (pa_cons (pe_op op_add_str (pe_op op_add_str pe_str (pv 0)) pe_str) (pa_cons (pe_lst pa_nil) pa_nil))))) pss_nil)
      (pss_cons (ps_set (i := 2) sc_due.nd rfl (.inl rfl) (pe_dget un (pe_disp (pps_cons pe_str pe_str (pps_cons pe_str pe_str (pps_cons pe_str pe_str (pps_cons pe_str pe_str (pps_cons pe_str pe_str (pps_cons pe_str pe_str pps_nil)))))) (by rfl) (by rfl) (fun z => by cases z) (by decide)) (pv 0) (fun _ _ => rfl)))
      (pss_one (ps_ret (pe_tup (pa_cons (pe_op op_add_str (pe_op op_add_str (pe_ifExp (pt_cmpR op_eq (pv 0) pe_str (nomark _)) pe_str pe_str) (pv 0)) (pv 2)) (pa_cons (pe_lst (pa_cons (pv 1) pa_nil)) pa_nil)))))))), ?_⟩
    have fin : ∀ (z : Str) (xs : List V) (H0 : Hp) (b : Addr), z = marks c → xs = kx c x → Same H H0 → H0 b = none → ∀ a, upd H0 b (.lst xs) a = none → Q (.ref a) (upd (upd H0 b (.lst xs)) a (.tup [.str z, .ref b])) := fun z xs H0 b e1 e2 s0 hb a ha => by
      have s1 := sub_same (o := .lst xs) hb
      have s2 := sub_same (o := .tup [V.str z, V.ref b]) ha
      exact g _ a b ((s0.trans s1).trans s2) (by rw [upd_same, e1]) (by rw [← e2]; exact s2 _ _ upd_same)
    have lz : ∀ {u v : Str} {n : Nat}, u.length + v.length = n → n ≤ 100 → u.length + v.length ≤ sizeLine := fun e l => by rw [e]; exact Nat.le_trans l (by decide)
    cases c with
    | inl c =>
      cases c with
      | S => exact ⟨_, rfl, rfl, _, rfl, stepYes ⟨(by show 0 ≤ sizeLine; decide), fun b hb => ⟨(by show 2 ≤ sizeLine; decide), fun a ha => fin _ _ _ b (by decide +kernel) rfl (Same.refl H) hb a ha⟩⟩⟩
      | h =>
        refine ⟨_, rfl, rfl, _, rfl, stepNo (by decide +kernel) ⟨_, rfl, _, _, rfl, rfl, _, rfl, ?_⟩⟩
        refine ite2 (fun _ => ?_) (fun z => absurd (by decide +kernel) z)
        exact ⟨_, rfl, _, _, rfl, rfl, lz (n := 2) (by decide +kernel) (by decide), _, _, rfl, rfl, lz (n := 3) (by decide +kernel) (by decide), (by show 0 ≤ sizeLine; decide), fun b hb => ⟨(by show 2 ≤ sizeLine; decide), fun a ha => fin _ _ _ b (by decide +kernel) rfl (Same.refl H) hb a ha⟩⟩
      | t =>
        refine ⟨_, rfl, rfl, _, rfl, stepNo (by decide +kernel) ⟨_, rfl, _, _, rfl, rfl, _, rfl, ?_⟩⟩
        refine ite2 (fun _ => ?_) (fun z => absurd (by decide +kernel) z)
        exact ⟨_, rfl, _, _, rfl, rfl, lz (n := 2) (by decide +kernel) (by decide), _, _, rfl, rfl, lz (n := 3) (by decide +kernel) (by decide), (by show 0 ≤ sizeLine; decide), fun b hb => ⟨(by show 2 ≤ sizeLine; decide), fun a ha => fin _ _ _ b (by decide +kernel) rfl (Same.refl H) hb a ha⟩⟩
      | l =>
        refine ⟨_, rfl, rfl, _, rfl, stepNo (by decide +kernel) ⟨_, rfl, _, _, rfl, rfl, _, rfl, ?_⟩⟩
        refine ite2 (fun _ => ?_) (fun z => absurd (by decide +kernel) z)
        exact ⟨_, rfl, _, _, rfl, rfl, lz (n := 2) (by decide +kernel) (by decide), _, _, rfl, rfl, lz (n := 3) (by decide +kernel) (by decide), (by show 0 ≤ sizeLine; decide), fun b hb => ⟨(by show 2 ≤ sizeLine; decide), fun a ha => fin _ _ _ b (by decide +kernel) rfl (Same.refl H) hb a ha⟩⟩
      | m =>
        refine ⟨_, rfl, rfl, _, rfl, stepNo (by decide +kernel) ⟨_, rfl, _, _, rfl, rfl, _, rfl, ?_⟩⟩
        refine ite2 (fun _ => ?_) (fun z => absurd (by decide +kernel) z)
        exact ⟨_, rfl, _, _, rfl, rfl, lz (n := 2) (by decide +kernel) (by decide), _, _, rfl, rfl, lz (n := 3) (by decide +kernel) (by decide), (by show 0 ≤ sizeLine; decide), fun b hb => ⟨(by show 2 ≤ sizeLine; decide), fun a ha => fin _ _ _ b (by decide +kernel) rfl (Same.refl H) hb a ha⟩⟩
      | p =>
        refine ⟨_, rfl, rfl, _, rfl, stepNo (by decide +kernel) ⟨_, rfl, _, _, rfl, rfl, _, rfl, ?_⟩⟩
        refine ite2 (fun _ => ?_) (fun z => absurd (by decide +kernel) z)
        exact ⟨_, rfl, _, _, rfl, rfl, lz (n := 2) (by decide +kernel) (by decide), _, _, rfl, rfl, lz (n := 3) (by decide +kernel) (by decide), (by show 0 ≤ sizeLine; decide), fun b hb => ⟨(by show 2 ≤ sizeLine; decide), fun a ha => fin _ _ _ b (by decide +kernel) rfl (Same.refl H) hb a ha⟩⟩
      | s =>
        refine ⟨_, rfl, rfl, _, rfl, stepNo (by decide +kernel) ⟨_, rfl, _, _, rfl, rfl, _, rfl, ?_⟩⟩
        refine ite2 (fun _ => ?_) (fun z => absurd (by decide +kernel) z)
        exact ⟨_, rfl, _, _, rfl, rfl, lz (n := 2) (by decide +kernel) (by decide), _, _, rfl, rfl, lz (n := 3) (by decide +kernel) (by decide), (by show 0 ≤ sizeLine; decide), fun b hb => ⟨(by show 2 ≤ sizeLine; decide), fun a ha => fin _ _ _ b (by decide +kernel) rfl (Same.refl H) hb a ha⟩⟩
      | o =>
        refine ⟨_, rfl, rfl, _, rfl, stepNo (by decide +kernel) ⟨_, rfl, _, _, rfl, rfl, _, rfl, ?_⟩⟩
        refine ite2 (fun _ => ?_) (fun z => absurd (by decide +kernel) z)
        exact ⟨_, rfl, _, _, rfl, rfl, lz (n := 2) (by decide +kernel) (by decide), _, _, rfl, rfl, lz (n := 3) (by decide +kernel) (by decide), (by show 0 ≤ sizeLine; decide), fun b hb => ⟨(by show 2 ≤ sizeLine; decide), fun a ha => fin _ _ _ b (by decide +kernel) rfl (Same.refl H) hb a ha⟩⟩
    | inr c =>
      have dict : ∀ p, H p = none → DGet (upd (upd H p (.dK [])) p (.dK (mergeK [] kv6))) p (.str (le6 c)) (some (V.str (bh c))) := fun p hp => by
        have z := DGet.k (H := upd (upd H p (.dK [])) p (.dK (mergeK [] kv6))) (k := .inr (le6 c)) upd_same
        rw [kv6_at c] at z
        exact z
      have sd : ∀ p, H p = none → Same H (upd (upd H p (.dK [])) p (.dK (mergeK [] kv6))) := fun p hp b o e => by
        rw [upd_ne (ne_of_none e hp), upd_ne (ne_of_none e hp)]
        exact e
      cases c with
      | spot =>
        refine ⟨_, rfl, rfl, _, rfl, stepNo (by decide +kernel) ⟨_, rfl, _, _, rfl, rfl, _, rfl, ?_⟩⟩
        refine ite2 (fun z => absurd z (by decide +kernel)) (fun _ => ?_)
        refine fun p hp => ⟨upd_same, kv6, rfl, by decide, _, rfl, p, _, rfl, dict p hp, ?_⟩
        have s0 := sd p hp
        refine ⟨_, rfl, rfl, _, rfl, ?_⟩
        rw [show decide (V.str (le (.inr I6.spot)) = V.str "e") = true from by decide +kernel]
        exact ⟨_, rfl, _, _, rfl, rfl, lz (n := 2) (by decide +kernel) (by decide), _, rfl, _, _, rfl, rfl, lz (n := 3) (by decide +kernel) (by decide), _, rfl, (by show 1 ≤ sizeLine; decide), fun b hb => ⟨(by show 2 ≤ sizeLine; decide), fun a ha => fin _ _ _ b (by decide +kernel) rfl s0 hb a ha⟩⟩
      | given =>
        refine ⟨_, rfl, rfl, _, rfl, stepNo (by decide +kernel) ⟨_, rfl, _, _, rfl, rfl, _, rfl, ?_⟩⟩
        refine ite2 (fun z => absurd z (by decide +kernel)) (fun _ => ?_)
        refine fun p hp => ⟨upd_same, kv6, rfl, by decide, _, rfl, p, _, rfl, dict p hp, ?_⟩
        have s0 := sd p hp
        refine ⟨_, rfl, rfl, _, rfl, ?_⟩
        rw [show decide (V.str (le (.inr I6.given)) = V.str "e") = false from by decide +kernel]
        exact ⟨_, rfl, _, _, rfl, rfl, lz (n := 1) (by decide +kernel) (by decide), _, rfl, _, _, rfl, rfl, lz (n := 3) (by decide +kernel) (by decide), _, rfl, (by show 1 ≤ sizeLine; decide), fun b hb => ⟨(by show 2 ≤ sizeLine; decide), fun a ha => fin _ _ _ b (by decide +kernel) rfl s0 hb a ha⟩⟩
      | wanted =>
        refine ⟨_, rfl, rfl, _, rfl, stepNo (by decide +kernel) ⟨_, rfl, _, _, rfl, rfl, _, rfl, ?_⟩⟩
        refine ite2 (fun z => absurd z (by decide +kernel)) (fun _ => ?_)
        refine fun p hp => ⟨upd_same, kv6, rfl, by decide, _, rfl, p, _, rfl, dict p hp, ?_⟩
        have s0 := sd p hp
        refine ⟨_, rfl, rfl, _, rfl, ?_⟩
        rw [show decide (V.str (le (.inr I6.wanted)) = V.str "e") = false from by decide +kernel]
        exact ⟨_, rfl, _, _, rfl, rfl, lz (n := 1) (by decide +kernel) (by decide), _, rfl, _, _, rfl, rfl, lz (n := 3) (by decide +kernel) (by decide), _, rfl, (by show 1 ≤ sizeLine; decide), fun b hb => ⟨(by show 2 ≤ sizeLine; decide), fun a ha => fin _ _ _ b (by decide +kernel) rfl s0 hb a ha⟩⟩
      | most =>
        refine ⟨_, rfl, rfl, _, rfl, stepNo (by decide +kernel) ⟨_, rfl, _, _, rfl, rfl, _, rfl, ?_⟩⟩
        refine ite2 (fun z => absurd z (by decide +kernel)) (fun _ => ?_)
        refine fun p hp => ⟨upd_same, kv6, rfl, by decide, _, rfl, p, _, rfl, dict p hp, ?_⟩
        have s0 := sd p hp
        refine ⟨_, rfl, rfl, _, rfl, ?_⟩
        rw [show decide (V.str (le (.inr I6.most)) = V.str "e") = false from by decide +kernel]
        exact ⟨_, rfl, _, _, rfl, rfl, lz (n := 1) (by decide +kernel) (by decide), _, rfl, _, _, rfl, rfl, lz (n := 3) (by decide +kernel) (by decide), _, rfl, (by show 1 ≤ sizeLine; decide), fun b hb => ⟨(by show 2 ≤ sizeLine; decide), fun a ha => fin _ _ _ b (by decide +kernel) rfl s0 hb a ha⟩⟩
      | reason =>
        refine ⟨_, rfl, rfl, _, rfl, stepNo (by decide +kernel) ⟨_, rfl, _, _, rfl, rfl, _, rfl, ?_⟩⟩
        refine ite2 (fun z => absurd z (by decide +kernel)) (fun _ => ?_)
        refine fun p hp => ⟨upd_same, kv6, rfl, by decide, _, rfl, p, _, rfl, dict p hp, ?_⟩
        have s0 := sd p hp
        refine ⟨_, rfl, rfl, _, rfl, ?_⟩
        rw [show decide (V.str (le (.inr I6.reason)) = V.str "e") = false from by decide +kernel]
        exact ⟨_, rfl, _, _, rfl, rfl, lz (n := 1) (by decide +kernel) (by decide), _, rfl, _, _, rfl, rfl, lz (n := 2) (by decide +kernel) (by decide), _, rfl, (by show 1 ≤ sizeLine; decide), fun b hb => ⟨(by show 2 ≤ sizeLine; decide), fun a ha => fin _ _ _ b (by decide +kernel) rfl s0 hb a ha⟩⟩
      | many =>
        refine ⟨_, rfl, rfl, _, rfl, stepNo (by decide +kernel) ⟨_, rfl, _, _, rfl, rfl, _, rfl, ?_⟩⟩
        refine ite2 (fun z => absurd z (by decide +kernel)) (fun _ => ?_)
        refine fun p hp => ⟨upd_same, kv6, rfl, by decide, _, rfl, p, _, rfl, dict p hp, ?_⟩
        have s0 := sd p hp
        refine ⟨_, rfl, rfl, _, rfl, ?_⟩
        rw [show decide (V.str (le (.inr I6.many)) = V.str "e") = false from by decide +kernel]
        exact ⟨_, rfl, _, _, rfl, rfl, lz (n := 1) (by decide +kernel) (by decide), _, rfl, _, _, rfl, rfl, lz (n := 2) (by decide +kernel) (by decide), _, rfl, (by show 1 ≤ sizeLine; decide), fun b hb => ⟨(by show 2 ≤ sizeLine; decide), fun a ha => fin _ _ _ b (by decide +kernel) rfl s0 hb a ha⟩⟩
end
end K00

/-! # what is kept, shown -/
namespace K00
open PySem PySem.Spec PyProof.Rows L2 PySem.E6
/-- x has the data d: no dict within, or a dict of one text to one int -/
def Sd (K : PySem.W.Frag) (H : Hp) (x : V) (d : PyData) : Prop := (Dp K H x d ∧ d.hasDict = false) ∨ ∃ (a : Addr) (t : Str) (n : Int), x = .ref a ∧ H a = some (.dK [(.inr t, .int n)]) ∧ d = .dict [(.str t, .int n)]
/-- short enough to be shown -/
structure Small (d : PyData) : Prop where
  sh : d.showable = true
  dp : d.depth ≤ 4
  sz : d.shown.length ≤ 2000
def encK : Key → PyData
  | .inl i => .int i
  | .inr t => .str t
theorem mt_ref {a : Addr} {us : List Value} (r : Vals [V.ref a] us) : us = [.ref a] := by
  cases r with
  | cons r0 r1 =>
    cases r0
    cases r1
    rfl
section
variable {X : Cx} {pins : List (Addr × Obj)} {σ : L2.St} {H : Hp} {s : Shared}
theorem Sd.reads (I : Inv X pins σ H s) {x : V} {u : Value} {d : PyData} (r : RelV x u) (h : Sd X.K H x d) : ∃ as, Reads s.heap u d as ∧ (d.hasDict = true → sysModules ∉ as) := by
  rcases h with ⟨dp, nd⟩ | ⟨a, t, n, rfl, e, rfl⟩
  · obtain ⟨as, z⟩ := Dp.reads I d x u dp r
    exact ⟨as, z, fun y => by rw [nd] at y; cases y⟩
  · obtain rfl : u = Value.ref a := r
    obtain ⟨_, lo, vs, kv, hd⟩ := dk_of I.hok e
    obtain ⟨v, rfl, rv⟩ : ∃ v, vs = [(.inr t, v)] ∧ RelV (.int n) v := by
      unfold KV at kv
      cases kv with
      | @cons _ b _ _ p q =>
        cases q
        obtain ⟨k0, v0⟩ := b
        obtain ⟨p1, p2⟩ := p
        first
          | (cases p1; exact ⟨_, rfl, p2⟩)
          | (obtain rfl : k0 = .inr t := p1; exact ⟨_, rfl, p2⟩)
    obtain ⟨k, rfl⟩ := rv
    have keys : ∀ (k : Key) (key : Value), (mixKind X.prog X.w).is k key = true → Reads s.heap key (encK k) [] := fun k key z => by
      rcases keyIs_shape z with ⟨i, t, rfl, rfl⟩ | ⟨y, t, rfl, rfl⟩
      · exact .int _ _
      · exact .str _ _
    have z := PyProof.V.reads_dictOf (enc := encK) keys hd (.cons (.int n k) .nil)
    exact ⟨_, z, fun _ m => by
      have y : sysModules = a := by simpa using m
      rw [← y] at lo
      simp at lo⟩
/-- repr((text, [x])), repr((text, [])) -/
theorem call_repr_K (no : X.A.guards = some []) (hu : X.A.units + 100 < cLine) : CallR X (.builtin "repr") (fun xs H Q => ∃ (a b : Addr) (m : Str) (ys : List V) (t : Str), xs = [.ref a] ∧ H a = some (.tup [.str m, .ref b]) ∧ H b = some (.lst ys) ∧ (reprText m).length ≤ sizeLine ∧
    ((ys = [] ∧ t = "[]") ∨ ∃ x d, ys = [x] ∧ Sd X.K H x d ∧ Small d ∧ t = listText [d.shown]) ∧ (tupleText [reprText m, t]).length ≤ sizeLine ∧ Q (.str (tupleText [reprText m, t])) H) := by
  intro pins s σ H vs us Q I r h
  obtain ⟨a, b, m, ys, t, rfl, ea, eb, lm, hy, sz, q⟩ := h
  rw [mt_ref r]
  obtain ⟨its, rv, ⟨o, ho, hc, n, hd⟩, _⟩ := I.tuple (show SqT X.K H a [V.str m, V.ref b] from .inl (.inl ea))
  obtain ⟨its2, n2, rv2, ho2, _⟩ := I.lst eb
  obtain ⟨k, rfl⟩ : ∃ k, its = [.str m k, .ref b] := by
    cases rv with
    | cons r0 r1 =>
      obtain ⟨k, rfl⟩ := r0
      cases r1 with
      | cons r2 r3 =>
        cases r2
        cases r3
        exact ⟨k, rfl⟩
  have first_ : ∀ (as : List Addr) (e : Nat), ReprK X.prog X.w as s.heap e (.str m k) (reprText m) := fun as e => .of_is (.str m k lm) _ _ _
  have go : ∀ (as : List Addr) (e : Nat), a ∉ as → e ≤ 20 → ReprK X.prog X.w as s.heap e (.ref b) t → wpAny (model X.prog X.w) X.A (call (.builtin "repr") [.ref a]) (EP X pins σ Q) X.xe s := fun as e na le rk => by
    have all : ReprAllK X.prog X.w as s.heap e ([.str m k, .ref b] : List Value).toArray.toList [reprText m, t] := .cons (first_ as e) (.cons rk .nil)
    refine call_repr_slot (by omega) ⟨o, ho, hc⟩ F.slot_tuple_repr ?_
    refine call_tuple_reprK (A := X.A.in1) ho hc hd na all no (fun b _ => Clear.nil b) (by show X.A.units + 1 + (e + 1) < cLine; omega) (fun b o e => e) (fun h' u tk kp => ?_) sz
    exact ⟨_, _, rfl, .str _, H, I.kept (h' := h') (t' := tk) kp, ⟨_, rfl⟩, q⟩
  rcases hy with ⟨rfl, rfl⟩ | ⟨x, d, rfl, hs, sm, rfl⟩
  · cases rv2
    exact go [] 0 (by simp) (by decide) (ReprK.listEmpty ho2 rfl rfl)
  · cases rv2 with
    | @cons _ v0 _ vr rx rn =>
      cases rn
      obtain ⟨as, hr, hm⟩ := hs.reads I rx
      have all : ReadsAll s.heap [v0] [d] (as ++ []) := .cons hr .nil
      have dz : d.shown.length ≤ sizeLine := Nat.le_trans sm.sz (by decide)
      obtain ⟨bs, hb, hk⟩ := ReprAllK.of_readsAll (prog := X.prog) (w := X.w) all (by simp [PyData.showableAll, sm.sh]) (fun y z => hm (by simpa [PyData.hasDictAll] using y) (by simpa using z)) (fun t ht => by
        have e : t = d.shown := by simpa [PyData.shownAll] using ht
        rw [e]
        exact dz)
      have whole : Reads s.heap (.ref b) (.list [d]) _ := Reads.list ho2 rfl rfl all
      have big : Reads s.heap (.ref a) (.tuple [.str m, .list [d]]) _ := Reads.tuple ho hc hd (.cons (.str m k) (.cons whole .nil))
      have dd := sm.dp
      have offB : b ∉ bs := not_mem_of_deeper whole (by simp only [PyData.depth]; omega) hb
      have offA : a ∉ bs := not_mem_of_deeper big (by simp [PyData.depth, PyData.depthAll]; omega) hb
      have ab : a ≠ b := fun e => by
        rw [e, eb] at ea
        cases ea
      have dl : PyData.depthAll [d] ≤ 4 := by simp [PyData.depthAll, dd]
      refine go (b :: bs) (PyData.depthAll [d] + 1) (fun z => (List.mem_cons.mp z).elim ab offA) (by omega) ?_
      have z := ReprK.list (prog := X.prog) (w := X.w) ho2 rfl rfl offB (by simpa using hk.length_eq) (fun i y z => hk.item i y (by simpa using z))
      simpa [PyData.shownAll] using z
end
end K00

/-! # the values that are drawn -/
namespace K00
open PySem PySem.Spec PyProof.Rows L2 PySem.E6
/-- all objects but the one at a as before, new ones may be there -/
def Old (a : Addr) (H H' : Hp) : Prop := ∀ b o, b ≠ a → H b = some o → H' b = some o
theorem Old.of_same {a : Addr} {H H' : Hp} (s : Same H H') : Old a H H' := fun b o _ h => s b o h
theorem Old.of_but {a : Addr} {H H' : Hp} (s : But a H H') : Old a H H' := fun b o n h => (s b n).trans h
theorem Old.trans {a : Addr} {H H1 H2 : Hp} (x : Old a H H1) (y : Old a H1 H2) : Old a H H2 := fun b o n h => y b o n (x b o n h)
theorem Urn.same {H H' : Hp} {a : Addr} (u : Urn H a) (s : Same H H') : Urn H' a := let ⟨g, m, c, h⟩ := u; ⟨g, m, c, s _ _ h⟩
theorem urn_ne {H : Hp} {a p : Addr} (u : Urn H a) (h : H p = none) : p ≠ a := fun e => by
  obtain ⟨g, m, c, hu⟩ := u
  rw [e, hu] at h
  cases h
mutual
/-- a value without lists and dicts -/
inductive Tv (H : Hp) : V → PyData → Prop
  | non : Tv H .non .none
  | bl (b : Bool) : Tv H (.bl b) (.bool b)
  | int (i : Int) : Tv H (.int i) (.int i)
  | str (z : Str) : Tv H (.str z) (.str z)
  | tup {a : Addr} {xs : List V} {ds : List PyData} : H a = some (.tup xs) → TvL H xs ds → Tv H (.ref a) (.tuple ds)
inductive TvL (H : Hp) : List V → List PyData → Prop
  | nil : TvL H [] []
  | cons {x : V} {d : PyData} {xs : List V} {ds : List PyData} : Tv H x d → TvL H xs ds → TvL H (x :: xs) (d :: ds)
end
mutual
theorem Tv.old {H H' : Hp} {u : Addr} (hu : Urn H u) (o : Old u H H') : ∀ {x : V} {d : PyData}, Tv H x d → Tv H' x d
  | _, _, .non => .non
  | _, _, .bl b => .bl b
  | _, _, .int i => .int i
  | _, _, .str z => .str z
  | _, _, .tup (a := a) e l => .tup (o a _ (fun z => by
      obtain ⟨g, m, c, eu⟩ := hu
      rw [z, eu] at e
      cases e) e) (l.old hu o)
theorem TvL.old {H H' : Hp} {u : Addr} (hu : Urn H u) (o : Old u H H') : ∀ {xs : List V} {ds : List PyData}, TvL H xs ds → TvL H' xs ds
  | _, _, .nil => .nil
  | _, _, .cons h t => .cons (h.old hu o) (t.old hu o)
end
mutual
theorem Tv.dp (K : PySem.W.Frag) {H : Hp} : ∀ {x : V} {d : PyData}, Tv H x d → Dp K H x d ∧ d.hasDict = false
  | _, _, .non => ⟨.non, rfl⟩
  | _, _, .bl b => ⟨.bl b, rfl⟩
  | _, _, .int i => ⟨.int i, rfl⟩
  | _, _, .str z => ⟨.str z, rfl⟩
  | _, _, .tup e l => ⟨.tup (.inl (.inl e)) (l.dp K).1, by simp only [PyData.hasDict]; exact (l.dp K).2⟩
theorem TvL.dp (K : PySem.W.Frag) {H : Hp} : ∀ {xs : List V} {ds : List PyData}, TvL H xs ds → DpAll K H xs ds ∧ PyData.hasDictAll ds = false
  | _, _, .nil => ⟨.nil, rfl⟩
  | _, _, .cons h t => ⟨.cons (h.dp K).1 (t.dp K).1, by simp only [PyData.hasDictAll, (h.dp K).2, (t.dp K).2, Bool.or_self]⟩
end
/-- what is drawn: such a value, a list of one int, a dict of one text to one int -/
inductive Dv (H : Hp) : V → PyData → Prop
  | tv {x : V} {d : PyData} : Tv H x d → Dv H x d
  | one {a : Addr} {n : Int} : H a = some (.lst [.int n]) → Dv H (.ref a) (.list [.int n])
  | dic {a : Addr} {t : Str} {n : Int} : H a = some (.dK [(.inr t, .int n)]) → Dv H (.ref a) (.dict [(.str t, .int n)])
theorem Dv.old {H H' : Hp} {u : Addr} {x : V} {d : PyData} (hu : Urn H u) (o : Old u H H') (h : Dv H x d) : Dv H' x d := by
  have off : ∀ {a : Addr} {v : HO}, H a = some v → (∀ g m c : Int, v ≠ .lst [.int g, .int m, .int c]) → a ≠ u := fun e n z => by
    obtain ⟨g, m, c, eu⟩ := hu
    rw [z, eu] at e
    exact n g m c (Option.some.inj e).symm
  cases h with
  | tv t => exact .tv (t.old hu o)
  | one e => exact .one (o _ _ (off e fun g m c z => by cases z) e)
  | dic e => exact .dic (o _ _ (off e fun g m c z => by cases z) e)
theorem Dv.sd (K : PySem.W.Frag) {H : Hp} {x : V} {d : PyData} (h : Dv H x d) : Sd K H x d := by
  cases h with
  | tv t => exact .inl (t.dp K)
  | one e => exact .inl ⟨.lst (.inl (.inl e)) (.cons (.int _) .nil), rfl⟩
  | dic e => exact .inr ⟨_, _, _, rfl, e, rfl⟩
end K00

/-! # lengths of what is drawn, shown -/
namespace K00
open PySem PySem.Spec PyProof.Rows L2 PySem.E6
theorem cat_len (x y : Str) : (x ++ y).length = x.length + y.length := strLen_append x y
def wide : List Str → Nat
  | [] => 0
  | t :: r => t.length + 2 + wide r
theorem join_wide : ∀ ts : List Str, (Str.join ", " ts).length ≤ wide ts
  | [] => Nat.le_refl _
  | [x] => by show x.length ≤ x.length + 2 + 0; omega
  | x :: y :: r => by
    show (x ++ ", " ++ Str.join ", " (y :: r)).length ≤ x.length + 2 + wide (y :: r)
    have z := join_wide (y :: r)
    have e : (", " : Str).length = 2 := by decide +kernel
    rw [cat_len, cat_len, e]
    omega
theorem from_wide : ∀ (ts : List Str) (k : Nat) (acc : Str), (textFrom k acc ts).length ≤ acc.length + wide ts
  | [], k, acc => by show acc.length ≤ acc.length + 0; omega
  | t :: r, k, acc => by
    show (textFrom (k + 1) (acc ++ (if k > 0 then ", " else "" : String) ++ t) r).length ≤ acc.length + (t.length + 2 + wide r)
    have z := from_wide r (k + 1) (acc ++ (if k > 0 then ", " else "" : String) ++ t)
    have e : ((if k > 0 then ", " else "" : String) : Str).length ≤ 2 := by split <;> decide +kernel
    rw [cat_len, cat_len] at z
    omega
theorem list_wide (ts : List Str) : (listText ts).length ≤ wide ts + 2 := by
  have z := from_wide ts 0 "["
  have e1 : ("[" : Str).length = 1 := by decide +kernel
  have e2 : ("]" : Str).length = 1 := by decide +kernel
  show (textFrom 0 "[" ts ++ "]").length ≤ _
  rw [cat_len, e2]
  omega
theorem tuple_wide (ts : List Str) : (tupleText ts).length ≤ wide ts + 3 := by
  have z := join_wide ts
  have e1 : ("(" : Str).length = 1 := by decide +kernel
  have e2 : ((if ts.length == 1 then ",)" else ")" : String) : Str).length ≤ 2 := by split <;> decide +kernel
  show (("(" : Str) ++ Str.join ", " ts ++ (if ts.length == 1 then ",)" else ")" : String)).length ≤ _
  rw [cat_len, cat_len]
  omega
theorem dict_wide (ts : List Str) : (dictText ts).length ≤ wide ts + 2 := by
  have z := join_wide ts
  have e1 : ("{" : Str).length = 1 := by decide +kernel
  have e2 : ("}" : Str).length = 1 := by decide +kernel
  show (("{" : Str) ++ Str.join ", " ts ++ "}").length ≤ _
  rw [cat_len, cat_len, e1, e2]
  omega
/-- a text that is drawn -/
structure Pt (t : Str) : Prop where
  len : t.length ≤ 40
  cps : ∀ c ∈ t.cps.toList, c < 16 ^ 8
theorem Pt.shown {t : Str} (p : Pt t) : (reprText t).length ≤ 402 := by
  have z := PySem.StrLaws.reprText_len t p.cps
  have := p.len
  omega
theorem int_shown {i : Int} (h : i.natAbs < 10 ^ 62) : (Str.ofString (toString i)).length ≤ 63 := by
  have z := int_text_length_le10 (k := 62) (by decide) h
  rw [PySem.ofString_length]
  exact z
theorem log62 {i : Int} (h : i.natAbs < 10 ^ 62) : i.natAbs.log2 < 1920 := by
  by_cases z : i.natAbs = 0
  · rw [z]
    decide
  · exact (Nat.log2_lt z).mpr (Nat.lt_trans h (by decide +kernel))
/-- a value without parts, shown in at most 402 signs -/
structure Lf (d : PyData) : Prop where
  sh : d.showable = true
  dp : d.depth ≤ 1
  sz : d.shown.length ≤ 402
theorem Lf.none : Lf .none := ⟨rfl, by decide, by decide +kernel⟩
theorem Lf.bool (b : Bool) : Lf (.bool b) := ⟨rfl, by show 0 ≤ 1; decide, by cases b <;> decide +kernel⟩
theorem Lf.int {i : Int} (h : i.natAbs < 10 ^ 62) : Lf (.int i) := ⟨decide_eq_true (log62 h), by show 0 ≤ 1; decide, Nat.le_trans (int_shown h) (by decide)⟩
theorem Lf.str {t : Str} (p : Pt t) : Lf (.str t) := ⟨rfl, by show 0 ≤ 1; decide, p.shown⟩
theorem Lf.unit : Lf (.tuple []) := ⟨rfl, by decide, by decide +kernel⟩
theorem Lf.small {d : PyData} (l : Lf d) : Small d := ⟨l.sh, Nat.le_trans l.dp (by decide), Nat.le_trans l.sz (by decide)⟩
theorem wide_le : ∀ {ds : List PyData}, (∀ d ∈ ds, Lf d) → wide (PyData.shownAll ds) ≤ 404 * ds.length
  | [], _ => Nat.zero_le _
  | d :: r, h => by
    show d.shown.length + 2 + wide (PyData.shownAll r) ≤ 404 * (r.length + 1)
    have a := (h d (List.mem_cons_self ..)).sz
    have b := wide_le fun x hx => h x (List.mem_cons_of_mem _ hx)
    omega
theorem sh_all : ∀ {ds : List PyData}, (∀ d ∈ ds, Lf d) → PyData.showableAll ds = true
  | [], _ => rfl
  | d :: r, h => by
    show (d.showable && PyData.showableAll r) = true
    rw [(h d (List.mem_cons_self ..)).sh, sh_all fun x hx => h x (List.mem_cons_of_mem _ hx)]
    rfl
theorem dp_all : ∀ {ds : List PyData}, (∀ d ∈ ds, Lf d) → PyData.depthAll ds ≤ 1
  | [], _ => by decide
  | d :: r, h => by
    show max d.depth (PyData.depthAll r) ≤ 1
    have a := (h d (List.mem_cons_self ..)).dp
    have b := dp_all fun x hx => h x (List.mem_cons_of_mem _ hx)
    omega
theorem Small.tup {ds : List PyData} (h : ∀ d ∈ ds, Lf d) (l : ds.length ≤ 4) : Small (.tuple ds) := by
  refine ⟨sh_all h, ?_, ?_⟩
  · show PyData.depthAll ds + 1 ≤ 4
    have := dp_all h
    omega
  · show (tupleText (PyData.shownAll ds)).length ≤ 2000
    have a := tuple_wide (PyData.shownAll ds)
    have b := wide_le h
    omega
theorem Small.lst {ds : List PyData} (h : ∀ d ∈ ds, Lf d) (l : ds.length ≤ 4) : Small (.list ds) := by
  refine ⟨sh_all h, ?_, ?_⟩
  · show PyData.depthAll ds + 1 ≤ 4
    have := dp_all h
    omega
  · show (listText (PyData.shownAll ds)).length ≤ 2000
    have a := list_wide (PyData.shownAll ds)
    have b := wide_le h
    omega
theorem Small.dic {t : Str} {n : Int} (p : Pt t) (h : n.natAbs < 10 ^ 62) : Small (.dict [(.str t, .int n)]) := by
  refine ⟨?_, by show max (max 0 0) 0 + 1 ≤ 4; decide, ?_⟩
  · show (true && decide (n.natAbs.log2 < 1920) && true) = true
    rw [decide_eq_true (log62 h)]
    rfl
  · show (dictText [reprText t ++ ": " ++ Str.ofString (toString n)]).length ≤ 2000
    have a := dict_wide [reprText t ++ ": " ++ Str.ofString (toString n)]
    have b : wide [reprText t ++ ": " ++ Str.ofString (toString n)] = (reprText t ++ ": " ++ Str.ofString (toString n)).length + 2 + 0 := rfl
    have e : (": " : Str).length = 2 := by decide +kernel
    have c := p.shown
    have g := int_shown h
    rw [cat_len, cat_len] at b
    omega
/-- repr((text, [x])) -/
theorem both_wide {m u : Str} (h : m.length ≤ 100) (g : u.length ≤ 3000) : (tupleText [m, u]).length ≤ sizeLine := by
  have a := tuple_wide [m, u]
  have b : wide [m, u] = m.length + 2 + (u.length + 2 + 0) := rfl
  rw [sizeLine_eq]
  omega
end K00

/-! # a value is drawn -/
namespace K00
open PySem PySem.Spec PyProof.Rows L2 PySem.E6
mutual
theorem Tv.put {H : Hp} {D : Addr} {xs ys : List V} (hd : H D = some (.lst xs)) : ∀ {x : V} {d : PyData}, Tv H x d → Tv (upd H D (.lst ys)) x d
  | _, _, .non => .non
  | _, _, .bl b => .bl b
  | _, _, .int i => .int i
  | _, _, .str z => .str z
  | _, _, .tup (a := a) e l => .tup ((upd_ne (fun z => by rw [z, hd] at e; cases e)).trans e) (l.put hd)
theorem TvL.put {H : Hp} {D : Addr} {xs ys : List V} (hd : H D = some (.lst xs)) : ∀ {zs : List V} {ds : List PyData}, TvL H zs ds → TvL (upd H D (.lst ys)) zs ds
  | _, _, .nil => .nil
  | _, _, .cons h t => .cons (h.put hd) (t.put hd)
end
theorem TvL.snoc {H : Hp} : ∀ {xs : List V} {ds : List PyData} {x : V} {d : PyData}, TvL H xs ds → Tv H x d → TvL H (xs ++ [x]) (ds ++ [d])
  | _, _, _, _, .nil, h => .cons h .nil
  | _, _, _, _, .cons a t, h => .cons a (t.snoc h)
theorem TvL.len {H : Hp} : ∀ {xs : List V} {ds : List PyData}, TvL H xs ds → xs.length = ds.length
  | _, _, .nil => rfl
  | _, _, .cons _ t => congrArg (· + 1) t.len
/-- a leaf that is drawn -/
def Le (H : Hp) (x : V) : Prop := ∃ d, Tv H x d ∧ Lf d
/-- what is drawn -/
def Dr (H : Hp) (x : V) : Prop := ∃ d, Dv H x d ∧ Small d
theorem Le.dr {H : Hp} {x : V} (h : Le H x) : Dr H x := let ⟨d, t, l⟩ := h; ⟨d, .tv t, l.small⟩
theorem Le.old {H H' : Hp} {u : Addr} {x : V} (hu : Urn H u) (o : Old u H H') (h : Le H x) : Le H' x := let ⟨d, t, l⟩ := h; ⟨d, t.old hu o, l⟩
theorem Dr.old {H H' : Hp} {u : Addr} {x : V} (hu : Urn H u) (o : Old u H H') (h : Dr H x) : Dr H' x := let ⟨d, t, l⟩ := h; ⟨d, t.old hu o, l⟩
theorem at_of {R : V → Prop} : ∀ {xs : List V}, (∀ x ∈ xs, R x) → ∀ {i : Nat} {x : V}, xs[i]? = some x → R x := fun h _ _ e => h _ (List.mem_of_getElem? e)
/-- list(text) -/
def signsV (z : Str) : List V := z.cps.toList.map fun c => V.str ⟨#[c]⟩
theorem call_listS {X : Cx} (hc : X.calm = true) : CallR X (.type "list") (fun xs H Q => ∃ z : Str, xs = [.str z] ∧ z.length ≤ sizeLine ∧ ∀ l, H l = none → Q (.ref l) (upd H l (.lst (signsV z)))) := by
  intro pins s σ H xs us Q I r h
  obtain ⟨z, rfl, hz, q⟩ := h
  obtain ⟨u, rfl, t, rfl⟩ := vals1 r
  have hs : z.cps.size = (signsV z).length := by simp [signsV]
  refine call_list_str (I.ok.hd hc) z t (fun h' tk acc c' hk e hi => ?_) hz
  refine ⟨.ref s.heap.objs.size, upd H s.heap.objs.size (.lst (signsV z)), I.laid hk (Nat.le_refl _) ⟨by rw [← hs]; exact hz, acc.toList, c', ?_, by rw [Array.toArray_toList]; exact e⟩, rfl, q _ (I.hok.fresh (Nat.le_refl _))⟩
  refine vals_of_idx _ _ (by rw [← hs, Array.length_toList]; exact hi.1) fun j v hj => ?_
  obtain ⟨c, t', hc, rfl⟩ := hi.2 j v (by rw [← Array.getElem?_toList]; exact hj)
  exact ⟨.str ⟨#[c]⟩, by simp [signsV, hc], ⟨_, rfl⟩⟩
section
variable {P : Program} {w : World} {K : PySem.W.Frag} {mg : Str → Option Value} {base : Heap}
abbrev s_value : Stmt := topS 24
theorem sc_value : FnScope ["_law_urn_here", "_law_word", "_law_text", "_law_number", "_law_some_here", "_law_turn"] ["_law_urn_here", "_law_word", "_law_text"] (defScope s_value) := ⟨rfl, rfl, rfl, by decide +kernel, rfl, by decide +kernel, by decide +kernel⟩
def spVal : Sp := fun vs H Q _ => ∃ (u : Addr) (z t : Str), vs = [.ref u, .str z, .str t] ∧ Urn H u ∧ Pt t ∧ ∀ (x : V) (H' : Hp), Urn H' u → Old u H H' → Dr H' x → Q x H'
theorem ok_value {f fs ft : Addr} {fd fds fdt : FuncData} (T : Txt mg) (d : D K mg "_law_value" s_value ["_law_urn_here", "_law_word", "_law_text"] f fd) (ds : D K mg "_law_some" s_law_some ["_law_urn_here", "_law_items"] fs fds) (dt : D K mg "_law_take" s_law_take ["_law_urn_here", "_law_total"] ft fdt) :
    FnOk P w K mg base CX0 3 f fd ["_law_urn_here", "_law_word", "_law_text"] spVal := by
  have Gs : FnOk P w K mg base CX0 2 fs fds ["_law_urn_here", "_law_items"] spSome := ok_some T ds dt
  have Gt : FnOk P w K mg base CX0 1 ft fdt ["_law_urn_here", "_law_total"] spTake := ok_take T dt
  refine d.F.ok sc_value (fun vs H Q E h => ?_) (fun cdv A outer s H vs Q E hr h => ?_)
  · obtain ⟨u, z, t, rfl, _⟩ := h
    rfl
  · obtain ⟨u, z, t, rfl, hu, pt, g⟩ := h
    refine ⟨_, (pss_cons (ps_set (i := 3) sc_value.nd rfl (.inr rfl) (pe_op op_sub (pe_call Gt (hr.mono (by decide)) (by rfl) dt.g dt.F.kp dt.b .nil pass0 (pa_cons (pv 0) (pa_cons (pe_op op_powW pe_int pe_int) pa_nil))) (pe_call Gt (hr.mono (by decide)) (by rfl) dt.g dt.F.kp dt.b .nil pass0 (pa_cons (pv 0) (pa_cons (pe_op op_powW pe_int pe_int) pa_nil)))))
      (pss_cons (ps_if (pt_cmpR op_in_str (pv 1) pe_str (by with_unfolding_all rfl)) (pss_one (ps_ret (pe_call Gs hr (by rfl) ds.g ds.F.kp ds.b .nil pass0 (pa_cons (pv 0) (pa_cons (pe_lst (pa_cons (pv 3) (pa_cons pe_int (pa_cons (pe_un un_neg pe_int) (pa_cons (pe_op op_mulW (pv 3) (pe_op op_powW pe_int pe_int)) pa_nil))))) pa_nil))))) pss_nil)
      (pss_cons (ps_if (pt_cmpR op_eq (pv 1) pe_str (nomark _)) (pss_one (ps_ret (pe_op op_catT (pe_tup (pa_cons (pv 2) pa_nil)) (pe_tupleOf (by rfl) T.n_tuple
          (pe_lc (own := [("_law_turn", 5)]) (g := gName 5) (tt := tYes) rfl sc_value.nd (pi_range1 (by rfl) T.n_range (pa_cons (pe_call Gt (hr.mono (by decide)) (by rfl) dt.g dt.F.kp dt.b .nil pass0 (pa_cons (pv 0) (pa_cons pe_int pa_nil))) pa_nil)) (blkOk_by (own := [("_law_turn", 5)]) (N := ["_law_urn_here", "_law_word", "_law_text", "_law_number", "_law_some_here", "_law_turn"]) (sc := defScope s_value) (by decide +kernel))
            (fun _ _ _ _ _ => pg_name (i := 5) sc_value.nd rfl (Or.inl rfl)) (fun _ _ _ _ _ => pts_nil) (fun _ _ _ _ _ => pe_call Gs hr (by rfl) ds.g ds.F.kp ds.b .nil pass0 (pa_cons (pv 0) (pa_cons (pe_lst (pa_cons (pv 3) (pa_cons (pv 2) (pa_cons (pe_tup pa_nil) (pa_cons pe_non pa_nil))))) pa_nil)))))))) pss_nil)
      (pss_cons (ps_set (i := 4) sc_value.nd rfl (.inl rfl) (pe_lst (pa_cons pe_non (pa_cons (pv 2) (pa_cons (pv 3) (pa_cons pe_bl (pa_cons (pe_tup pa_nil) (pa_cons (pe_tup (pa_cons (pv 3) (pa_cons (pv 2) pa_nil))) (pa_cons (pe_lst (pa_cons (pv 3) pa_nil)) (pa_cons (pe_disp (pps_cons (pv 2) (pv 3) pps_nil) (by rfl) (by rfl) (fun z => by cases z) (by decide)) (pa_cons pe_str (pa_cons (pe_op op_powW pe_int pe_int) (pa_cons (pe_tup (pa_cons pe_non pa_nil)) pa_nil)))))))))))))
      (pss_one (ps_ret (pe_call Gs hr (by rfl) ds.g ds.F.kp ds.b .nil pass0 (pa_cons (pv 0) (pa_cons (pv 4) pa_nil))))))))), ?_⟩
    have pw20 : CPowW 10 20 := ⟨by decide, by decide +kernel⟩
    have pw9 : CPowW 10 9 := ⟨by decide, by decide +kernel⟩
    have pw40 : CPowW 10 40 := ⟨by decide, by decide +kernel⟩
    have pw61 : CPowW 10 61 := ⟨by decide, by decide +kernel⟩
    refine ⟨_, rfl, _, _, rfl, rfl, pw20, u, _, rfl, hu, by decide +kernel, by decide +kernel, fun v1 H1 a1 b1 u1 k1 => ?_⟩
    refine ⟨_, rfl, _, _, rfl, rfl, pw9, u, _, rfl, u1, by decide +kernel, by decide +kernel, fun v2 H2 a2 b2 u2 k2 => ?_⟩
    refine ⟨_, _, rfl, rfl, ?_⟩
    have p20 : (10 : Int) ^ Int.toNat 20 = 10 ^ 20 := rfl
    have p9 : (10 : Int) ^ Int.toNat 9 = 10 ^ 9 := rfl
    rw [p20] at b1
    rw [p9] at b2
    have bn : (v1 - v2).natAbs < 10 ^ 21 := by omega
    have o2 : Old u H H2 := (Old.of_but k1).trans (.of_but k2)
    clear k1 k2 u1 a1 a2 b1 b2
    have l62 : ∀ {i : Int}, i.natAbs < 10 ^ 21 → i.natAbs < 10 ^ 62 := fun h => Nat.lt_trans h (by decide +kernel)
    have ln : Lf (.int (v1 - v2)) := Lf.int (l62 bn)
    -- the items of a list, drawn from
    have draw : ∀ {H3 H4 : Hp} {b : Addr} {xs : List V} {i : Nat} {x : V} {H5 : Hp}, Urn H3 u → Old u H H3 → H3 b = none → H4 = upd H3 b (.lst xs) → (∀ x ∈ xs, Dr H3 x) → xs[i]? = some x → Urn H5 u → But u H4 H5 → Q x H5 := fun {H3 H4 b xs i x H5} hu3 o3 nb e al hx hu5 k5 => by
      subst e
      have s4 := sub_same (o := .lst xs) nb
      have o5 := (Old.of_same s4 (a := u)).trans (.of_but k5)
      exact g x H5 hu5 (o3.trans o5) ((al x (List.mem_of_getElem? hx)).old hu3 o5)
    refine ⟨_, rfl, _, _, rfl, rfl, _, rfl, ite2 (fun _ => ?_) (fun _ => ?_)⟩
    · have cm : CMulW (v1 - v2) (10 ^ Int.toNat 40) := by
        have z := log62 (l62 bn)
        have y : ((10 : Int) ^ Int.toNat 40).natAbs.log2 < 1920 := by decide +kernel
        show _ + _ < 1000000
        omega
      refine ⟨_, rfl, _, rfl, _, rfl, _, rfl, _, _, rfl, rfl, pw40, _, _, rfl, rfl, cm, (by show 4 ≤ sizeLine; decide), fun b nb => ?_⟩
      refine ⟨u, b, _, rfl, u2.same (sub_same nb), upd_same, urn_ne u2 nb, (fun z => nomatch z), (by show 4 ≤ 1000; decide), fun i x H3 hx hu3 k3 => draw u2 o2 nb rfl (fun y hy => ?_) hx hu3 k3⟩
      simp only [List.mem_cons, List.not_mem_nil, or_false] at hy
      rcases hy with rfl | rfl | rfl | rfl
      · exact Le.dr ⟨_, .int _, ln⟩
      · exact Le.dr ⟨_, .int _, Lf.int (by decide)⟩
      · exact Le.dr ⟨_, .int _, Lf.int (by decide)⟩
      · refine Le.dr ⟨_, .int _, Lf.int ?_⟩
        have e : (10 : Int) ^ Int.toNat 40 = 10 ^ 40 := rfl
        rw [e, Int.natAbs_mul]
        exact Nat.lt_of_lt_of_le (Nat.mul_lt_mul_of_pos_right (k := ((10 : Int) ^ 40).natAbs) bn (by decide +kernel)) (by decide +kernel)
    refine ⟨_, rfl, rfl, _, rfl, ite2 (fun _ => ?_) (fun _ => ?_)⟩
    · refine ⟨_, rfl, (by show 1 ≤ sizeLine; decide), fun p np => ?_⟩
      have sp := sub_same (o := .tup [V.str t]) np
      have hp : upd H2 p (.tup [V.str t]) p = some (.tup [V.str t]) := upd_same
      have u3 := u2.same sp
      have o3 : Old u H (upd H2 p (.tup [V.str t])) := o2.trans (.of_same sp)
      have pu : p ≠ u := urn_ne u2 np
      revert hp u3 o3
      clear sp
      generalize upd H2 p (.tup [V.str t]) = H3
      intro hp u3 o3
      refine ⟨_, rfl, u, 4, rfl, u3, by decide, by decide, fun m H4 m0 m1 u4 k4 => ⟨m, rfl, by omega, by omega, fun D hD => ?_⟩⟩
      obtain ⟨k, rfl⟩ : ∃ k : Nat, m = (k : Int) := ⟨m.toNat, by omega⟩
      have hp4 : H4 p = some (.tup [V.str t]) := (k4 p pu).trans hp
      have o4 : Old u H H4 := o3.trans (.of_but k4)
      clear o3 hp k4 u3
      have Du : D ≠ u := urn_ne u4 hD
      refine lc_range (n := k) (fun i H' => Urn H' u ∧ Old u H4 H' ∧ ∃ vs ds, H' D = some (.lst vs) ∧ TvL H' vs ds ∧ (∀ d ∈ ds, Lf d) ∧ vs.length = i) ⟨u4.same (sub_same hD), .of_same (sub_same hD), [], [], upd_same, .nil, (fun d h => by cases h), rfl⟩ ?_ ?_
      · rintro i H' hi ⟨uu, oo, vs, ds, hv, tv, al, lv⟩
        refine ⟨rfl, ?_⟩
        unfold tYes
        refine ite2 (fun _ => ?_) (fun q => absurd rfl q)
        refine ⟨_, rfl, _, rfl, _, rfl, (by show 0 ≤ sizeLine; decide), fun e ne => ⟨(by show 4 ≤ sizeLine; decide), fun b nb => ?_⟩⟩
        have s1 := sub_same (o := .tup []) ne
        have s2 := sub_same (o := .lst [V.int (v1 - v2), V.str t, V.ref e, V.non]) nb
        refine ⟨u, b, _, rfl, (uu.same s1).same s2, upd_same, urn_ne (uu.same s1) nb, (fun z => nomatch z), (by show 4 ≤ 1000; decide), fun i2 x H5 hx u5 k5 => ?_⟩
        have ob : Old u H' H5 := ((Old.of_same s1).trans (.of_same s2)).trans (.of_but k5)
        have lx : Le H5 x := by
          have z : ∀ y ∈ [V.int (v1 - v2), V.str t, V.ref e, V.non], Le (upd (upd H' e (.tup [])) b (.lst [V.int (v1 - v2), V.str t, V.ref e, V.non])) y := fun y hy => by
            simp only [List.mem_cons, List.not_mem_nil, or_false] at hy
            rcases hy with rfl | rfl | rfl | rfl
            · exact ⟨_, .int _, ln⟩
            · exact ⟨_, .str _, Lf.str pt⟩
            · exact ⟨_, .tup (s2 _ _ upd_same) .nil, Lf.unit⟩
            · exact ⟨_, .non, Lf.none⟩
          exact (z x (List.mem_of_getElem? hx)).old ((uu.same s1).same s2) (.of_but k5)
        obtain ⟨d0, td, ld⟩ := lx
        have h5 := ob D _ Du hv
        refine ⟨vs, h5, Nat.lt_of_lt_of_le (show vs.length < 4 by omega) (by decide), ?_, ?_, vs ++ [x], ds ++ [d0], upd_same, ((tv.old uu ob).snoc td).put h5, fun y hy => ?_, by rw [List.length_append]; exact congrArg (· + 1) lv⟩
        · obtain ⟨g, m, c, e⟩ := u5
          exact ⟨g, m, c, (upd_ne (Ne.symm Du)).trans e⟩
        · intro b o nb hb
          have nbD : b ≠ D := ne_of_none hb hD
          rw [upd_ne nbD]
          exact ob b o nb (oo b o nb hb)
        · rcases List.mem_append.mp hy with h | h
          · exact al y h
          · rw [List.mem_singleton.mp h]
            exact ld
      · rintro H5 ⟨u5, o5, vs, ds, hv, tv, al, lv⟩
        refine .inl ⟨D, vs, rfl, .inl (.inl hv), fun q nq => ?_⟩
        have s6 := sub_same (o := .tup vs) nq
        have u6 := u5.same s6
        have o6 : Old u H (upd H5 q (.tup vs)) := (o4.trans o5).trans (.of_same s6)
        have hp6 := s6 _ _ (o5 p _ pu hp4)
        have tp : Tv (upd H5 q (.tup vs)) (.str t) (.str t) := .str t
        have t6 := tv.old u5 (.of_same s6)
        refine ⟨p, q, [V.str t], vs, rfl, rfl, .inl (.inl hp6), .inl (.inl upd_same), (fun z => nomatch z), ?_, fun _ => ?_, fun _ p2 np2 => ?_⟩
        · rw [lv]
          exact Nat.le_trans (show 1 + k ≤ 5 by omega) (by decide)
        · exact g _ _ u6 o6 ⟨_, .tv (.tup hp6 (.cons tp .nil)), Small.tup (fun d hd => by
            rw [List.mem_singleton.mp hd]
            exact Lf.str pt) (show 1 ≤ 4 by decide)⟩
        · have s7 := sub_same (o := .tup ([V.str t] ++ vs)) np2
          refine g _ _ (u6.same s7) (o6.trans (.of_same s7)) ⟨_, .tv (.tup upd_same (.cons (.str t) (t6.old u6 (.of_same s7)))), Small.tup (fun d hd => ?_) ?_⟩
          · rcases List.mem_cons.mp hd with h | h
            · rw [h]
              exact Lf.str pt
            · exact al d h
          · have z := tv.len
            show ds.length + 1 ≤ 4
            omega
    · refine ⟨_, rfl, _, rfl, (by show 0 ≤ sizeLine; decide), fun e1 n1 => ⟨_, rfl, _, rfl, (by show 2 ≤ sizeLine; decide), fun e2 n2 => ⟨_, rfl, (by show 1 ≤ sizeLine; decide), fun e3 n3 => fun e4 n4 => ⟨_, rfl, _, rfl, upd_same, [(.inr t, .int (v1 - v2))], rfl, (by decide : 1 ≤ 15), ?_⟩⟩⟩⟩
      have s1 := sub_same (o := .tup []) n1
      have s2 := sub_same (o := .tup [V.int (v1 - v2), V.str t]) n2
      have s3 := sub_same (o := .lst [V.int (v1 - v2)]) n3
      have s4 : Same (upd (upd (upd H2 e1 (.tup [])) e2 (.tup [V.int (v1 - v2), V.str t])) e3 (.lst [V.int (v1 - v2)])) (upd (upd (upd (upd (upd H2 e1 (.tup [])) e2 (.tup [V.int (v1 - v2), V.str t])) e3 (.lst [V.int (v1 - v2)])) e4 (.dK [])) e4 (.dK [(.inr t, .int (v1 - v2))])) := fun b o e => by
        rw [upd_ne (ne_of_none e n4), upd_ne (ne_of_none e n4)]
        exact e
      have u6 := (((u2.same s1).same s2).same s3).same s4
      have o6 := (((o2.trans (.of_same s1)).trans (.of_same s2)).trans (.of_same s3)).trans (.of_same s4)
      have h1 := s4 _ _ (s3 _ _ (s2 _ _ (upd_same (H := H2) (a := e1) (o := .tup []))))
      have h2 := s4 _ _ (s3 _ _ (upd_same (H := upd H2 e1 (.tup [])) (a := e2) (o := .tup [V.int (v1 - v2), V.str t])))
      have h3 := s4 _ _ (upd_same (H := upd (upd H2 e1 (.tup [])) e2 (.tup [V.int (v1 - v2), V.str t])) (a := e3) (o := .lst [V.int (v1 - v2)]))
      have h4 := upd_same (H := upd (upd (upd (upd H2 e1 (.tup [])) e2 (.tup [V.int (v1 - v2), V.str t])) e3 (.lst [V.int (v1 - v2)])) e4 (.dK [])) (a := e4) (o := .dK [(.inr t, .int (v1 - v2))])
      have mk : mergeK [] [(.inr t, V.int (v1 - v2))] = [(.inr t, V.int (v1 - v2))] := rfl
      rw [mk]
      clear mk s1 s2 s3 s4
      revert u6 o6 h1 h2 h3 h4
      generalize upd (upd (upd (upd (upd H2 e1 (.tup [])) e2 (.tup [V.int (v1 - v2), V.str t])) e3 (.lst [V.int (v1 - v2)])) e4 (.dK [])) e4 (.dK [(.inr t, .int (v1 - v2))]) = H6
      intro u6 o6 h1 h2 h3 h4
      refine ⟨_, _, rfl, rfl, pw61, (by show 1 ≤ sizeLine; decide), fun e5 n5 => ⟨(by show 11 ≤ sizeLine; decide), fun b nb => ?_⟩⟩
      have s7 := sub_same (o := .tup [V.non]) n5
      have h5 := upd_same (H := H6) (a := e5) (o := .tup [V.non])
      have u7 := u6.same s7
      have o7 := o6.trans (.of_same s7)
      refine ⟨_, rfl, _, rfl, u, b, _, rfl, u7.same (sub_same nb), upd_same, urn_ne u7 nb, (fun z => nomatch z), (by show 11 ≤ 1000; decide), fun i x H8 hx hu8 k8 => draw u7 o7 nb rfl (fun y hy => ?_) hx hu8 k8⟩
      simp only [List.mem_cons, List.not_mem_nil, or_false] at hy
      rcases hy with rfl | rfl | rfl | rfl | rfl | rfl | rfl | rfl | rfl | rfl | rfl
      · exact Le.dr ⟨_, .non, Lf.none⟩
      · exact Le.dr ⟨_, .str _, Lf.str pt⟩
      · exact Le.dr ⟨_, .int _, ln⟩
      · exact Le.dr ⟨_, .bl _, Lf.bool _⟩
      · exact Le.dr ⟨_, .tup (s7 _ _ h1) .nil, Lf.unit⟩
      · exact ⟨_, .tv (.tup (s7 _ _ h2) (.cons (.int _) (.cons (.str _) .nil))), Small.tup (fun d hd => by
          simp only [List.mem_cons, List.not_mem_nil, or_false] at hd
          rcases hd with rfl | rfl
          · exact ln
          · exact Lf.str pt) (show 2 ≤ 4 by decide)⟩
      · exact ⟨_, .one (s7 _ _ h3), Small.lst (fun d hd => by
          rw [List.mem_singleton.mp hd]
          exact ln) (show 1 ≤ 4 by decide)⟩
      · exact ⟨_, .dic (s7 _ _ h4), Small.dic pt (l62 bn)⟩
      · exact Le.dr ⟨_, .str _, ⟨rfl, by show 0 ≤ 1; decide, by decide +kernel⟩⟩
      · exact Le.dr ⟨_, .int _, Lf.int (by decide +kernel)⟩
      · exact ⟨_, .tv (.tup h5 (.cons .non .nil)), Small.tup (fun d hd => by
          rw [List.mem_singleton.mp hd]
          exact Lf.none) (show 1 ≤ 4 by decide)⟩
end
end K00

/-! # the law -/
namespace K00
open PySem PySem.Spec PyProof.Rows L2 PySem.E6
/-- the words of a text -/
def five : List Str := ["led", " ", "a", "7", "."]
theorem five_len : ∀ y ∈ five, y.length ≤ 3 := by decide +kernel
theorem five_cps : ∀ y ∈ five, ∀ c ∈ y.cps.toList, c < 16 ^ 8 := by decide +kernel
theorem join_cps : ∀ {ys : List Str}, (∀ y ∈ ys, y ∈ five) → ∀ c ∈ (Str.join "" ys).cps.toList, c < 16 ^ 8
  | [], _ => fun c hc => by
    have e : (Str.join "" []).cps.toList = [] := rfl
    rw [e] at hc
    cases hc
  | [x], h => five_cps x (h x (List.mem_cons_self ..))
  | x :: y :: r, h => fun c hc => by
    have e : (Str.join "" (x :: y :: r)).cps = x.cps ++ ("" : Str).cps ++ (Str.join "" (y :: r)).cps := rfl
    rw [e, Array.toList_append, Array.toList_append, List.mem_append, List.mem_append] at hc
    rcases hc with (hc | hc) | hc
    · exact five_cps x (h x (List.mem_cons_self ..)) c hc
    · have e0 : ("" : Str).cps.toList = [] := by decide +kernel
      rw [e0] at hc
      cases hc
    · exact join_cps (fun z hz => h z (List.mem_cons_of_mem _ hz)) c hc
theorem sum_five : ∀ {ys : List Str}, (∀ y ∈ ys, y ∈ five) → (ys.map (·.length)).sum ≤ 3 * ys.length
  | [], _ => Nat.zero_le _
  | x :: r, h => by
    have a := five_len x (h x (List.mem_cons_self ..))
    have b := sum_five fun z hz => h z (List.mem_cons_of_mem _ hz)
    rw [List.map_cons, List.sum_cons, List.length_cons]
    omega
theorem pt_join {ys : List Str} (h : ∀ y ∈ ys, y ∈ five) (l : ys.length ≤ 12) : Pt (Txt.join "" ys) := by
  have e : Txt.join "" ys = Str.join "" ys := StrLaws.glued_eq_join _ _
  rw [e]
  refine ⟨?_, join_cps h⟩
  have a := StrLaws.join_length_le "" ys
  have b := sum_five h
  have z : ("" : Str).length = 0 := by decide +kernel
  rw [z] at a
  omega
theorem map_erase {α β : Type} (f : α → β) : ∀ (l : List α) (i : Nat), (l.map f).eraseIdx i = (l.eraseIdx i).map f
  | [], _ => rfl
  | _ :: _, 0 => rfl
  | x :: r, i + 1 => by
    show f x :: (r.map f).eraseIdx i = f x :: (r.eraseIdx i).map f
    rw [map_erase f r i]
theorem len_erase' {α : Type} : ∀ (l : List α) (i : Nat), i < l.length → (l.eraseIdx i).length + 1 = l.length
  | [], i, h => absurd h (Nat.not_lt_zero i)
  | _ :: _, 0, _ => rfl
  | x :: r, i + 1, h => by
    show (r.eraseIdx i).length + 1 + 1 = r.length + 1
    rw [len_erase' r i (Nat.lt_of_succ_lt_succ h)]
/-- the words of the law, in their order -/
def kds : List Kd := [.inl .S, .inl .h, .inl .t, .inl .l, .inl .m, .inl .p, .inl .s, .inl .o, .inr .spot, .inr .given, .inr .wanted, .inr .most, .inr .reason, .inr .many]
theorem kds_signs : signsV "Shtlmpsoenuyrd" = kds.map fun c => V.str (le c) := by decide +kernel
theorem le_ok (c : Kd) : PyData.strOk (le c) = true := by
  cases c with
  | inl c => cases c <;> decide +kernel
  | inr c => cases c <;> decide +kernel
theorem marks_ok (c : Kd) : (reprText (marks c)).length ≤ 100 := by
  cases c with
  | inl c => cases c <;> decide +kernel
  | inr c => cases c <;> decide +kernel
theorem dp_kds (K : PySem.W.Frag) (H : Hp) : ∀ ls : List Kd, DpAll K H (ls.map fun c => V.str (le c)) (ls.map fun c => PyData.str (le c))
  | [] => .nil
  | c :: r => .cons (.str _) (dp_kds K H r)
theorem sh_kds : ∀ ls : List Kd, PyData.canLayAll0 (ls.map fun c => PyData.str (le c)) = true ∧ PyData.depthAll (ls.map fun c => PyData.str (le c)) = 0
  | [] => ⟨rfl, rfl⟩
  | c :: r => by
    obtain ⟨a, b⟩ := sh_kds r
    constructor
    · show (PyData.strOk (le c) && PyData.canLayAll0 (r.map fun c => PyData.str (le c))) = true
      rw [a, le_ok c]
      rfl
    · show max 0 (PyData.depthAll (r.map fun c => PyData.str (le c))) = 0
      rw [b]
      rfl
theorem shaped_kds (ls : List Kd) : SeqAt.shaped (.list (ls.map fun c => PyData.str (le c))) = true := by
  obtain ⟨a, b⟩ := sh_kds ls
  show (PyData.canLayAll0 (ls.map fun c => PyData.str (le c)) && decide (PyData.depthAll (ls.map fun c => PyData.str (le c)) + 1 ≤ 64)) = true
  rw [a, b]
  rfl
/-- what stands behind the marks, shown -/
def tk (c : Kd) (d : PyData) : Str := match c with
  | .inl _ => "[]"
  | .inr _ => listText [d.shown]
theorem tk_len (c : Kd) {d : PyData} (s : Small d) : (tk c d).length ≤ 3000 := by
  cases c with
  | inl c =>
    show ("[]" : Str).length ≤ 3000
    decide +kernel
  | inr c =>
    show (listText [d.shown]).length ≤ 3000
    have a := list_wide [d.shown]
    have b : wide [d.shown] = d.shown.length + 2 + 0 := rfl
    have e := s.sz
    omega
theorem alt_of (K : PySem.W.Frag) {H : Hp} {x : V} {d : PyData} (v : Dv H x d) (s : Small d) (c : Kd) : (kx c x = [] ∧ tk c d = "[]") ∨ ∃ x' d', kx c x = [x'] ∧ Sd K H x' d' ∧ Small d' ∧ tk c d = listText [d'.shown] := by
  cases c with
  | inl c => exact .inl ⟨rfl, rfl⟩
  | inr c => exact .inr ⟨x, d, rfl, v.sd K, s, rfl⟩
section
variable {P : Program} {w : World} {K : PySem.W.Frag} {mg : Str → Option Value} {base : Heap}
abbrev s_law : Stmt := topS 25
theorem sc_law : FnScope ["_law_script", "_law_at", "_law_urn_here", "_law_text", "_law_words", "_law_word", "_law_kept_here", "_law_turn"] ["_law_script"] (defScope s_law) := ⟨rfl, rfl, rfl, by decide +kernel, rfl, by decide +kernel, by decide +kernel⟩
def spLaw (K : PySem.W.Frag) : Sp := fun vs H Q _ => ∃ (a : Addr) (ns : List Int), vs = [.ref a] ∧ SqL K H a (ns.map V.int) ∧ ns.length ≤ 63 ∧ ∀ H', Q (.bl true) H'
theorem turns (z : Int) : -(2 ^ 62) ≤ (if (if z < 3 then z else 3) > 1 then (if z < 3 then z else 3) else 1) ∧ (if (if z < 3 then z else 3) > 1 then (if z < 3 then z else 3) else 1) < 2 ^ 62 ∧ (if (if z < 3 then z else 3) > 1 then (if z < 3 then z else 3) else 1) ≤ 3 := by
  split <;> split <;> omega
theorem ok_law {f fu ft fs fv fe fd' : Addr} {fd fdu fdt fds fdv fde fdd : FuncData} (T : Txt mg) (nl : mg "list" = none) (d : D K mg "law" s_law ["_law_script"] f fd)
    (du : D K mg "_law_urn" s_law_urn ["_law_script", "_law_at"] fu fdu) (dt : D K mg "_law_take" s_law_take ["_law_urn_here", "_law_total"] ft fdt) (ds : D K mg "_law_some" s_law_some ["_law_urn_here", "_law_items"] fs fds) (dv : D K mg "_law_value" s_value ["_law_urn_here", "_law_word", "_law_text"] fv fdv)
    (de : D K mg "_law_seen" s_seen ["_law_word", "_law_text", "_law_kept_here"] fe fde) (dd : D K mg "_law_due" s_due ["_law_word", "_law_kept_here"] fd' fdd)
    (Gu : FnOk P w K mg base CX0 1 fu fdu ["_law_script", "_law_at"] (spUrn K)) (Gt : FnOk P w K mg base CX0 1 ft fdt ["_law_urn_here", "_law_total"] spTake) (Gs : FnOk P w K mg base CX0 2 fs fds ["_law_urn_here", "_law_items"] spSome) (Gv : FnOk P w K mg base CX0 3 fv fdv ["_law_urn_here", "_law_word", "_law_text"] spVal)
    (Ge : FnOk P w K mg base CX0 4 fe fde ["_law_word", "_law_text", "_law_kept_here"] spSeen) (Gd : FnOk P w K mg base CX0 1 fd' fdd ["_law_word", "_law_kept_here"] spDue) : FnG P w K mg base CX0 5 f fd ["_law_script"] (spLaw K) := by
  refine FnG.of d.F sc_law (fun vs H Q E h => ?_) (fun cdv A outer s H vs Q E hn hr h => ?_)
  · obtain ⟨a, ns, rfl, _⟩ := h
    rfl
  · obtain ⟨a, ns, rfl, hS, hl, q⟩ := h
    have un : (A.deeper (envOfC "law" (defScope s_law) s.heap.objs.size f cdv)).units + 100 < cLine := by have := hr.un; omega
    have un' : (A.deeper (envOfC "law" (defScope s_law) s.heap.objs.size f cdv)).units + 64 < cLine := by omega
    refine ⟨_, (pss_cons (ps_for PassesOwn.never rfl (pi_range1 rfl T.n_range (pa_cons (pe_callB (call_max2 rfl) (by rfl) T.n_max (by decide +kernel) (pa_cons pe_int (pa_cons (pe_callB (call_min2 rfl) (by rfl) T.n_min (by decide +kernel) (pa_cons pe_int (pa_cons (pe_callB call_len_seq (by rfl) T.n_len PySem.boot_len (pa_cons (pv 0) pa_nil)) pa_nil))) pa_nil))) pa_nil)) (pg_name (i := 1) sc_law.nd rfl (.inl rfl))
        (pss_cons (ps_set (i := 2) sc_law.nd rfl (.inr rfl) (pe_call Gu (hr.mono (by decide)) (by rfl) du.g du.F.kp du.b .nil pass0 (pa_cons (pv 0) (pa_cons (pv 1) pa_nil))))
        (pss_cons (ps_set (i := 3) sc_law.nd rfl (.inl rfl) (pe_join pe_str
          (pe_lc (own := [("_law_turn", 7)]) (g := gName 7) (tt := tYes) rfl sc_law.nd (pi_range1 (by rfl) T.n_range (pa_cons (pe_call Gt (hr.mono (by decide)) (by rfl) dt.g dt.F.kp dt.b .nil pass0 (pa_cons (pv 2) (pa_cons pe_int pa_nil))) pa_nil)) (blkOk_by (own := [("_law_turn", 7)]) (N := ["_law_script", "_law_at", "_law_urn_here", "_law_text", "_law_words", "_law_word", "_law_kept_here", "_law_turn"]) (sc := defScope s_law) (by decide +kernel))
            (fun _ _ _ _ _ => pg_name (i := 7) sc_law.nd rfl (Or.inl rfl)) (fun _ _ _ _ _ => pts_nil) (fun _ _ _ _ _ => pe_call Gs (hr.mono (by decide)) (by rfl) ds.g ds.F.kp ds.b .nil pass0 (pa_cons (pv 2) (pa_cons (pe_lst (pa_cons pe_str (pa_cons pe_str (pa_cons pe_str (pa_cons pe_str (pa_cons pe_str pa_nil)))))) pa_nil))))))
        (pss_cons (ps_set (i := 4) sc_law.nd rfl (.inl rfl) (pe_callTy (call_listS rfl) (by rfl) nl (by decide +kernel) (pa_cons pe_str pa_nil)))
        (pss_one (ps_while PassesOwn.never (pt_cmpR (op_neD un') (pv 4) (pe_lst pa_nil) (nomark _))
          (pss_cons (ps_set (i := 5) sc_law.nd rfl (.inl rfl) (pe_bm PySem.F.plainAttrs_list PySem.F.slot_list_pop PySem.F.type_list_pop mt_popAt (pv 4) (pa_cons (pe_call Gt (hr.mono (by decide)) (by rfl) dt.g dt.F.kp dt.b .nil pass0 (pa_cons (pv 2) (pa_cons (pe_callB call_len_seq (by rfl) T.n_len PySem.boot_len (pa_cons (pv 4) pa_nil)) pa_nil))) pa_nil)))
          (pss_cons (ps_set (i := 6) sc_law.nd rfl (.inl rfl) (pe_call Gv (hr.mono (by decide)) (by rfl) dv.g dv.F.kp dv.b .nil pass0 (pa_cons (pv 2) (pa_cons (pv 5) (pa_cons (pv 3) pa_nil)))))
          (pss_one (ps_if (pt_cmpR op_ne (pe_callB (call_repr_K hn un) (by rfl) T.n_repr (by decide +kernel) (pa_cons (pe_call Ge hr (by rfl) de.g de.F.kp de.b .nil pass0 (pa_cons (pv 5) (pa_cons (pv 3) (pa_cons (pv 6) pa_nil)))) pa_nil)) (pe_callB (call_repr_K hn un) (by rfl) T.n_repr (by decide +kernel) (pa_cons (pe_call Gd (hr.mono (by decide)) (by rfl) dd.g dd.F.kp dd.b .nil pass0 (pa_cons (pv 5) (pa_cons (pv 6) pa_nil))) pa_nil)) (nomark _)) (pss_one (ps_ret pe_bl)) pss_nil))))))))))
      (pss_one (ps_ret pe_bl))), ?_⟩
    obtain ⟨j0, j1, j2⟩ := turns (((ns.map V.int).length : Nat) : Int)
    refine ⟨.ref a, rfl, a, _, rfl, .inl hS, _, _, rfl, _, _, rfl, _, rfl, j0, j1, ?_⟩
    refine for_range (fun i σ H' => (∃ y1 y2 y3 y4 y5 y6, σ = [some (.ref a), y1, y2, y3, y4, y5, y6, none]) ∧ Same H H') ⟨⟨_, _, _, _, _, _, rfl⟩, Same.refl H⟩ ?_ ?_
    · rintro i σ H' hi ⟨⟨y1, y2, y3, y4, y5, y6, rfl⟩, sm⟩
      refine ⟨.ref a, rfl, _, rfl, a, i, ns, (by simp), sm.seq hS, by omega, fun H1 u s1 n1 u1 => ?_⟩
      -- the text
      refine ⟨⟨_, rfl⟩, _, rfl, u, 12, rfl, u1, by decide, by decide +kernel, fun m H2 m0 m1 u2 k2 => ⟨m, rfl, by omega, by omega, fun D hD => ?_⟩⟩
      obtain ⟨k, rfl⟩ : ∃ k : Nat, m = (k : Int) := ⟨m.toNat, by omega⟩
      have s2 : Same H' H2 := fun b o e => (k2 b (ne_of_none e n1)).trans (s1 b o e)
      clear s1 u1 k2
      have Du : D ≠ u := urn_ne u2 hD
      have nD : H' D = none := by
        cases e : H' D with
        | none => rfl
        | some o =>
          have z := s2 _ _ e
          rw [hD] at z
          cases z
      refine lc_range (n := k) (fun i H4 => Urn H4 u ∧ Same H' H4 ∧ ∃ ws : List Str, H4 D = some (.lst (ws.map V.str)) ∧ (∀ y ∈ ws, y ∈ five) ∧ ws.length = i) ⟨u2.same (sub_same hD), s2.trans (sub_same hD), [], upd_same, (fun y h => by cases h), rfl⟩ ?_ ?_
      · rintro j H4 hj ⟨u4, s4, ws, hw, fw, lw⟩
        refine ⟨rfl, ?_⟩
        unfold tYes
        refine ite2 (fun _ => ?_) (fun q => absurd rfl q)
        refine ⟨_, rfl, (by show 5 ≤ sizeLine; decide), fun b nb => ?_⟩
        have sb := sub_same (o := .lst [V.str "led", V.str " ", V.str "a", V.str "7", V.str "."]) nb
        refine ⟨u, b, _, rfl, u4.same sb, upd_same, urn_ne u4 nb, (fun z => nomatch z), (by show 5 ≤ 1000; decide), fun i2 x H5 hx u5 k5 => ?_⟩
        obtain ⟨y, rfl, fy⟩ : ∃ y : Str, x = .str y ∧ y ∈ five := by
          have z := List.mem_of_getElem? hx
          simp only [List.mem_cons, List.not_mem_nil, or_false] at z
          rcases z with rfl | rfl | rfl | rfl | rfl
          · exact ⟨_, rfl, by decide +kernel⟩
          · exact ⟨_, rfl, by decide +kernel⟩
          · exact ⟨_, rfl, by decide +kernel⟩
          · exact ⟨_, rfl, by decide +kernel⟩
          · exact ⟨_, rfl, by decide +kernel⟩
        have h5 : H5 D = some (.lst (ws.map V.str)) := (k5 D Du).trans (sb _ _ hw)
        refine ⟨ws.map V.str, h5, Nat.lt_of_lt_of_le (show (ws.map V.str).length < 12 by rw [List.length_map]; omega) (by decide), ?_, ?_, ws ++ [y], ?_, fun z hz => ?_, by rw [List.length_append]; exact congrArg (· + 1) lw⟩
        · obtain ⟨g, m, c, e⟩ := u5
          exact ⟨g, m, c, (upd_ne (Ne.symm Du)).trans e⟩
        · intro b' o hb
          rw [upd_ne (ne_of_none hb nD), k5 b' (ne_of_none hb n1)]
          exact sb _ _ (s4 _ _ hb)
        · rw [upd_same, List.map_append]
          rfl
        · rcases List.mem_append.mp hz with h | h
          · exact fw z h
          · rw [List.mem_singleton.mp h]
            exact fy
      · rintro H4 ⟨u4, s4, ws, hw, fw, lw⟩
        have e0 : ("" : Str).length = 0 := by decide +kernel
        refine ⟨_, D, ws, rfl, rfl, .inl (.inl (.inl hw)), ?_, ?_⟩
        · rw [e0]
          have z := sum_five fw
          omega
        have pt : Pt (Txt.join "" ws) := pt_join fw (by omega)
        generalize Txt.join "" ws = t at pt
        clear hw fw lw ws hD nD Du D m0 m1 hi u2 s2
        refine ⟨_, rfl, (by decide +kernel), fun D nD4 => ?_⟩
        have Du : D ≠ u := urn_ne u4 nD4
        have nD : H' D = none := by
          cases e : H' D with
          | none => rfl
          | some o =>
            have z := s4 _ _ e
            rw [nD4] at z
            cases z
        have hw : upd H4 D (.lst (signsV "Shtlmpsoenuyrd")) D = some (.lst (kds.map fun c => V.str (le c))) := by rw [upd_same, kds_signs]
        have u5 := u4.same (sub_same (o := .lst (signsV "Shtlmpsoenuyrd")) nD4)
        have s5 := s4.trans (sub_same (o := .lst (signsV "Shtlmpsoenuyrd")) nD4)
        revert hw u5 s5
        clear s4 u4
        generalize upd H4 D (.lst (signsV "Shtlmpsoenuyrd")) = H5
        intro hw u5 s5
        clear nD4
        refine ⟨fun n σ H6 => ∃ (ls : List Kd) (z5 z6 : Option V), n = ls.length ∧ ls.length ≤ 14 ∧ σ = [some (.ref a), some (.int (0 + (i : Int))), some (.ref u), some (.str t), some (.ref D), z5, z6, none] ∧ Urn H6 u ∧ Same H' H6 ∧ H6 D = some (.lst (ls.map fun c => V.str (le c))), ⟨14, kds, _, _, rfl, by decide, rfl, u5, s5, hw⟩, ?_⟩
        clear hw u5 s5
        rintro n σ H6 ⟨ls, z5, z6, rfl, l14, rfl, u6, s6, h6⟩
        have offD : ∀ {H7 : Hp} {o : HO}, Same H' H7 → Same H' (upd H7 D o) := fun s7 b o e => by
          rw [upd_ne (ne_of_none e nD)]
          exact s7 _ _ e
        have offu : ∀ {H7 H8 : Hp}, Same H' H7 → Old u H7 H8 → Same H' H8 := fun s7 k b o e => k b o (ne_of_none e n1) (s7 _ _ e)
        refine ⟨_, rfl, (by show 0 ≤ sizeLine; decide), fun p np => ⟨.list (ls.map fun c => PyData.str (le c)), .list [], .lst (.inl (.inl (sub_same np _ _ h6))) (dp_kds K _ ls), .lst (.inl (.inl upd_same)) .nil, shaped_kds ls, rfl, _, rfl, ite2 (fun e => ?_) (fun _ => ?_)⟩⟩
        · have ne : 0 < ls.length := by
            cases ls with
            | nil => cases e
            | cons c r => exact Nat.succ_pos _
          have s7 := s6.trans (sub_same (o := .lst []) np)
          have u7 := u6.same (sub_same (o := .lst []) np)
          have h7 := sub_same (o := .lst []) np _ _ h6
          revert s7 u7 h7
          clear h6 u6 s6 e
          generalize upd H6 p (.lst []) = H7
          intro s7 u7 h7
          clear np
          refine ⟨fun σ' H8 => ∃ (ls' : List Kd) (z5 z6 : Option V), ls'.length + 1 = ls.length ∧ σ' = [some (.ref a), some (.int (0 + (i : Int))), some (.ref u), some (.str t), some (.ref D), z5, z6, none] ∧ Urn H8 u ∧ Same H' H8 ∧ H8 D = some (.lst (ls'.map fun c => V.str (le c))), fun σ' H8 ⟨ls', z5, z6, l, e, uu, ss, hh⟩ => ⟨ls'.length, by omega, ls', z5, z6, rfl, by omega, e, uu, ss, hh⟩, ?_⟩
          refine ⟨.ref D, rfl, .inl ⟨rfl, _, .inl (.inl h7)⟩, _, rfl, _, rfl, D, _, rfl, .inl (.inl (.inl h7)), u, _, rfl, u7, ?_, ?_, fun v H8 v0 v1 u8 k8 => ?_⟩
          · rw [List.length_map]
            omega
          · rw [List.length_map, Int.natAbs_natCast]
            exact Nat.lt_of_le_of_lt (Nat.log2_le_self _) (by omega)
          rw [List.length_map] at v1
          obtain ⟨k, rfl⟩ : ∃ k : Nat, v = (k : Int) := ⟨v.toNat, by omega⟩
          have kl : k < ls.length := by omega
          have h8 := (k8 D Du).trans h7
          have s8 : Same H' H8 := fun b o e => (k8 b (ne_of_none e n1)).trans (s7 b o e)
          refine ⟨D, _, (k : Int), k, V.str (le ls[k]), rfl, rfl, h8, by omega, by omega, ?_, ?_, ?_⟩
          · rw [List.length_map]
            exact seqIndex_of (by omega) (by omega)
          · rw [List.getElem?_map, List.getElem?_eq_getElem kl]
            rfl
          have h9 : upd H8 D (.lst ((ls.map fun c => V.str (le c)).eraseIdx k)) D = some (.lst ((ls.eraseIdx k).map fun c => V.str (le c))) := by rw [upd_same, map_erase]
          have u9 : Urn (upd H8 D (.lst ((ls.map fun c => V.str (le c)).eraseIdx k))) u := by
            obtain ⟨g, m, c, e⟩ := u8
            exact ⟨g, m, c, (upd_ne (Ne.symm Du)).trans e⟩
          have s9 := offD (o := .lst ((ls.map fun c => V.str (le c)).eraseIdx k)) s8
          have l9 := len_erase' ls k kl
          revert h9 u9 s9
          generalize upd H8 D (.lst ((ls.map fun c => V.str (le c)).eraseIdx k)) = H9
          intro h9 u9 s9
          clear h8 s8 k8 u8 v0 v1 h7 u7 s7
          generalize ls[k] = c
          generalize ls.eraseIdx k = lr at h9 l9
          refine ⟨_, rfl, _, rfl, _, rfl, u, _, t, rfl, u9, pt, fun x H10 u10 o10 dr => ?_⟩
          obtain ⟨d, vd, sd⟩ := dr
          have h10 := o10 D _ Du h9
          have s10 := offu s9 o10
          have szM : (reprText (marks c)).length ≤ sizeLine := Nat.le_trans (marks_ok c) (by decide)
          have szT : (tupleText [reprText (marks c), tk c d]).length ≤ sizeLine := both_wide (marks_ok c) (tk_len c sd)
          refine ⟨_, rfl, _, rfl, _, rfl, c, t, x, rfl, fun H11 a1 b1 s11 e1 e2 => ?_⟩
          refine ⟨a1, b1, marks c, kx c x, tk c d, rfl, e1, e2, szM, alt_of K (vd.old u10 (.of_same s11)) sd c, szT, ?_⟩
          refine ⟨_, rfl, _, rfl, c, x, rfl, fun H12 a2 b2 s12 f1 f2 => ?_⟩
          refine ⟨a2, b2, marks c, kx c x, tk c d, rfl, f1, f2, szM, alt_of K (vd.old u10 (.of_same (s11.trans s12))) sd c, szT, ?_⟩
          refine ⟨rfl, _, rfl, ?_⟩
          rw [decide_eq_true (rfl : V.str (tupleText [reprText (marks c), tk c d]) = V.str (tupleText [reprText (marks c), tk c d]))]
          exact ⟨lr, _, _, l9, rfl, (u10.same s11).same s12, (s10.trans s11).trans s12, s12 _ _ (s11 _ _ h10)⟩
        · exact ⟨⟨_, _, _, _, _, _, rfl⟩, s6.trans (sub_same np) |> fun z => sm.trans z⟩
    · rintro σ H1 ⟨_, sm⟩
      exact q _
end
end K00

namespace K00
open PySem PySem.Spec PyProof.Rows L2 PySem.E6
theorem kit_self {K : PySem.W.Frag} (t : Value) : PySem.W.kitOne K t t = some true := by
  unfold PySem.W.kitOne
  rw [if_pos (beq_self_eq_true t)]
theorem all_of {l : PySem.W.OpenLaw} {w : World} {K : PySem.W.Frag} {h : Heap} {mg : Str → Option Value} {fa : Addr} (X : K.In h) (G : h.Ns mainGlobals mg) (hfa : mg "law" = some (.ref fa))
    {CS Ch Ct Cl Cm Cp Cs Co Ce Cn Cu Cy Cr Cd : Addr}
    {Fe Fn Fu Fy Fr Fd : Addr}
    (gaS : PySem.W.nsIn K mainGlobals "StairlotError" = some (some (.ref CS))) (kkS : PySem.W.keepIn K (.ref CS) = true) (gbS : PySem.W.subIn K (.ref CS) (.type "BaseException") = some true) (ttS : PySem.W.typeIn K (.ref CS) = some (.type "type")) (hgS : PySem.W.findIn K (.ref CS) "__getattribute__" = some (some (.builtin "BaseException.__getattribute__"))) (hkS : PySem.W.findIn K (.ref CS) "__getattr__" = some none) (hdS : PySem.W.hasDictIn K CS = true) (haS : PySem.W.findIn K (.ref CS) "__class__" = some (some (.builtin "object.__class__"))) (hmS : PySem.W.mroIn K CS (.type "object") = some true)
    (gah : PySem.W.nsIn K mainGlobals "InvalidShape" = some (some (.ref Ch))) (kkh : PySem.W.keepIn K (.ref Ch) = true) (gbh : PySem.W.subIn K (.ref Ch) (.type "BaseException") = some true) (tth : PySem.W.typeIn K (.ref Ch) = some (.type "type")) (hgh : PySem.W.findIn K (.ref Ch) "__getattribute__" = some (some (.builtin "BaseException.__getattribute__"))) (hkh : PySem.W.findIn K (.ref Ch) "__getattr__" = some none) (hdh : PySem.W.hasDictIn K Ch = true) (hah : PySem.W.findIn K (.ref Ch) "__class__" = some (some (.builtin "object.__class__"))) (hmh : PySem.W.mroIn K Ch (.type "object") = some true)
    (gat : PySem.W.nsIn K mainGlobals "InvalidStair" = some (some (.ref Ct))) (kkt : PySem.W.keepIn K (.ref Ct) = true) (gbt : PySem.W.subIn K (.ref Ct) (.type "BaseException") = some true) (ttt : PySem.W.typeIn K (.ref Ct) = some (.type "type")) (hgt : PySem.W.findIn K (.ref Ct) "__getattribute__" = some (some (.builtin "BaseException.__getattribute__"))) (hkt : PySem.W.findIn K (.ref Ct) "__getattr__" = some none) (hdt : PySem.W.hasDictIn K Ct = true) (hat : PySem.W.findIn K (.ref Ct) "__class__" = some (some (.builtin "object.__class__"))) (hmt : PySem.W.mroIn K Ct (.type "object") = some true)
    (gal : PySem.W.nsIn K mainGlobals "InvalidLot" = some (some (.ref Cl))) (kkl : PySem.W.keepIn K (.ref Cl) = true) (gbl : PySem.W.subIn K (.ref Cl) (.type "BaseException") = some true) (ttl : PySem.W.typeIn K (.ref Cl) = some (.type "type")) (hgl : PySem.W.findIn K (.ref Cl) "__getattribute__" = some (some (.builtin "BaseException.__getattribute__"))) (hkl : PySem.W.findIn K (.ref Cl) "__getattr__" = some none) (hdl : PySem.W.hasDictIn K Cl = true) (hal : PySem.W.findIn K (.ref Cl) "__class__" = some (some (.builtin "object.__class__"))) (hml : PySem.W.mroIn K Cl (.type "object") = some true)
    (gam : PySem.W.nsIn K mainGlobals "InvalidMap" = some (some (.ref Cm))) (kkm : PySem.W.keepIn K (.ref Cm) = true) (gbm : PySem.W.subIn K (.ref Cm) (.type "BaseException") = some true) (ttm : PySem.W.typeIn K (.ref Cm) = some (.type "type")) (hgm : PySem.W.findIn K (.ref Cm) "__getattribute__" = some (some (.builtin "BaseException.__getattribute__"))) (hkm : PySem.W.findIn K (.ref Cm) "__getattr__" = some none) (hdm : PySem.W.hasDictIn K Cm = true) (ham : PySem.W.findIn K (.ref Cm) "__class__" = some (some (.builtin "object.__class__"))) (hmm : PySem.W.mroIn K Cm (.type "object") = some true)
    (gap : PySem.W.nsIn K mainGlobals "InvalidPolynomial" = some (some (.ref Cp))) (kkp : PySem.W.keepIn K (.ref Cp) = true) (gbp : PySem.W.subIn K (.ref Cp) (.type "BaseException") = some true) (ttp : PySem.W.typeIn K (.ref Cp) = some (.type "type")) (hgp : PySem.W.findIn K (.ref Cp) "__getattribute__" = some (some (.builtin "BaseException.__getattribute__"))) (hkp : PySem.W.findIn K (.ref Cp) "__getattr__" = some none) (hdp : PySem.W.hasDictIn K Cp = true) (hap : PySem.W.findIn K (.ref Cp) "__class__" = some (some (.builtin "object.__class__"))) (hmp : PySem.W.mroIn K Cp (.type "object") = some true)
    (gas : PySem.W.nsIn K mainGlobals "InvalidSpan" = some (some (.ref Cs))) (kks : PySem.W.keepIn K (.ref Cs) = true) (gbs : PySem.W.subIn K (.ref Cs) (.type "BaseException") = some true) (tts : PySem.W.typeIn K (.ref Cs) = some (.type "type")) (hgs : PySem.W.findIn K (.ref Cs) "__getattribute__" = some (some (.builtin "BaseException.__getattribute__"))) (hks : PySem.W.findIn K (.ref Cs) "__getattr__" = some none) (hds : PySem.W.hasDictIn K Cs = true) (has : PySem.W.findIn K (.ref Cs) "__class__" = some (some (.builtin "object.__class__"))) (hms : PySem.W.mroIn K Cs (.type "object") = some true)
    (gao : PySem.W.nsIn K mainGlobals "InvalidOperation" = some (some (.ref Co))) (kko : PySem.W.keepIn K (.ref Co) = true) (gbo : PySem.W.subIn K (.ref Co) (.type "BaseException") = some true) (tto : PySem.W.typeIn K (.ref Co) = some (.type "type")) (hgo : PySem.W.findIn K (.ref Co) "__getattribute__" = some (some (.builtin "BaseException.__getattribute__"))) (hko : PySem.W.findIn K (.ref Co) "__getattr__" = some none) (hdo : PySem.W.hasDictIn K Co = true) (hao : PySem.W.findIn K (.ref Co) "__class__" = some (some (.builtin "object.__class__"))) (hmo : PySem.W.mroIn K Co (.type "object") = some true)
    (gae : PySem.W.nsIn K mainGlobals "ParseError" = some (some (.ref Ce))) (kke : PySem.W.keepIn K (.ref Ce) = true) (gbe : PySem.W.subIn K (.ref Ce) (.type "BaseException") = some true) (tte : PySem.W.typeIn K (.ref Ce) = some (.type "type")) (hge : PySem.W.findIn K (.ref Ce) "__getattribute__" = some (some (.builtin "BaseException.__getattribute__"))) (hke : PySem.W.findIn K (.ref Ce) "__getattr__" = some none) (hde : PySem.W.hasDictIn K Ce = true) (hae : PySem.W.findIn K (.ref Ce) "__class__" = some (some (.builtin "object.__class__"))) (hme : PySem.W.mroIn K Ce (.type "object") = some true)
    (gan : PySem.W.nsIn K mainGlobals "InvalidNumber" = some (some (.ref Cn))) (kkn : PySem.W.keepIn K (.ref Cn) = true) (gbn : PySem.W.subIn K (.ref Cn) (.type "BaseException") = some true) (ttn : PySem.W.typeIn K (.ref Cn) = some (.type "type")) (hgn : PySem.W.findIn K (.ref Cn) "__getattribute__" = some (some (.builtin "BaseException.__getattribute__"))) (hkn : PySem.W.findIn K (.ref Cn) "__getattr__" = some none) (hdn : PySem.W.hasDictIn K Cn = true) (han : PySem.W.findIn K (.ref Cn) "__class__" = some (some (.builtin "object.__class__"))) (hmn : PySem.W.mroIn K Cn (.type "object") = some true)
    (gau : PySem.W.nsIn K mainGlobals "UnknownName" = some (some (.ref Cu))) (kku : PySem.W.keepIn K (.ref Cu) = true) (gbu : PySem.W.subIn K (.ref Cu) (.type "BaseException") = some true) (ttu : PySem.W.typeIn K (.ref Cu) = some (.type "type")) (hgu : PySem.W.findIn K (.ref Cu) "__getattribute__" = some (some (.builtin "BaseException.__getattribute__"))) (hku : PySem.W.findIn K (.ref Cu) "__getattr__" = some none) (hdu : PySem.W.hasDictIn K Cu = true) (hau : PySem.W.findIn K (.ref Cu) "__class__" = some (some (.builtin "object.__class__"))) (hmu : PySem.W.mroIn K Cu (.type "object") = some true)
    (gay : PySem.W.nsIn K mainGlobals "TooMany" = some (some (.ref Cy))) (kky : PySem.W.keepIn K (.ref Cy) = true) (gby : PySem.W.subIn K (.ref Cy) (.type "BaseException") = some true) (tty : PySem.W.typeIn K (.ref Cy) = some (.type "type")) (hgy : PySem.W.findIn K (.ref Cy) "__getattribute__" = some (some (.builtin "BaseException.__getattribute__"))) (hky : PySem.W.findIn K (.ref Cy) "__getattr__" = some none) (hdy : PySem.W.hasDictIn K Cy = true) (hay : PySem.W.findIn K (.ref Cy) "__class__" = some (some (.builtin "object.__class__"))) (hmy : PySem.W.mroIn K Cy (.type "object") = some true)
    (gar : PySem.W.nsIn K mainGlobals "Refused" = some (some (.ref Cr))) (kkr : PySem.W.keepIn K (.ref Cr) = true) (gbr : PySem.W.subIn K (.ref Cr) (.type "BaseException") = some true) (ttr : PySem.W.typeIn K (.ref Cr) = some (.type "type")) (hgr : PySem.W.findIn K (.ref Cr) "__getattribute__" = some (some (.builtin "BaseException.__getattribute__"))) (hkr : PySem.W.findIn K (.ref Cr) "__getattr__" = some none) (hdr : PySem.W.hasDictIn K Cr = true) (har : PySem.W.findIn K (.ref Cr) "__class__" = some (some (.builtin "object.__class__"))) (hmr : PySem.W.mroIn K Cr (.type "object") = some true)
    (gad : PySem.W.nsIn K mainGlobals "NothingToUndo" = some (some (.ref Cd))) (kkd : PySem.W.keepIn K (.ref Cd) = true) (gbd : PySem.W.subIn K (.ref Cd) (.type "BaseException") = some true) (ttd : PySem.W.typeIn K (.ref Cd) = some (.type "type")) (hgd : PySem.W.findIn K (.ref Cd) "__getattribute__" = some (some (.builtin "BaseException.__getattribute__"))) (hkd : PySem.W.findIn K (.ref Cd) "__getattr__" = some none) (hdd : PySem.W.hasDictIn K Cd = true) (had : PySem.W.findIn K (.ref Cd) "__class__" = some (some (.builtin "object.__class__"))) (hmd : PySem.W.mroIn K Cd (.type "object") = some true)
    (gn : PySem.W.specialIn K (.builtin "object.__class__") "__get__" = some (some (.builtin "getset_descriptor.__get__"))) (gt : PySem.W.takesIn K (.builtin "object.__class__") = some true)
    (eeS : PySem.W.excIn K CS [.type "ValueError", .type "Exception", .type "BaseException", .type "object"] "ValueError.__new__" = true)
    (eeh : PySem.W.excIn K Ch [.type "ValueError", .type "Exception", .type "BaseException", .type "object"] "ValueError.__new__" = true)
    (eet : PySem.W.excIn K Ct [.type "ValueError", .type "Exception", .type "BaseException", .type "object"] "ValueError.__new__" = true)
    (eel : PySem.W.excIn K Cl [.type "ValueError", .type "Exception", .type "BaseException", .type "object"] "ValueError.__new__" = true)
    (eem : PySem.W.excIn K Cm [.type "ValueError", .type "Exception", .type "BaseException", .type "object"] "ValueError.__new__" = true)
    (eep : PySem.W.excIn K Cp [.type "ValueError", .type "Exception", .type "BaseException", .type "object"] "ValueError.__new__" = true)
    (ees : PySem.W.excIn K Cs [.type "ValueError", .type "Exception", .type "BaseException", .type "object"] "ValueError.__new__" = true)
    (eeo : PySem.W.excIn K Co [.type "ValueError", .type "Exception", .type "BaseException", .type "object"] "ValueError.__new__" = true)
    {nme qne : Str} {Ne : Addr} {bse sube : List Value} {sne : List Str} {abe : Bool} {cole : Option Bool} {dde : Option Addr} {m0e m1e m2e m3e m5e : Option Value} {ode ane : Option Addr} {sle : Array (Option Value)} {oce dce pme cde cte : Value}
    (xe : K.lookup Ce = some (excClassObj nme qne Ce Ne bse [.ref CS, .type "ValueError", .type "Exception", .type "BaseException", .type "object"] true sne sube abe cole dde m0e m1e m2e m3e m5e "ValueError.__new__"))
    (ove : PySem.W.excOver K Ce [.type "ValueError", .type "Exception", .type "BaseException", .type "object"] = true)
    (tke : PySem.W.takerIn K Ce "spot" = some none) (sae : PySem.W.findIn K (.ref Ce) "__setattr__" = some (some (.builtin "object.__setattr__"))) (iCe : PySem.W.findIn K (.ref Ce) "__init__" = some (some (.ref Fe))) (tCe : PySem.W.typeIn K (.ref Fe) = some (.type "function")) (nfe : PySem.W.findIn K (.ref Ce) "spot" = some none)
    (lxe : K.lookup Fe = some ⟨oce, ode, .func (PySem.W.fnOf "__init__" "ParseError.__init__" (eA .spot ⟨20, 17, 20, 21⟩ ⟨20, 23, 20, 27⟩) (eB .spot ⟨21, 8, 21, 12⟩ ⟨21, 8, 21, 17⟩ ⟨21, 20, 21, 24⟩ ⟨21, 8, 21, 24⟩) (eS .spot) .none .none dce pme ane cde cte), sle⟩) (cxe : PySem.W.codeIn K cde "ParseError.__init__" = true)
    {nmn qnn : Str} {Nn : Addr} {bsn subn : List Value} {snn : List Str} {abn : Bool} {coln : Option Bool} {ddn : Option Addr} {m0n m1n m2n m3n m5n : Option Value} {odn ann : Option Addr} {sln : Array (Option Value)} {ocn dcn pmn cdn ctn : Value}
    (xn : K.lookup Cn = some (excClassObj nmn qnn Cn Nn bsn [.type "IndexError", .type "LookupError", .type "Exception", .type "BaseException", .type "object"] true snn subn abn coln ddn m0n m1n m2n m3n m5n "IndexError.__new__"))
    (ovn : PySem.W.excOver K Cn [.type "IndexError", .type "LookupError", .type "Exception", .type "BaseException", .type "object"] = true)
    (tkn : PySem.W.takerIn K Cn "given" = some none) (san : PySem.W.findIn K (.ref Cn) "__setattr__" = some (some (.builtin "object.__setattr__"))) (iCn : PySem.W.findIn K (.ref Cn) "__init__" = some (some (.ref Fn))) (tCn : PySem.W.typeIn K (.ref Fn) = some (.type "function")) (nfn : PySem.W.findIn K (.ref Cn) "given" = some none)
    (lxn : K.lookup Fn = some ⟨ocn, odn, .func (PySem.W.fnOf "__init__" "InvalidNumber.__init__" (eA .given ⟨24, 17, 24, 21⟩ ⟨24, 23, 24, 28⟩) (eB .given ⟨25, 8, 25, 12⟩ ⟨25, 8, 25, 18⟩ ⟨25, 21, 25, 26⟩ ⟨25, 8, 25, 26⟩) (eS .given) .none .none dcn pmn ann cdn ctn), sln⟩) (cxn : PySem.W.codeIn K cdn "InvalidNumber.__init__" = true)
    {nmu qnu : Str} {Nu : Addr} {bsu subu : List Value} {snu : List Str} {abu : Bool} {colu : Option Bool} {ddu : Option Addr} {m0u m1u m2u m3u m5u : Option Value} {odu anu : Option Addr} {slu : Array (Option Value)} {ocu dcu pmu cdu ctu : Value}
    (xu : K.lookup Cu = some (excClassObj nmu qnu Cu Nu bsu [.type "KeyError", .type "LookupError", .type "Exception", .type "BaseException", .type "object"] true snu subu abu colu ddu m0u m1u m2u m3u m5u "LookupError.__new__"))
    (ovu : PySem.W.excOver K Cu [.type "KeyError", .type "LookupError", .type "Exception", .type "BaseException", .type "object"] = true)
    (tku : PySem.W.takerIn K Cu "wanted" = some none) (sau : PySem.W.findIn K (.ref Cu) "__setattr__" = some (some (.builtin "object.__setattr__"))) (iCu : PySem.W.findIn K (.ref Cu) "__init__" = some (some (.ref Fu))) (tCu : PySem.W.typeIn K (.ref Fu) = some (.type "function")) (nfu : PySem.W.findIn K (.ref Cu) "wanted" = some none)
    (lxu : K.lookup Fu = some ⟨ocu, odu, .func (PySem.W.fnOf "__init__" "UnknownName.__init__" (eA .wanted ⟨28, 17, 28, 21⟩ ⟨28, 23, 28, 29⟩) (eB .wanted ⟨29, 8, 29, 12⟩ ⟨29, 8, 29, 19⟩ ⟨29, 22, 29, 28⟩ ⟨29, 8, 29, 28⟩) (eS .wanted) .none .none dcu pmu anu cdu ctu), slu⟩) (cxu : PySem.W.codeIn K cdu "UnknownName.__init__" = true)
    {nmy qny : Str} {Ny : Addr} {bsy suby : List Value} {sny : List Str} {aby : Bool} {coly : Option Bool} {ddy : Option Addr} {m0y m1y m2y m3y m5y : Option Value} {ody any : Option Addr} {sly : Array (Option Value)} {ocy dcy pmy cdy cty : Value}
    (xy : K.lookup Cy = some (excClassObj nmy qny Cy Ny bsy [.type "OverflowError", .type "ArithmeticError", .type "Exception", .type "BaseException", .type "object"] true sny suby aby coly ddy m0y m1y m2y m3y m5y "OverflowError.__new__"))
    (ovy : PySem.W.excOver K Cy [.type "OverflowError", .type "ArithmeticError", .type "Exception", .type "BaseException", .type "object"] = true)
    (tky : PySem.W.takerIn K Cy "most" = some none) (say : PySem.W.findIn K (.ref Cy) "__setattr__" = some (some (.builtin "object.__setattr__"))) (iCy : PySem.W.findIn K (.ref Cy) "__init__" = some (some (.ref Fy))) (tCy : PySem.W.typeIn K (.ref Fy) = some (.type "function")) (nfy : PySem.W.findIn K (.ref Cy) "most" = some none)
    (lxy : K.lookup Fy = some ⟨ocy, ody, .func (PySem.W.fnOf "__init__" "TooMany.__init__" (eA .most ⟨32, 17, 32, 21⟩ ⟨32, 23, 32, 27⟩) (eB .most ⟨33, 8, 33, 12⟩ ⟨33, 8, 33, 17⟩ ⟨33, 20, 33, 24⟩ ⟨33, 8, 33, 24⟩) (eS .most) .none .none dcy pmy any cdy cty), sly⟩) (cxy : PySem.W.codeIn K cdy "TooMany.__init__" = true)
    {nmr qnr : Str} {Nr : Addr} {bsr subr : List Value} {snr : List Str} {abr : Bool} {colr : Option Bool} {ddr : Option Addr} {m0r m1r m2r m3r m5r : Option Value} {odr anr : Option Addr} {slr : Array (Option Value)} {ocr dcr pmr cdr ctr : Value}
    (xr : K.lookup Cr = some (excClassObj nmr qnr Cr Nr bsr [.type "ArithmeticError", .type "Exception", .type "BaseException", .type "object"] true snr subr abr colr ddr m0r m1r m2r m3r m5r "ArithmeticError.__new__"))
    (ovr : PySem.W.excOver K Cr [.type "ArithmeticError", .type "Exception", .type "BaseException", .type "object"] = true)
    (tkr : PySem.W.takerIn K Cr "reason" = some none) (sar : PySem.W.findIn K (.ref Cr) "__setattr__" = some (some (.builtin "object.__setattr__"))) (iCr : PySem.W.findIn K (.ref Cr) "__init__" = some (some (.ref Fr))) (tCr : PySem.W.typeIn K (.ref Fr) = some (.type "function")) (nfr : PySem.W.findIn K (.ref Cr) "reason" = some none)
    (lxr : K.lookup Fr = some ⟨ocr, odr, .func (PySem.W.fnOf "__init__" "Refused.__init__" (eA .reason ⟨36, 17, 36, 21⟩ ⟨36, 23, 36, 29⟩) (eB .reason ⟨37, 8, 37, 12⟩ ⟨37, 8, 37, 19⟩ ⟨37, 22, 37, 28⟩ ⟨37, 8, 37, 28⟩) (eS .reason) .none .none dcr pmr anr cdr ctr), slr⟩) (cxr : PySem.W.codeIn K cdr "Refused.__init__" = true)
    {nmd qnd : Str} {Nd : Addr} {bsd subd : List Value} {snd : List Str} {abd : Bool} {cold : Option Bool} {ddd : Option Addr} {m0d m1d m2d m3d m5d : Option Value} {odd and : Option Addr} {sld : Array (Option Value)} {ocd dcd pmd cdd ctd : Value}
    (xd : K.lookup Cd = some (excClassObj nmd qnd Cd Nd bsd [.type "LookupError", .type "Exception", .type "BaseException", .type "object"] true snd subd abd cold ddd m0d m1d m2d m3d m5d "LookupError.__new__"))
    (ovd : PySem.W.excOver K Cd [.type "LookupError", .type "Exception", .type "BaseException", .type "object"] = true)
    (tkd : PySem.W.takerIn K Cd "many" = some none) (sad : PySem.W.findIn K (.ref Cd) "__setattr__" = some (some (.builtin "object.__setattr__"))) (iCd : PySem.W.findIn K (.ref Cd) "__init__" = some (some (.ref Fd))) (tCd : PySem.W.typeIn K (.ref Fd) = some (.type "function")) (nfd : PySem.W.findIn K (.ref Cd) "many" = some none)
    (lxd : K.lookup Fd = some ⟨ocd, odd, .func (PySem.W.fnOf "__init__" "NothingToUndo.__init__" (eA .many ⟨40, 17, 40, 21⟩ ⟨40, 23, 40, 27⟩) (eB .many ⟨41, 8, 41, 12⟩ ⟨41, 8, 41, 17⟩ ⟨41, 20, 41, 24⟩ ⟨41, 8, 41, 24⟩) (eS .many) .none .none dcd pmd and cdd ctd), sld⟩) (cxd : PySem.W.codeIn K cdd "NothingToUndo.__init__" = true)
    (s_S : PySem.W.subIn K (.ref CS) (.ref CS) = some true)
    (s_h : PySem.W.subIn K (.ref Ch) (.ref CS) = some true)
    (s_t : PySem.W.subIn K (.ref Ct) (.ref CS) = some true)
    (s_l : PySem.W.subIn K (.ref Cl) (.ref CS) = some true)
    (s_m : PySem.W.subIn K (.ref Cm) (.ref CS) = some true)
    (s_p : PySem.W.subIn K (.ref Cp) (.ref CS) = some true)
    (s_s : PySem.W.subIn K (.ref Cs) (.ref CS) = some true)
    (s_o : PySem.W.subIn K (.ref Co) (.ref CS) = some true)
    (s_e : PySem.W.subIn K (.ref Ce) (.ref CS) = some true)
    (s_n : PySem.W.subIn K (.ref Cn) (.ref CS) = some false)
    (s_u : PySem.W.subIn K (.ref Cu) (.ref CS) = some false)
    (s_y : PySem.W.subIn K (.ref Cy) (.ref CS) = some false)
    (s_r : PySem.W.subIn K (.ref Cr) (.ref CS) = some false)
    (s_d : PySem.W.subIn K (.ref Cd) (.ref CS) = some false)
    (ssee : PySem.W.subIn K (.ref Ce) (.ref Ce) = some true)
    (ssen : PySem.W.subIn K (.ref Ce) (.ref Cn) = some false)
    (sseu : PySem.W.subIn K (.ref Ce) (.ref Cu) = some false)
    (ssey : PySem.W.subIn K (.ref Ce) (.ref Cy) = some false)
    (sser : PySem.W.subIn K (.ref Ce) (.ref Cr) = some false)
    (ssed : PySem.W.subIn K (.ref Ce) (.ref Cd) = some false)
    (ssne : PySem.W.subIn K (.ref Cn) (.ref Ce) = some false)
    (ssnn : PySem.W.subIn K (.ref Cn) (.ref Cn) = some true)
    (ssnu : PySem.W.subIn K (.ref Cn) (.ref Cu) = some false)
    (ssny : PySem.W.subIn K (.ref Cn) (.ref Cy) = some false)
    (ssnr : PySem.W.subIn K (.ref Cn) (.ref Cr) = some false)
    (ssnd : PySem.W.subIn K (.ref Cn) (.ref Cd) = some false)
    (ssue : PySem.W.subIn K (.ref Cu) (.ref Ce) = some false)
    (ssun : PySem.W.subIn K (.ref Cu) (.ref Cn) = some false)
    (ssuu : PySem.W.subIn K (.ref Cu) (.ref Cu) = some true)
    (ssuy : PySem.W.subIn K (.ref Cu) (.ref Cy) = some false)
    (ssur : PySem.W.subIn K (.ref Cu) (.ref Cr) = some false)
    (ssud : PySem.W.subIn K (.ref Cu) (.ref Cd) = some false)
    (ssye : PySem.W.subIn K (.ref Cy) (.ref Ce) = some false)
    (ssyn : PySem.W.subIn K (.ref Cy) (.ref Cn) = some false)
    (ssyu : PySem.W.subIn K (.ref Cy) (.ref Cu) = some false)
    (ssyy : PySem.W.subIn K (.ref Cy) (.ref Cy) = some true)
    (ssyr : PySem.W.subIn K (.ref Cy) (.ref Cr) = some false)
    (ssyd : PySem.W.subIn K (.ref Cy) (.ref Cd) = some false)
    (ssre : PySem.W.subIn K (.ref Cr) (.ref Ce) = some false)
    (ssrn : PySem.W.subIn K (.ref Cr) (.ref Cn) = some false)
    (ssru : PySem.W.subIn K (.ref Cr) (.ref Cu) = some false)
    (ssry : PySem.W.subIn K (.ref Cr) (.ref Cy) = some false)
    (ssrr : PySem.W.subIn K (.ref Cr) (.ref Cr) = some true)
    (ssrd : PySem.W.subIn K (.ref Cr) (.ref Cd) = some false)
    (ssde : PySem.W.subIn K (.ref Cd) (.ref Ce) = some false)
    (ssdn : PySem.W.subIn K (.ref Cd) (.ref Cn) = some false)
    (ssdu : PySem.W.subIn K (.ref Cd) (.ref Cu) = some false)
    (ssdy : PySem.W.subIn K (.ref Cd) (.ref Cy) = some false)
    (ssdr : PySem.W.subIn K (.ref Cd) (.ref Cr) = some false)
    (ssdd : PySem.W.subIn K (.ref Cd) (.ref Cd) = some true)
    (oSh : PySem.W.kitOne K (.ref CS) (.ref Ch) = some false)
    (oSt : PySem.W.kitOne K (.ref CS) (.ref Ct) = some false)
    (oSl : PySem.W.kitOne K (.ref CS) (.ref Cl) = some false)
    (oSm : PySem.W.kitOne K (.ref CS) (.ref Cm) = some false)
    (oSp : PySem.W.kitOne K (.ref CS) (.ref Cp) = some false)
    (oSs : PySem.W.kitOne K (.ref CS) (.ref Cs) = some false)
    (oSo : PySem.W.kitOne K (.ref CS) (.ref Co) = some false)
    (oSe : PySem.W.kitOne K (.ref CS) (.ref Ce) = some false)
    (oSn : PySem.W.kitOne K (.ref CS) (.ref Cn) = some false)
    (oSu : PySem.W.kitOne K (.ref CS) (.ref Cu) = some false)
    (oSy : PySem.W.kitOne K (.ref CS) (.ref Cy) = some false)
    (oSr : PySem.W.kitOne K (.ref CS) (.ref Cr) = some false)
    (oSd : PySem.W.kitOne K (.ref CS) (.ref Cd) = some false)
    (ohS : PySem.W.kitOne K (.ref Ch) (.ref CS) = some true)
    (oht : PySem.W.kitOne K (.ref Ch) (.ref Ct) = some false)
    (ohl : PySem.W.kitOne K (.ref Ch) (.ref Cl) = some false)
    (ohm : PySem.W.kitOne K (.ref Ch) (.ref Cm) = some false)
    (ohp : PySem.W.kitOne K (.ref Ch) (.ref Cp) = some false)
    (ohs : PySem.W.kitOne K (.ref Ch) (.ref Cs) = some false)
    (oho : PySem.W.kitOne K (.ref Ch) (.ref Co) = some false)
    (ohe : PySem.W.kitOne K (.ref Ch) (.ref Ce) = some false)
    (ohn : PySem.W.kitOne K (.ref Ch) (.ref Cn) = some false)
    (ohu : PySem.W.kitOne K (.ref Ch) (.ref Cu) = some false)
    (ohy : PySem.W.kitOne K (.ref Ch) (.ref Cy) = some false)
    (ohr : PySem.W.kitOne K (.ref Ch) (.ref Cr) = some false)
    (ohd : PySem.W.kitOne K (.ref Ch) (.ref Cd) = some false)
    (otS : PySem.W.kitOne K (.ref Ct) (.ref CS) = some true)
    (oth : PySem.W.kitOne K (.ref Ct) (.ref Ch) = some false)
    (otl : PySem.W.kitOne K (.ref Ct) (.ref Cl) = some false)
    (otm : PySem.W.kitOne K (.ref Ct) (.ref Cm) = some false)
    (otp : PySem.W.kitOne K (.ref Ct) (.ref Cp) = some false)
    (ots : PySem.W.kitOne K (.ref Ct) (.ref Cs) = some false)
    (oto : PySem.W.kitOne K (.ref Ct) (.ref Co) = some false)
    (ote : PySem.W.kitOne K (.ref Ct) (.ref Ce) = some false)
    (otn : PySem.W.kitOne K (.ref Ct) (.ref Cn) = some false)
    (otu : PySem.W.kitOne K (.ref Ct) (.ref Cu) = some false)
    (oty : PySem.W.kitOne K (.ref Ct) (.ref Cy) = some false)
    (otr : PySem.W.kitOne K (.ref Ct) (.ref Cr) = some false)
    (otd : PySem.W.kitOne K (.ref Ct) (.ref Cd) = some false)
    (olS : PySem.W.kitOne K (.ref Cl) (.ref CS) = some true)
    (olh : PySem.W.kitOne K (.ref Cl) (.ref Ch) = some false)
    (olt : PySem.W.kitOne K (.ref Cl) (.ref Ct) = some false)
    (olm : PySem.W.kitOne K (.ref Cl) (.ref Cm) = some false)
    (olp : PySem.W.kitOne K (.ref Cl) (.ref Cp) = some false)
    (ols : PySem.W.kitOne K (.ref Cl) (.ref Cs) = some false)
    (olo : PySem.W.kitOne K (.ref Cl) (.ref Co) = some false)
    (ole : PySem.W.kitOne K (.ref Cl) (.ref Ce) = some false)
    (oln : PySem.W.kitOne K (.ref Cl) (.ref Cn) = some false)
    (olu : PySem.W.kitOne K (.ref Cl) (.ref Cu) = some false)
    (oly : PySem.W.kitOne K (.ref Cl) (.ref Cy) = some false)
    (olr : PySem.W.kitOne K (.ref Cl) (.ref Cr) = some false)
    (old : PySem.W.kitOne K (.ref Cl) (.ref Cd) = some false)
    (omS : PySem.W.kitOne K (.ref Cm) (.ref CS) = some true)
    (omh : PySem.W.kitOne K (.ref Cm) (.ref Ch) = some false)
    (omt : PySem.W.kitOne K (.ref Cm) (.ref Ct) = some false)
    (oml : PySem.W.kitOne K (.ref Cm) (.ref Cl) = some false)
    (omp : PySem.W.kitOne K (.ref Cm) (.ref Cp) = some false)
    (oms : PySem.W.kitOne K (.ref Cm) (.ref Cs) = some false)
    (omo : PySem.W.kitOne K (.ref Cm) (.ref Co) = some false)
    (ome : PySem.W.kitOne K (.ref Cm) (.ref Ce) = some false)
    (omn : PySem.W.kitOne K (.ref Cm) (.ref Cn) = some false)
    (omu : PySem.W.kitOne K (.ref Cm) (.ref Cu) = some false)
    (omy : PySem.W.kitOne K (.ref Cm) (.ref Cy) = some false)
    (omr : PySem.W.kitOne K (.ref Cm) (.ref Cr) = some false)
    (omd : PySem.W.kitOne K (.ref Cm) (.ref Cd) = some false)
    (opS : PySem.W.kitOne K (.ref Cp) (.ref CS) = some true)
    (oph : PySem.W.kitOne K (.ref Cp) (.ref Ch) = some false)
    (opt : PySem.W.kitOne K (.ref Cp) (.ref Ct) = some false)
    (opl : PySem.W.kitOne K (.ref Cp) (.ref Cl) = some false)
    (opm : PySem.W.kitOne K (.ref Cp) (.ref Cm) = some false)
    (ops : PySem.W.kitOne K (.ref Cp) (.ref Cs) = some false)
    (opo : PySem.W.kitOne K (.ref Cp) (.ref Co) = some false)
    (ope : PySem.W.kitOne K (.ref Cp) (.ref Ce) = some false)
    (opn : PySem.W.kitOne K (.ref Cp) (.ref Cn) = some false)
    (opu : PySem.W.kitOne K (.ref Cp) (.ref Cu) = some false)
    (opy : PySem.W.kitOne K (.ref Cp) (.ref Cy) = some false)
    (opr : PySem.W.kitOne K (.ref Cp) (.ref Cr) = some false)
    (opd : PySem.W.kitOne K (.ref Cp) (.ref Cd) = some false)
    (osS : PySem.W.kitOne K (.ref Cs) (.ref CS) = some true)
    (osh : PySem.W.kitOne K (.ref Cs) (.ref Ch) = some false)
    (ost : PySem.W.kitOne K (.ref Cs) (.ref Ct) = some false)
    (osl : PySem.W.kitOne K (.ref Cs) (.ref Cl) = some false)
    (osm : PySem.W.kitOne K (.ref Cs) (.ref Cm) = some false)
    (osp : PySem.W.kitOne K (.ref Cs) (.ref Cp) = some false)
    (oso : PySem.W.kitOne K (.ref Cs) (.ref Co) = some false)
    (ose : PySem.W.kitOne K (.ref Cs) (.ref Ce) = some false)
    (osn : PySem.W.kitOne K (.ref Cs) (.ref Cn) = some false)
    (osu : PySem.W.kitOne K (.ref Cs) (.ref Cu) = some false)
    (osy : PySem.W.kitOne K (.ref Cs) (.ref Cy) = some false)
    (osr : PySem.W.kitOne K (.ref Cs) (.ref Cr) = some false)
    (osd : PySem.W.kitOne K (.ref Cs) (.ref Cd) = some false)
    (ooS : PySem.W.kitOne K (.ref Co) (.ref CS) = some true)
    (ooh : PySem.W.kitOne K (.ref Co) (.ref Ch) = some false)
    (oot : PySem.W.kitOne K (.ref Co) (.ref Ct) = some false)
    (ool : PySem.W.kitOne K (.ref Co) (.ref Cl) = some false)
    (oom : PySem.W.kitOne K (.ref Co) (.ref Cm) = some false)
    (oop : PySem.W.kitOne K (.ref Co) (.ref Cp) = some false)
    (oos : PySem.W.kitOne K (.ref Co) (.ref Cs) = some false)
    (ooe : PySem.W.kitOne K (.ref Co) (.ref Ce) = some false)
    (oon : PySem.W.kitOne K (.ref Co) (.ref Cn) = some false)
    (oou : PySem.W.kitOne K (.ref Co) (.ref Cu) = some false)
    (ooy : PySem.W.kitOne K (.ref Co) (.ref Cy) = some false)
    (oor : PySem.W.kitOne K (.ref Co) (.ref Cr) = some false)
    (ood : PySem.W.kitOne K (.ref Co) (.ref Cd) = some false)
    (oeS : PySem.W.kitOne K (.ref Ce) (.ref CS) = some true)
    (oeh : PySem.W.kitOne K (.ref Ce) (.ref Ch) = some false)
    (oet : PySem.W.kitOne K (.ref Ce) (.ref Ct) = some false)
    (oel : PySem.W.kitOne K (.ref Ce) (.ref Cl) = some false)
    (oem : PySem.W.kitOne K (.ref Ce) (.ref Cm) = some false)
    (oep : PySem.W.kitOne K (.ref Ce) (.ref Cp) = some false)
    (oes : PySem.W.kitOne K (.ref Ce) (.ref Cs) = some false)
    (oeo : PySem.W.kitOne K (.ref Ce) (.ref Co) = some false)
    (oen : PySem.W.kitOne K (.ref Ce) (.ref Cn) = some false)
    (oeu : PySem.W.kitOne K (.ref Ce) (.ref Cu) = some false)
    (oey : PySem.W.kitOne K (.ref Ce) (.ref Cy) = some false)
    (oer : PySem.W.kitOne K (.ref Ce) (.ref Cr) = some false)
    (oed : PySem.W.kitOne K (.ref Ce) (.ref Cd) = some false)
    (onS : PySem.W.kitOne K (.ref Cn) (.ref CS) = some false)
    (onh : PySem.W.kitOne K (.ref Cn) (.ref Ch) = some false)
    (ont : PySem.W.kitOne K (.ref Cn) (.ref Ct) = some false)
    (onl : PySem.W.kitOne K (.ref Cn) (.ref Cl) = some false)
    (onm : PySem.W.kitOne K (.ref Cn) (.ref Cm) = some false)
    (onp : PySem.W.kitOne K (.ref Cn) (.ref Cp) = some false)
    (ons : PySem.W.kitOne K (.ref Cn) (.ref Cs) = some false)
    (ono : PySem.W.kitOne K (.ref Cn) (.ref Co) = some false)
    (one : PySem.W.kitOne K (.ref Cn) (.ref Ce) = some false)
    (onu : PySem.W.kitOne K (.ref Cn) (.ref Cu) = some false)
    (ony : PySem.W.kitOne K (.ref Cn) (.ref Cy) = some false)
    (onr : PySem.W.kitOne K (.ref Cn) (.ref Cr) = some false)
    (ond : PySem.W.kitOne K (.ref Cn) (.ref Cd) = some false)
    (ouS : PySem.W.kitOne K (.ref Cu) (.ref CS) = some false)
    (ouh : PySem.W.kitOne K (.ref Cu) (.ref Ch) = some false)
    (out : PySem.W.kitOne K (.ref Cu) (.ref Ct) = some false)
    (oul : PySem.W.kitOne K (.ref Cu) (.ref Cl) = some false)
    (oum : PySem.W.kitOne K (.ref Cu) (.ref Cm) = some false)
    (oup : PySem.W.kitOne K (.ref Cu) (.ref Cp) = some false)
    (ous : PySem.W.kitOne K (.ref Cu) (.ref Cs) = some false)
    (ouo : PySem.W.kitOne K (.ref Cu) (.ref Co) = some false)
    (oue : PySem.W.kitOne K (.ref Cu) (.ref Ce) = some false)
    (oun : PySem.W.kitOne K (.ref Cu) (.ref Cn) = some false)
    (ouy : PySem.W.kitOne K (.ref Cu) (.ref Cy) = some false)
    (our : PySem.W.kitOne K (.ref Cu) (.ref Cr) = some false)
    (oud : PySem.W.kitOne K (.ref Cu) (.ref Cd) = some false)
    (oyS : PySem.W.kitOne K (.ref Cy) (.ref CS) = some false)
    (oyh : PySem.W.kitOne K (.ref Cy) (.ref Ch) = some false)
    (oyt : PySem.W.kitOne K (.ref Cy) (.ref Ct) = some false)
    (oyl : PySem.W.kitOne K (.ref Cy) (.ref Cl) = some false)
    (oym : PySem.W.kitOne K (.ref Cy) (.ref Cm) = some false)
    (oyp : PySem.W.kitOne K (.ref Cy) (.ref Cp) = some false)
    (oys : PySem.W.kitOne K (.ref Cy) (.ref Cs) = some false)
    (oyo : PySem.W.kitOne K (.ref Cy) (.ref Co) = some false)
    (oye : PySem.W.kitOne K (.ref Cy) (.ref Ce) = some false)
    (oyn : PySem.W.kitOne K (.ref Cy) (.ref Cn) = some false)
    (oyu : PySem.W.kitOne K (.ref Cy) (.ref Cu) = some false)
    (oyr : PySem.W.kitOne K (.ref Cy) (.ref Cr) = some false)
    (oyd : PySem.W.kitOne K (.ref Cy) (.ref Cd) = some false)
    (orS : PySem.W.kitOne K (.ref Cr) (.ref CS) = some false)
    (orh : PySem.W.kitOne K (.ref Cr) (.ref Ch) = some false)
    (ort : PySem.W.kitOne K (.ref Cr) (.ref Ct) = some false)
    (orl : PySem.W.kitOne K (.ref Cr) (.ref Cl) = some false)
    (orm : PySem.W.kitOne K (.ref Cr) (.ref Cm) = some false)
    (orp : PySem.W.kitOne K (.ref Cr) (.ref Cp) = some false)
    (ors : PySem.W.kitOne K (.ref Cr) (.ref Cs) = some false)
    (oro : PySem.W.kitOne K (.ref Cr) (.ref Co) = some false)
    (ore : PySem.W.kitOne K (.ref Cr) (.ref Ce) = some false)
    (orn : PySem.W.kitOne K (.ref Cr) (.ref Cn) = some false)
    (oru : PySem.W.kitOne K (.ref Cr) (.ref Cu) = some false)
    (ory : PySem.W.kitOne K (.ref Cr) (.ref Cy) = some false)
    (ord : PySem.W.kitOne K (.ref Cr) (.ref Cd) = some false)
    (odS : PySem.W.kitOne K (.ref Cd) (.ref CS) = some false)
    (odh : PySem.W.kitOne K (.ref Cd) (.ref Ch) = some false)
    (odt : PySem.W.kitOne K (.ref Cd) (.ref Ct) = some false)
    (odl : PySem.W.kitOne K (.ref Cd) (.ref Cl) = some false)
    (odm : PySem.W.kitOne K (.ref Cd) (.ref Cm) = some false)
    (odp : PySem.W.kitOne K (.ref Cd) (.ref Cp) = some false)
    (ods : PySem.W.kitOne K (.ref Cd) (.ref Cs) = some false)
    (odo : PySem.W.kitOne K (.ref Cd) (.ref Co) = some false)
    (ode : PySem.W.kitOne K (.ref Cd) (.ref Ce) = some false)
    (odn : PySem.W.kitOne K (.ref Cd) (.ref Cn) = some false)
    (odu : PySem.W.kitOne K (.ref Cd) (.ref Cu) = some false)
    (ody : PySem.W.kitOne K (.ref Cd) (.ref Cy) = some false)
    (odr : PySem.W.kitOne K (.ref Cd) (.ref Cr) = some false)
    (iSV : PySem.W.kitOne K (.ref CS) (.type "ValueError") = some true)
    (iSI : PySem.W.kitOne K (.ref CS) (.type "IndexError") = some false)
    (iSK : PySem.W.kitOne K (.ref CS) (.type "KeyError") = some false)
    (iSL : PySem.W.kitOne K (.ref CS) (.type "LookupError") = some false)
    (iSO : PySem.W.kitOne K (.ref CS) (.type "OverflowError") = some false)
    (iSA : PySem.W.kitOne K (.ref CS) (.type "ArithmeticError") = some false)
    (ihV : PySem.W.kitOne K (.ref Ch) (.type "ValueError") = some true)
    (ihI : PySem.W.kitOne K (.ref Ch) (.type "IndexError") = some false)
    (ihK : PySem.W.kitOne K (.ref Ch) (.type "KeyError") = some false)
    (ihL : PySem.W.kitOne K (.ref Ch) (.type "LookupError") = some false)
    (ihO : PySem.W.kitOne K (.ref Ch) (.type "OverflowError") = some false)
    (ihA : PySem.W.kitOne K (.ref Ch) (.type "ArithmeticError") = some false)
    (itV : PySem.W.kitOne K (.ref Ct) (.type "ValueError") = some true)
    (itI : PySem.W.kitOne K (.ref Ct) (.type "IndexError") = some false)
    (itK : PySem.W.kitOne K (.ref Ct) (.type "KeyError") = some false)
    (itL : PySem.W.kitOne K (.ref Ct) (.type "LookupError") = some false)
    (itO : PySem.W.kitOne K (.ref Ct) (.type "OverflowError") = some false)
    (itA : PySem.W.kitOne K (.ref Ct) (.type "ArithmeticError") = some false)
    (ilV : PySem.W.kitOne K (.ref Cl) (.type "ValueError") = some true)
    (ilI : PySem.W.kitOne K (.ref Cl) (.type "IndexError") = some false)
    (ilK : PySem.W.kitOne K (.ref Cl) (.type "KeyError") = some false)
    (ilL : PySem.W.kitOne K (.ref Cl) (.type "LookupError") = some false)
    (ilO : PySem.W.kitOne K (.ref Cl) (.type "OverflowError") = some false)
    (ilA : PySem.W.kitOne K (.ref Cl) (.type "ArithmeticError") = some false)
    (imV : PySem.W.kitOne K (.ref Cm) (.type "ValueError") = some true)
    (imI : PySem.W.kitOne K (.ref Cm) (.type "IndexError") = some false)
    (imK : PySem.W.kitOne K (.ref Cm) (.type "KeyError") = some false)
    (imL : PySem.W.kitOne K (.ref Cm) (.type "LookupError") = some false)
    (imO : PySem.W.kitOne K (.ref Cm) (.type "OverflowError") = some false)
    (imA : PySem.W.kitOne K (.ref Cm) (.type "ArithmeticError") = some false)
    (ipV : PySem.W.kitOne K (.ref Cp) (.type "ValueError") = some true)
    (ipI : PySem.W.kitOne K (.ref Cp) (.type "IndexError") = some false)
    (ipK : PySem.W.kitOne K (.ref Cp) (.type "KeyError") = some false)
    (ipL : PySem.W.kitOne K (.ref Cp) (.type "LookupError") = some false)
    (ipO : PySem.W.kitOne K (.ref Cp) (.type "OverflowError") = some false)
    (ipA : PySem.W.kitOne K (.ref Cp) (.type "ArithmeticError") = some false)
    (isV : PySem.W.kitOne K (.ref Cs) (.type "ValueError") = some true)
    (isI : PySem.W.kitOne K (.ref Cs) (.type "IndexError") = some false)
    (isK : PySem.W.kitOne K (.ref Cs) (.type "KeyError") = some false)
    (isL : PySem.W.kitOne K (.ref Cs) (.type "LookupError") = some false)
    (isO : PySem.W.kitOne K (.ref Cs) (.type "OverflowError") = some false)
    (isA : PySem.W.kitOne K (.ref Cs) (.type "ArithmeticError") = some false)
    (ioV : PySem.W.kitOne K (.ref Co) (.type "ValueError") = some true)
    (ioI : PySem.W.kitOne K (.ref Co) (.type "IndexError") = some false)
    (ioK : PySem.W.kitOne K (.ref Co) (.type "KeyError") = some false)
    (ioL : PySem.W.kitOne K (.ref Co) (.type "LookupError") = some false)
    (ioO : PySem.W.kitOne K (.ref Co) (.type "OverflowError") = some false)
    (ioA : PySem.W.kitOne K (.ref Co) (.type "ArithmeticError") = some false)
    (ieV : PySem.W.kitOne K (.ref Ce) (.type "ValueError") = some true)
    (ieI : PySem.W.kitOne K (.ref Ce) (.type "IndexError") = some false)
    (ieK : PySem.W.kitOne K (.ref Ce) (.type "KeyError") = some false)
    (ieL : PySem.W.kitOne K (.ref Ce) (.type "LookupError") = some false)
    (ieO : PySem.W.kitOne K (.ref Ce) (.type "OverflowError") = some false)
    (ieA : PySem.W.kitOne K (.ref Ce) (.type "ArithmeticError") = some false)
    (inV : PySem.W.kitOne K (.ref Cn) (.type "ValueError") = some false)
    (inI : PySem.W.kitOne K (.ref Cn) (.type "IndexError") = some true)
    (inK : PySem.W.kitOne K (.ref Cn) (.type "KeyError") = some false)
    (inL : PySem.W.kitOne K (.ref Cn) (.type "LookupError") = some true)
    (inO : PySem.W.kitOne K (.ref Cn) (.type "OverflowError") = some false)
    (inA : PySem.W.kitOne K (.ref Cn) (.type "ArithmeticError") = some false)
    (iuV : PySem.W.kitOne K (.ref Cu) (.type "ValueError") = some false)
    (iuI : PySem.W.kitOne K (.ref Cu) (.type "IndexError") = some false)
    (iuK : PySem.W.kitOne K (.ref Cu) (.type "KeyError") = some true)
    (iuL : PySem.W.kitOne K (.ref Cu) (.type "LookupError") = some true)
    (iuO : PySem.W.kitOne K (.ref Cu) (.type "OverflowError") = some false)
    (iuA : PySem.W.kitOne K (.ref Cu) (.type "ArithmeticError") = some false)
    (iyV : PySem.W.kitOne K (.ref Cy) (.type "ValueError") = some false)
    (iyI : PySem.W.kitOne K (.ref Cy) (.type "IndexError") = some false)
    (iyK : PySem.W.kitOne K (.ref Cy) (.type "KeyError") = some false)
    (iyL : PySem.W.kitOne K (.ref Cy) (.type "LookupError") = some false)
    (iyO : PySem.W.kitOne K (.ref Cy) (.type "OverflowError") = some true)
    (iyA : PySem.W.kitOne K (.ref Cy) (.type "ArithmeticError") = some true)
    (irV : PySem.W.kitOne K (.ref Cr) (.type "ValueError") = some false)
    (irI : PySem.W.kitOne K (.ref Cr) (.type "IndexError") = some false)
    (irK : PySem.W.kitOne K (.ref Cr) (.type "KeyError") = some false)
    (irL : PySem.W.kitOne K (.ref Cr) (.type "LookupError") = some false)
    (irO : PySem.W.kitOne K (.ref Cr) (.type "OverflowError") = some false)
    (irA : PySem.W.kitOne K (.ref Cr) (.type "ArithmeticError") = some true)
    (idV : PySem.W.kitOne K (.ref Cd) (.type "ValueError") = some false)
    (idI : PySem.W.kitOne K (.ref Cd) (.type "IndexError") = some false)
    (idK : PySem.W.kitOne K (.ref Cd) (.type "KeyError") = some false)
    (idL : PySem.W.kitOne K (.ref Cd) (.type "LookupError") = some true)
    (idO : PySem.W.kitOne K (.ref Cd) (.type "OverflowError") = some false)
    (idA : PySem.W.kitOne K (.ref Cd) (.type "ArithmeticError") = some false)
    (n_ValueError : PySem.W.nsIn K mainGlobals "ValueError" = some none)
    (n_IndexError : PySem.W.nsIn K mainGlobals "IndexError" = some none)
    (n_KeyError : PySem.W.nsIn K mainGlobals "KeyError" = some none)
    (n_LookupError : PySem.W.nsIn K mainGlobals "LookupError" = some none)
    (n_OverflowError : PySem.W.nsIn K mainGlobals "OverflowError" = some none)
    (n_ArithmeticError : PySem.W.nsIn K mainGlobals "ArithmeticError" = some none)
    (n_len : PySem.W.nsIn K mainGlobals "len" = some none)
    (n_abs : PySem.W.nsIn K mainGlobals "abs" = some none)
    (n_int : PySem.W.nsIn K mainGlobals "int" = some none)
    (n_bool : PySem.W.nsIn K mainGlobals "bool" = some none)
    (n_max : PySem.W.nsIn K mainGlobals "max" = some none)
    (n_min : PySem.W.nsIn K mainGlobals "min" = some none)
    (n_sum : PySem.W.nsIn K mainGlobals "sum" = some none)
    (n_tuple : PySem.W.nsIn K mainGlobals "tuple" = some none)
    (n_range : PySem.W.nsIn K mainGlobals "range" = some none)
    (n_repr : PySem.W.nsIn K mainGlobals "repr" = some none)
    (n_isinstance : PySem.W.nsIn K mainGlobals "isinstance" = some none)
    (n_reversed : PySem.W.nsIn K mainGlobals "reversed" = some none)
    (n_list : PySem.W.nsIn K mainGlobals "list" = some none)
    {f0 : Addr} {od0 an0 : Option Addr} {sl0 : Array (Option Value)} {oc0 kV0 dc0 pm0 cd0 ct0 : Value} (a0 : PySem.W.nsIn K mainGlobals "_law_urn" = some (some (.ref f0))) (l0 : K.lookup f0 = some ⟨oc0, od0, .func (PySem.W.fnOf "_law_urn" "_law_urn" (defArgs s_law_urn) (defBody s_law_urn) (defScope s_law_urn) .none kV0 dc0 pm0 an0 cd0 ct0), sl0⟩) (c0 : PySem.W.codeIn K cd0 "_law_urn" = true) (k0 : PySem.W.keepIn K (.ref f0) = true)
    {f1 : Addr} {od1 an1 : Option Addr} {sl1 : Array (Option Value)} {oc1 kV1 dc1 pm1 cd1 ct1 : Value} (a1 : PySem.W.nsIn K mainGlobals "_law_take" = some (some (.ref f1))) (l1 : K.lookup f1 = some ⟨oc1, od1, .func (PySem.W.fnOf "_law_take" "_law_take" (defArgs s_law_take) (defBody s_law_take) (defScope s_law_take) .none kV1 dc1 pm1 an1 cd1 ct1), sl1⟩) (c1 : PySem.W.codeIn K cd1 "_law_take" = true) (k1 : PySem.W.keepIn K (.ref f1) = true)
    {f2 : Addr} {od2 an2 : Option Addr} {sl2 : Array (Option Value)} {oc2 kV2 dc2 pm2 cd2 ct2 : Value} (a2 : PySem.W.nsIn K mainGlobals "_law_some" = some (some (.ref f2))) (l2 : K.lookup f2 = some ⟨oc2, od2, .func (PySem.W.fnOf "_law_some" "_law_some" (defArgs s_law_some) (defBody s_law_some) (defScope s_law_some) .none kV2 dc2 pm2 an2 cd2 ct2), sl2⟩) (c2 : PySem.W.codeIn K cd2 "_law_some" = true) (k2 : PySem.W.keepIn K (.ref f2) = true)
    {f3 : Addr} {od3 an3 : Option Addr} {sl3 : Array (Option Value)} {oc3 kV3 dc3 pm3 cd3 ct3 : Value} (a3 : PySem.W.nsIn K mainGlobals "_law_throw" = some (some (.ref f3))) (l3 : K.lookup f3 = some ⟨oc3, od3, .func (PySem.W.fnOf "_law_throw" "_law_throw" (defArgs s_throw) (defBody s_throw) (defScope s_throw) .none kV3 dc3 pm3 an3 cd3 ct3), sl3⟩) (c3 : PySem.W.codeIn K cd3 "_law_throw" = true) (k3 : PySem.W.keepIn K (.ref f3) = true)
    {f4 : Addr} {od4 an4 : Option Addr} {sl4 : Array (Option Value)} {oc4 kV4 dc4 pm4 cd4 ct4 : Value} (a4 : PySem.W.nsIn K mainGlobals "_law_marks" = some (some (.ref f4))) (l4 : K.lookup f4 = some ⟨oc4, od4, .func (PySem.W.fnOf "_law_marks" "_law_marks" (defArgs s_marks) (defBody s_marks) (defScope s_marks) .none kV4 dc4 pm4 an4 cd4 ct4), sl4⟩) (c4 : PySem.W.codeIn K cd4 "_law_marks" = true) (k4 : PySem.W.keepIn K (.ref f4) = true)
    {f5 : Addr} {od5 an5 : Option Addr} {sl5 : Array (Option Value)} {oc5 kV5 dc5 pm5 cd5 ct5 : Value} (a5 : PySem.W.nsIn K mainGlobals "_law_kept" = some (some (.ref f5))) (l5 : K.lookup f5 = some ⟨oc5, od5, .func (PySem.W.fnOf "_law_kept" "_law_kept" (defArgs s_kept) (defBody s_kept) (defScope s_kept) .none kV5 dc5 pm5 an5 cd5 ct5), sl5⟩) (c5 : PySem.W.codeIn K cd5 "_law_kept" = true) (k5 : PySem.W.keepIn K (.ref f5) = true)
    {f6 : Addr} {od6 an6 : Option Addr} {sl6 : Array (Option Value)} {oc6 kV6 dc6 pm6 cd6 ct6 : Value} (a6 : PySem.W.nsIn K mainGlobals "_law_seen" = some (some (.ref f6))) (l6 : K.lookup f6 = some ⟨oc6, od6, .func (PySem.W.fnOf "_law_seen" "_law_seen" (defArgs s_seen) (defBody s_seen) (defScope s_seen) .none kV6 dc6 pm6 an6 cd6 ct6), sl6⟩) (c6 : PySem.W.codeIn K cd6 "_law_seen" = true) (k6 : PySem.W.keepIn K (.ref f6) = true)
    {f7 : Addr} {od7 an7 : Option Addr} {sl7 : Array (Option Value)} {oc7 kV7 dc7 pm7 cd7 ct7 : Value} (a7 : PySem.W.nsIn K mainGlobals "_law_due" = some (some (.ref f7))) (l7 : K.lookup f7 = some ⟨oc7, od7, .func (PySem.W.fnOf "_law_due" "_law_due" (defArgs s_due) (defBody s_due) (defScope s_due) .none kV7 dc7 pm7 an7 cd7 ct7), sl7⟩) (c7 : PySem.W.codeIn K cd7 "_law_due" = true) (k7 : PySem.W.keepIn K (.ref f7) = true)
    {f8 : Addr} {od8 an8 : Option Addr} {sl8 : Array (Option Value)} {oc8 kV8 dc8 pm8 cd8 ct8 : Value} (a8 : PySem.W.nsIn K mainGlobals "_law_value" = some (some (.ref f8))) (l8 : K.lookup f8 = some ⟨oc8, od8, .func (PySem.W.fnOf "_law_value" "_law_value" (defArgs s_value) (defBody s_value) (defScope s_value) .none kV8 dc8 pm8 an8 cd8 ct8), sl8⟩) (c8 : PySem.W.codeIn K cd8 "_law_value" = true) (k8 : PySem.W.keepIn K (.ref f8) = true)
    {f9 : Addr} {od9 an9 : Option Addr} {sl9 : Array (Option Value)} {oc9 kV9 dc9 pm9 cd9 ct9 : Value} (a9 : PySem.W.nsIn K mainGlobals "law" = some (some (.ref f9))) (l9 : K.lookup f9 = some ⟨oc9, od9, .func (PySem.W.fnOf "law" "law" (defArgs s_law) (defBody s_law) (defScope s_law) .none kV9 dc9 pm9 an9 cd9 ct9), sl9⟩) (c9 : PySem.W.codeIn K cd9 "law" = true) (k9 : PySem.W.keepIn K (.ref f9) = true) :
    ∃ fd : FuncData, (∀ (s : Shared) (u : Value), BindsTo s fd ⟨[u], []⟩ [("_law_script", u)]) ∧ ∀ base : Heap, K.In base → base.Ns mainGlobals mg → FnG l.prog w K mg base CX0 5 fa fd ["_law_script"] (spLaw K) := by
  have e := hfa.symm.trans (PySem.W.mg_of X G a9)
  cases e
  let cpA : P8 → Addr := (fun k => match k with | .S => CS | .h => Ch | .t => Ct | .l => Cl | .m => Cm | .p => Cp | .s => Cs | .o => Co)
  let csA : I6 → Addr := (fun i => match i with | .spot => Ce | .given => Cn | .wanted => Cu | .most => Cy | .reason => Cr | .many => Cd)
  let fsA : I6 → Addr := (fun i => match i with | .spot => Fe | .given => Fn | .wanted => Fu | .most => Fy | .reason => Fr | .many => Fd)
  have O : Errs K mg cpA csA fsA := ⟨fun k => match k with
    | .S => ⟨eeS, PySem.W.mg_of X G gaS, kkS, gbS, ttS⟩
    | .h => ⟨eeh, PySem.W.mg_of X G gah, kkh, gbh, tth⟩
    | .t => ⟨eet, PySem.W.mg_of X G gat, kkt, gbt, ttt⟩
    | .l => ⟨eel, PySem.W.mg_of X G gal, kkl, gbl, ttl⟩
    | .m => ⟨eem, PySem.W.mg_of X G gam, kkm, gbm, ttm⟩
    | .p => ⟨eep, PySem.W.mg_of X G gap, kkp, gbp, ttp⟩
    | .s => ⟨ees, PySem.W.mg_of X G gas, kks, gbs, tts⟩
    | .o => ⟨eeo, PySem.W.mg_of X G gao, kko, gbo, tto⟩, fun i => match i with
    | .spot => ⟨PySem.W.mg_of X G gae, ⟨nme, qne, Ne, bse, [.ref CS, .type "ValueError", .type "Exception", .type "BaseException", .type "object"], sne, sube, abe, cole, dde, m0e, m1e, m2e, m3e, m5e, xe, ⟨by rfl, by rfl, by rfl⟩⟩, ove, tke, sae, iCe, tCe, kke, gbe, tte, ⟨_, _, _, _, _, _, _, _, _, _, _, _, _, _, lxe, cxe⟩⟩
    | .given => ⟨PySem.W.mg_of X G gan, ⟨nmn, qnn, Nn, bsn, [.type "IndexError", .type "LookupError", .type "Exception", .type "BaseException", .type "object"], snn, subn, abn, coln, ddn, m0n, m1n, m2n, m3n, m5n, xn, ⟨by rfl, by rfl, by rfl⟩⟩, ovn, tkn, san, iCn, tCn, kkn, gbn, ttn, ⟨_, _, _, _, _, _, _, _, _, _, _, _, _, _, lxn, cxn⟩⟩
    | .wanted => ⟨PySem.W.mg_of X G gau, ⟨nmu, qnu, Nu, bsu, [.type "KeyError", .type "LookupError", .type "Exception", .type "BaseException", .type "object"], snu, subu, abu, colu, ddu, m0u, m1u, m2u, m3u, m5u, xu, ⟨by rfl, by rfl, by rfl⟩⟩, ovu, tku, sau, iCu, tCu, kku, gbu, ttu, ⟨_, _, _, _, _, _, _, _, _, _, _, _, _, _, lxu, cxu⟩⟩
    | .most => ⟨PySem.W.mg_of X G gay, ⟨nmy, qny, Ny, bsy, [.type "OverflowError", .type "ArithmeticError", .type "Exception", .type "BaseException", .type "object"], sny, suby, aby, coly, ddy, m0y, m1y, m2y, m3y, m5y, xy, ⟨by rfl, by rfl, by rfl⟩⟩, ovy, tky, say, iCy, tCy, kky, gby, tty, ⟨_, _, _, _, _, _, _, _, _, _, _, _, _, _, lxy, cxy⟩⟩
    | .reason => ⟨PySem.W.mg_of X G gar, ⟨nmr, qnr, Nr, bsr, [.type "ArithmeticError", .type "Exception", .type "BaseException", .type "object"], snr, subr, abr, colr, ddr, m0r, m1r, m2r, m3r, m5r, xr, ⟨by rfl, by rfl, by rfl⟩⟩, ovr, tkr, sar, iCr, tCr, kkr, gbr, ttr, ⟨_, _, _, _, _, _, _, _, _, _, _, _, _, _, lxr, cxr⟩⟩
    | .many => ⟨PySem.W.mg_of X G gad, ⟨nmd, qnd, Nd, bsd, [.type "LookupError", .type "Exception", .type "BaseException", .type "object"], snd, subd, abd, cold, ddd, m0d, m1d, m2d, m3d, m5d, xd, ⟨by rfl, by rfl, by rfl⟩⟩, ovd, tkd, sad, iCd, tCd, kkd, gbd, ttd, ⟨_, _, _, _, _, _, _, _, _, _, _, _, _, _, lxd, cxd⟩⟩⟩
  have Kx : ∀ c, ExcC K (clsA cpA csA c) := fun c => match c with
    | .inl .S => ⟨hgS, hkS, gbS, hdS, haS, gn, gt, hmS⟩
    | .inl .h => ⟨hgh, hkh, gbh, hdh, hah, gn, gt, hmh⟩
    | .inl .t => ⟨hgt, hkt, gbt, hdt, hat, gn, gt, hmt⟩
    | .inl .l => ⟨hgl, hkl, gbl, hdl, hal, gn, gt, hml⟩
    | .inl .m => ⟨hgm, hkm, gbm, hdm, ham, gn, gt, hmm⟩
    | .inl .p => ⟨hgp, hkp, gbp, hdp, hap, gn, gt, hmp⟩
    | .inl .s => ⟨hgs, hks, gbs, hds, has, gn, gt, hms⟩
    | .inl .o => ⟨hgo, hko, gbo, hdo, hao, gn, gt, hmo⟩
    | .inr .spot => ⟨hge, hke, gbe, hde, hae, gn, gt, hme⟩
    | .inr .given => ⟨hgn, hkn, gbn, hdn, han, gn, gt, hmn⟩
    | .inr .wanted => ⟨hgu, hku, gbu, hdu, hau, gn, gt, hmu⟩
    | .inr .most => ⟨hgy, hky, gby, hdy, hay, gn, gt, hmy⟩
    | .inr .reason => ⟨hgr, hkr, gbr, hdr, har, gn, gt, hmr⟩
    | .inr .many => ⟨hgd, hkd, gbd, hdd, had, gn, gt, hmd⟩
  have Ko : ∀ c c', PySem.W.kitOne K (.ref (clsA cpA csA c)) (.ref (clsA cpA csA c')) = some (tabO c c') := fun c c' => match c, c' with
    | .inl .S, .inl .S => kit_self _
    | .inl .S, .inl .h => oSh
    | .inl .S, .inl .t => oSt
    | .inl .S, .inl .l => oSl
    | .inl .S, .inl .m => oSm
    | .inl .S, .inl .p => oSp
    | .inl .S, .inl .s => oSs
    | .inl .S, .inl .o => oSo
    | .inl .S, .inr .spot => oSe
    | .inl .S, .inr .given => oSn
    | .inl .S, .inr .wanted => oSu
    | .inl .S, .inr .most => oSy
    | .inl .S, .inr .reason => oSr
    | .inl .S, .inr .many => oSd
    | .inl .h, .inl .S => ohS
    | .inl .h, .inl .h => kit_self _
    | .inl .h, .inl .t => oht
    | .inl .h, .inl .l => ohl
    | .inl .h, .inl .m => ohm
    | .inl .h, .inl .p => ohp
    | .inl .h, .inl .s => ohs
    | .inl .h, .inl .o => oho
    | .inl .h, .inr .spot => ohe
    | .inl .h, .inr .given => ohn
    | .inl .h, .inr .wanted => ohu
    | .inl .h, .inr .most => ohy
    | .inl .h, .inr .reason => ohr
    | .inl .h, .inr .many => ohd
    | .inl .t, .inl .S => otS
    | .inl .t, .inl .h => oth
    | .inl .t, .inl .t => kit_self _
    | .inl .t, .inl .l => otl
    | .inl .t, .inl .m => otm
    | .inl .t, .inl .p => otp
    | .inl .t, .inl .s => ots
    | .inl .t, .inl .o => oto
    | .inl .t, .inr .spot => ote
    | .inl .t, .inr .given => otn
    | .inl .t, .inr .wanted => otu
    | .inl .t, .inr .most => oty
    | .inl .t, .inr .reason => otr
    | .inl .t, .inr .many => otd
    | .inl .l, .inl .S => olS
    | .inl .l, .inl .h => olh
    | .inl .l, .inl .t => olt
    | .inl .l, .inl .l => kit_self _
    | .inl .l, .inl .m => olm
    | .inl .l, .inl .p => olp
    | .inl .l, .inl .s => ols
    | .inl .l, .inl .o => olo
    | .inl .l, .inr .spot => ole
    | .inl .l, .inr .given => oln
    | .inl .l, .inr .wanted => olu
    | .inl .l, .inr .most => oly
    | .inl .l, .inr .reason => olr
    | .inl .l, .inr .many => old
    | .inl .m, .inl .S => omS
    | .inl .m, .inl .h => omh
    | .inl .m, .inl .t => omt
    | .inl .m, .inl .l => oml
    | .inl .m, .inl .m => kit_self _
    | .inl .m, .inl .p => omp
    | .inl .m, .inl .s => oms
    | .inl .m, .inl .o => omo
    | .inl .m, .inr .spot => ome
    | .inl .m, .inr .given => omn
    | .inl .m, .inr .wanted => omu
    | .inl .m, .inr .most => omy
    | .inl .m, .inr .reason => omr
    | .inl .m, .inr .many => omd
    | .inl .p, .inl .S => opS
    | .inl .p, .inl .h => oph
    | .inl .p, .inl .t => opt
    | .inl .p, .inl .l => opl
    | .inl .p, .inl .m => opm
    | .inl .p, .inl .p => kit_self _
    | .inl .p, .inl .s => ops
    | .inl .p, .inl .o => opo
    | .inl .p, .inr .spot => ope
    | .inl .p, .inr .given => opn
    | .inl .p, .inr .wanted => opu
    | .inl .p, .inr .most => opy
    | .inl .p, .inr .reason => opr
    | .inl .p, .inr .many => opd
    | .inl .s, .inl .S => osS
    | .inl .s, .inl .h => osh
    | .inl .s, .inl .t => ost
    | .inl .s, .inl .l => osl
    | .inl .s, .inl .m => osm
    | .inl .s, .inl .p => osp
    | .inl .s, .inl .s => kit_self _
    | .inl .s, .inl .o => oso
    | .inl .s, .inr .spot => ose
    | .inl .s, .inr .given => osn
    | .inl .s, .inr .wanted => osu
    | .inl .s, .inr .most => osy
    | .inl .s, .inr .reason => osr
    | .inl .s, .inr .many => osd
    | .inl .o, .inl .S => ooS
    | .inl .o, .inl .h => ooh
    | .inl .o, .inl .t => oot
    | .inl .o, .inl .l => ool
    | .inl .o, .inl .m => oom
    | .inl .o, .inl .p => oop
    | .inl .o, .inl .s => oos
    | .inl .o, .inl .o => kit_self _
    | .inl .o, .inr .spot => ooe
    | .inl .o, .inr .given => oon
    | .inl .o, .inr .wanted => oou
    | .inl .o, .inr .most => ooy
    | .inl .o, .inr .reason => oor
    | .inl .o, .inr .many => ood
    | .inr .spot, .inl .S => oeS
    | .inr .spot, .inl .h => oeh
    | .inr .spot, .inl .t => oet
    | .inr .spot, .inl .l => oel
    | .inr .spot, .inl .m => oem
    | .inr .spot, .inl .p => oep
    | .inr .spot, .inl .s => oes
    | .inr .spot, .inl .o => oeo
    | .inr .spot, .inr .spot => kit_self _
    | .inr .spot, .inr .given => oen
    | .inr .spot, .inr .wanted => oeu
    | .inr .spot, .inr .most => oey
    | .inr .spot, .inr .reason => oer
    | .inr .spot, .inr .many => oed
    | .inr .given, .inl .S => onS
    | .inr .given, .inl .h => onh
    | .inr .given, .inl .t => ont
    | .inr .given, .inl .l => onl
    | .inr .given, .inl .m => onm
    | .inr .given, .inl .p => onp
    | .inr .given, .inl .s => ons
    | .inr .given, .inl .o => ono
    | .inr .given, .inr .spot => one
    | .inr .given, .inr .given => kit_self _
    | .inr .given, .inr .wanted => onu
    | .inr .given, .inr .most => ony
    | .inr .given, .inr .reason => onr
    | .inr .given, .inr .many => ond
    | .inr .wanted, .inl .S => ouS
    | .inr .wanted, .inl .h => ouh
    | .inr .wanted, .inl .t => out
    | .inr .wanted, .inl .l => oul
    | .inr .wanted, .inl .m => oum
    | .inr .wanted, .inl .p => oup
    | .inr .wanted, .inl .s => ous
    | .inr .wanted, .inl .o => ouo
    | .inr .wanted, .inr .spot => oue
    | .inr .wanted, .inr .given => oun
    | .inr .wanted, .inr .wanted => kit_self _
    | .inr .wanted, .inr .most => ouy
    | .inr .wanted, .inr .reason => our
    | .inr .wanted, .inr .many => oud
    | .inr .most, .inl .S => oyS
    | .inr .most, .inl .h => oyh
    | .inr .most, .inl .t => oyt
    | .inr .most, .inl .l => oyl
    | .inr .most, .inl .m => oym
    | .inr .most, .inl .p => oyp
    | .inr .most, .inl .s => oys
    | .inr .most, .inl .o => oyo
    | .inr .most, .inr .spot => oye
    | .inr .most, .inr .given => oyn
    | .inr .most, .inr .wanted => oyu
    | .inr .most, .inr .most => kit_self _
    | .inr .most, .inr .reason => oyr
    | .inr .most, .inr .many => oyd
    | .inr .reason, .inl .S => orS
    | .inr .reason, .inl .h => orh
    | .inr .reason, .inl .t => ort
    | .inr .reason, .inl .l => orl
    | .inr .reason, .inl .m => orm
    | .inr .reason, .inl .p => orp
    | .inr .reason, .inl .s => ors
    | .inr .reason, .inl .o => oro
    | .inr .reason, .inr .spot => ore
    | .inr .reason, .inr .given => orn
    | .inr .reason, .inr .wanted => oru
    | .inr .reason, .inr .most => ory
    | .inr .reason, .inr .reason => kit_self _
    | .inr .reason, .inr .many => ord
    | .inr .many, .inl .S => odS
    | .inr .many, .inl .h => odh
    | .inr .many, .inl .t => odt
    | .inr .many, .inl .l => odl
    | .inr .many, .inl .m => odm
    | .inr .many, .inl .p => odp
    | .inr .many, .inl .s => ods
    | .inr .many, .inl .o => odo
    | .inr .many, .inr .spot => ode
    | .inr .many, .inr .given => odn
    | .inr .many, .inr .wanted => odu
    | .inr .many, .inr .most => ody
    | .inr .many, .inr .reason => odr
    | .inr .many, .inr .many => kit_self _
  have Kb : ∀ c b, PySem.W.kitOne K (.ref (clsA cpA csA c)) (.type (bN b)) = some (tabB c b) := fun c b => match c, b with
    | .inl .S, .V => iSV
    | .inl .S, .I => iSI
    | .inl .S, .K => iSK
    | .inl .S, .L => iSL
    | .inl .S, .O => iSO
    | .inl .S, .A => iSA
    | .inl .h, .V => ihV
    | .inl .h, .I => ihI
    | .inl .h, .K => ihK
    | .inl .h, .L => ihL
    | .inl .h, .O => ihO
    | .inl .h, .A => ihA
    | .inl .t, .V => itV
    | .inl .t, .I => itI
    | .inl .t, .K => itK
    | .inl .t, .L => itL
    | .inl .t, .O => itO
    | .inl .t, .A => itA
    | .inl .l, .V => ilV
    | .inl .l, .I => ilI
    | .inl .l, .K => ilK
    | .inl .l, .L => ilL
    | .inl .l, .O => ilO
    | .inl .l, .A => ilA
    | .inl .m, .V => imV
    | .inl .m, .I => imI
    | .inl .m, .K => imK
    | .inl .m, .L => imL
    | .inl .m, .O => imO
    | .inl .m, .A => imA
    | .inl .p, .V => ipV
    | .inl .p, .I => ipI
    | .inl .p, .K => ipK
    | .inl .p, .L => ipL
    | .inl .p, .O => ipO
    | .inl .p, .A => ipA
    | .inl .s, .V => isV
    | .inl .s, .I => isI
    | .inl .s, .K => isK
    | .inl .s, .L => isL
    | .inl .s, .O => isO
    | .inl .s, .A => isA
    | .inl .o, .V => ioV
    | .inl .o, .I => ioI
    | .inl .o, .K => ioK
    | .inl .o, .L => ioL
    | .inl .o, .O => ioO
    | .inl .o, .A => ioA
    | .inr .spot, .V => ieV
    | .inr .spot, .I => ieI
    | .inr .spot, .K => ieK
    | .inr .spot, .L => ieL
    | .inr .spot, .O => ieO
    | .inr .spot, .A => ieA
    | .inr .given, .V => inV
    | .inr .given, .I => inI
    | .inr .given, .K => inK
    | .inr .given, .L => inL
    | .inr .given, .O => inO
    | .inr .given, .A => inA
    | .inr .wanted, .V => iuV
    | .inr .wanted, .I => iuI
    | .inr .wanted, .K => iuK
    | .inr .wanted, .L => iuL
    | .inr .wanted, .O => iuO
    | .inr .wanted, .A => iuA
    | .inr .most, .V => iyV
    | .inr .most, .I => iyI
    | .inr .most, .K => iyK
    | .inr .most, .L => iyL
    | .inr .most, .O => iyO
    | .inr .most, .A => iyA
    | .inr .reason, .V => irV
    | .inr .reason, .I => irI
    | .inr .reason, .K => irK
    | .inr .reason, .L => irL
    | .inr .reason, .O => irO
    | .inr .reason, .A => irA
    | .inr .many, .V => idV
    | .inr .many, .I => idI
    | .inr .many, .K => idK
    | .inr .many, .L => idL
    | .inr .many, .O => idO
    | .inr .many, .A => idA
  have Kt : Kits K cpA csA := ⟨Kx, Ko, Kb⟩
  have Ex : Exm K cpA csA := ⟨fun c => match c with
    | .inl .S => PySem.W.exm_ref gbS hdS ttS s_S
    | .inl .h => PySem.W.exm_ref gbS hdS ttS s_h
    | .inl .t => PySem.W.exm_ref gbS hdS ttS s_t
    | .inl .l => PySem.W.exm_ref gbS hdS ttS s_l
    | .inl .m => PySem.W.exm_ref gbS hdS ttS s_m
    | .inl .p => PySem.W.exm_ref gbS hdS ttS s_p
    | .inl .s => PySem.W.exm_ref gbS hdS ttS s_s
    | .inl .o => PySem.W.exm_ref gbS hdS ttS s_o
    | .inr .spot => PySem.W.exm_ref gbS hdS ttS s_e
    | .inr .given => PySem.W.exm_ref gbS hdS ttS s_n
    | .inr .wanted => PySem.W.exm_ref gbS hdS ttS s_u
    | .inr .most => PySem.W.exm_ref gbS hdS ttS s_y
    | .inr .reason => PySem.W.exm_ref gbS hdS ttS s_r
    | .inr .many => PySem.W.exm_ref gbS hdS ttS s_d, fun i j => match i, j with
    | .spot, .spot => PySem.W.exm_ref gbe hde tte ssee
    | .spot, .given => PySem.W.exm_ref gbn hdn ttn ssen
    | .spot, .wanted => PySem.W.exm_ref gbu hdu ttu sseu
    | .spot, .most => PySem.W.exm_ref gby hdy tty ssey
    | .spot, .reason => PySem.W.exm_ref gbr hdr ttr sser
    | .spot, .many => PySem.W.exm_ref gbd hdd ttd ssed
    | .given, .spot => PySem.W.exm_ref gbe hde tte ssne
    | .given, .given => PySem.W.exm_ref gbn hdn ttn ssnn
    | .given, .wanted => PySem.W.exm_ref gbu hdu ttu ssnu
    | .given, .most => PySem.W.exm_ref gby hdy tty ssny
    | .given, .reason => PySem.W.exm_ref gbr hdr ttr ssnr
    | .given, .many => PySem.W.exm_ref gbd hdd ttd ssnd
    | .wanted, .spot => PySem.W.exm_ref gbe hde tte ssue
    | .wanted, .given => PySem.W.exm_ref gbn hdn ttn ssun
    | .wanted, .wanted => PySem.W.exm_ref gbu hdu ttu ssuu
    | .wanted, .most => PySem.W.exm_ref gby hdy tty ssuy
    | .wanted, .reason => PySem.W.exm_ref gbr hdr ttr ssur
    | .wanted, .many => PySem.W.exm_ref gbd hdd ttd ssud
    | .most, .spot => PySem.W.exm_ref gbe hde tte ssye
    | .most, .given => PySem.W.exm_ref gbn hdn ttn ssyn
    | .most, .wanted => PySem.W.exm_ref gbu hdu ttu ssyu
    | .most, .most => PySem.W.exm_ref gby hdy tty ssyy
    | .most, .reason => PySem.W.exm_ref gbr hdr ttr ssyr
    | .most, .many => PySem.W.exm_ref gbd hdd ttd ssyd
    | .reason, .spot => PySem.W.exm_ref gbe hde tte ssre
    | .reason, .given => PySem.W.exm_ref gbn hdn ttn ssrn
    | .reason, .wanted => PySem.W.exm_ref gbu hdu ttu ssru
    | .reason, .most => PySem.W.exm_ref gby hdy tty ssry
    | .reason, .reason => PySem.W.exm_ref gbr hdr ttr ssrr
    | .reason, .many => PySem.W.exm_ref gbd hdd ttd ssrd
    | .many, .spot => PySem.W.exm_ref gbe hde tte ssde
    | .many, .given => PySem.W.exm_ref gbn hdn ttn ssdn
    | .many, .wanted => PySem.W.exm_ref gbu hdu ttu ssdu
    | .many, .most => PySem.W.exm_ref gby hdy tty ssdy
    | .many, .reason => PySem.W.exm_ref gbr hdr ttr ssdr
    | .many, .many => PySem.W.exm_ref gbd hdd ttd ssdd⟩
  have Fl : Flds K csA := ⟨fun i => match i with
    | .spot => ⟨hge, hke, gbe, hde⟩
    | .given => ⟨hgn, hkn, gbn, hdn⟩
    | .wanted => ⟨hgu, hku, gbu, hdu⟩
    | .most => ⟨hgy, hky, gby, hdy⟩
    | .reason => ⟨hgr, hkr, gbr, hdr⟩
    | .many => ⟨hgd, hkd, gbd, hdd⟩, fun i => match i with
    | .spot => nfe
    | .given => nfn
    | .wanted => nfu
    | .most => nfy
    | .reason => nfr
    | .many => nfd⟩
  have nb : ∀ b, mg (Str.ofString (bN b)) = none := fun b => match b with
    | .V => PySem.W.mg_none_of X G n_ValueError
    | .I => PySem.W.mg_none_of X G n_IndexError
    | .K => PySem.W.mg_none_of X G n_KeyError
    | .L => PySem.W.mg_none_of X G n_LookupError
    | .O => PySem.W.mg_none_of X G n_OverflowError
    | .A => PySem.W.mg_none_of X G n_ArithmeticError
  have T : Txt mg := ⟨PySem.W.mg_none_of X G n_len, PySem.W.mg_none_of X G n_abs, PySem.W.mg_none_of X G n_int, PySem.W.mg_none_of X G n_bool, PySem.W.mg_none_of X G n_max, PySem.W.mg_none_of X G n_min, PySem.W.mg_none_of X G n_sum, PySem.W.mg_none_of X G n_tuple, PySem.W.mg_none_of X G n_range, PySem.W.mg_none_of X G n_repr, PySem.W.mg_none_of X G n_isinstance, PySem.W.mg_none_of X G n_reversed⟩
  have Fd0 := fun_mk (st := s_law_urn) l0 c0 k0
  have d_law_urn : D K mg "_law_urn" s_law_urn ["_law_script", "_law_at"] _ _ := ⟨Fd0, PySem.W.mg_of X G a0, Fd0.binds (ps := ["_law_script", "_law_at"]) fun _ _ _ _ _ _ us hl => match us, hl with | [_, _], _ => rfl⟩
  have Fd1 := fun_mk (st := s_law_take) l1 c1 k1
  have d_law_take : D K mg "_law_take" s_law_take ["_law_urn_here", "_law_total"] _ _ := ⟨Fd1, PySem.W.mg_of X G a1, Fd1.binds (ps := ["_law_urn_here", "_law_total"]) fun _ _ _ _ _ _ us hl => match us, hl with | [_, _], _ => rfl⟩
  have Fd2 := fun_mk (st := s_law_some) l2 c2 k2
  have d_law_some : D K mg "_law_some" s_law_some ["_law_urn_here", "_law_items"] _ _ := ⟨Fd2, PySem.W.mg_of X G a2, Fd2.binds (ps := ["_law_urn_here", "_law_items"]) fun _ _ _ _ _ _ us hl => match us, hl with | [_, _], _ => rfl⟩
  have Fd3 := fun_mk (st := s_throw) l3 c3 k3
  have d_law_throw : D K mg "_law_throw" s_throw ["_law_word", "_law_text", "_law_kept_here"] _ _ := ⟨Fd3, PySem.W.mg_of X G a3, Fd3.binds (ps := ["_law_word", "_law_text", "_law_kept_here"]) fun _ _ _ _ _ _ us hl => match us, hl with | [_, _, _], _ => rfl⟩
  have Fd4 := fun_mk (st := s_marks) l4 c4 k4
  have d_law_marks : D K mg "_law_marks" s_marks ["_law_error"] _ _ := ⟨Fd4, PySem.W.mg_of X G a4, Fd4.binds (ps := ["_law_error"]) fun _ _ _ _ _ _ us hl => match us, hl with | [_], _ => rfl⟩
  have Fd5 := fun_mk (st := s_kept) l5 c5 k5
  have d_law_kept : D K mg "_law_kept" s_kept ["_law_error"] _ _ := ⟨Fd5, PySem.W.mg_of X G a5, Fd5.binds (ps := ["_law_error"]) fun _ _ _ _ _ _ us hl => match us, hl with | [_], _ => rfl⟩
  have Fd6 := fun_mk (st := s_seen) l6 c6 k6
  have d_law_seen : D K mg "_law_seen" s_seen ["_law_word", "_law_text", "_law_kept_here"] _ _ := ⟨Fd6, PySem.W.mg_of X G a6, Fd6.binds (ps := ["_law_word", "_law_text", "_law_kept_here"]) fun _ _ _ _ _ _ us hl => match us, hl with | [_, _, _], _ => rfl⟩
  have Fd7 := fun_mk (st := s_due) l7 c7 k7
  have d_law_due : D K mg "_law_due" s_due ["_law_word", "_law_kept_here"] _ _ := ⟨Fd7, PySem.W.mg_of X G a7, Fd7.binds (ps := ["_law_word", "_law_kept_here"]) fun _ _ _ _ _ _ us hl => match us, hl with | [_, _], _ => rfl⟩
  have Fd8 := fun_mk (st := s_value) l8 c8 k8
  have d_law_value : D K mg "_law_value" s_value ["_law_urn_here", "_law_word", "_law_text"] _ _ := ⟨Fd8, PySem.W.mg_of X G a8, Fd8.binds (ps := ["_law_urn_here", "_law_word", "_law_text"]) fun _ _ _ _ _ _ us hl => match us, hl with | [_, _, _], _ => rfl⟩
  have Fd9 := fun_mk (st := s_law) l9 c9 k9
  have d_law : D K mg "law" s_law ["_law_script"] _ _ := ⟨Fd9, PySem.W.mg_of X G a9, Fd9.binds (ps := ["_law_script"]) fun _ _ _ _ _ _ us hl => match us, hl with | [_], _ => rfl⟩
  refine ⟨PySem.W.fnOf "law" "law" (defArgs s_law) (defBody s_law) (defScope s_law) .none kV9 dc9 pm9 an9 cd9 ct9, fun s u => .of_eq rfl, fun base _ _ => ?_⟩
  exact ok_law T (PySem.W.mg_none_of X G n_list) d_law d_law_urn d_law_take d_law_some d_law_value d_law_seen d_law_due (ok_urn (k := 0) T d_law_urn) (ok_take (k := 0) T d_law_take) (ok_some (k := 0) T d_law_some d_law_take) (ok_value T d_law_value d_law_some d_law_take)
    (ok_seen (k := 0) O Kt Ex d_law_throw (ok_throw (k := 0) O d_law_throw) d_law_marks (ok_marks (k := 0) T O Kt nb d_law_marks) d_law_kept (ok_kept (k := 0) T O Kt Fl d_law_kept) d_law_seen) (ok_due (k := 0) d_law_due)
end K00

open PySem PySem.W PyProof.Rows
set_option maxRecDepth 100000 in
set_option maxHeartbeats 0 in
theorem PySem.Challenge.cw_stairlots_k00_errors_and_their_classes_holds : PySem.Challenge.rw_stairlots_k00_errors_and_their_classes.Holds := by
  w_on; o_law; k_head; (case hw => w_witness2)
  k_fill
  refine K00.walk_ofG (l := PySem.Challenge.rw_stairlots_k00_errors_and_their_classes) (n := 63) (k := 5) (x := "_law_script") (sp := K00.spLaw) rfl (by decide) rfl ⟨rfl, by decide, by decide⟩ (fun w h Y => PySem.W.kIn_of Y) ?F (fun _ _ a ns hl hS => ⟨a, ns, rfl, hS, hl, fun _ => rfl⟩)
  case F =>
    intro w mg fa h KX G hmg
    refine' K00.all_of KX G hmg ?gaS ?kkS ?gbS ?ttS ?hgS ?hkS ?hdS ?haS ?hmS ?gah ?kkh ?gbh ?tth ?hgh ?hkh ?hdh ?hah ?hmh ?gat ?kkt ?gbt ?ttt ?hgt ?hkt ?hdt ?hat ?hmt ?gal ?kkl ?gbl ?ttl ?hgl ?hkl ?hdl ?hal ?hml ?gam ?kkm ?gbm ?ttm ?hgm ?hkm ?hdm ?ham ?hmm ?gap ?kkp ?gbp ?ttp ?hgp ?hkp ?hdp ?hap ?hmp ?gas ?kks ?gbs ?tts ?hgs ?hks ?hds ?has ?hms ?gao ?kko ?gbo ?tto ?hgo ?hko ?hdo ?hao ?hmo ?gae ?kke ?gbe ?tte ?hge ?hke ?hde ?hae ?hme ?gan ?kkn ?gbn ?ttn ?hgn ?hkn ?hdn ?han ?hmn ?gau ?kku ?gbu ?ttu ?hgu ?hku ?hdu ?hau ?hmu ?gay ?kky ?gby ?tty ?hgy ?hky ?hdy ?hay ?hmy ?gar ?kkr ?gbr ?ttr ?hgr ?hkr ?hdr ?har ?hmr ?gad ?kkd ?gbd ?ttd ?hgd ?hkd ?hdd ?had ?hmd ?gn ?gt ?eeS ?eeh ?eet ?eel ?eem ?eep ?ees ?eeo ?xe ?ove ?tke ?sae ?iCe ?tCe ?nfe ?lxe ?cxe ?xn ?ovn ?tkn ?san ?iCn ?tCn ?nfn ?lxn ?cxn ?xu ?ovu ?tku ?sau ?iCu ?tCu ?nfu ?lxu ?cxu ?xy ?ovy ?tky ?say ?iCy ?tCy ?nfy ?lxy ?cxy ?xr ?ovr ?tkr ?sar ?iCr ?tCr ?nfr ?lxr ?cxr ?xd ?ovd ?tkd ?sad ?iCd ?tCd ?nfd ?lxd ?cxd ?s_S ?s_h ?s_t ?s_l ?s_m ?s_p ?s_s ?s_o ?s_e ?s_n ?s_u ?s_y ?s_r ?s_d ?ssee ?ssen ?sseu ?ssey ?sser ?ssed ?ssne ?ssnn ?ssnu ?ssny ?ssnr ?ssnd ?ssue ?ssun ?ssuu ?ssuy ?ssur ?ssud ?ssye ?ssyn ?ssyu ?ssyy ?ssyr ?ssyd ?ssre ?ssrn ?ssru ?ssry ?ssrr ?ssrd ?ssde ?ssdn ?ssdu ?ssdy ?ssdr ?ssdd ?oSh ?oSt ?oSl ?oSm ?oSp ?oSs ?oSo ?oSe ?oSn ?oSu ?oSy ?oSr ?oSd ?ohS ?oht ?ohl ?ohm ?ohp ?ohs ?oho ?ohe ?ohn ?ohu ?ohy ?ohr ?ohd ?otS ?oth ?otl ?otm ?otp ?ots ?oto ?ote ?otn ?otu ?oty ?otr ?otd ?olS ?olh ?olt ?olm ?olp ?ols ?olo ?ole ?oln ?olu ?oly ?olr ?old ?omS ?omh ?omt ?oml ?omp ?oms ?omo ?ome ?omn ?omu ?omy ?omr ?omd ?opS ?oph ?opt ?opl ?opm ?ops ?opo ?ope ?opn ?opu ?opy ?opr ?opd ?osS ?osh ?ost ?osl ?osm ?osp ?oso ?ose ?osn ?osu ?osy ?osr ?osd ?ooS ?ooh ?oot ?ool ?oom ?oop ?oos ?ooe ?oon ?oou ?ooy ?oor ?ood ?oeS ?oeh ?oet ?oel ?oem ?oep ?oes ?oeo ?oen ?oeu ?oey ?oer ?oed ?onS ?onh ?ont ?onl ?onm ?onp ?ons ?ono ?one ?onu ?ony ?onr ?ond ?ouS ?ouh ?out ?oul ?oum ?oup ?ous ?ouo ?oue ?oun ?ouy ?our ?oud ?oyS ?oyh ?oyt ?oyl ?oym ?oyp ?oys ?oyo ?oye ?oyn ?oyu ?oyr ?oyd ?orS ?orh ?ort ?orl ?orm ?orp ?ors ?oro ?ore ?orn ?oru ?ory ?ord ?odS ?odh ?odt ?odl ?odm ?odp ?ods ?odo ?ode ?odn ?odu ?ody ?odr ?iSV ?iSI ?iSK ?iSL ?iSO ?iSA ?ihV ?ihI ?ihK ?ihL ?ihO ?ihA ?itV ?itI ?itK ?itL ?itO ?itA ?ilV ?ilI ?ilK ?ilL ?ilO ?ilA ?imV ?imI ?imK ?imL ?imO ?imA ?ipV ?ipI ?ipK ?ipL ?ipO ?ipA ?isV ?isI ?isK ?isL ?isO ?isA ?ioV ?ioI ?ioK ?ioL ?ioO ?ioA ?ieV ?ieI ?ieK ?ieL ?ieO ?ieA ?inV ?inI ?inK ?inL ?inO ?inA ?iuV ?iuI ?iuK ?iuL ?iuO ?iuA ?iyV ?iyI ?iyK ?iyL ?iyO ?iyA ?irV ?irI ?irK ?irL ?irO ?irA ?idV ?idI ?idK ?idL ?idO ?idA ?n_ValueError ?n_IndexError ?n_KeyError ?n_LookupError ?n_OverflowError ?n_ArithmeticError ?n_len ?n_abs ?n_int ?n_bool ?n_max ?n_min ?n_sum ?n_tuple ?n_range ?n_repr ?n_isinstance ?n_reversed ?n_list ?a0 ?l0 ?c0 ?k0 ?a1 ?l1 ?c1 ?k1 ?a2 ?l2 ?c2 ?k2 ?a3 ?l3 ?c3 ?k3 ?a4 ?l4 ?c4 ?k4 ?a5 ?l5 ?c5 ?k5 ?a6 ?l6 ?c6 ?k6 ?a7 ?l7 ?c7 ?k7 ?a8 ?l8 ?c8 ?k8 ?a9 ?l9 ?c9 ?k9
    (case gaS => k_is)
    (case kkS => k_is)
    (case gbS => k_is)
    (case ttS => k_is)
    (case hgS => k_is)
    (case hkS => k_is)
    (case hdS => k_is)
    (case haS => k_is)
    (case hmS => k_is)
    (case gah => k_is)
    (case kkh => k_is)
    (case gbh => k_is)
    (case tth => k_is)
    (case hgh => k_is)
    (case hkh => k_is)
    (case hdh => k_is)
    (case hah => k_is)
    (case hmh => k_is)
    (case gat => k_is)
    (case kkt => k_is)
    (case gbt => k_is)
    (case ttt => k_is)
    (case hgt => k_is)
    (case hkt => k_is)
    (case hdt => k_is)
    (case hat => k_is)
    (case hmt => k_is)
    (case gal => k_is)
    (case kkl => k_is)
    (case gbl => k_is)
    (case ttl => k_is)
    (case hgl => k_is)
    (case hkl => k_is)
    (case hdl => k_is)
    (case hal => k_is)
    (case hml => k_is)
    (case gam => k_is)
    (case kkm => k_is)
    (case gbm => k_is)
    (case ttm => k_is)
    (case hgm => k_is)
    (case hkm => k_is)
    (case hdm => k_is)
    (case ham => k_is)
    (case hmm => k_is)
    (case gap => k_is)
    (case kkp => k_is)
    (case gbp => k_is)
    (case ttp => k_is)
    (case hgp => k_is)
    (case hkp => k_is)
    (case hdp => k_is)
    (case hap => k_is)
    (case hmp => k_is)
    (case gas => k_is)
    (case kks => k_is)
    (case gbs => k_is)
    (case tts => k_is)
    (case hgs => k_is)
    (case hks => k_is)
    (case hds => k_is)
    (case has => k_is)
    (case hms => k_is)
    (case gao => k_is)
    (case kko => k_is)
    (case gbo => k_is)
    (case tto => k_is)
    (case hgo => k_is)
    (case hko => k_is)
    (case hdo => k_is)
    (case hao => k_is)
    (case hmo => k_is)
    (case gae => k_is)
    (case kke => k_is)
    (case gbe => k_is)
    (case tte => k_is)
    (case hge => k_is)
    (case hke => k_is)
    (case hde => k_is)
    (case hae => k_is)
    (case hme => k_is)
    (case gan => k_is)
    (case kkn => k_is)
    (case gbn => k_is)
    (case ttn => k_is)
    (case hgn => k_is)
    (case hkn => k_is)
    (case hdn => k_is)
    (case han => k_is)
    (case hmn => k_is)
    (case gau => k_is)
    (case kku => k_is)
    (case gbu => k_is)
    (case ttu => k_is)
    (case hgu => k_is)
    (case hku => k_is)
    (case hdu => k_is)
    (case hau => k_is)
    (case hmu => k_is)
    (case gay => k_is)
    (case kky => k_is)
    (case gby => k_is)
    (case tty => k_is)
    (case hgy => k_is)
    (case hky => k_is)
    (case hdy => k_is)
    (case hay => k_is)
    (case hmy => k_is)
    (case gar => k_is)
    (case kkr => k_is)
    (case gbr => k_is)
    (case ttr => k_is)
    (case hgr => k_is)
    (case hkr => k_is)
    (case hdr => k_is)
    (case har => k_is)
    (case hmr => k_is)
    (case gad => k_is)
    (case kkd => k_is)
    (case gbd => k_is)
    (case ttd => k_is)
    (case hgd => k_is)
    (case hkd => k_is)
    (case hdd => k_is)
    (case had => k_is)
    (case hmd => k_is)
    (case gn => k_is)
    (case gt => k_is)
    (case eeS => first | k_exc | k_is)
    (case eeh => first | k_exc | k_is)
    (case eet => first | k_exc | k_is)
    (case eel => first | k_exc | k_is)
    (case eem => first | k_exc | k_is)
    (case eep => first | k_exc | k_is)
    (case ees => first | k_exc | k_is)
    (case eeo => first | k_exc | k_is)
    (case xe => k_is)
    (case ove => first | kx_is | k_is)
    (case tke => k_is)
    (case sae => k_is)
    (case iCe => k_is)
    (case tCe => k_is)
    (case nfe => k_is)
    (case lxe => k_is)
    (case cxe => k_is)
    (case xn => k_is)
    (case ovn => first | kx_is | k_is)
    (case tkn => k_is)
    (case san => k_is)
    (case iCn => k_is)
    (case tCn => k_is)
    (case nfn => k_is)
    (case lxn => k_is)
    (case cxn => k_is)
    (case xu => k_is)
    (case ovu => first | kx_is | k_is)
    (case tku => k_is)
    (case sau => k_is)
    (case iCu => k_is)
    (case tCu => k_is)
    (case nfu => k_is)
    (case lxu => k_is)
    (case cxu => k_is)
    (case xy => k_is)
    (case ovy => first | kx_is | k_is)
    (case tky => k_is)
    (case say => k_is)
    (case iCy => k_is)
    (case tCy => k_is)
    (case nfy => k_is)
    (case lxy => k_is)
    (case cxy => k_is)
    (case xr => k_is)
    (case ovr => first | kx_is | k_is)
    (case tkr => k_is)
    (case sar => k_is)
    (case iCr => k_is)
    (case tCr => k_is)
    (case nfr => k_is)
    (case lxr => k_is)
    (case cxr => k_is)
    (case xd => k_is)
    (case ovd => first | kx_is | k_is)
    (case tkd => k_is)
    (case sad => k_is)
    (case iCd => k_is)
    (case tCd => k_is)
    (case nfd => k_is)
    (case lxd => k_is)
    (case cxd => k_is)
    (case s_S => first | rfl | k_is)
    (case s_h => first | rfl | k_is)
    (case s_t => first | rfl | k_is)
    (case s_l => first | rfl | k_is)
    (case s_m => first | rfl | k_is)
    (case s_p => first | rfl | k_is)
    (case s_s => first | rfl | k_is)
    (case s_o => first | rfl | k_is)
    (case s_e => first | rfl | k_is)
    (case s_n => first | rfl | k_is)
    (case s_u => first | rfl | k_is)
    (case s_y => first | rfl | k_is)
    (case s_r => first | rfl | k_is)
    (case s_d => first | rfl | k_is)
    (case ssee => first | rfl | k_is)
    (case ssen => first | rfl | k_is)
    (case sseu => first | rfl | k_is)
    (case ssey => first | rfl | k_is)
    (case sser => first | rfl | k_is)
    (case ssed => first | rfl | k_is)
    (case ssne => first | rfl | k_is)
    (case ssnn => first | rfl | k_is)
    (case ssnu => first | rfl | k_is)
    (case ssny => first | rfl | k_is)
    (case ssnr => first | rfl | k_is)
    (case ssnd => first | rfl | k_is)
    (case ssue => first | rfl | k_is)
    (case ssun => first | rfl | k_is)
    (case ssuu => first | rfl | k_is)
    (case ssuy => first | rfl | k_is)
    (case ssur => first | rfl | k_is)
    (case ssud => first | rfl | k_is)
    (case ssye => first | rfl | k_is)
    (case ssyn => first | rfl | k_is)
    (case ssyu => first | rfl | k_is)
    (case ssyy => first | rfl | k_is)
    (case ssyr => first | rfl | k_is)
    (case ssyd => first | rfl | k_is)
    (case ssre => first | rfl | k_is)
    (case ssrn => first | rfl | k_is)
    (case ssru => first | rfl | k_is)
    (case ssry => first | rfl | k_is)
    (case ssrr => first | rfl | k_is)
    (case ssrd => first | rfl | k_is)
    (case ssde => first | rfl | k_is)
    (case ssdn => first | rfl | k_is)
    (case ssdu => first | rfl | k_is)
    (case ssdy => first | rfl | k_is)
    (case ssdr => first | rfl | k_is)
    (case ssdd => first | rfl | k_is)
    (case oSh => first | kit_is | k_is)
    (case oSt => first | kit_is | k_is)
    (case oSl => first | kit_is | k_is)
    (case oSm => first | kit_is | k_is)
    (case oSp => first | kit_is | k_is)
    (case oSs => first | kit_is | k_is)
    (case oSo => first | kit_is | k_is)
    (case oSe => first | kit_is | k_is)
    (case oSn => first | kit_is | k_is)
    (case oSu => first | kit_is | k_is)
    (case oSy => first | kit_is | k_is)
    (case oSr => first | kit_is | k_is)
    (case oSd => first | kit_is | k_is)
    (case ohS => first | kit_is | k_is)
    (case oht => first | kit_is | k_is)
    (case ohl => first | kit_is | k_is)
    (case ohm => first | kit_is | k_is)
    (case ohp => first | kit_is | k_is)
    (case ohs => first | kit_is | k_is)
    (case oho => first | kit_is | k_is)
    (case ohe => first | kit_is | k_is)
    (case ohn => first | kit_is | k_is)
    (case ohu => first | kit_is | k_is)
    (case ohy => first | kit_is | k_is)
    (case ohr => first | kit_is | k_is)
    (case ohd => first | kit_is | k_is)
    (case otS => first | kit_is | k_is)
    (case oth => first | kit_is | k_is)
    (case otl => first | kit_is | k_is)
    (case otm => first | kit_is | k_is)
    (case otp => first | kit_is | k_is)
    (case ots => first | kit_is | k_is)
    (case oto => first | kit_is | k_is)
    (case ote => first | kit_is | k_is)
    (case otn => first | kit_is | k_is)
    (case otu => first | kit_is | k_is)
    (case oty => first | kit_is | k_is)
    (case otr => first | kit_is | k_is)
    (case otd => first | kit_is | k_is)
    (case olS => first | kit_is | k_is)
    (case olh => first | kit_is | k_is)
    (case olt => first | kit_is | k_is)
    (case olm => first | kit_is | k_is)
    (case olp => first | kit_is | k_is)
    (case ols => first | kit_is | k_is)
    (case olo => first | kit_is | k_is)
    (case ole => first | kit_is | k_is)
    (case oln => first | kit_is | k_is)
    (case olu => first | kit_is | k_is)
    (case oly => first | kit_is | k_is)
    (case olr => first | kit_is | k_is)
    (case old => first | kit_is | k_is)
    (case omS => first | kit_is | k_is)
    (case omh => first | kit_is | k_is)
    (case omt => first | kit_is | k_is)
    (case oml => first | kit_is | k_is)
    (case omp => first | kit_is | k_is)
    (case oms => first | kit_is | k_is)
    (case omo => first | kit_is | k_is)
    (case ome => first | kit_is | k_is)
    (case omn => first | kit_is | k_is)
    (case omu => first | kit_is | k_is)
    (case omy => first | kit_is | k_is)
    (case omr => first | kit_is | k_is)
    (case omd => first | kit_is | k_is)
    (case opS => first | kit_is | k_is)
    (case oph => first | kit_is | k_is)
    (case opt => first | kit_is | k_is)
    (case opl => first | kit_is | k_is)
    (case opm => first | kit_is | k_is)
    (case ops => first | kit_is | k_is)
    (case opo => first | kit_is | k_is)
    (case ope => first | kit_is | k_is)
    (case opn => first | kit_is | k_is)
    (case opu => first | kit_is | k_is)
    (case opy => first | kit_is | k_is)
    (case opr => first | kit_is | k_is)
    (case opd => first | kit_is | k_is)
    (case osS => first | kit_is | k_is)
    (case osh => first | kit_is | k_is)
    (case ost => first | kit_is | k_is)
    (case osl => first | kit_is | k_is)
    (case osm => first | kit_is | k_is)
    (case osp => first | kit_is | k_is)
    (case oso => first | kit_is | k_is)
    (case ose => first | kit_is | k_is)
    (case osn => first | kit_is | k_is)
    (case osu => first | kit_is | k_is)
    (case osy => first | kit_is | k_is)
    (case osr => first | kit_is | k_is)
    (case osd => first | kit_is | k_is)
    (case ooS => first | kit_is | k_is)
    (case ooh => first | kit_is | k_is)
    (case oot => first | kit_is | k_is)
    (case ool => first | kit_is | k_is)
    (case oom => first | kit_is | k_is)
    (case oop => first | kit_is | k_is)
    (case oos => first | kit_is | k_is)
    (case ooe => first | kit_is | k_is)
    (case oon => first | kit_is | k_is)
    (case oou => first | kit_is | k_is)
    (case ooy => first | kit_is | k_is)
    (case oor => first | kit_is | k_is)
    (case ood => first | kit_is | k_is)
    (case oeS => first | kit_is | k_is)
    (case oeh => first | kit_is | k_is)
    (case oet => first | kit_is | k_is)
    (case oel => first | kit_is | k_is)
    (case oem => first | kit_is | k_is)
    (case oep => first | kit_is | k_is)
    (case oes => first | kit_is | k_is)
    (case oeo => first | kit_is | k_is)
    (case oen => first | kit_is | k_is)
    (case oeu => first | kit_is | k_is)
    (case oey => first | kit_is | k_is)
    (case oer => first | kit_is | k_is)
    (case oed => first | kit_is | k_is)
    (case onS => first | kit_is | k_is)
    (case onh => first | kit_is | k_is)
    (case ont => first | kit_is | k_is)
    (case onl => first | kit_is | k_is)
    (case onm => first | kit_is | k_is)
    (case onp => first | kit_is | k_is)
    (case ons => first | kit_is | k_is)
    (case ono => first | kit_is | k_is)
    (case one => first | kit_is | k_is)
    (case onu => first | kit_is | k_is)
    (case ony => first | kit_is | k_is)
    (case onr => first | kit_is | k_is)
    (case ond => first | kit_is | k_is)
    (case ouS => first | kit_is | k_is)
    (case ouh => first | kit_is | k_is)
    (case out => first | kit_is | k_is)
    (case oul => first | kit_is | k_is)
    (case oum => first | kit_is | k_is)
    (case oup => first | kit_is | k_is)
    (case ous => first | kit_is | k_is)
    (case ouo => first | kit_is | k_is)
    (case oue => first | kit_is | k_is)
    (case oun => first | kit_is | k_is)
    (case ouy => first | kit_is | k_is)
    (case our => first | kit_is | k_is)
    (case oud => first | kit_is | k_is)
    (case oyS => first | kit_is | k_is)
    (case oyh => first | kit_is | k_is)
    (case oyt => first | kit_is | k_is)
    (case oyl => first | kit_is | k_is)
    (case oym => first | kit_is | k_is)
    (case oyp => first | kit_is | k_is)
    (case oys => first | kit_is | k_is)
    (case oyo => first | kit_is | k_is)
    (case oye => first | kit_is | k_is)
    (case oyn => first | kit_is | k_is)
    (case oyu => first | kit_is | k_is)
    (case oyr => first | kit_is | k_is)
    (case oyd => first | kit_is | k_is)
    (case orS => first | kit_is | k_is)
    (case orh => first | kit_is | k_is)
    (case ort => first | kit_is | k_is)
    (case orl => first | kit_is | k_is)
    (case orm => first | kit_is | k_is)
    (case orp => first | kit_is | k_is)
    (case ors => first | kit_is | k_is)
    (case oro => first | kit_is | k_is)
    (case ore => first | kit_is | k_is)
    (case orn => first | kit_is | k_is)
    (case oru => first | kit_is | k_is)
    (case ory => first | kit_is | k_is)
    (case ord => first | kit_is | k_is)
    (case odS => first | kit_is | k_is)
    (case odh => first | kit_is | k_is)
    (case odt => first | kit_is | k_is)
    (case odl => first | kit_is | k_is)
    (case odm => first | kit_is | k_is)
    (case odp => first | kit_is | k_is)
    (case ods => first | kit_is | k_is)
    (case odo => first | kit_is | k_is)
    (case ode => first | kit_is | k_is)
    (case odn => first | kit_is | k_is)
    (case odu => first | kit_is | k_is)
    (case ody => first | kit_is | k_is)
    (case odr => first | kit_is | k_is)
    (case iSV => first | kit_is | k_is)
    (case iSI => first | kit_is | k_is)
    (case iSK => first | kit_is | k_is)
    (case iSL => first | kit_is | k_is)
    (case iSO => first | kit_is | k_is)
    (case iSA => first | kit_is | k_is)
    (case ihV => first | kit_is | k_is)
    (case ihI => first | kit_is | k_is)
    (case ihK => first | kit_is | k_is)
    (case ihL => first | kit_is | k_is)
    (case ihO => first | kit_is | k_is)
    (case ihA => first | kit_is | k_is)
    (case itV => first | kit_is | k_is)
    (case itI => first | kit_is | k_is)
    (case itK => first | kit_is | k_is)
    (case itL => first | kit_is | k_is)
    (case itO => first | kit_is | k_is)
    (case itA => first | kit_is | k_is)
    (case ilV => first | kit_is | k_is)
    (case ilI => first | kit_is | k_is)
    (case ilK => first | kit_is | k_is)
    (case ilL => first | kit_is | k_is)
    (case ilO => first | kit_is | k_is)
    (case ilA => first | kit_is | k_is)
    (case imV => first | kit_is | k_is)
    (case imI => first | kit_is | k_is)
    (case imK => first | kit_is | k_is)
    (case imL => first | kit_is | k_is)
    (case imO => first | kit_is | k_is)
    (case imA => first | kit_is | k_is)
    (case ipV => first | kit_is | k_is)
    (case ipI => first | kit_is | k_is)
    (case ipK => first | kit_is | k_is)
    (case ipL => first | kit_is | k_is)
    (case ipO => first | kit_is | k_is)
    (case ipA => first | kit_is | k_is)
    (case isV => first | kit_is | k_is)
    (case isI => first | kit_is | k_is)
    (case isK => first | kit_is | k_is)
    (case isL => first | kit_is | k_is)
    (case isO => first | kit_is | k_is)
    (case isA => first | kit_is | k_is)
    (case ioV => first | kit_is | k_is)
    (case ioI => first | kit_is | k_is)
    (case ioK => first | kit_is | k_is)
    (case ioL => first | kit_is | k_is)
    (case ioO => first | kit_is | k_is)
    (case ioA => first | kit_is | k_is)
    (case ieV => first | kit_is | k_is)
    (case ieI => first | kit_is | k_is)
    (case ieK => first | kit_is | k_is)
    (case ieL => first | kit_is | k_is)
    (case ieO => first | kit_is | k_is)
    (case ieA => first | kit_is | k_is)
    (case inV => first | kit_is | k_is)
    (case inI => first | kit_is | k_is)
    (case inK => first | kit_is | k_is)
    (case inL => first | kit_is | k_is)
    (case inO => first | kit_is | k_is)
    (case inA => first | kit_is | k_is)
    (case iuV => first | kit_is | k_is)
    (case iuI => first | kit_is | k_is)
    (case iuK => first | kit_is | k_is)
    (case iuL => first | kit_is | k_is)
    (case iuO => first | kit_is | k_is)
    (case iuA => first | kit_is | k_is)
    (case iyV => first | kit_is | k_is)
    (case iyI => first | kit_is | k_is)
    (case iyK => first | kit_is | k_is)
    (case iyL => first | kit_is | k_is)
    (case iyO => first | kit_is | k_is)
    (case iyA => first | kit_is | k_is)
    (case irV => first | kit_is | k_is)
    (case irI => first | kit_is | k_is)
    (case irK => first | kit_is | k_is)
    (case irL => first | kit_is | k_is)
    (case irO => first | kit_is | k_is)
    (case irA => first | kit_is | k_is)
    (case idV => first | kit_is | k_is)
    (case idI => first | kit_is | k_is)
    (case idK => first | kit_is | k_is)
    (case idL => first | kit_is | k_is)
    (case idO => first | kit_is | k_is)
    (case idA => first | kit_is | k_is)
    (case n_ValueError => k_is)
    (case n_IndexError => k_is)
    (case n_KeyError => k_is)
    (case n_LookupError => k_is)
    (case n_OverflowError => k_is)
    (case n_ArithmeticError => k_is)
    (case n_len => k_is)
    (case n_abs => k_is)
    (case n_int => k_is)
    (case n_bool => k_is)
    (case n_max => k_is)
    (case n_min => k_is)
    (case n_sum => k_is)
    (case n_tuple => k_is)
    (case n_range => k_is)
    (case n_repr => k_is)
    (case n_isinstance => k_is)
    (case n_reversed => k_is)
    (case n_list => k_is)
    (case a0 => k_is)
    (case l0 => k_is)
    (case c0 => k_is)
    (case k0 => k_is)
    (case a1 => k_is)
    (case l1 => k_is)
    (case c1 => k_is)
    (case k1 => k_is)
    (case a2 => k_is)
    (case l2 => k_is)
    (case c2 => k_is)
    (case k2 => k_is)
    (case a3 => k_is)
    (case l3 => k_is)
    (case c3 => k_is)
    (case k3 => k_is)
    (case a4 => k_is)
    (case l4 => k_is)
    (case c4 => k_is)
    (case k4 => k_is)
    (case a5 => k_is)
    (case l5 => k_is)
    (case c5 => k_is)
    (case k5 => k_is)
    (case a6 => k_is)
    (case l6 => k_is)
    (case c6 => k_is)
    (case k6 => k_is)
    (case a7 => k_is)
    (case l7 => k_is)
    (case c7 => k_is)
    (case k7 => k_is)
    (case a8 => k_is)
    (case l8 => k_is)
    (case c8 => k_is)
    (case k8 => k_is)
    (case a9 => k_is)
    (case l9 => k_is)
    (case c9 => k_is)
    (case k9 => k_is)

