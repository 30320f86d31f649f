import PyProof.Rows.All
import Wide.All
import OpenK.AllK
import Wide.FinOn
import PySem.Challenge.RW_stairlots_k02_whole_rows_of_ratios
import HandS.ForMost
import HandS.Exc
import HandS.TryOnly
import HandS.ExcOwn
import HandS.WordsExc
import HandS.Wide
import HandS.Gcd
import HandS.IsInst
import HandS.Property
import HandS.SlotsOwn
import KE.KOpsOwn
import KE.KCallOwn
import KE.KFmtOwn
import HandS.TryMany
import KE.KExcInit
import HandS.FStr
import HandS.RaiseMore
import PyProof.Rows.StrOr
import HandS.Codes
import HandS.ClsMeth
import PyProof.StrLawsRepr
import HandS.Style
import PyProof.NeKinds
import HandS.Comp
import HandS.Defaults
import HandS.ExcIs
import KE.KExcLine
set_option Elab.async false
set_option linter.all false
set_option maxRecDepth 100000
set_option maxHeartbeats 8000000
/-! # operators of an own class's instances -/
namespace K02W
open PySem PySem.Spec PySem.Calls PyProof.Rows PySem.W Builtin
section
variable {prog : Program} {w : World} {A : Around} {E : PySem.Value → Shared → Prop} {s : Shared} {K : Frag} {x C f : Addr} {ox : Obj} {od : Option Obj} {b tb : PySem.Value}
/-- an own == that answers True or False, asked for != -/
def NotBack (Q : PySem.Value → Shared → Prop) (v : PySem.Value) (s' : Shared) : Prop := ∃ k, v = .bool k ∧ Q (.bool (!k)) s'
theorem boundSlot {M : Model} {id : String} {args : List PySem.Value} {name : Str} {Q : Option PySem.Value → Shared → Prop} (X : K.In s.heap) (I : InstAt s.heap x ox C od) (hs : findIn K (.ref C) name = some (some (.builtin id)))
    (hb : ∀ self, bindSpecial (.builtin id) self = pure (.builtin id, [self]))
    (h : wpAny M A (call (.builtin id) (.ref x :: args)) (fun v => Q (some v)) E s) : wpAny M A (callSpecialIfBound? (.ref x) name args) Q E s := by
  simp only [callSpecialIfBound?, bindSpecialIfBound?]
  refine wpAny_holding (wpAny_bind (wpAny_bind (wpAny_bind (I.type.here ((looks_findIn X hs).here (wpAny_bind (wpAny_askSetting (wpAny_ite ?_))))))))
  have fin : wpAny M A (call (.builtin id) ([PySem.Value.ref x] ++ args) >>= fun v => pure (some v)) Q E s := wpAny_bind (wpAny_mono h (fun _ _ z => wpAny_pure z) fun _ _ z => z)
  split
  · exact wpAny_bind ((Looks.of_pure (hb _)).here (wpAny_pure fin))
  · exact wpAny_tryCatch (wpAny_bind ((Looks.of_pure (hb _)).here (wpAny_pure fin)))
/-- what object's own != does with an own == -/
theorem objNe {Q : PySem.Value → Shared → Prop} (hu : A.in1.units < cLine) (X : K.In s.heap) (I : InstAt s.heap x ox C od) (hm : mroIn K C (.type "object") = some true) (hs : findIn K (.ref C) "__eq__" = some (some (.ref f))) (hf : isFn K (.ref f) = true)
    (h : wpAny (model prog w) A.in1 (call (.ref f) [.ref x, b]) (NotBack Q) E s) : wpAny (model prog w) A (call (.builtin "object.__ne__") [.ref x, b]) Q E s := by
  refine wpAny_call (codeAny_call_builtin PySem.F.slot_zip_ne.plain PySem.F.cmpEntry_ne (check_slot (i := "object.__ne__") (owner := "object") (n := "__ne__") (by decide +kernel) (by decide +kernel) (I.type.andThen (looks_mroIn X hm)) (PySem.F.cmpArgs_ne _ _) ?_))
  unfold Builtin.«object.__ne__»
  refine wpAny_bind (m := slotArgs "__ne__" 1 _) (wpAny_pure (wpAny_bind (m := cRoomFor _ _) (wpAny_cRoomFor hu ?_)))
  refine wpAny_bind (m := callSpecialIfBound? (.ref x) (Str.ofString "__eq__") _) (ifBound_K X I hs hf (wpAny_mono h (fun r s' hq => ?_) fun _ _ y => y))
  obtain ⟨k, rfl, q⟩ := hq
  repeat (first | exact q | exact wpAny_pure q | exact wpAny_truthy_bool q | (refine wpAny_bind (m := truthy (.bool _)) (wpAny_truthy_bool ?_)) | wp_step)
/-- x != b, x an instance of a class with an own == and no own != -/
theorem ne_own {Q : PySem.Value → Shared → Prop} (hu : A.in1.units < cLine) (hu0 : A.units < cLine) (X : K.In s.heap) (I : InstAt s.heap x ox C od) (hb : Looks (model prog w) s.heap (typeOf b) tb) (hn : notFirst K C tb = true)
    (hm : mroIn K C (.type "object") = some true) (hne : findIn K (.ref C) "__ne__" = some (some (.builtin "object.__ne__"))) (hs : findIn K (.ref C) "__eq__" = some (some (.ref f))) (hf : isFn K (.ref f) = true)
    (h : wpAny (model prog w) A.in1 (call (.ref f) [.ref x, b]) (NotBack Q) E s) : wpAny (model prog w) A (richCompare .NotEq (.ref x) b) Q E s := by
  have one : wpAny (model prog w) A (tryCompare (.ref x) "__ne__" b) (fun r s' => ∃ v, r = some v ∧ Q v s') E s := by
    unfold tryCompare
    refine wpAny_bind (boundSlot X I hne PySem.F.slot_zip_ne.bind (objNe hu X I hm hs hf (wpAny_mono h (fun v s' hv => ?_) fun _ _ e => e)))
    obtain ⟨k, rfl, q⟩ := hv
    exact ⟨k, rfl, wpAny_pure ⟨_, rfl, q⟩⟩
  unfold richCompare
  simp only [oneThing_ref, cmpInfo_NotEq]
  refine wpAny_holding (wpAny_bind (wpAny_cRoomFor hu0 (wpAny_bind (I.type.here (wpAny_bind (hb.here ?_))))))
  split
  · rename_i q
    have e : subIn K tb (.ref C) = some false := (Bool.or_eq_true_iff.mp hn).elim (fun z => by rw [beq_iff_eq.mp z] at q; simp at q) (fun z => beq_iff_eq.mp z)
    refine wpAny_bind ((looks_subIn X e).here ?_)
    simp only [Bool.false_eq_true, if_false]
    exact wpAny_bind (wpAny_mono one (fun r s' ⟨v, e1, z⟩ => by subst e1; exact wpAny_pure z) fun _ _ e => e)
  · refine wpAny_bind (wpAny_pure ?_)
    simp only [Bool.false_eq_true, if_false]
    exact wpAny_bind (wpAny_mono one (fun r s' ⟨v, e1, z⟩ => by subst e1; exact wpAny_pure z) fun _ _ e => e)
/-- bool(x) by an own __bool__ -/
theorem bool_own {Q : PySem.Value → Shared → Prop} (X : K.In s.heap) (I : InstAt s.heap x ox C od) (hs : findIn K (.ref C) "__bool__" = some (some (.ref f))) (hf : isFn K (.ref f) = true)
    (h : wpAny (model prog w) A.in1.in1 (call (.ref f) [.ref x]) (fun v s' => ∃ k, v = .bool k ∧ Q (.bool k) s') E s) : wpAny (model prog w) A (call (.type "bool") [.ref x]) Q E s := by
  refine callType_codes (T := "bool") (Bi := Builtin.«object.__init__») (Q₁ := fun r s₁ => ∃ k, r = PySem.Value.bool k ∧ Q r s₁) PySem.F.called_bool (PySem.F.typeCall_bool_1 _) PySem.F.entry_object_init ?_ ?_
  · refine codeAny_of_tree ?_
    show wpAny _ A.in1.in1 (do checkBuiltinCall "bool.__new__" ⟨[.type "bool", .ref x], []⟩; again (.builtin "bool.__new__" ⟨[.type "bool", .ref x], []⟩)) _ _ s
    refine wpAny_bind (wpAny_of_eq (PySem.F.newCall_bool_1 _) (wpAny_pure ⟨plainId_quiet (by decide +kernel) _, codeAny_builtin PySem.F.entry_bool_new ?_⟩))
    rw [Around.under_plainId (by decide +kernel) _]
    unfold Builtin.«bool.__new__»
    have tr : ∀ {Q' : Bool → Shared → Prop}, (∀ k s', Q (.bool k) s' → Q' k s') → wpAny (model prog w) A.in1.in1 (truthy (.ref x)) Q' E s := fun {Q'} g => by
      unfold truthy
      refine wpAny_bind (m := callSpecial? (.ref x) (Str.ofString "__bool__")) (special_fn X I hs (beq_iff_eq.mp hf) (wpAny_mono h (fun r s' ⟨k, e, z⟩ => ?_) fun _ _ y => y))
      subst e
      exact wpAny_pure (g k s' z)
    repeat (first | (refine wpAny_bind (m := truthy (.ref x)) (tr fun k s' z => ?_)) | wp_step)
    all_goals first | exact ⟨_, rfl, z⟩ | exact wpAny_pure ⟨_, rfl, z⟩ | skip
  · rintro obj s₁ ⟨k, rfl, hq⟩
    exact ⟨PySem.typeIs_bool _ _, PySem.F.args_object_init_2 _ _, object_init_meets PySem.F.called_bool.init.lookup PySem.F.called_bool.made (by decide) prog w A.in1 _ s₁ ⟨PySem.typeIs_bool _ _, rfl, hq⟩⟩
end
end K02W

/-! # operators of an own class's instances, over the layer -/
namespace K02
open PySem PySem.Spec PyProof.Rows L2
/-! ### the text -/
def topS (i : Nat) : Stmt := PySem.Challenge.pw_stairlots_k02_whole_rows_of_ratios.main.body.getD i (.Pass ⟨0, 0, 0, 0⟩)
def Ins (H : Hp) (a C : Addr) : Prop := ∃ dx fs, H a = some (.ins C dx fs)
section
variable {X : Cx} {C g : Addr} {n : Nat} {fd : FuncData} {ps : List Str} {sp : Sp} {pins : List (Addr × Obj)} {σ : L2.St} {H : Hp} {s : Shared} {a : Addr}
theorem ins_look (I : Inv X pins σ H s) (h : Ins H a C) : ∃ (ox od : Obj), PySem.W.InstAt s.heap a ox C (some od) := by
  obtain ⟨dx, fs, e⟩ := h
  obtain ⟨mA, O, _⟩ := ins_get I.hok e
  obtain ⟨od, J, _⟩ := O.look
  exact ⟨_, od, J⟩
theorem run_below {A : Around} {Q : VK} {us : List Value} {vs : List V} {E' : Value → Shared → Prop} (F : FnOk X.prog X.w X.K X.mg X.base CX0 n g fd ps sp) (hr : Room n A) (e0 : Env0 X.prog X.w X.K X.mg X.base A X.stack s H) (hb : Binds X.K fd ps [])
    (I : Inv X pins σ H s) (r : Vals vs us) (h : sp vs H Q E0) : wpAny (model X.prog X.w) A (call (.ref g) us) (EP X pins σ Q) E' s := by
  have hl : (us ++ []).length = ps.length := by
    rw [List.append_nil, ← r.length]
    exact F.len _ _ _ _ h
  have b := hb s us I.kIn hl
  rw [List.append_nil] at b
  refine wpAny_call (codeAny_mono (F.run A X.stack s H ⟨us, []⟩ us vs Q E0 hr e0 b r h) fun r s' hq => ?_)
  cases r with
  | error e => exact False.elim hq
  | ok fl =>
    cases fl with
    | ret u => exact I.after hq
    | next => exact False.elim hq
    | brk => exact False.elim hq
    | cont => exact False.elim hq
/-- x op y, both of the class -/
def rMine (C : Addr) (sp : Sp) : R2 := fun x y H Q => ∃ a b, x = .ref a ∧ y = .ref b ∧ Ins H a C ∧ Ins H b C ∧ sp [x, y] H Q E0
theorem op_mine {op : Operator} (hc : PySem.W.selfFirst X.K C = true) (hs : PySem.W.findIn X.K (.ref C) (PySem.dunder op.info.2) = some (some (.ref g))) (hf : PySem.W.isFn X.K (.ref g) = true) (F : FnOk X.prog X.w X.K X.mg X.base CX0 n g fd ps sp)
    (hr : Room n X.A) (hb : Binds X.K fd ps []) : OpR X (binaryOp op) (rMine C sp) := by
  intro pins s σ H x y v u Q I rx ry h
  obtain ⟨a, b, rfl, rfl, ha, hb', q⟩ := h
  cases (show v = Value.ref a from rx)
  cases (show u = Value.ref b from ry)
  obtain ⟨ox, od, J⟩ := ins_look I ha
  obtain ⟨oy, od', J'⟩ := ins_look I hb'
  obtain ⟨m, hF⟩ := I.fr
  refine PySem.W.binop_K hF I.ok.mod.kin J J'.type hc hs hf (wpAny_mono (run_below (us := [.ref a, .ref b]) (vs := [.ref a, .ref b]) F hr I.env0 hb I (.cons rfl (.cons rfl .nil)) q) (fun w s' z => ?_) fun _ _ x => x)
  obtain ⟨z', H', I', rz, qz⟩ := z
  exact SlX.cmpback rz ⟨z', H', I', rz, qz⟩
/-- x op i, i an int -/
def rMineI (C : Addr) (sp : Sp) : R2 := fun x y H Q => ∃ a i, x = .ref a ∧ y = .int i ∧ Ins H a C ∧ sp [x, y] H Q E0
theorem op_mineI {op : Operator} {fo ro rc : Option Value} (hc : PySem.W.selfFirst X.K C = true) (hs : PySem.W.findIn X.K (.ref C) (PySem.dunder op.info.2) = some (some (.ref g))) (hf : PySem.W.isFn X.K (.ref g) = true)
    (h1 : PySem.W.findIn X.K (.ref C) (dunderR op.info.2) = some none) (h2 : PySem.W.findIn X.K (.type "int") (PySem.dunder op.info.2) = some fo) (h3 : PySem.W.findIn X.K (.type "int") (dunderR op.info.2) = some ro)
    (h4 : PySem.W.subIn X.K (.type "int") (.ref C) = some false) (F : FnOk X.prog X.w X.K X.mg X.base CX0 n g fd ps sp)
    (hr : Room n X.A) (hb : Binds X.K fd ps []) : OpR X (binaryOp op) (rMineI C sp) := by
  intro pins s σ H x y v u Q I rx ry h
  obtain ⟨a, i, rfl, rfl, ha, q⟩ := h
  cases (show v = Value.ref a from rx)
  obtain ⟨t, e⟩ := (show ∃ t, u = Value.int i t from ry)
  cases e
  obtain ⟨ox, od, J⟩ := ins_look I ha
  obtain ⟨m, hF⟩ := I.fr
  refine PySem.W.ksp_binT (T := "int") hF I.ok.mod.kin J (by rfl) hc hs hf h1 (.inl rfl) h2 h3 h4 (wpAny_mono (run_below (us := [.ref a, .int i t]) (vs := [.ref a, .int i]) F hr I.env0 hb I (.cons rfl (.cons ⟨t, rfl⟩ .nil)) q) (fun w s' z => ?_) fun _ _ x => x)
  obtain ⟨z', H', I', rz, qz⟩ := z
  exact SlX.cmpback rz ⟨z', H', I', rz, qz⟩
/-- -x -/
theorem un_mine (hs : PySem.W.findIn X.K (.ref C) "__neg__" = some (some (.ref g))) (hf : PySem.W.isFn X.K (.ref g) = true) (F : FnOk X.prog X.w X.K X.mg X.base CX0 n g fd ps sp) (hr : Room n X.A) (hb : Binds X.K fd ps []) :
    UnR X (unaryOp .USub) (fun x H Q => ∃ a, x = .ref a ∧ Ins H a C ∧ sp [x] H Q E0) := by
  intro pins s σ H x v Q I rx h
  obtain ⟨a, rfl, ha, q⟩ := h
  cases (show v = Value.ref a from rx)
  obtain ⟨ox, od, J⟩ := ins_look I ha
  obtain ⟨m, hF⟩ := I.fr
  exact PySem.W.ksp_neg hF I.ok.mod.kin J hs hf (run_below (us := [.ref a]) (vs := [.ref a]) F hr I.env0 hb I (.cons rfl .nil) q)
/-- str(x) -/
theorem call_strMine (hs : PySem.W.findIn X.K (.ref C) "__str__" = some (some (.ref g))) (hf : PySem.W.isFn X.K (.ref g) = true) (F : FnOk X.prog X.w X.K X.mg X.base CX0 n g fd ps sp) (hr : Room (n + 2) X.A) (hb : Binds X.K fd ps []) :
    CallR X (.type "str") (fun xs H Q => ∃ a, xs = [.ref a] ∧ Ins H a C ∧ sp xs H (fun v H' => ∃ t, v = .str t ∧ Q v H') E0) := by
  intro pins s σ H xs us Q I r h
  obtain ⟨a, rfl, ha, q⟩ := h
  obtain ⟨u, rfl, ru⟩ := r.one
  cases (show u = Value.ref a from ru)
  obtain ⟨ox, od, J⟩ := ins_look I ha
  have hr2 : Room n X.A.in1.in1 := (show Room (n + 1) X.A.in1 from Room.in1 hr).in1
  refine PySem.W.kso_call hr2.units0 I.kIn J hs hf (wpAny_mono (run_below (us := [.ref a]) (vs := [.ref a]) F hr2 I.env0.in1.in1 hb I (.cons rfl .nil) q) (fun w s' z => ?_) fun _ _ x => x)
  obtain ⟨z', H', I', rz, t, et, qz⟩ := z
  subst et
  obtain ⟨tk, e⟩ := (show ∃ tk, w = Value.str t tk from rz)
  cases e
  exact ⟨.str t, H', I', ⟨tk, rfl⟩, qz⟩
/-- bool(x) -/
theorem call_boolMine (hs : PySem.W.findIn X.K (.ref C) "__bool__" = some (some (.ref g))) (hf : PySem.W.isFn X.K (.ref g) = true) (F : FnOk X.prog X.w X.K X.mg X.base CX0 n g fd ps sp) (hr : Room (n + 2) X.A) (hb : Binds X.K fd ps []) :
    CallR X (.type "bool") (fun xs H Q => ∃ a, xs = [.ref a] ∧ Ins H a C ∧ sp xs H (fun v H' => ∃ k, v = .bl k ∧ Q v H') E0) := by
  intro pins s σ H xs us Q I r h
  obtain ⟨a, rfl, ha, q⟩ := h
  obtain ⟨u, rfl, ru⟩ := r.one
  cases (show u = Value.ref a from ru)
  obtain ⟨ox, od, J⟩ := ins_look I ha
  have hr2 : Room n X.A.in1.in1 := (show Room (n + 1) X.A.in1 from Room.in1 hr).in1
  refine K02W.bool_own I.kIn J hs hf (wpAny_mono (run_below (us := [.ref a]) (vs := [.ref a]) F hr2 I.env0.in1.in1 hb I (.cons rfl .nil) q) (fun w s' z => ?_) fun _ _ x => x)
  obtain ⟨z', H', I', rz, k, ek, qz⟩ := z
  subst ek
  cases (show w = Value.bool k from rz)
  exact ⟨k, rfl, .bl k, H', I', rfl, qz⟩
/-- x == y, x of the class -/
def rEqMine (K : PySem.W.Frag) (C : Addr) (sp : Sp) : R2 := fun x y H Q => ∃ a t, x = .ref a ∧ Ins H a C ∧ TyX K H y t ∧ PySem.W.notFirst K C t = true ∧ sp [x, y] H Q E0
theorem op_eqMine (hs : PySem.W.findIn X.K (.ref C) "__eq__" = some (some (.ref g))) (hf : PySem.W.isFn X.K (.ref g) = true) (F : FnOk X.prog X.w X.K X.mg X.base CX0 n g fd ps sp) (hr : Room n X.A) (hb : Binds X.K fd ps []) :
    OpR X (compareOp .Eq) (rEqMine X.K C sp) := by
  intro pins s σ H x y v u Q I rx ry h
  obtain ⟨a, t, rfl, ha, ty, hn, q⟩ := h
  cases (show v = Value.ref a from rx)
  obtain ⟨ox, od, J⟩ := ins_look I ha
  obtain ⟨P, Z, hP, _⟩ := kit_of I ry ty
  obtain ⟨m, hF⟩ := I.fr
  show wpAny _ _ (richCompare .Eq (.ref a) u) _ _ _
  refine PySem.W.cmp_K (op := .Eq) hr.units0 hF I.ok.mod.kin J (Z.ty _ _ I.kIn hP) hn hs hf (wpAny_mono (run_below (us := [.ref a, u]) (vs := [.ref a, y]) F hr I.env0 hb I (.cons rfl (.cons ry .nil)) q) (fun w s' z => ?_) fun _ _ x => x)
  obtain ⟨z', H', I', rz, qz⟩ := z
  exact SlX.cmpback rz ⟨z', H', I', rz, qz⟩
/-- x != y, x of the class -/
def rNeMine (K : PySem.W.Frag) (C : Addr) (sp : Sp) : R2 := fun x y H Q => ∃ a t, x = .ref a ∧ Ins H a C ∧ TyX K H y t ∧ PySem.W.notFirst K C t = true ∧ sp [x, y] H (fun v H' => ∃ k, v = .bl k ∧ Q (.bl (!k)) H') E0
theorem op_neMine (hm : PySem.W.mroIn X.K C (.type "object") = some true) (hne : PySem.W.findIn X.K (.ref C) "__ne__" = some (some (.builtin "object.__ne__"))) (hs : PySem.W.findIn X.K (.ref C) "__eq__" = some (some (.ref g)))
    (hf : PySem.W.isFn X.K (.ref g) = true) (F : FnOk X.prog X.w X.K X.mg X.base CX0 n g fd ps sp) (hr : Room (n + 1) X.A) (hb : Binds X.K fd ps []) : OpR X (compareOp .NotEq) (rNeMine X.K C sp) := by
  intro pins s σ H x y v u Q I rx ry h
  obtain ⟨a, t, rfl, ha, ty, hn, q⟩ := h
  cases (show v = Value.ref a from rx)
  obtain ⟨ox, od, J⟩ := ins_look I ha
  obtain ⟨P, Z, hP, _⟩ := kit_of I ry ty
  show wpAny _ _ (richCompare .NotEq (.ref a) u) _ _ _
  refine K02W.ne_own hr.in1.units0 hr.units0 I.kIn J (Z.ty _ _ I.kIn hP) hn hm hne hs hf (wpAny_mono (run_below (us := [.ref a, u]) (vs := [.ref a, y]) F hr.in1 I.env0.in1 hb I (.cons rfl (.cons ry .nil)) q) (fun w s' z => ?_) fun _ _ x => x)
  obtain ⟨z', H', I', rz, k, ek, qz⟩ := z
  subst ek
  cases (show w = Value.bool k from rz)
  exact ⟨k, rfl, .bl (!k), H', I', rfl, qz⟩
end
end K02

/-! # try with several clauses, some of them with a name -/
namespace K02
open PySem PySem.Spec PyProof.Rows L2
theorem sp_map {X Y : Cx} {ps qs : List (Addr × Obj)} {D D' : Ends} {f : Flow} {s : Shared} (g : ∀ σ H, Inv X ps σ H s → ∃ τ, Inv Y qs τ H s ∧ (D.nx σ H → D'.nx τ H) ∧ (D.bk σ H → D'.bk τ H) ∧ (D.ct σ H → D'.ct τ H)) (gr : ∀ σ H v, Inv X ps σ H s → D.rt v H → (∃ τ, Inv Y qs τ H s) ∧ D'.rt v H)
    (h : SP X ps D f s) : SP Y qs D' f s := by
  cases f with
  | next => obtain ⟨σ, H, I, q⟩ := h; obtain ⟨τ, J, a, _, _⟩ := g σ H I; exact ⟨τ, H, J, a q⟩
  | brk => obtain ⟨σ, H, I, q⟩ := h; obtain ⟨τ, J, _, a, _⟩ := g σ H I; exact ⟨τ, H, J, a q⟩
  | cont => obtain ⟨σ, H, I, q⟩ := h; obtain ⟨τ, J, _, _, a⟩ := g σ H I; exact ⟨τ, H, J, a q⟩
  | ret u => obtain ⟨v, σ, H, I, r, q⟩ := h; obtain ⟨⟨τ, J⟩, a⟩ := gr σ H v I q; exact ⟨v, τ, H, J, r, a⟩
/-- what a clause wishes: the class, the name's slot where it has one, the suite -/
abbrev Cl := Value × Option Nat × (Addr → Value → Option Addr → TS)
def lose (o : Option Nat) (D : Ends) : Ends := match o with
  | none => D
  | some i => { nx := fun σ H => D.nx (σ.set i none) H, rt := D.rt, bk := fun σ H => D.bk (σ.set i none) H, ct := fun σ H => D.ct (σ.set i none) H }
def gain (o : Option Nat) (a : Addr) (σ : L2.St) : L2.St := match o with
  | none => σ
  | some i => σ.set i (some (.ref a))
def wMix (K : PySem.W.Frag) (W0 : WX) (D : Ends) : List Cl → WX
  | [] => W0
  | (c, o, ts) :: r => fun cls d σ H => ∃ b, PySem.W.exmOne K cls c = some b ∧ (b = true → ∀ a, H a = none → ts a cls d (lose o D) (gain o a σ) H) ∧ (b = false → wMix K W0 D r cls d σ H)
inductive Mix (X : Cx) : List ExceptHandler → List Cl → Prop
  | nil : Mix X [] []
  | plain {x : Str} {c : Value} {ts : Addr → Value → Option Addr → TS} {b : Stmt} {su : List Stmt} {p q : Pos} {hs : List ExceptHandler} {l : List Cl} (nm : Names X x c)
      (run : ∀ (a : Addr) (oe : Obj) (cls : Value) (d : Option Addr) (pn : List (Addr × Obj)), Zc cls d oe → (∃ vs, oe.data = .fields vs) → PSs (X.suite a ((a, oe) :: pn)) (b :: su) (ts a cls d)) (r : Mix X hs l) :
      Mix X (.ExceptHandler (some (.Name x p)) none (b :: su) q :: hs) ((c, none, ts) :: l)
  | named {x n : Str} {i : Nat} {c : Value} {ts : Addr → Value → Option Addr → TS} {b : Stmt} {su : List Stmt} {p q : Pos} {hs : List ExceptHandler} {l : List Cl} (at_ : X.N[i]? = some n) (lo : X.env.kindOf n = some .local) (nm : Names X x c)
      (run : ∀ (a : Addr) (oe : Obj) (cls : Value) (d : Option Addr) (pn : List (Addr × Obj)), Zc cls d oe → (∃ vs, oe.data = .fields vs) → PSs (X.suite a ((a, oe) :: pn)) (b :: su) (ts a cls d)) (r : Mix X hs l) :
      Mix X (.ExceptHandler (some (.Name x p)) (some n) (b :: su) q :: hs) ((c, some i, ts) :: l)
section
variable {X : Cx} {body : List Stmt} {h0 : ExceptHandler} {hs : List ExceptHandler} {l : List Cl} {pos : Pos} {tb : WX → TS} {W0 : WX}
theorem ps_try_mix (st : X.stack = X.env :: X.outer) (fr : X.env.frame = some X.env.locals) (nd : X.N.Nodup) (tk : Takes X W0)
    (bd : ∀ (W : WX) (pn : List (Addr × Obj)) (xe : Value → Shared → Prop), Takes (X.tr pn xe) W → PassesOwn (model X.prog X.w) X.A X.env xe → PSs (X.tr pn xe) body (tb W))
    (mx : Mix X (h0 :: hs) l) : PS X (.Try body (h0 :: hs) [] [] pos) (fun D σ H => tb (wMix X.K W0 D l) D σ H) := by
  refine ⟨fun pins s σ H D I h => wpAny_Try_except ?_⟩
  have ok := I.ok
  have frs_ : X.A.frames = some (X.env :: X.outer) := by rw [ok.frames, st]
  refine wpAny_mono ((bd (wMix X.K W0 D l) (X.pn ++ pins) (fun e s1 => wpAny (model X.prog X.w) X.A (noteFrame e X.env) (fun _ s2 => wpAny (model X.prog X.w) X.A (setFlight e none) (fun _ s3 =>
    wpAny (model X.prog X.w) X.A (handleBy e X.env (h0 :: hs)) (SP X pins D) X.xe s3) X.xe s2) X.xe s1) (fun u s' xx => ?_) PassesOwn.looking).run [] s σ H D (I.toTry _) h)
    (fun f s1 ends => ?_) (fun e s1 he => he)
  · obtain ⟨a, B, sI, pins', σ', H', cls, d, rfl, J', nb, up, sky, na, os, ag, w⟩ := xx
    have J : Inv X pins σ' H' sI := J'.ofTry ok
    rw [st] at sky
    refine Sky.land Zc.steady frs_ fr sky fun hA flA upA => ?_
    have JA : Inv X pins σ' H' { s' with heap := hA } := J.landed nb flA.1 (up.trans upA) os ag
    obtain ⟨oA, vA, eA, zA, dA⟩ := flA.there
    have off : a ∉ frs (X.env :: X.outer) := fun hm => by
      obtain ⟨_, o', e', no⟩ := (flA.2.2.1).mem hm
      rw [eA] at e'
      cases e'
      exact no _ dA
    have nL : a ≠ X.env.locals := fun z => off (List.mem_filterMap.mpr ⟨X.env, List.mem_cons_self, by rw [fr, z]⟩)
    have nF : a ∉ X.fs := fun hm => (List.mem_filterMap.mp hm).elim fun e he => off (List.mem_filterMap.mpr ⟨e, List.mem_cons_of_mem _ he.1, he.2⟩)
    have SA := JA.suite eA dA na nL nF
    have typ : PySem.W.Looks (model X.prog X.w) hA (typeOf (.ref a)) cls := fun _ _ _ _ k q => wpAny_typeOf_ref (k _ _ eA) (by rw [zA.1]; exact q)
    have asked : ∀ {x : Str} {c : Value} {p : Pos} {b : Bool} {Q : Bool → Shared → Prop} {E : Value → Shared → Prop}, Names X x c → PySem.W.exmOne X.K cls c = some b →
        Q b { s' with heap := hA } → wpAny (model X.prog X.w) (X.A.mark (some (.ref a))) (eval (.Name x p) X.env) (fun t s1 => wpAny (model X.prog X.w) (X.A.mark (some (.ref a))) (excMatches (.ref a) t) Q E s1) E { s' with heap := hA } := fun {x c p b Q E} nm eb q => by
      have LM := PySem.W.exm_one (M := model X.prog X.w) (JA.kIn) typ eb
      obtain ⟨hg, hdbg, hm | ⟨hm, hv, hnn⟩⟩ := nm
      · exact ld_glob (X := X.suite a ((a, oA) :: (X.pn ++ pins))) SA hg hm (LM.here q) hdbg
      · exact ld_blt (X := X.suite a ((a, oA) :: (X.pn ++ pins))) SA hg hm hv (LM.here q) hnn hdbg
    have go : ∀ {hs' : List ExceptHandler} {l' : List Cl}, Mix X hs' l' → wMix X.K W0 D l' cls d σ' H' → wpAny (model X.prog X.w) X.A (handleBy (.ref a) X.env hs') (SP X pins D) X.xe { s' with heap := hA } := by
      intro hs' l' hk
      induction hk with
      | nil =>
        intro w
        obtain ⟨k1, k2, k3, oe, vs, T, oT, ts', he, hz, hd, e1, hr⟩ := id flA
        refine wpAny_handleBy_nil ?_
        unfold PySem.passOn
        refine wpAny_bind (wpAny_field he hd e1 ?_)
        rw [if_neg (by simp)]
        have fin : wpAny (model X.prog X.w) X.A (setFlight (.ref a) X.env.frame) (fun _ s4 => wpAny (model X.prog X.w) X.A (throw (.ref a) : Sem Flow) (SP X pins D) X.xe s4) X.xe { s' with heap := hA } := by
          rw [fr]
          exact HandSPX.setFlight_upZ flA fun hB hhB upB => wpAny_throw (tk _ _ ⟨a, B, sI, pins, σ', H', cls, d, rfl, J, nb, (up.trans upA).trans upB, .inr (.inr (by rw [st]; exact hhB)), na, os, ag, w⟩)
        first | exact wpAny_bind fin | exact wpAny_bind (wpAny_pure (wpAny_bind fin))
      | @plain x c ts b su p q hs2 l2 nm run r ih =>
        intro w
        obtain ⟨k, ek, yes, no⟩ := w
        refine wpAny_handleBy_cons (codeAny_handlers_test (asked nm ek ?_)) (by intro q; cases q)
        cases k with
        | false => exact ih (no rfl)
        | true =>
          refine codeAny_handlers_suite (HandSPX.lands_againZ flA fun hB flB upB => ?_)
          have JB : Inv X pins σ' H' { s' with heap := hB } := J.landed nb flB.1 ((up.trans upA).trans upB) os ag
          obtain ⟨oB, vB, eB, zB, dB⟩ := flB.there
          refine wpAny_mono ((run a oB cls d (X.pn ++ pins) zB ⟨_, dB⟩).run [] _ _ H' _ (JB.suite eB dB na nL nF) (yes rfl a na)) (fun f s6 e6 => ?_) (fun _ _ z => False.elim z)
          have z := sp_map (Y := X) (qs := pins) (D' := D) (fun σ H I => ⟨σ, I.unsuite ok, id, id, id⟩) (fun σ H v I q => ⟨⟨σ, I.unsuite ok⟩, q⟩) e6
          cases f <;> exact z
      | @named x n i c ts b su p q hs2 l2 at_ lo nm run r ih =>
        intro w
        obtain ⟨k, ek, yes, no⟩ := w
        refine wpAny_handleBy_cons (codeAny_handlers_test (asked nm ek ?_)) (by intro q; cases q)
        cases k with
        | false => exact ih (no rfl)
        | true =>
          refine codeAny_handlers_suite_as (HandSPX.lands_againZ flA fun hB flB upB => ?_)
          have JB : Inv X pins σ' H' { s' with heap := hB } := J.landed nb flB.1 ((up.trans upA).trans upB) os ag
          obtain ⟨oB, vB, eB, zB, dB⟩ := flB.there
          refine store_ok (X := X.suite a ((a, oB) :: (X.pn ++ pins))) (v := .ref a) (JB.suite eB dB na nL nF) nd at_ (.inl lo) rfl (fun s5 S5 => ?_) (.inr lo)
          refine wpAny_mono ((run a oB cls d (X.pn ++ pins) zB ⟨_, dB⟩).run [] s5 _ H' _ S5 (yes rfl a na)) (fun f s6 e6 => ?_) (fun _ _ z => False.elim z)
          have done : ∀ {σ6 : L2.St} {H6 : Hp} {Q : Shared → Prop}, Inv (X.suite a ((a, oB) :: (X.pn ++ pins))) [] σ6 H6 s6 → (∀ s7, Inv X pins (σ6.set i none) H6 s7 → Q s7) →
              wpAny (model X.prog X.w) X.A (do bindName X.env n .none; unbindBehindTheSuite X.env n q) (fun _ s7 => Q s7) X.xe s6 := fun {σ6 H6 Q} S6 hq => gone_ok (S6.unsuite ok) nd at_ lo hq
          cases f with
          | next => obtain ⟨τ, G, S6, q6⟩ := e6; exact done S6 fun s7 J7 => ⟨_, _, J7, q6⟩
          | brk => obtain ⟨τ, G, S6, q6⟩ := e6; exact done S6 fun s7 J7 => ⟨_, _, J7, q6⟩
          | cont => obtain ⟨τ, G, S6, q6⟩ := e6; exact done S6 fun s7 J7 => ⟨_, _, J7, q6⟩
          | ret u => obtain ⟨v6, τ, G, S6, r6, q6⟩ := e6; exact done S6 fun s7 J7 => ⟨_, _, _, J7, r6, q6⟩
    exact go mx w
  · have z := sp_map (Y := X) (qs := pins) (D' := D) (fun σ H I => ⟨σ, I.ofTry ok, id, id, id⟩) (fun σ H v I q => ⟨⟨σ, I.ofTry ok⟩, q⟩) ends
    cases f with
    | next => exact wpAny_execs_nil z
    | brk => exact z
    | cont => exact z
    | ret u => exact z
end
end K02

namespace PySem
namespace NumX
open PySem.W PySem.Calls PyProof.Rows PySem.HandSPX
abbrev tailIE : List Value := [.type "IndexError", .type "LookupError", .type "Exception", .type "BaseException", .type "object"]
/-! ### the text of __init__ -/
def iA (p1 p2 : Pos) : Arguments := { posonlyargs := [], args := [{ arg := "self", annotation := none, pos := p1 }, { arg := "given", annotation := none, pos := p2 }], vararg := none, kwonlyargs := [], kw_defaults := [], kwarg := none, defaults := [] }
def iB (q1 q2 q3 q4 : Pos) : List Stmt := [.Assign [.Attribute (.Name "self" q1) "given" q2] (.Name "given" q3) q4]
def iS : Scope := { kind := .function, names := [(PySem.Str.ofString "self", .local), (PySem.Str.ofString "given", .local)], isGenerator := false, isCoroutine := false, more := [] }
/-- what the written part says of Low, at C, and of its __init__, at fI -/
structure NumTxt (K : Frag) (mg : Str → Option Value) (C fI : Addr) : Prop where
  gC : mg "InvalidNumber" = some (.ref C)
  cls : ∃ nm q N bs bm sn sub ab col dd k0 k1 k2 k3 k5, K.lookup C = some (excClassObj nm q C N bs bm true sn sub ab col dd k0 k1 k2 k3 k5 "IndexError.__new__") ∧ PySem.W.excTail tailIE bm = true
  over : excOver K C tailIE = true
  tk : takerIn K C "given" = some none
  sa : findIn K (.ref C) "__setattr__" = some (some (.builtin "object.__setattr__"))
  ga : findIn K (.ref C) "__getattribute__" = some (some (.builtin "BaseException.__getattribute__"))
  gg : findIn K (.ref C) "__getattr__" = some none
  noN : findIn K (.ref C) "given" = some none
  iC : findIn K (.ref C) "__init__" = some (some (.ref fI))
  tC : typeIn K (.ref fI) = some (.type "function")
  kC : keepIn K (.ref C) = true
  exC : subIn K (.ref C) (.type "BaseException") = some true
  tyC : typeIn K (.ref C) = some (.type "type")
  hdC : hasDictIn K C = true
  te : exmOne K (.ref C) (.ref C) = some true
  fn : ∃ (oc : Value) (od : Option Addr) (doc pm : Value) (an : Option Addr) (cdv ct : Value) (osl : Array (Option Value)) (p1 p2 q1 q2 q3 q4 : Pos),
    K.lookup fI = some ⟨oc, od, .func (fnOf "__init__" "InvalidNumber.__init__" (iA p1 p2) (iB q1 q2 q3 q4) iS .none .none doc pm an cdv ct), osl⟩ ∧ codeIn K cdv "InvalidNumber.__init__" = true
section
open Builtin Builtin.ObjectAttr
variable {prog : Program} {w : World} {A : Around} {E : Value → Shared → Prop} {R : Result → Shared → Prop} {hp : Heap} {g : Array GenState} {d : Drawn} {t : Nat} {os : OsState}
/-- the first field of an exception over IndexError is stored: its dict is made -/
theorem num_osa {K : Frag} {nam : Str} {tok : Tok} {u : Value} {ex C t0 : Addr} {cdt : ClassData} (X : K.In hp) (he : hp.get? ex = some (excO C t0)) (hcl : clsIn K C = some cdt) (hdi : cdt.hasDict = true) (hov : excOver K C tailIE = true) (htk : takerIn K C nam = some none)
    (go : ∀ h' tk' dx, (∀ b o, b ≠ ex → hp.get? b = some o → h'.get? b = some o) → hp.objs.size ≤ dx → dx ≠ ex → h'.get? ex = some { cls := .ref C, dict := some dx, data := .fields #[.ref t0, .none, .none, .none, .bool false, .none] } →
      h'.Ns1 dx (fun y => if y = nam then some u else none) → R (.ok (.ret .none)) ⟨h', g, d, tk', os⟩) :
    codeAny (model prog w) A (.call (.builtin "object.__setattr__") ⟨[.ref ex, .str nam tok, u], []⟩) R ⟨hp, g, d, t, os⟩ := by
  have J : InstAt hp ex (excO C t0) C none := ⟨he, rfl, rfl, trivial⟩
  have away : ex ≠ hp.objs.size := Nat.ne_of_lt (Heap.lt_size he)
  have look : Looks (model prog w) hp (classData C) cdt := looks_clsIn X hcl
  refine osa_openX F.store_IndexError X J hov htk (fun b => ?_)
  show wpAny _ _ (storeInOwnDict (.ref ex) (.ref C) (.str nam tok) nam u b) _ _ _
  obtain ⟨c1, c2, c3, c4, c5, c6, c7, c8, c9, c10, c11⟩ := cdt
  dsimp only at hdi
  subst hdi
  unfold storeInOwnDict ownDictForStores
  repeat (first | with_reducible refine store_in_new ?_ ?_ | with_reducible refine wpAny_loadPart_at he ?_ | with_reducible refine look.at ?_ | wp_step)
  · exact ⟨_, #[], _, (Heap.get?_update_ne _ _ _ _ away.symm).trans (Heap.get?_push_at rfl rfl), rfl, fun z hz => absurd hz (by simp), fun _ => rfl⟩
  · intro h' tk' hn' same
    have he1 : (hp.push { cls := .type "dict", data := .dict #[] }).get? ex = some (excO C t0) := Heap.get?_push_of_some _ he
    refine go h' tk' hp.objs.size (fun b o hb ho => ?_) (Nat.le_refl _) away.symm ?_ hn'
    · have y := same.2 b (Nat.ne_of_lt (Heap.lt_size ho))
      exact y.trans ((Heap.get?_update_ne _ _ _ _ hb).trans (Heap.get?_push_of_some _ ho))
    · exact (same.2 ex away).trans (Heap.get?_update_self _ he1 rfl)
end
theorem one_size (v : Value) : [v].length ≤ sizeLine := by
  rw [sizeLine_eq]
  exact (by decide : 1 ≤ 16777216)
theorem kept_but {K : Frag} {h h' : Heap} {x : Addr} (X : K.In h) (hx : K.lookup x = none) (k : ∀ b o, b ≠ x → h.get? b = some o → h'.get? b = some o) : K.In h' := fun a o e =>
  k a o (fun z => by rw [z, hx] at e; cases e) (X a o e)
theorem ldC {M : Model} {s : Shared} {name : Str} {scope : Scope} {L a : Addr} {cd : Value} {m : Str → Option Value} {x : Str} {pos : Pos} {v : Value} {Q : Value → Shared → Prop} {A : Around} {E : Value → Shared → Prop} (hn : s.heap.Ns L m) (hv : m x = some v) (h : Q v s)
    (hk : scope.kind = .function := by rfl) (hl : (envOfC name scope L a cd).kindOf x = some .local := by rfl) (hd : (x == ("__debug__" : Str)) = false := by decide) :
    wpAny M A (eval (.Name x pos) (envOfC name scope L a cd)) Q E s := wpAny_Name (wpAny_loadName_local hk hl hn hv h) hd
/-- what __init__ leaves of a fresh exception at x -/
structure InitEnd (h h' : Heap) (x C dx t1 : Addr) (v : Value) : Prop where
  keep : ∀ b o, b ≠ x → h.get? b = some o → h'.get? b = some o
  obj : h'.get? x = some { cls := .ref C, dict := some dx, data := .fields #[.ref t1, .none, .none, .none, .bool false, .none] }
  dbig : h.objs.size ≤ dx
  dne : dx ≠ x
  ns : h'.Ns1 dx (fun y => if y = "given" then some v else none)
/-- a made Low -/
structure OwnMade (h h' : Heap) (e C d : Addr) (v : Value) : Prop where
  keep : ∀ b o, h.get? b = some o → h'.get? b = some o
  new : h.objs.size ≤ e
  obj : ∃ oe vs, h'.get? e = some oe ∧ oe.cls = .ref C ∧ oe.dict = some d ∧ oe.data = .fields vs ∧ vs[1]? = some .none
  dbig : h.objs.size ≤ d
  dne : d ≠ e
  ns : h'.Ns1 d (fun y => if y = "given" then some v else none)
section
variable {prog : Program} {w : World} {A : Around} {E : Value → Shared → Prop} {R : Result → Shared → Prop} {s : Shared} {K : Frag} {mg : Str → Option Value} {C fI : Addr}
theorem num_init (T : NumTxt K mg C fI) {x t0 : Addr} {v : Value} (X : K.In s.heap) (hlim : s.heap.NoLimit) (hx : s.heap.get? x = some (excO C t0)) (hnx : K.lookup x = none) (hroom : A.depth < recursionLimit)
    (hq : ∀ h' tk dx, InitEnd s.heap h' x C dx t0 v → R (.ok (.ret .none)) { s with heap := h', toks := tk }) :
    codeAny (model prog w) A (.call (.ref fI) ⟨[.ref x, v], []⟩) R s := by
  obtain ⟨oc, od, doc, pm, an, cdv, ct, osl, p1, p2, q1, q2, q3, q4, ho, hcd⟩ := T.fn
  obtain ⟨nm, q, N, bs, bm, sn, sub, ab, col, dd, k0, k1, k2, k3, k5, hC, hbm⟩ := T.cls
  have hcl : clsIn K C = some { name := nm, bases := bs, mro := .ref C :: bm, ns := N, qualname := q, hasDict := true, slotNames := sn, subclasses := sub, abstract := ab, collection := col, hasDel := false } := by unfold clsIn; rw [hC] <;> rfl
  refine Att.call_fn (binds := [("self", .ref x), ("given", v)]) X hlim ho hcd hroom (BindsTo.of_eq (by first | rfl | with_unfolding_all rfl)) (by first | rfl | decide | with_unfolding_all rfl) (fun s₁ IC => ?_) rfl rfl rfl
  obtain ⟨h₁, tk₁, rfl⟩ := IC.toInCall.same
  have k : ∀ b o, s.heap.get? b = some o → h₁.get? b = some o := IC.toInCall.keep
  have hn := IC.toInCall.ns
  have hxL : s.heap.objs.size ≠ x := Nat.ne_of_gt (Heap.lt_size hx)
  have X₁ : K.In h₁ := X.keeps k
  have hx₁ := k _ _ hx
  -- self.by = by
  show wpAny _ _ (execs _ _) _ _ _
  refine wpAny_execs_cons (plainObj_wpAny_Assign_Attribute ?_)
  refine ldC (v := v) hn (by first | rfl | with_unfolding_all rfl | kernel_rfl) (ldC (v := .ref x) hn (by first | rfl | with_unfolding_all rfl | kernel_rfl) ?_)
  refine set_plain X₁ (ox := excO C t0) (od := none) ⟨hx₁, rfl, rfl, trivial⟩ T.sa ?_
  refine num_osa X₁ hx₁ hcl rfl T.over T.tk (fun h₃ tk₃ dx k₃ dn dne hx₃ hn₃ => ?_)
  show wpAny _ _ (execs _ _) _ _ _
  have z : s.heap.objs.size < h₁.objs.size := hn.lt
  exact wpAny_execs_nil (hq h₃ tk₃ dx ⟨fun b o hb e => k₃ b o hb (k b o e), hx₃, Nat.le_of_lt (Nat.lt_of_lt_of_le z dn), dne, hn₃⟩)
theorem num_made (T : NumTxt K mg C fI) {v : Value} (X : K.In s.heap) (hlim : s.heap.NoLimit) (hroom : A.depth + 1 < recursionLimit)
    (hq : ∀ h' tk e d, OwnMade s.heap h' e C d v → R (.ok (.ret (.ref e))) { s with heap := h', toks := tk }) :
    codeAny (model prog w) A (.call (.ref C) ⟨[v], []⟩) R s := by
  obtain ⟨nm, q, N, bs, bm, sn, sub, ab, col, dd, k0, k1, k2, k3, k5, hC, hbm⟩ := T.cls
  obtain ⟨hp, g, dr, tk, os⟩ := s
  have k : ∀ b o, hp.get? b = some o → ((hp.push (kdv_tup [v])).push (excO C hp.objs.size)).get? b = some o := fun b o e => Heap.get?_push_of_some _ (Heap.get?_push_of_some _ e)
  have hget : ((hp.push (kdv_tup [v])).push (excO C hp.objs.size)).get? (hp.objs.size + 1) = some (excO C hp.objs.size) := by heap_get
  have hnx : K.lookup (hp.objs.size + 1) = none := by
    cases e : K.lookup (hp.objs.size + 1) with
    | none => rfl
    | some o =>
      have z : hp.get? (hp.objs.size + 1) = some o := X _ _ e
      exact absurd (Nat.lt_of_succ_lt (Heap.lt_size z)) (Nat.lt_irrefl _)
  refine call_own F.excBase_IndexError (fun X => PySem.W.excTail_contains X bm hbm) (X _ _ hC) (looks_findIn X T.iC) (fun self => bind_fn X self T.tC) (one_size v) ?_
  refine num_init (s := ⟨(hp.push (kdv_tup [v])).push (excO C hp.objs.size), g, dr, tk, os⟩) T (X.keeps k) (hlim.keeps k) hget hnx ?_ fun h' tk' dx ⟨k', hx, dn, dne, hns⟩ => ?_
  · show A.depth + 1 < recursionLimit
    exact hroom
  · have old : ∀ b o, hp.get? b = some o → h'.get? b = some o := fun b o e => k' b o (Nat.ne_of_lt (Nat.lt_succ_of_lt (Heap.lt_size e))) (k b o e)
    have z : hp.objs.size + 1 + 1 ≤ dx := by
      first
        | (simpa only [Heap.size_push] using dn)
        | exact dn
        | (have q := dn; rw [Heap.size_push, Heap.size_push] at q; exact q)
    exact ⟨rfl, hq h' tk' (hp.objs.size + 1) dx ⟨old, Nat.le_succ _, ⟨_, _, hx, rfl, rfl, rfl, rfl⟩, Nat.le_trans (Nat.le_trans (Nat.le_succ _) (Nat.le_succ _)) z, dne, hns⟩⟩
end
end NumX
end PySem
namespace L2
open PySem PySem.Spec PyProof.Rows
theorem relO_num {v : V} {v' : Value} (r : RelV v v') (f : Str) : RelO (List.lookup f [(("given" : Str), v)]) (if f = "given" then some v' else none) := by
  by_cases hw : f = "given"
  · subst hw
    rw [if_pos rfl]
    have q : List.lookup ("given" : Str) [(("given" : Str), v)] = some v := by simp [List.lookup]
    rw [q]
    exact r
  · rw [if_neg hw]
    have qw : (f == ("given" : Str)) = false := by simpa using hw
    have q2 : List.lookup f [(("given" : Str), v)] = none := by simp [List.lookup, qw]
    rw [q2]
    trivial
section
variable {X : Cx} {C fI : Addr}
/-- Low(e) -/
def tMkNum (C : Addr) (ta : TA) : St → Hp → XK → Prop := fun σ H Q => ta σ H fun vs H1 => ∃ v, vs = [v] ∧ ∀ d, H1 d = none → Q (.ref C) (some d) (upd H1 d (.xd [(("given" : Str), v)]))
theorem pmk_num {a : Expr} {ta : TA} {p pos : Pos} {k : Nat} (T : PySem.NumX.NumTxt X.K X.mg C fI) (hr : Room k X.A) (ha : PA X [a] ta) (hg : Gl X "InvalidNumber" := by rfl)
    (he : starEach (a :: []) X.env = (false, eval a X.env) :: starEach [] X.env := by rfl) (hpl : (backTo pos (starEach [] X.env)).any (·.1) = false := by rfl) :
    PMk X (.Call (.Name "InvalidNumber" p) [a] [] pos) (tMkNum C ta) := by
  intro pins s σ H Q I h
  refine wpAny_Call_Name_kw (ld_glob I hg T.gC ?_)
  refine PySem.W.callWith_K (h₀ := X.base) I.ok.mod.kin T.kC (thn (ha.run pos pins s σ H _ I h) fun us s1 hh => ?_) he hpl
  obtain ⟨vs, H1, I1, r1, v, ev, q1⟩ := hh
  subst ev
  refine ⟨I1.kIn, ?_⟩
  cases r1 with
  | cons rv rn =>
    rename_i v' us'
    cases rn
    show wpAny _ _ (call (.ref C) [v']) _ _ _
    have hlim := I1.nolimit
    obtain ⟨hp, g, dr, tk, os⟩ := s1
    refine wpAny_call (PySem.NumX.num_made T I1.kIn hlim (by have := hr.dp; omega) fun h' tk' e d M => ?_)
    show MkP X pins σ Q (.ref e) ⟨h', g, dr, tk', os⟩
    obtain ⟨oe, fv, hoe, hc, hd, hdat, h1⟩ := M.obj
    have hns := M.ns
    obtain ⟨G', g1, g2⟩ := restrict h' fun b => decide (b ≠ e)
    have gk : ∀ b, b ≠ e → G'.get? b = h'.get? b := fun b hb => g1 b (decide_eq_true hb)
    have ge : G'.get? e = none := g2 e (by simp)
    have old : ∀ b o, hp.get? b = some o → G'.get? b = some o := fun b o q => (gk b (Nat.ne_of_lt (Nat.lt_of_lt_of_le (Heap.lt_size q) M.new))).trans (M.keep b o q)
    have ob : ObjOk X.prog X.w (upd H1 d (.xd [(("given" : Str), v)])) G' d (.xd [(("given" : Str), v)]) :=
      ⟨_, hns.at (fun o q => (gk d M.dne).trans q), fun f => relO_num rv f⟩
    have J : Inv X pins σ (upd H1 d (.xd [(("given" : Str), v)])) ⟨G', g, dr, tk', os⟩ := I1.laid (t' := tk') old M.dbig ob
    refine ⟨e, oe, fv, ⟨G', g, dr, tk', os⟩, _, .ref C, some d, rfl, J, fun b o q => ?_, ge, hoe, ⟨hc, hd⟩, hdat, h1, ?_, rfl, I1.bare, raises_own T.exC T.tyC, q1 d (I1.hok.fresh M.dbig)⟩
    · by_cases hb : b = e
      · have q' : G'.get? b = some o := q
        rw [hb, ge] at q'; cases q'
      · exact (gk b hb).symm.trans q
    · rw [upd_ne (Ne.symm M.dne)]
      exact I1.hok.fresh M.new
/-- raise Low(e) -/
def tRaiseNum (C : Addr) (W : WX) (ta : TA) : TS := fun _ σ H => tMkNum C ta σ H fun cls d H' => W cls d σ H'
theorem ps_raiseNum {a : Expr} {ta : TA} {W : WX} {p pos pos2 : Pos} {k : Nat} (hc : X.calm = true) (T : PySem.NumX.NumTxt X.K X.mg C fI) (hr : Room k X.A) (tk : Takes X W) (ha : PA X [a] ta) (hg : Gl X "InvalidNumber" := by rfl)
    (he : starEach (a :: []) X.env = (false, eval a X.env) :: starEach [] X.env := by rfl) (hpl : (backTo pos (starEach [] X.env)).any (·.1) = false := by rfl) :
    PS X (.Raise (some (.Call (.Name "InvalidNumber" p) [a] [] pos)) none pos2) (tRaiseNum C W ta) := ps_raise hc tk (pmk_num T hr ha hg he hpl)
/-- low.by, low the exception that the suite holds (at a; its class cls, its dict d) -/
def tGiven (C : Addr) (a : Addr) (cls : Value) (d : Option Addr) (te : TE) : TE := fun σ H Q => te σ H fun x H1 => x = .ref a ∧ cls = .ref C ∧ ∃ (dd : Addr) (v : V), d = some dd ∧ H1 dd = some (.xd [(("given" : Str), v)]) ∧ Q v H1
theorem pe_given {a : Addr} {oe : Obj} {cls : Value} {d : Option Addr} {pn : List (Addr × Obj)} {e : Expr} {te : TE} {pos : Pos} (T : PySem.NumX.NumTxt X.K X.mg C fI) (hz : Zc cls d oe) (hf : ∃ vs, oe.data = .fields vs) (he : PE (X.suite a ((a, oe) :: pn)) e te)
    (hb : attributeBase e "given" X.env (eval e X.env) = eval e X.env := by rfl) :
    PE (X.suite a ((a, oe) :: pn)) (.Attribute e "given" pos) (tGiven C a cls d te) := by
  refine ⟨fun pins s σ H Q I h => ?_⟩
  refine attr_of hb (thn (he.run pins s σ H _ I h) fun u s1 hh => ?_)
  obtain ⟨x, H1, I1, rx, ex, ec, dd, v, ed, ea, q⟩ := hh
  subst ex
  obtain rfl : u = Value.ref a := rx
  subst ec
  subst ed
  obtain ⟨ha, _⟩ := I1.pin (a, oe) (List.mem_append_left _ List.mem_cons_self)
  obtain ⟨vs, hd⟩ := hf
  have hx : ObjOk X.prog X.w H1 s1.heap dd (.xd [(("given" : Str), v)]) := I1.hok dd _ ea
  obtain ⟨mA, hns, hr⟩ := hx
  obtain ⟨od, ho, hl⟩ := lookIn_ns hns
  have l : List.lookup ("given" : Str) [(("given" : Str), v)] = some v := by simp [List.lookup]
  obtain ⟨u, hu, ru⟩ := RelO.some_of (v := v) (o := mA "given") (by rw [← l]; exact hr "given")
  have J : PySem.W.InstAt s1.heap a oe C (some od) := ⟨ha, hz.1, by unfold PySem.W.notCls; rw [hd] <;> rfl, by rw [hz.2]; exact ho⟩
  exact HandSPX.exc_get I1.kIn J T.ga T.gg T.exC (PySem.W.findObj_own T.hdC T.noN rfl (by rw [hl, hu])) (handed_of ru) ⟨v, H1, I1.tok _, ru, q⟩
end
end L2

namespace K02
open PySem PySem.Spec PyProof.Rows L2
/-! ### rules of my own -/
/-- ** of a base of any size, the result below 2 ^ 27 bits -/
def CPowW (i j : Int) : Prop := 0 ≤ j ∧ (Builtin.Int.intBits i : Int) * j ≤ 2 ^ 27
theorem op_powW {X : Cx} : OpR X (binaryOp .Pow) (rI CPowW fun i j => .int (i ^ j.toNat)) := opI fun _ _ _ _ _ _ _ hc q => pow_int hc.1 hc.2 q
theorem sub_same {H : Hp} {p : Addr} {o : HO} (h : H p = none) : Same H (upd H p o) := fun b x e => by
  rw [upd_ne (ne_of_none e h)]
  exact e
/-- all but one address as before -/
def But (a : Addr) (H H' : Hp) : Prop := ∀ b, b ≠ a → H' b = H b
theorem But.refl (a : Addr) (H : Hp) : But a H H := fun _ _ => rfl
theorem But.trans {a : Addr} {H H1 H2 : Hp} (x : But a H H1) (y : But a H1 H2) : But a H H2 := fun b hb => (y b hb).trans (x b hb)
theorem but_upd (a : Addr) (H : Hp) (o : HO) : But a H (upd H a o) := fun b hb => upd_ne hb
/-! ### the urn: a list of three ints -/
def Urn (H : Hp) (a : Addr) : Prop := ∃ g m c : Int, H a = some (.lst [.int g, .int m, .int c])
theorem Urn.seq {K : PySem.W.Frag} {H : Hp} {a : Addr} {xs : List V} (h : H a = some (.lst xs)) : SqL K H a xs := .inl (.inl h)
abbrev s_law_take : Stmt := topS 21
theorem sc_law_take : FnScope ["_law_urn_here", "_law_total", "_law_found", "_law_one", "_law_two"] ["_law_urn_here", "_law_total"] (defScope s_law_take) := ⟨rfl, rfl, rfl, by decide +kernel, rfl, by decide +kernel, by decide +kernel⟩
abbrev s_law_some : Stmt := topS 22
theorem sc_law_some : FnScope ["_law_urn_here", "_law_items"] ["_law_urn_here", "_law_items"] (defScope s_law_some) := ⟨rfl, rfl, rfl, by decide +kernel, rfl, by decide +kernel, by decide +kernel⟩
section
variable {P : Program} {w : World} {K : PySem.W.Frag} {mg : Str → Option Value} {base : Heap}
structure Txt (mg : Str → Option Value) : Prop where
  n_len : mg "len" = none
  n_abs : mg "abs" = none
  n_int : mg "int" = none
  n_bool : mg "bool" = none
  n_max : mg "max" = none
  n_min : mg "min" = none
  n_sum : mg "sum" = none
  n_tuple : mg "tuple" = none
  n_range : mg "range" = none
  n_repr : mg "repr" = none
  n_isinstance : mg "isinstance" = none
  n_reversed : mg "reversed" = none
structure D (K : PySem.W.Frag) (mg : Str → Option Value) (x : Str) (st : Stmt) (ps : List Str) (f : Addr) (fd : FuncData) : Prop where
  F : Fun K x x st f fd
  g : mg x = some (.ref f)
  b : Binds K fd ps []
/-- a drawn number below the total -/
def spTake : Sp := fun vs H Q _ => ∃ (a : Addr) (t : Int), vs = [.ref a, .int t] ∧ Urn H a ∧ 0 < t ∧ t.natAbs.log2 < 9000 ∧
  ∀ (v : Int) (H' : Hp), 0 ≤ v → v < t → Urn H' a → But a H H' → Q (.int v) H'
theorem ok_take {f : Addr} {fd : FuncData} {k : Nat} (T : Txt mg) (d : D K mg "_law_take" s_law_take ["_law_urn_here", "_law_total"] f fd) :
    FnOk P w K mg base CX0 (k + 1) f fd ["_law_urn_here", "_law_total"] spTake := by
  refine d.F.ok sc_law_take (fun vs H Q E h => ?_) (fun cdv A outer s H vs Q E hr h => ?_)
  · obtain ⟨a, t, rfl, _⟩ := h
    rfl
  · obtain ⟨a, t, rfl, ⟨g, m, c, hu⟩, ht, hl, q⟩ := h
    refine ⟨_, (pss_cons (ps_if (pt_cmpR op_gt (pe_ix ix_list (pv 0) pe_int (fun _ _ => rfl)) pe_int (nomark _)) (pss_cons (ps_set (i := 2) sc_law_take.nd rfl (.inl rfl) (pe_op op_mod (pe_callTy call_int1 (by rfl) T.n_int (by decide +kernel) (pa_cons (pe_ix ix_list (pv 0) pe_int (fun _ _ => rfl)) pa_nil)) (pv 1)))
        (pss_cons (ps_asg (pe_op op_fdivW (pe_ix ix_list (pv 0) pe_int (fun _ _ => rfl)) (pv 1)) (pg_sub (pv 0) pe_int set_list))
        (pss_one (ps_ret (pv 2))))) pss_nil)
      (pss_cons (ps_asg (pe_op op_add (pe_ix ix_list (pv 0) pe_int (fun _ _ => rfl)) pe_int) (pg_sub (pv 0) pe_int set_list))
      (pss_cons (ps_set (i := 3) sc_law_take.nd rfl (.inl rfl) (pe_op op_mod (pe_callTy call_int1 (by rfl) T.n_int (by decide +kernel) (pa_cons (pe_op op_add (pe_ix ix_list (pv 0) pe_int (fun _ _ => rfl)) (pe_op op_mul pe_int (pe_ix ix_list (pv 0) pe_int (fun _ _ => rfl)))) pa_nil)) pe_int))
      (pss_cons (ps_set (i := 4) sc_law_take.nd rfl (.inl rfl) (pe_op op_mod (pe_callTy call_int1 (by rfl) T.n_int (by decide +kernel) (pa_cons (pe_op op_add (pe_op op_mul (pv 3) (pv 3)) (pe_op op_mul pe_int (pe_ix ix_list (pv 0) pe_int (fun _ _ => rfl)))) pa_nil)) pe_int))
      (pss_one (ps_ret (pe_op op_mod (pe_callTy call_int1 (by rfl) T.n_int (by decide +kernel) (pa_cons (pe_op op_fdivW (pe_op op_mod (pe_callTy call_int1 (by rfl) T.n_int (by decide +kernel) (pa_cons (pe_op op_add (pe_op op_mul (pv 4) pe_int) (pv 3)) pa_nil)) pe_int) pe_int) pa_nil)) (pv 1)))))))), ?_⟩
    have A0 : ∀ {xs : List V} {v : V} {i : Int}, xs = [.int g, .int m, .int c] → atI xs i = some v → True := fun _ _ => trivial
    -- if urn[0] > 0
    refine ⟨.ref a, rfl, a, _, 0, .int g, rfl, rfl, Urn.seq hu, atI_nat (j := 0) rfl, g, 0, rfl, rfl, _, rfl, ite2 (fun e => ?_) (fun e => ?_)⟩
    · refine ⟨.ref a, rfl, ⟨a, _, 0, .int g, rfl, rfl, Urn.seq hu, atI_nat (j := 0) rfl, .inl ⟨g, rfl, .int t, rfl, g, t, rfl, rfl, ht, ?_⟩⟩⟩
      refine ⟨.ref a, rfl, ⟨a, _, 0, .int g, rfl, rfl, Urn.seq hu, atI_nat (j := 0) rfl, .int t, rfl, g, t, rfl, rfl, ⟨ht, hl⟩, ?_⟩⟩
      refine ⟨.ref a, rfl, a, _, 0, 0, rfl, rfl, hu, rfl, ?_⟩
      exact ⟨_, rfl, q _ _ (Int.emod_nonneg _ (by omega)) (Int.emod_lt_of_pos _ ht) ⟨_, _, _, upd_same⟩ (but_upd _ _ _)⟩
    · refine ⟨.ref a, rfl, ⟨a, _, 2, .int c, rfl, rfl, Urn.seq hu, atI_nat (j := 2) rfl, c, 1, rfl, rfl, ?_⟩⟩
      refine ⟨.ref a, rfl, a, _, 2, 2, rfl, rfl, hu, rfl, ?_⟩
      have h1 : (upd H a (.lst ([.int g, .int m, .int c].set 2 (.int (c + 1))))) a = some (.lst [.int g, .int m, .int (c + 1)]) := upd_same
      have b1 := but_upd a H (.lst ([.int g, .int m, .int c].set 2 (.int (c + 1))))
      revert h1 b1
      generalize upd H a (.lst ([.int g, .int m, .int c].set 2 (.int (c + 1)))) = H1
      intro h1 b1
      refine ⟨.ref a, rfl, ⟨a, _, 1, .int m, rfl, rfl, Urn.seq h1, atI_nat (j := 1) rfl, ?_⟩⟩
      refine ⟨.ref a, rfl, ⟨a, _, 2, .int (c + 1), rfl, rfl, Urn.seq h1, atI_nat (j := 2) rfl, ?_⟩⟩
      refine ⟨_, _, rfl, rfl, .inl (by decide), _, _, rfl, rfl, .inl ⟨_, rfl, _, _, rfl, rfl, (by show (0 : Int) < _; decide), ?_⟩⟩
      generalize ho : (m + 1299709 * (c + 1)) % 2305843009213693951 = o
      have o0 : 0 ≤ o := by omega
      have o1 : o < 2305843009213693951 := by omega
      refine ⟨_, rfl, _, rfl, _, _, rfl, rfl, .inl (by omega), ?_⟩
      refine ⟨.ref a, rfl, ⟨a, _, 2, .int (c + 1), rfl, rfl, Urn.seq h1, atI_nat (j := 2) rfl, ?_⟩⟩
      refine ⟨_, _, rfl, rfl, .inl (by decide), _, _, rfl, rfl, .inl ⟨_, rfl, _, _, rfl, rfl, (by show (0 : Int) < _; decide), ?_⟩⟩
      generalize (o * o + 15485863 * (c + 1)) % 1152921504606846883 = z
      refine ⟨_, rfl, _, _, rfl, rfl, .inr (by decide), _, rfl, _, _, rfl, rfl, .inl ⟨_, rfl, _, _, rfl, rfl, (by show (0 : Int) < _; decide), _, _, rfl, rfl, ⟨by decide, by decide⟩, .inl ⟨_, rfl, _, rfl, _, _, rfl, rfl, ht, ?_⟩⟩⟩
      exact q _ _ (Int.emod_nonneg _ (by omega)) (Int.emod_lt_of_pos _ ht) ⟨_, _, _, h1⟩ b1
/-- one of the items -/
def spSome : Sp := fun vs H Q _ => ∃ (a b : Addr) (xs : List V), vs = [.ref a, .ref b] ∧ Urn H a ∧ H b = some (.lst xs) ∧ b ≠ a ∧ xs ≠ [] ∧ xs.length ≤ 1000 ∧
  ∀ (i : Nat) (x : V) (H' : Hp), xs[i]? = some x → Urn H' a → But a H H' → Q x H'
theorem ok_some {f ft : Addr} {fd fdt : FuncData} {k : Nat} (T : Txt mg) (d : D K mg "_law_some" s_law_some ["_law_urn_here", "_law_items"] f fd) (dt : D K mg "_law_take" s_law_take ["_law_urn_here", "_law_total"] ft fdt) :
    FnOk P w K mg base CX0 (k + 2) f fd ["_law_urn_here", "_law_items"] spSome := by
  have G : FnOk P w K mg base CX0 (k + 1) ft fdt ["_law_urn_here", "_law_total"] spTake := ok_take T dt
  refine d.F.ok sc_law_some (fun vs H Q E h => ?_) (fun cdv A outer s H vs Q E hr h => ?_)
  · obtain ⟨a, b, xs, rfl, _⟩ := h
    rfl
  · obtain ⟨a, b, xs, rfl, hu, hb, hne, hx, hz, q⟩ := h
    refine ⟨_, (pss_one (ps_ret (pe_ix ix_list (pv 1) (pe_call G hr (by rfl) dt.g dt.F.kp dt.b .nil pass0 (pa_cons (pv 0) (pa_cons (pe_callB call_len_seq (by rfl) T.n_len PySem.boot_len (pa_cons (pv 1) pa_nil)) pa_nil))) (fun _ _ => rfl)))), ?_⟩
    refine ⟨.ref b, rfl, .ref a, rfl, .ref b, rfl, b, xs, rfl, .inl (Urn.seq hb), a, _, rfl, hu, ?_, ?_, fun v H' v0 v1 hu' hk => ?_⟩
    · cases xs with
      | nil => exact absurd rfl hx
      | cons x r => rw [List.length_cons]; omega
    · have e : ((xs.length : Int)).natAbs = xs.length := Int.natAbs_natCast _
      rw [e]
      exact Nat.lt_of_le_of_lt (Nat.log2_le_self _) (by omega)
    · obtain ⟨j, rfl⟩ : ∃ j : Nat, v = (j : Int) := ⟨v.toNat, by omega⟩
      have hv : j < xs.length := by omega
      exact ⟨b, xs, j, xs[j], rfl, rfl, Urn.seq ((hk b hne).trans hb), atI_nat (List.getElem?_eq_getElem hv), q j _ H' (List.getElem?_eq_getElem hv) hu' hk⟩
end

/-- a def's promise, kept where no repr is under way -/
structure FnG (P : Program) (w : World) (K : PySem.W.Frag) (mg : Str → Option Value) (base : Heap) (CX : CXT) (k : Nat) (f : Addr) (fd : FuncData) (ps : List Str) (sp : Sp) : Prop where
  size : ∀ vs H Q E, sp vs H Q E → vs.length = ps.length
  runs : ∀ (A : Around) (out : List Env) (s : Shared) (H : Hp) (ar : Args) (us : List Value) (vs : List V) (Q : VK) (E : XK), A.guards = some [] → Room k A → Env0 P w K mg base A out s H → BindsTo s fd ar (ps.zip us) → Vals vs us → sp vs H Q E →
    codeAny (model P w) A (.call (.ref f) ar) (CR CX out P w H s Q E) s
theorem deep_guards {A : Around} {env : Env} (h : A.guards = some []) : (A.deeper env).guards = some [] := by
  first | exact h | (simp [Around.deeper, h])
theorem FnG.of {P : Program} {w : World} {K : PySem.W.Frag} {mg : Str → Option Value} {base : Heap} {k : Nat} {x qual : Str} {st : Stmt} {f : Addr} {fd : FuncData} {N ps : List Str} {sp : Sp} (F : Fun K x qual st f fd) (S : FnScope N ps (defScope st))
    (size : ∀ vs H Q E, sp vs H Q E → vs.length = ps.length)
    (body : ∀ (cdv : Value) (A : Around) (out : List Env) (s : Shared) (H : Hp) (vs : List V) (Q : VK) (E : XK), (A.deeper (envOfC qual (defScope st) s.heap.objs.size f cdv)).guards = some [] → Room k (A.deeper (envOfC qual (defScope st) s.heap.objs.size f cdv)) → sp vs H Q E →
      ∃ t, PSs (cxOf CX0 P w K mg base N qual (defScope st) f cdv A out s H E).nox (defBody st) t ∧ t { nx := fun _ H' => Q .non H', rt := Q } (start N vs) H) :
    FnG P w K mg base CX0 (k + 1) f fd ps sp := by
  obtain ⟨oc, od, kV, doc, pm, an, cdv, ct, osl, rfl, lk, hcd⟩ := F.ex
  refine ⟨size, fun A out s H ar us vs Q E hg hr e0 hb r hs => ?_⟩
  have many := size _ _ _ _ hs
  have low : ∀ b o, base.get? b = some o → s.heap.get? b = some o := fun b o e => (e0.bs b o e).1
  refine Att.call_fn (e0.mod.kin.keeps low) (e0.mod.nolimit.keeps low) lk hcd hr.depth hb ?_ (fun s1 x => ?_) S.co S.gen S.kind
  · rw [List.all_eq_true]
    rintro ⟨n, v⟩ hy
    have z := S.par n (List.of_mem_zip hy).1
    rcases z with z | z <;> simp [z]
  · obtain ⟨t, ht, hq⟩ := body cdv A out s H vs Q E (deep_guards hg) (hr.deeper _) hs
    have I : Inv (cxOf CX0 P w K mg base N qual (defScope st) f cdv A out s H E) [] (start N vs) H s1 := inv_start S hr.hd e0 many r x
    refine wpAny_mono (ht.nox.run [] s1 (start N vs) H _ I hq) (fun fl s' ends => ?_) fun e s' z => z
    have fin : ∀ {σ : L2.St} {H' : Hp} {v : V} {u : Value}, Inv (cxOf CX0 P w K mg base N qual (defScope st) f cdv A out s H E) [] σ H' s' → RelV v u → Q v H' → CE out P w H s Q u s' := fun {_ H' v _} J rv q =>
      ⟨v, H', J.os, J.bare, J.base, J.hok, rv, q⟩
    cases fl with
    | ret u =>
      obtain ⟨v, σ, H', J, rv, q⟩ := ends
      exact fin J rv q
    | next =>
      obtain ⟨σ, H', J, q⟩ := ends
      exact fin (v := V.non) (u := Value.none) J rfl q
    | brk =>
      obtain ⟨_, _, _, no⟩ := ends
      exact False.elim no
    | cont =>
      obtain ⟨_, _, _, no⟩ := ends
      exact False.elim no
section
variable {X : Cx} {k : Nat} {f : Addr} {fd : FuncData} {ps : List Str} {sp : Sp} {x : Str} {p pos : Pos} {e : Expr} {es : List Expr} {t : TA}
/-- f(e, ..) where no repr is under way -/
theorem pe_callG (G : FnG X.prog X.w X.K X.mg X.base CX0 k f fd ps sp) (no : X.A.guards = some []) (hr : Room k X.A) (hg : Gl X x) (hm : X.mg x = some (.ref f)) (hk : PySem.W.keepIn X.K (.ref f) = true) (hb : Binds X.K fd ps [])
    (ha : PA X (e :: es) t) (hdb : (x == ("__debug__" : Str)) = false := by decide) (he : starEach (e :: es) X.env = (false, eval e X.env) :: starEach es X.env := by rfl) (hpl : (backTo pos (starEach es X.env)).any (·.1) = false := by rfl) :
    PE X (.Call (.Name x p) (e :: es) [] pos) (tCall sp [] E0 t) := by
  refine ⟨fun pins s σ H Q I h => wpAny_Call_Name_kw (ld_glob I hg hm ?_ hdb)⟩
  refine PySem.W.callWith_K (h₀ := X.base) I.ok.mod.kin hk (thn (ha.run pos pins s σ H _ I h) fun us s1 ⟨vs, H1, I1, r, q⟩ => ⟨I1.kIn, ?_⟩) he hpl
  have q1 : sp vs H1 Q E0 := by
    have q2 : sp (vs ++ []) H1 Q E0 := q
    rwa [List.append_nil] at q2
  have many : (us ++ []).length = ps.length := by
    rw [List.append_nil, ← r.length]
    exact G.size _ _ _ _ q1
  have bnd := hb s1 us I1.kIn many
  rw [List.append_nil] at bnd
  refine wpAny_call (codeAny_mono (G.runs X.A X.stack s1 H1 ⟨us, []⟩ us vs Q E0 no hr I1.env0 bnd r q1) fun res s' z => ?_)
  cases res with
  | error e => exact False.elim z
  | ok fl =>
    cases fl with
    | ret u => exact I1.after z
    | next => exact False.elim z
    | brk => exact False.elim z
    | cont => exact False.elim z
/-- repr of a list or tuple of data, where no repr is under way -/
theorem call_repr_D (no : X.A.guards = some []) (hu : X.A.units + 100 < cLine) : CallR X (.builtin "repr") (fun xs H Q => ∃ (a : Addr) (d : PyData), xs = [.ref a] ∧ (∀ (pins : List (Addr × Obj)) (σ : L2.St) (s : Shared), Inv X pins σ H s → ∃ as, Reads s.heap (.ref a) d as ∧ (d.hasDict = true → sysModules ∉ as)) ∧
    d.showable = true ∧ d.depth ≤ 90 ∧ d.shown.length ≤ sizeLine ∧ Q (.str d.shown) H) := by
  intro pins s σ H vs us Q I r h
  obtain ⟨a, d, rfl, rd, sh, dp, sz, q⟩ := h
  obtain ⟨as, hr, hs⟩ := rd pins σ s I
  cases r with
  | cons r1 r2 =>
    cases r2
    obtain rfl := (show _ = Value.ref a from r1)
    refine repr_of_reads' hr sh hs no (by omega) (fun b o e => e) (fun h' u tk k => ?_) sz
    exact ⟨.str d.shown, H, I.kept (h' := h') (t' := tk) k, ⟨_, rfl⟩, q⟩
end
/-! ### the root -/
/-- nothing is tracked, but the script where the module does not hold it -/
def onlyS (K : PySem.W.Frag) (a : Addr) (u : HO) : Hp := fun b => if b = a ∧ K.lookup a = none then some u else none
theorem onlyS_at {K : PySem.W.Frag} {a b : Addr} {u v : HO} (h : onlyS K a u b = some v) : b = a ∧ K.lookup a = none ∧ v = u := by
  unfold onlyS at h
  by_cases c : b = a ∧ K.lookup a = none
  · rw [if_pos c] at h
    exact ⟨c.1, c.2, (Option.some.inj h).symm⟩
  · rw [if_neg c] at h
    cases h
theorem onlyS_off {K : PySem.W.Frag} {a b : Addr} {u : HO} (h : b ≠ a) : onlyS K a u b = none := if_neg fun c => h c.1
theorem onlyS_none {K : PySem.W.Frag} {a b : Addr} {u : HO} {o : Obj} (h : K.lookup b = some o) : onlyS K a u b = none := if_neg fun c => by
  obtain ⟨rfl, c2⟩ := c
  rw [h] at c2
  cases c2
theorem root_of {P : Program} {w : World} {K : PySem.W.Frag} {mg mb : Str → Option Value} {k : Nat} {fa a : Addr} {fd : FuncData} {x : Str} {sp : Sp} {s1 : Shared} {us : List Value} {ns : List Int}
    (KX : K.In s1.heap) (main : s1.heap.Ns mainGlobals mg) (blt : s1.heap.Ns builtinsNs mb) (boot : ∀ y : Str, y ≠ "__name__" → mb y = bootBuiltins y) (lim : s1.heap.NoLimit) (gens : s1.gens = #[])
    (ha : s1.heap.get? a = some { cls := .type "list", data := .seq us.toArray }) (hi : IntsAre us ns) (hl : ns.length ≤ sizeLine) (hr : Room k callerA)
    (G : ∀ base : Heap, K.In base → base.Ns mainGlobals mg → FnG P w K mg base CX0 k fa fd [x] sp) (bnd : ∀ (s : Shared) (u : Value), BindsTo s fd ⟨[u], []⟩ [(x, u)])
    (hsp : ∀ H : Hp, SqL K H a (ns.map V.int) → sp [.ref a] H (fun v _ => v = .bl true) E0) :
    codeAny (model P w) callerA (.call (.ref fa) ⟨[.ref a], []⟩) (fun r s' => r = .ok (.ret (.bool true)) ∧ OldK s1.heap s'.heap ∧ s'.os = s1.os ∧ AllBare s'.gens) s1 := by
  have rv := vals_ints hi
  have sized : (ns.map V.int).length ≤ sizeLine := by rwa [List.length_map]
  generalize hu : HO.frz { cls := .type "list", data := .seq us.toArray } (.lst (ns.map V.int)) = u
  have far : ∀ {b : Addr} {o : Obj} {es : Array DictEntry} {ep : Nat}, s1.heap.get? b = some o → o.data = .dict es ep → b ≠ a := fun {b o es ep} e d z => by
    subst z
    rw [ha] at e
    cases e
    cases d
  have space : ∀ {b : Addr} {m : Str → Option Value}, s1.heap.Ns b m → (hidT s1.heap (onlyS K a u)).Ns b m := fun {b m} ⟨o, es, ep, e, d, r⟩ => ⟨o, es, ep, hidT_get e (onlyS_off (far e d)), d, r⟩
  have KB : K.In (hidT s1.heap (onlyS K a u)) := fun b o e => hidT_get (KX b o e) (onlyS_none e)
  have M : Mod K mg (hidT s1.heap (onlyS K a u)) := ⟨KB, space main, ⟨mb, space blt, boot⟩, let ⟨mc, h1, h2⟩ := lim; ⟨mc, space h1, h2⟩⟩
  have ok : HOk P w (onlyS K a u) s1.heap := fun b v e => by
    obtain ⟨rfl, _, rfl⟩ := onlyS_at e
    subst hu
    exact ⟨ha, sized, us, _, rv, ha⟩
  have list : SqL K (onlyS K a u) a (ns.map V.int) := by
    cases hk : K.lookup a with
    | none =>
      refine .inl (.inr ⟨{ cls := .type "list", data := .seq us.toArray }, ?_⟩)
      rw [hu]
      exact if_pos ⟨rfl, hk⟩
    | some o =>
      have e := KX a o hk
      rw [ha] at e
      cases e
      exact .inr ⟨_, us.toArray, _, hk, rfl, rfl, rfl, by rw [List.size_toArray, hi.length]; exact hl, by simpa using rv⟩
  have e0 : Env0 P w K mg (hidT s1.heap (onlyS K a u)) callerA [] s1 (onlyS K a u) :=
    ⟨rfl, M, fun b o e => of_hidT e, Nat.le_of_eq (hidT_size _ _), trivial, fun b hb => absurd (show b ∈ ([] : List Addr) from hb) (by simp), ok, .of_eq gens⟩
  refine codeAny_mono ((G _ KB (space main)).runs callerA [] s1 _ ⟨[.ref a], []⟩ [.ref a] [.ref a] _ _ rfl hr e0 (bnd s1 (.ref a)) (.cons rfl .nil) (hsp _ list)) fun r s' z => ?_
  cases r with
  | error e => exact False.elim z
  | ok fl =>
    cases fl with
    | next => exact False.elim z
    | brk => exact False.elim z
    | cont => exact False.elim z
    | ret out =>
      obtain ⟨v, H', os, bare, un, ok', r', q⟩ := z
      obtain rfl : v = .bl true := q
      obtain rfl : out = Value.bool true := r'
      refine ⟨rfl, OldK.of_keep fun b o e => ?_, os, bare⟩
      cases q : onlyS K a u b with
      | none => exact un.keep b o e q (fun y => absurd (show b ∈ ([] : List Addr) from y) (by simp)) (by simp)
      | some v =>
        obtain ⟨rfl, _, rfl⟩ := onlyS_at q
        subst hu
        rw [ha] at e
        cases e
        exact (ok' _ _ (un.frzs _ _ _ q)).1
theorem walk_ofG {l : PySem.W.OpenLaw} {n k : Nat} {q : Program} {loose : List Str} {XP : (Str → Option Value) → Heap → Prop} {YP : World → Heap → Prop} {d : DefRec} {K : Params → PySem.W.Frag} {sp : PySem.W.Frag → Sp} {x : Str}
    (most : l.most = some n) (fits : n ≤ sizeLine) (plain : d.params.defaults = []) (hr : Room k callerA) (hY : ∀ (w : World) (h : Heap), YP w h → (K w.params).In h)
    (F : ∀ (w : World) (mg : Str → Option Value) (fa : Addr) (h : Heap), (K w.params).In h → h.Ns mainGlobals mg → mg d.name = some (.ref fa) →
      ∃ fd : FuncData, (∀ (s : Shared) (u : Value), BindsTo s fd ⟨[u], []⟩ [(x, u)]) ∧ ∀ base : Heap, (K w.params).In base → base.Ns mainGlobals mg → FnG l.prog w (K w.params) mg base CX0 k fa fd [x] (sp (K w.params)))
    (hsp : ∀ (K : PySem.W.Frag) (H : Hp) (a : Addr) (ns : List Int), ns.length ≤ n → SqL K H a (ns.map V.int) → sp K [.ref a] H (fun v _ => v = .bl true) E0) :
    PySem.W.WalkO q loose XP YP l.row.toRowW d [] (fun f vs => PySem.call f vs) := by
  refine Att.attach_call most plain fun w s0 s1 mg mb fa o pm cd doc a vs ns G Y ho hd hcd hmg hobj hints hlen hg => ?_
  have KX := hY w _ Y
  obtain ⟨fd, hb, hF⟩ := F w mg fa _ KX G.T.g hmg
  exact root_of KX G.T.g G.T.b G.T.builtins G.T.nolimit hg hobj hints (Nat.le_trans hlen fits) hr hF hb fun H hS => hsp _ H a ns hlen hS

abbrev s_law_urn : Stmt := topS 20
theorem sc_law_urn : FnScope ["_law_script", "_law_at", "_law_mixed", "_law_cell", "_law_great"] ["_law_script", "_law_at"] (defScope s_law_urn) := ⟨rfl, rfl, rfl, by decide +kernel, rfl, by decide +kernel, by decide +kernel⟩

theorem cut_ints (ns : List Int) (lo hi : Option Int) : ∃ ms : List Int, cutV (ns.map V.int) lo hi = ms.map V.int := by
  refine ⟨(ns.drop (HT.sIx ns.length 0 lo)).take (HT.sIx ns.length ns.length hi - HT.sIx ns.length 0 lo), ?_⟩
  unfold cutV
  rw [List.length_map, List.map_take, List.map_drop]
theorem int_at {ns : List Int} {i : Nat} {x : V} (h : (ns.map V.int)[i]? = some x) : ∃ z : Int, ns[i]? = some z ∧ x = .int z := by
  rw [List.getElem?_map] at h
  cases e : ns[i]? with
  | none =>
    rw [e] at h
    cases h
  | some z =>
    rw [e] at h
    exact ⟨z, rfl, (Option.some.inj h).symm⟩
section
variable {P : Program} {w : World} {K : PySem.W.Frag} {mg : Str → Option Value} {base : Heap} {C fI : Addr}
/-- a new urn -/
def spUrn (K : PySem.W.Frag) : Sp := fun vs H Q _ => ∃ (a : Addr) (i : Nat) (ns : List Int), vs = [.ref a, .int i] ∧ SqL K H a (ns.map V.int) ∧ i ≤ 1000 ∧
  ∀ (H' : Hp) (p : Addr), Same H H' → H p = none → Urn H' p → Q (.ref p) H'
theorem ok_urn {f : Addr} {fd : FuncData} {k : Nat} (T : Txt mg) (d : D K mg "_law_urn" s_law_urn ["_law_script", "_law_at"] f fd) : FnOk P w K mg base CX0 (k + 1) f fd ["_law_script", "_law_at"] (spUrn K) := by
  refine d.F.ok sc_law_urn (fun vs H Q E h => ?_) (fun cdv A outer s H vs Q E hr h => ?_)
  · obtain ⟨a, i, ns, rfl, _⟩ := h
    rfl
  · obtain ⟨a, i, ns, rfl, hS, hi, q⟩ := h
    refine ⟨_, (pss_cons (ps_set (i := 2) sc_law_urn.nd rfl (.inl rfl) (pe_op op_add (pe_op op_mul pe_int (pv 1)) pe_int))
      (pss_cons (ps_for PassesOwn.never rfl (pi_list (pe_slice sl_list (pv 0) (po_some (pv 1)) po_none)) (pg_name (i := 3) sc_law_urn.nd rfl (.inl rfl))
        (pss_one (ps_set (i := 2) sc_law_urn.nd rfl (.inl rfl) (pe_op op_mod (pe_callTy call_int1 (by rfl) T.n_int (by decide +kernel) (pa_cons (pe_op op_add (pe_op op_add (pe_op op_mul (pv 2) pe_int) (pe_op op_mul (pe_op op_mod (pe_callTy call_int1 (by rfl) T.n_int (by decide +kernel) (pa_cons (pe_callB call_abs (by rfl) T.n_abs (by decide +kernel) (pa_cons (pv 3) pa_nil)) pa_nil)) (pe_op op_powW pe_int pe_int)) pe_int)) (pe_op op_mul (pe_callTy call_int1 (by rfl) T.n_int (by decide +kernel) (pa_cons (pe_cmpR op_gt (pv 3) pe_int (nomark _)) pa_nil)) pe_int)) pa_nil)) pe_int))))
      (pss_cons (ps_set (i := 4) sc_law_urn.nd rfl (.inl rfl) (pe_ifExp (pt_cmpR op_lt (pv 1) (pe_callB call_len_seq (by rfl) T.n_len PySem.boot_len (pa_cons (pv 0) pa_nil)) (nomark _)) (pe_op op_mod (pe_callTy call_int1 (by rfl) T.n_int (by decide +kernel) (pa_cons (pe_callB call_abs (by rfl) T.n_abs (by decide +kernel) (pa_cons (pe_ix ix_list (pv 0) (pv 1) (fun _ _ => rfl)) pa_nil)) pa_nil)) (pe_op op_powW (pe_op op_powW pe_int pe_int) pe_int)) pe_int))
      (pss_one (ps_ret (pe_lst (pa_cons (pe_callB (call_max2 rfl) (by rfl) T.n_max (by decide +kernel) (pa_cons pe_int (pa_cons (pe_op op_sub (pv 4) (pe_op op_powW pe_int pe_int)) pa_nil))) (pa_cons (pv 2) (pa_cons pe_int pa_nil))))))))), ?_⟩
    refine ⟨_, rfl, _, _, rfl, rfl, .inl (by decide), _, _, rfl, rfl, ?_⟩
    refine ⟨.ref a, rfl, _, rfl, _, rfl, a, _, rfl, hS, fun c nc => ?_⟩
    obtain ⟨ms, em⟩ := cut_ints ns (some (i : Int)) none
    have s1 : Same H (upd H c (.lst (cutV (ns.map V.int) (some (i : Int)) none))) := sub_same nc
    have hc : (upd H c (.lst (cutV (ns.map V.int) (some (i : Int)) none))) c = some (.lst (ms.map V.int)) := by rw [upd_same, em]
    revert s1 hc
    generalize upd H c (.lst (cutV (ns.map V.int) (some (i : Int)) none)) = H1
    intro s1 hc
    refine ⟨c, rfl, ⟨_, .inl (.inl hc)⟩, for_list (K := K) (a := c) (xs := ms.map V.int) (fun j σ H2 => (∃ (m : Int) (y : Option V), σ = [some (.ref a), some (.int i), some (.int m), y, none]) ∧ H2 = H1) ⟨⟨_, none, rfl⟩, rfl⟩ (fun j σ H2 _ z => by rw [z.2]; exact .inl (.inl hc)) ?_ ?_⟩
    · rintro j x σ H2 hj ⟨⟨m, y, rfl⟩, rfl⟩
      obtain ⟨z, _, rfl⟩ := int_at hj
      refine ⟨_, rfl, _, _, rfl, rfl, .inr (by decide), ?_⟩
      refine ⟨_, rfl, _, rfl, .inl ⟨_, rfl, _, _, rfl, rfl, ⟨by decide, by decide +kernel⟩, _, _, rfl, rfl, (by show (0 : Int) < _; decide), _, _, rfl, rfl, .inr (by decide), _, _, rfl, rfl, ?_⟩⟩
      refine ⟨_, rfl, _, _, rfl, rfl, .inr ⟨_, rfl, _, _, rfl, rfl, .inr (by decide), _, _, rfl, rfl, .inl ⟨_, rfl, _, _, rfl, rfl, (by show (0 : Int) < _; decide), ?_⟩⟩⟩
      exact ⟨⟨_, some (.int z), rfl⟩, rfl⟩
    · rintro σ H2 ⟨⟨m, y, rfl⟩, rfl⟩
      have rest : ∀ (g : Int), (fun (g : Int) => ∀ p, H2 p = none → Q (.ref p) (upd H2 p (.lst [.int g, .int m, .int 0]))) g := fun g p np => q _ p (s1.trans (sub_same np)) (s1.free np) ⟨_, _, _, upd_same⟩
      refine ⟨_, rfl, .ref a, rfl, a, _, rfl, .inl (s1.seq hS), _, _, rfl, rfl, _, rfl, ite2 (fun e => ?_) (fun e => ?_)⟩
      · have hlt : i < ns.length := by
          have z := of_decide_eq_true e
          rw [List.length_map] at z
          omega
        refine ⟨.ref a, rfl, _, rfl, a, _, _, .int ns[i], rfl, rfl, s1.seq hS, atI_nat (by rw [List.getElem?_map, List.getElem?_eq_getElem hlt]; rfl), ?_⟩
        refine ⟨_, rfl, .inl ⟨_, rfl, _, _, rfl, rfl, ⟨by decide, by decide +kernel⟩, _, _, rfl, rfl, ⟨by decide, by decide +kernel⟩, _, _, rfl, rfl, (by show (0 : Int) < _; decide), ?_⟩⟩
        refine ⟨_, rfl, _, _, rfl, rfl, ⟨by decide, by decide +kernel⟩, _, _, rfl, rfl, _, _, rfl, _, rfl, (by show 3 ≤ sizeLine; decide), fun p np => rest _ p np⟩
      · refine ⟨_, rfl, _, _, rfl, rfl, ⟨by decide, by decide +kernel⟩, _, _, rfl, rfl, _, _, rfl, _, rfl, (by show 3 ≤ sizeLine; decide), fun p np => rest _ p np⟩
/-- an int of at most fifty-nine digits and a one -/

theorem iteP {p A B : Prop} [Decidable p] (h : p) (a : A) : if decide p = true then A else B := by
  rw [if_pos (decide_eq_true h)]
  exact a
theorem iteQ {p A B : Prop} [Decidable p] (h : ¬ p) (b : B) : if decide p = true then A else B := by
  rw [if_neg (fun z => h (of_decide_eq_true z))]
  exact b
theorem ab_eq (z : Int) : (if z < 0 then -z else z) = ((z.natAbs : Nat) : Int) := by split <;> omega

end
end K02

/-! # integers of many digits as texts -/
namespace K02
open PySem PySem.Spec PyProof.Rows L2
/-- no other limit of digits is set -/
structure Dg (K : PySem.W.Frag) : Prop where
  ok : PySem.W.nsOkIn K cStatics = true
  no : PySem.W.nsIn K cStatics "sys.int_max_str_digits" = some none
theorem Dg.at {K : PySem.W.Frag} {h : Heap} (D : Dg K) (X : K.In h) : h.NoDigits :=
  ⟨h.nsMap cStatics, .of_isNs (PySem.W.isNs_of_in X D.ok), PySem.W.nsMap_none_of_in X D.ok D.no⟩
/-- of at most n bits -/
def Bd (n : Nat) (i : Int) : Prop := i.natAbs < 2 ^ n
theorem Bd.up {n m : Nat} {i : Int} (h : Bd n i) (l : n ≤ m) : Bd m i := Nat.lt_of_lt_of_le h (Nat.pow_le_pow_right (by decide) l)
theorem Bd.mul {n m : Nat} {i j : Int} (h : Bd n i) (g : Bd m j) : Bd (n + m) (i * j) := wide_lt h g
theorem Bd.add {n : Nat} {i j : Int} (h : Bd n i) (g : Bd n j) : Bd (n + 1) (i + j) := by
  have a : i.natAbs < 2 ^ n := h
  have b : j.natAbs < 2 ^ n := g
  show (i + j).natAbs < 2 ^ (n + 1)
  rw [Nat.pow_succ]
  omega
theorem Bd.sub {n : Nat} {i j : Int} (h : Bd n i) (g : Bd n j) : Bd (n + 1) (i - j) := by
  have a : i.natAbs < 2 ^ n := h
  have b : j.natAbs < 2 ^ n := g
  show (i - j).natAbs < 2 ^ (n + 1)
  rw [Nat.pow_succ]
  omega
theorem Bd.neg {n : Nat} {i : Int} (h : Bd n i) : Bd n (-i) := by
  show (-i).natAbs < 2 ^ n
  rw [Int.natAbs_neg]
  exact h
theorem Bd.of60 {i : Int} (h : i.natAbs < 10 ^ 60) : Bd 200 i := Nat.lt_of_lt_of_le h (by decide)
theorem Bd.dig {n : Nat} {i : Int} (h : Bd n i) (l : n ≤ 9000) : i.natAbs < 10 ^ 4300 :=
  Nat.lt_of_lt_of_le (h.up l) (Nat.le_trans (Nat.pow_le_pow_right (by decide) (by decide : 9000 ≤ 12900)) pow_lo)
theorem Bd.log {n : Nat} {i : Int} (h : Bd n i) (n0 : 0 < n) : i.natAbs.log2 < n := PySem.Flt.log2_lt_of n0 h
theorem str_size {n : Nat} {i : Int} (h : Bd n i) (l : n ≤ 9000) : (Str.ofString (toString i)).length ≤ 4301 := by
  have e := int_text_length_le10 (a := i) (k := 4300) (by decide) (h.dig l)
  rw [PySem.ofString_length]
  omega
section
variable {prog : Program} {w : World} {A : Around} {E : Value → Shared → Prop} {s : Shared} {a : Int} {t : Tok}
theorem reprCall {Q : Value → Shared → Prop} (hn : s.heap.NoDigits) (hl : a.natAbs < 10 ^ 4300) (q : Q (.str (toString a) s.toks) { s with toks := s.toks + 1 }) :
    wpAny (model prog w) A (call (.builtin "int.__repr__") [.int a t]) (fun v s' => ∃ x u, v = .str x u ∧ Q v s') E s := by
  refine wpAny_call_entry F.slot_int_repr (typeIs_int s a t) F.entry_int_repr ?_ (F.args_int_repr_1 _)
  unfold Builtin.«int.__repr__»
  show wpAny _ _ (do let r ← Builtin.overDigitLimit? a; _) _ _ s
  exact wpAny_bind (overDigitLimit_any hn (fun _ => wpAny_bind (wpAny_mkStr (wpAny_pure ⟨_, rfl, _, _, rfl, q⟩) (int_text_fits10 hl))) fun g => absurd hl (Nat.not_lt.mpr g))
theorem reprObj {Q : Value → Shared → Prop} (hu : A.units < cLine) (hn : s.heap.NoDigits) (hl : a.natAbs < 10 ^ 4300) (q : Q (.str (toString a) s.toks) { s with toks := s.toks + 1 }) :
    wpAny (model prog w) A (pyReprObj (.int a t)) Q E s := wpAny_pyReprObj_slot hu (typeIs_int s a t) F.slot_int_repr.toG (reprCall hn hl q)
end
/-- an item of many digits within a tuple that is shown -/
theorem reprK {prog : Program} {w : World} {h₀ : Heap} {a : Int} {t : Tok} (hn : h₀.NoDigits) (hl : a.natAbs < 10 ^ 4300) : ReprK prog w [] h₀ 0 (.int a t) (toString a) := by
  intro base hb A g E s Q hg hc hu hk hq
  rw [pyReprUnder_leaf (v := .int a t) (by omega) (fun _ e => nomatch e)]
  unfold pyRepr
  exact wpAny_bind (reprObj (by omega) (hn.keeps hk) hl (wpAny_pure (hq _ _ fun _ _ e => e)))
/-- how an item is shown -/
inductive Sh : V → Str → Prop
  | int {i : Int} {n : Nat} : Bd n i → n ≤ 9000 → Sh (.int i) (toString i)
  | str {z : Str} : (reprText z).length ≤ sizeLine → Sh (.str z) (reprText z)
  | bl (b : Bool) : Sh (.bl b) (if b then "True" else "False")
inductive ShAll : List V → List Str → Prop
  | nil : ShAll [] []
  | cons {v : V} {t : Str} {vs : List V} {ts : List Str} : Sh v t → ShAll vs ts → ShAll (v :: vs) (t :: ts)
theorem Sh.k {prog : Program} {w : World} {h₀ : Heap} {v : V} {u : Value} {t : Str} (hn : h₀.NoDigits) (h : Sh v t) (r : RelV v u) : ReprK prog w [] h₀ 0 u t := by
  cases h with
  | int b l =>
    obtain ⟨k, rfl⟩ := r
    exact reprK hn (b.dig l)
  | str l =>
    obtain ⟨k, rfl⟩ := r
    exact .of_is (.str _ k l) _ _ _
  | bl b =>
    cases r
    exact .of_is (.bool b) _ _ _
theorem ShAll.k {prog : Program} {w : World} {h₀ : Heap} (hn : h₀.NoDigits) : ∀ {vs : List V} {us : List Value} {ts : List Str}, ShAll vs ts → Vals vs us → ReprAllK prog w [] h₀ 0 us ts
  | _, _, _, .nil, .nil => .nil
  | _, _, _, .cons h hs, .cons r rs => .cons (h.k hn r) (hs.k hn rs)
section
variable {X : Cx}
/-- repr of a tuple, integers of up to 9000 bits among its items -/
theorem call_repr_T (D : Dg X.K) (no : X.A.guards = some []) (hu : X.A.units + 100 < cLine) : CallR X (.builtin "repr") (fun xs H Q => ∃ (a : Addr) (vs : List V) (ts : List Str), xs = [.ref a] ∧ SqT X.K H a vs ∧ ShAll vs ts ∧ (tupleText ts).length ≤ sizeLine ∧ Q (.str (tupleText ts)) H) := by
  intro pins s σ H xs us Q I r h
  obtain ⟨a, vs, ts, rfl, hs, sh, sz, q⟩ := h
  rw [Vals.ref1 r]
  obtain ⟨its, rv, ⟨o, ho, hc, n, hd⟩, _⟩ := I.tuple hs
  have hk : ReprAllK X.prog X.w [] s.heap 0 its.toArray.toList ts := by
    have z := sh.k (prog := X.prog) (w := X.w) (D.at I.kIn) rv
    simpa using z
  refine call_repr_slot (by omega) ⟨o, ho, hc⟩ F.slot_tuple_repr ?_
  refine call_tuple_reprK (A := X.A.in1) ho hc hd (by simp) hk no (fun b _ => Clear.nil b) (by show X.A.units + 1 + (0 + 1) < cLine; omega) (fun b o e => e) (fun h' u tk k => ?_) sz
  exact ⟨_, _, rfl, .str _, H, I.kept (h' := h') (t' := tk) k, ⟨_, rfl⟩, q⟩
/-- str of an integer -/
theorem call_strB (D : Dg X.K) (hc : X.calm = true) : CallR X (.type "str") (fun xs H Q => ∃ (i : Int) (n : Nat), xs = [.int i] ∧ Bd n i ∧ n ≤ 9000 ∧ Q (.str (toString i)) H) := by
  intro pins s σ H xs us Q I r h
  obtain ⟨i, n, rfl, hb, hn, q⟩ := h
  obtain ⟨u, rfl, t, rfl⟩ := vals1 r
  exact str_of_int_or (I.ok.hd hc) (D.at I.kIn) (fun _ => ⟨.str _, H, I.tok _, ⟨_, rfl⟩, q⟩) fun g => absurd (hb.dig hn) (Nat.not_lt.mpr g)
/-- {i} in an f-string -/
def tFmtB (te : TE) : TE := fun σ H Q => te σ H fun x H1 => ∃ (i : Int) (n : Nat), x = .int i ∧ Bd n i ∧ n ≤ 9000 ∧ Q (.str (toString i)) H1
theorem pe_fmtB {e : Expr} {te : TE} {pos : Pos} (D : Dg X.K) (hc : X.calm = true) (he : PE X e te) : PE X (.FormattedValue e (-1) none pos) (tFmtB te) := by
  refine ⟨fun pins s σ H Q I h => wpAny_FormattedValue_plain (thn (he.run pins s σ H _ I h) fun v s1 hv => ?_)⟩
  obtain ⟨x, H1, I1, r1, i, n, rfl, hb, hn, q⟩ := hv
  obtain ⟨t, rfl⟩ := r1
  exact formatField_int (I1.ok.hd hc) (D.at I1.kIn) (fun _ => ⟨.str (toString i), H1, I1.tok _, ⟨_, rfl⟩, q⟩) fun g => absurd (hb.dig hn) (Nat.not_lt.mpr g)
end
end K02

/-! # the program's small functions -/
namespace K02
open PySem PySem.Spec PyProof.Rows L2
structure Nam (mg : Str → Option Value) : Prop where
  n_str : mg "str" = none
  m_gcd : mg "gcd" = some (.builtin "math.gcd")
  m_LIMIT : ∃ t, mg "_LIMIT" = some (.int (10 ^ 60) t)
/-! ### lowest terms -/
def dv (i j : Int) : Int := if j < 0 then -((Nat.gcd i.natAbs j.natAbs : Nat) : Int) else ((Nat.gcd i.natAbs j.natAbs : Nat) : Int)
theorem dv_abs (i j : Int) : (dv i j).natAbs = Nat.gcd i.natAbs j.natAbs := by unfold dv; split <;> omega
theorem dv_ne {i j : Int} (h : j ≠ 0) : dv i j ≠ 0 := by
  have g : 0 < Nat.gcd i.natAbs j.natAbs := Nat.gcd_pos_of_pos_right _ (by omega)
  unfold dv
  split <;> omega
theorem gcd_i (i j : Int) : ((Nat.gcd i.natAbs j.natAbs : Nat) : Int) ∣ i := Int.ofNat_dvd_left.mpr (Nat.gcd_dvd_left _ _)
theorem gcd_j (i j : Int) : ((Nat.gcd i.natAbs j.natAbs : Nat) : Int) ∣ j := Int.ofNat_dvd_left.mpr (Nat.gcd_dvd_right _ _)
theorem dv_mul {i j : Int} (h : j ≠ 0) : i / dv i j * dv i j = i ∧ j / dv i j * dv i j = j := by
  unfold dv
  split
  · exact ⟨Int.ediv_mul_cancel ((Int.neg_dvd).mpr (gcd_i i j)), Int.ediv_mul_cancel ((Int.neg_dvd).mpr (gcd_j i j))⟩
  · exact ⟨Int.ediv_mul_cancel (gcd_i i j), Int.ediv_mul_cancel (gcd_j i j)⟩
theorem dv_pos {i j : Int} (h : j ≠ 0) : 0 < j / dv i j := by
  have m := (dv_mul (i := i) h).2
  have g : 0 < Nat.gcd i.natAbs j.natAbs := Nat.gcd_pos_of_pos_right _ (by omega)
  rcases Int.lt_trichotomy (j / dv i j) 0 with z | z | z
  · unfold dv at m z ⊢
    split at m
    · rename_i hj
      rw [if_pos hj] at z
      have := Int.mul_pos_of_neg_of_neg z (show -((Nat.gcd i.natAbs j.natAbs : Nat) : Int) < 0 by omega)
      omega
    · rename_i hj
      rw [if_neg hj] at z
      have := Int.mul_neg_of_neg_of_pos z (show (0 : Int) < ((Nat.gcd i.natAbs j.natAbs : Nat) : Int) by omega)
      omega
  · rw [z] at m
    omega
  · exact z
theorem low {i j : Int} (hj : j ≠ 0) : Nat.gcd (i / dv i j).natAbs (j / dv i j).natAbs = 1 := by
  have g0 : 0 < Nat.gcd i.natAbs j.natAbs := Nat.gcd_pos_of_pos_right _ (by omega)
  obtain ⟨m1, m2⟩ := dv_mul (i := i) hj
  have dn := dv_abs i j
  have n1 := congrArg Int.natAbs m1
  have n2 := congrArg Int.natAbs m2
  rw [Int.natAbs_mul, dn] at n1 n2
  have e := Nat.gcd_mul_right (i / dv i j).natAbs (Nat.gcd i.natAbs j.natAbs) (j / dv i j).natAbs
  rw [n1, n2] at e
  have e2 : 1 * Nat.gcd i.natAbs j.natAbs = Nat.gcd (i / dv i j).natAbs (j / dv i j).natAbs * Nat.gcd i.natAbs j.natAbs := by rw [Nat.one_mul]; exact e
  exact (Nat.eq_of_mul_eq_mul_right g0 e2).symm
/-- what divides is no longer -/
theorem quo_bd {n : Nat} {x d : Int} (hd : d ≠ 0) (m : x / d * d = x) (b : Bd n x) : Bd n (x / d) := by
  have d1 : 1 ≤ d.natAbs := by omega
  have z := congrArg Int.natAbs m
  rw [Int.natAbs_mul] at z
  have l : (x / d).natAbs * 1 ≤ (x / d).natAbs * d.natAbs := Nat.mul_le_mul_left _ d1
  have b' : x.natAbs < 2 ^ n := b
  show (x / d).natAbs < 2 ^ n
  generalize 2 ^ n = N at *
  omega
theorem low_bd {n m : Nat} {i j : Int} (hj : j ≠ 0) (bi : Bd n i) (bj : Bd m j) : Bd n (i / dv i j) ∧ Bd m (j / dv i j) :=
  ⟨quo_bd (dv_ne hj) (dv_mul hj).1 bi, quo_bd (dv_ne hj) (dv_mul hj).2 bj⟩
theorem dv_bd {n : Nat} {i j : Int} (h : j ≠ 0) (b : Bd n j) : Bd n (dv i j) := by
  have g : Nat.gcd i.natAbs j.natAbs ≤ j.natAbs := Nat.gcd_le_right _ (by omega)
  have e := dv_abs i j
  have b' : j.natAbs < 2 ^ n := b
  show (dv i j).natAbs < 2 ^ n
  generalize 2 ^ n = N at *
  omega
/-- the same in lowest terms -/
theorem low_scale {i j g : Int} (hj : j ≠ 0) (hg : g ≠ 0) : i * g / dv (i * g) (j * g) = i / dv i j ∧ j * g / dv (i * g) (j * g) = j / dv i j := by
  have e : dv (i * g) (j * g) = g * dv i j := by
    have a : Nat.gcd (i * g).natAbs (j * g).natAbs = Nat.gcd i.natAbs j.natAbs * g.natAbs := by rw [Int.natAbs_mul, Int.natAbs_mul, Nat.gcd_mul_right]
    unfold dv
    rw [a]
    rcases Int.lt_or_gt_of_ne hg with h | h
    · have gn : ((g.natAbs : Nat) : Int) = -g := by omega
      rcases Int.lt_or_gt_of_ne hj with k | k
      · have z : ¬ j * g < 0 := by have := Int.mul_pos_of_neg_of_neg k h; omega
        rw [if_neg z, if_pos k, Int.natCast_mul, gn, Int.mul_neg, Int.mul_neg, Int.mul_comm g]
      · have z : j * g < 0 := by have := Int.mul_neg_of_pos_of_neg k h; omega
        rw [if_pos z, if_neg (by omega), Int.natCast_mul, gn, Int.mul_neg, Int.neg_neg, Int.mul_comm g]
    · have gn : ((g.natAbs : Nat) : Int) = g := by omega
      rcases Int.lt_or_gt_of_ne hj with k | k
      · have z : j * g < 0 := by have := Int.mul_neg_of_neg_of_pos k h; omega
        rw [if_pos z, if_pos k, Int.natCast_mul, gn, Int.mul_neg, Int.mul_comm g]
      · have z : ¬ j * g < 0 := by have := Int.mul_pos k h; omega
        rw [if_neg z, if_neg (by omega), Int.natCast_mul, gn, Int.mul_comm g]
  have d0 := dv_ne (i := i) hj
  obtain ⟨m1, m2⟩ := dv_mul (i := i) hj
  have gd : g * dv i j ≠ 0 := Int.mul_ne_zero hg d0
  rw [e]
  constructor
  · have z : i * g = i / dv i j * (g * dv i j) := by
      rw [Int.mul_comm g, ← Int.mul_assoc, m1]
    exact Int.ediv_eq_of_eq_mul_left gd z
  · have z : j * g = j / dv i j * (g * dv i j) := by
      rw [Int.mul_comm g, ← Int.mul_assoc, m2]
    exact Int.ediv_eq_of_eq_mul_left gd z
/-- // of a divisor of either sign -/
theorem op_fdivE {X : Cx} : OpR X (binaryOp .FloorDiv) (rI (fun _ j => j ≠ 0 ∧ j.natAbs.log2 < 9000) fun i j => .int (i.fdiv j)) := opI fun i j _ _ _ _ _ hc q => floordiv_int hc.1 q (.inl (PyProof.noPylong_of_log2 hc.2))
theorem fdiv_dv {i j : Int} (h : j ≠ 0) : i.fdiv (dv i j) = i / dv i j ∧ j.fdiv (dv i j) = j / dv i j := by
  have a : dv i j ∣ i := ⟨i / dv i j, by rw [Int.mul_comm]; exact (dv_mul h).1.symm⟩
  have b : dv i j ∣ j := ⟨j / dv i j, by rw [Int.mul_comm]; exact (dv_mul h).2.symm⟩
  exact ⟨Int.fdiv_eq_ediv_of_dvd a, Int.fdiv_eq_ediv_of_dvd b⟩
theorem dead {X : Cx} {b : List Stmt} : PSs X b (fun _ _ _ => False) := ⟨fun _ _ _ _ _ _ h => h.elim⟩
def sg (i : Int) : Int := if i = 0 then 0 else if 0 < i then 1 else -1
/-! ### the fields of a ratio -/
theorem tb_ : ¬ (("_top" : Str) = "_bottom") := by decide +kernel
def pf (p q : Int) : List (Str × V) := putF "_bottom" (.int q) (putF "_top" (.int p) [])
theorem pf_eq (p q : Int) : pf p q = [(("_top" : Str), V.int p), (("_bottom" : Str), V.int q)] := by
  show (if ("_top" : Str) = "_bottom" then [(("_top" : Str), V.int q)] else (("_top" : Str), V.int p) :: putF "_bottom" (V.int q) []) = _
  rw [if_neg tb_]
  rfl
theorem pf_top (p q : Int) : (pf p q).lookup ("_top" : Str) = some (.int p) := by
  unfold pf
  rw [lookup_putF, if_neg tb_, lookup_putF, if_pos rfl]
theorem pf_bottom (p q : Int) : (pf p q).lookup ("_bottom" : Str) = some (.int q) := by
  unfold pf
  rw [lookup_putF, if_pos rfl]
theorem pf_put (a b p q : Int) : putF "_bottom" (.int q) (putF "_top" (.int p) (pf a b)) = pf p q := by
  rw [pf_eq, pf_eq]
  have e : putF ("_top" : Str) (.int p) [(("_top" : Str), V.int a), (("_bottom" : Str), V.int b)] = [(("_top" : Str), V.int p), (("_bottom" : Str), V.int b)] := by
    show (if ("_top" : Str) = "_top" then (("_top" : Str), V.int p) :: [(("_bottom" : Str), V.int b)] else _) = _
    rw [if_pos rfl]
  rw [e]
  show (if ("_top" : Str) = "_bottom" then _ else (("_top" : Str), V.int p) :: putF ("_bottom" : Str) (V.int q) [(("_bottom" : Str), V.int b)]) = _
  rw [if_neg tb_]
  show (("_top" : Str), V.int p) :: (if ("_bottom" : Str) = "_bottom" then (("_bottom" : Str), V.int q) :: [] else _) = _
  rw [if_pos rfl]
def Rat (H : Hp) (a C : Addr) (p q : Int) : Prop := ∃ dx, H a = some (.ins C dx (pf p q))
theorem Rat.ins {H : Hp} {a C : Addr} {p q : Int} (h : Rat H a C p q) : Ins H a C := let ⟨dx, e⟩ := h; ⟨dx, _, e⟩
theorem Rat.same {H H' : Hp} {a C : Addr} {p q : Int} (h : Rat H a C p q) (s : Same H H') : Rat H' a C p q := let ⟨dx, e⟩ := h; ⟨dx, s _ _ e⟩
structure RC (K : PySem.W.Frag) (mg : Str → Option Value) (C : Addr) : Prop where
  cl : Cls K C
  nT : NoAttr K C "_top"
  nB : NoAttr K C "_bottom"
  mC : mg "Ratio" = some (.ref C)
/-- a method of the class -/
structure M (K : PySem.W.Frag) (x q : Str) (st : Stmt) (ps : List Str) (f : Addr) (fd : FuncData) : Prop where
  F : Fun K x q st f fd
  b : Binds K fd ps []
/-- isinstance(x, c) of a value of the type t -/
abbrev kit (K : PySem.W.Frag) (t c : Value) (b : Bool) : Prop := PySem.W.kitOne K t c = some b
/-- what isinstance says of the class, of values of the types that are met -/
structure KC (K : PySem.W.Frag) (C : Addr) : Prop where
  own : kit K (.ref C) (.ref C) true
  ownI : kit K (.ref C) (.type "int") false
  ownB : kit K (.ref C) (.type "bool") false
  int : kit K (.type "int") (.ref C) false
  bool : kit K (.type "bool") (.ref C) false
  str : kit K (.type "str") (.ref C) false
  non : kit K (.type "NoneType") (.ref C) false
  tup : kit K (.type "tuple") (.ref C) false
  lst : kit K (.type "list") (.ref C) false
  dic : kit K (.type "dict") (.ref C) false
/-- a ratio, or an integer: its terms -/
def Opd (H : Hp) (C : Addr) (x : V) (p q : Int) : Prop := (∃ a, x = .ref a ∧ Rat H a C p q) ∨ (x = .int p ∧ q = 1)
theorem Opd.same {H H' : Hp} {C : Addr} {x : V} {p q : Int} (h : Opd H C x p q) (s : Same H H') : Opd H' C x p q := by
  rcases h with ⟨a, e, r⟩ | h
  · exact .inl ⟨a, e, r.same s⟩
  · exact .inr h
section
variable {P : Program} {w : World} {K : PySem.W.Frag} {mg : Str → Option Value} {base : Heap} {C : Addr}
theorem Rat.ty {H : Hp} {a : Addr} {p q : Int} (IC : C8.InsC K C) (h : Rat H a C p q) : TyX K H (.ref a) (.ref C) := let ⟨_, e⟩ := h; .base (.ins e IC.cl IC.ha IC.hn IC.htk IC.hm)
theorem Opd.ty {H : Hp} {x : V} {p q : Int} (IC : C8.InsC K C) (k : KC K C) (h : Opd H C x p q) : ∃ t c i b, TyX K H x t ∧ kit K t (.ref C) c ∧ kit K t (.type "int") i ∧ kit K t (.type "bool") b ∧ (c || (i && !b)) = true := by
  rcases h with ⟨a, rfl, r⟩ | ⟨rfl, _⟩
  · exact ⟨_, _, _, _, r.ty IC, k.own, k.ownI, k.ownB, rfl⟩
  · exact ⟨_, false, true, false, .base (.int _), k.int, kit_ty (by decide +kernel), kit_ty (by decide +kernel), rfl⟩
abbrev s_is_whole : Stmt := topS 9
theorem sc_is_whole : FnScope ["value"] ["value"] (defScope s_is_whole) := ⟨rfl, rfl, rfl, by decide +kernel, rfl, by decide +kernel, by decide +kernel⟩
abbrev s_is_integer : Stmt := topS 10
theorem sc_is_integer : FnScope ["value"] ["value"] (defScope s_is_integer) := ⟨rfl, rfl, rfl, by decide +kernel, rfl, by decide +kernel, by decide +kernel⟩
abbrev s_sign_of : Stmt := topS 14
theorem sc_sign_of : FnScope ["number"] ["number"] (defScope s_sign_of) := ⟨rfl, rfl, rfl, by decide +kernel, rfl, by decide +kernel, by decide +kernel⟩
abbrev s_terms : Stmt := topS 15
theorem sc_terms : FnScope ["top", "bottom", "divisor"] ["top", "bottom"] (defScope s_terms) := ⟨rfl, rfl, rfl, by decide +kernel, rfl, by decide +kernel, by decide +kernel⟩
abbrev s_ratio_of : Stmt := topS 16
theorem sc_ratio_of : FnScope ["top", "bottom", "divisor", "made"] ["top", "bottom"] (defScope s_ratio_of) := ⟨rfl, rfl, rfl, by decide +kernel, rfl, by decide +kernel, by decide +kernel⟩
abbrev s_is_operand : Stmt := topS 17
theorem sc_is_operand : FnScope ["value"] ["value"] (defScope s_is_operand) := ⟨rfl, rfl, rfl, by decide +kernel, rfl, by decide +kernel, by decide +kernel⟩
abbrev s_terms_of : Stmt := topS 18
theorem sc_terms_of : FnScope ["operand"] ["operand"] (defScope s_terms_of) := ⟨rfl, rfl, rfl, by decide +kernel, rfl, by decide +kernel, by decide +kernel⟩
def spWhole (K : PySem.W.Frag) : Sp := fun vs H Q _ => ∃ (x : V) (t : Value) (i b : Bool), vs = [x] ∧ TyX K H x t ∧ kit K t (.type "int") i ∧ kit K t (.type "bool") b ∧ Q (.bl (i && !b)) H
theorem ok_whole {f : Addr} {fd : FuncData} {k : Nat} (T : Txt mg) (d : D K mg "is_whole" s_is_whole ["value"] f fd) : FnOk P w K mg base CX0 (k + 1) f fd ["value"] (spWhole K) := by
  refine d.F.ok sc_is_whole (fun vs H Q E h => ?_) (fun cdv A outer s H vs Q E hr h => ?_)
  · obtain ⟨x, t, i, b, rfl, _⟩ := h
    rfl
  · obtain ⟨x, t, i, b, rfl, ty, ki, kb, q⟩ := h
    refine ⟨_, (pss_one (ps_ret (pe_and (pe_callB call_isi (by rfl) T.n_isinstance (by decide +kernel) (pa_cons (pv 0) (pa_cons (pe_bltn (v := .ty "int") (by rfl) T.n_int (by decide +kernel) rfl) pa_nil)))
      (pe_one (pe_not (pe_callB call_isi (by rfl) T.n_isinstance (by decide +kernel) (pa_cons (pv 0) (pa_cons (pe_bltn (v := .ty "bool") (by rfl) T.n_bool (by decide +kernel) rfl) pa_nil)))))))), ?_⟩
    refine ⟨_, rfl, _, _, t, _, i, rfl, .ty _, ty, ki, i, rfl, ?_⟩
    cases i with
    | false => exact iteF q
    | true => exact iteT ⟨_, rfl, _, _, t, _, b, rfl, .ty _, ty, kb, b, rfl, q⟩
/-- is_integer's answer -/
def IsI (K : PySem.W.Frag) (H : Hp) (x : V) (c : Bool) : Prop := ∃ (t : Value) (i b : Bool), TyX K H x t ∧ kit K t (.type "int") i ∧ kit K t (.type "bool") b ∧ (((i && !b) = false ∧ c = false) ∨ ((i && !b) = true ∧ ∃ n : Int, x = .int n ∧ c = decide (n.natAbs < 10 ^ 60)))
def spInteger (K : PySem.W.Frag) : Sp := fun vs H Q _ => ∃ (x : V) (c : Bool), vs = [x] ∧ IsI K H x c ∧ Q (.bl c) H
theorem ok_integer {f f1 : Addr} {fd fd1 : FuncData} {k : Nat} (T : Txt mg) (U : Nam mg) (d : D K mg "is_integer" s_is_integer ["value"] f fd) (d1 : D K mg "is_whole" s_is_whole ["value"] f1 fd1) :
    FnOk P w K mg base CX0 (k + 2) f fd ["value"] (spInteger K) := by
  have G1 : FnOk P w K mg base CX0 (k + 1) f1 fd1 ["value"] (spWhole K) := ok_whole T d1
  obtain ⟨tL, m_LIMIT⟩ := U.m_LIMIT
  refine d.F.ok sc_is_integer (fun vs H Q E h => ?_) (fun cdv A outer s H vs Q E hr h => ?_)
  · obtain ⟨x, c, rfl, _⟩ := h
    rfl
  · obtain ⟨x, c, rfl, ⟨t, i, b, ty, ki, kb, h⟩, q⟩ := h
    refine ⟨_, (pss_one (ps_ret (pe_and (pe_call G1 hr (by rfl) d1.g d1.F.kp d1.b .nil pass0 (pa_cons (pv 0) pa_nil)) (pe_one (pe_cmpR op_lt (pe_callB call_abs (by rfl) T.n_abs (by decide +kernel) (pa_cons (pv 0) pa_nil)) (pe_glob (v := .int (10 ^ 60)) rfl m_LIMIT ⟨_, rfl⟩) (nomark _)))))), ?_⟩
    refine ⟨_, rfl, x, t, i, b, rfl, ty, ki, kb, _, rfl, ?_⟩
    rcases h with ⟨e, rfl⟩ | ⟨e, n, rfl, rfl⟩
    · rw [e]
      exact iteF q
    · rw [e]
      refine iteT ⟨_, rfl, n, rfl, _, _, rfl, rfl, ?_⟩
      have e : decide ((if n < 0 then -n else n) < 10 ^ 60) = decide (n.natAbs < 10 ^ 60) := decide_eq_decide.mpr (by split <;> omega)
      show Q (.bl (decide ((if n < 0 then -n else n) < 10 ^ 60))) H
      rw [e]
      exact q
def spSign : Sp := fun vs H Q _ => ∃ i : Int, vs = [.int i] ∧ Q (.int (sg i)) H
theorem ok_sign {f : Addr} {fd : FuncData} {k : Nat} (d : D K mg "sign_of" s_sign_of ["number"] f fd) : FnOk P w K mg base CX0 (k + 1) f fd ["number"] spSign := by
  refine d.F.ok sc_sign_of (fun vs H Q E h => ?_) (fun cdv A outer s H vs Q E hr h => ?_)
  · obtain ⟨i, rfl, _⟩ := h
    rfl
  · obtain ⟨i, rfl, q⟩ := h
    refine ⟨_, (pss_cons (ps_if (pt_cmpR op_eq (pv 0) pe_int (nomark _)) (pss_one (ps_ret pe_int)) pss_nil) (pss_one (ps_ret (pe_ifExp (pt_cmpR op_gt (pv 0) pe_int (nomark _)) pe_int (pe_un un_neg pe_int))))), ?_⟩
    unfold sg at q
    refine ⟨_, rfl, rfl, _, rfl, ite2 (fun e => ?_) (fun e => ?_)⟩
    · have e1 : i = 0 := V.int.inj (of_decide_eq_true e)
      rw [if_pos e1] at q
      exact q
    · have e1 : ¬ i = 0 := fun z => e (decide_eq_true (congrArg V.int z))
      rw [if_neg e1] at q
      refine ⟨_, rfl, _, _, rfl, rfl, _, rfl, ?_⟩
      by_cases h : 0 < i
      · rw [if_pos h] at q
        rw [decide_eq_true h]
        exact q
      · rw [if_neg h] at q
        rw [decide_eq_false h]
        exact ⟨_, rfl, q⟩
def spTerms : Sp := fun vs H Q _ => ∃ i j : Int, vs = [.int i, .int j] ∧ Q (.int (dv i j)) H
theorem ok_terms {f : Addr} {fd : FuncData} {k : Nat} (U : Nam mg) (d : D K mg "divisor_of_terms" s_terms ["top", "bottom"] f fd) : FnOk P w K mg base CX0 (k + 1) f fd ["top", "bottom"] spTerms := by
  refine d.F.ok sc_terms (fun vs H Q E h => ?_) (fun cdv A outer s H vs Q E hr h => ?_)
  · obtain ⟨i, j, rfl, _⟩ := h
    rfl
  · obtain ⟨i, j, rfl, q⟩ := h
    refine ⟨_, (pss_cons (ps_set (i := 2) sc_terms.nd rfl (.inl rfl) (pe_callBfun cr_gcd (by rfl) U.m_gcd (pa_cons (pv 0) (pa_cons (pv 1) pa_nil))))
      (pss_one (ps_ret (pe_ifExp (pt_cmpR op_lt (pv 1) pe_int (nomark _)) (pe_un un_neg (pv 2)) (pv 2))))), ?_⟩
    refine ⟨_, rfl, _, rfl, i, j, rfl, _, rfl, _, _, rfl, rfl, _, rfl, ?_⟩
    unfold dv at q
    by_cases hj : j < 0
    · rw [if_pos hj] at q
      rw [decide_eq_true hj]
      exact ⟨_, rfl, _, rfl, q⟩
    · rw [if_neg hj] at q
      rw [decide_eq_false hj]
      exact ⟨_, rfl, q⟩
def spOperand (K : PySem.W.Frag) (C : Addr) : Sp := fun vs H Q _ => ∃ (x : V) (t : Value) (c i b : Bool), vs = [x] ∧ TyX K H x t ∧ kit K t (.ref C) c ∧ kit K t (.type "int") i ∧ kit K t (.type "bool") b ∧ Q (.bl (c || (i && !b))) H
theorem ok_operand {f f1 : Addr} {fd fd1 : FuncData} {k : Nat} (T : Txt mg) (R : RC K mg C) (d : D K mg "is_operand" s_is_operand ["value"] f fd) (d1 : D K mg "is_whole" s_is_whole ["value"] f1 fd1) :
    FnOk P w K mg base CX0 (k + 2) f fd ["value"] (spOperand K C) := by
  have G1 : FnOk P w K mg base CX0 (k + 1) f1 fd1 ["value"] (spWhole K) := ok_whole T d1
  refine d.F.ok sc_is_operand (fun vs H Q E h => ?_) (fun cdv A outer s H vs Q E hr h => ?_)
  · obtain ⟨x, t, c, i, b, rfl, _⟩ := h
    rfl
  · obtain ⟨x, t, c, i, b, rfl, ty, kc, ki, kb, q⟩ := h
    refine ⟨_, (pss_one (ps_ret (pe_or (pe_callB call_isi (by rfl) T.n_isinstance (by decide +kernel) (pa_cons (pv 0) (pa_cons (pe_glob (v := .ref C) rfl R.mC rfl) pa_nil)))
      (pe_one (pe_call G1 hr (by rfl) d1.g d1.F.kp d1.b .nil pass0 (pa_cons (pv 0) pa_nil)))))), ?_⟩
    refine ⟨_, rfl, _, _, t, _, c, rfl, .own C, ty, kc, c, rfl, ?_⟩
    cases c with
    | true => exact iteT q
    | false => exact iteF ⟨_, rfl, x, t, i, b, rfl, ty, ki, kb, q⟩
def spTermsOf (K : PySem.W.Frag) (C : Addr) : Sp := fun vs H Q _ => ∃ (x : V) (p q : Int), vs = [x] ∧ Opd H C x p q ∧ ∀ t, H t = none → Q (.ref t) (upd H t (.tup [.int p, .int q]))
theorem ok_terms_of {f : Addr} {fd : FuncData} {k : Nat} (T : Txt mg) (R : RC K mg C) (IC : C8.InsC K C) (kc : KC K C) (d : D K mg "terms_of" s_terms_of ["operand"] f fd) :
    FnOk P w K mg base CX0 (k + 1) f fd ["operand"] (spTermsOf K C) := by
  refine d.F.ok sc_terms_of (fun vs H Q E h => ?_) (fun cdv A outer s H vs Q E hr h => ?_)
  · obtain ⟨x, p, q, rfl, _⟩ := h
    rfl
  · obtain ⟨x, p, q, rfl, o, g⟩ := h
    refine ⟨_, (pss_cons (ps_if (pt_val (pe_callB call_isi (by rfl) T.n_isinstance (by decide +kernel) (pa_cons (pv 0) (pa_cons (pe_glob (v := .ref C) rfl R.mC rfl) pa_nil))))
        (pss_one (ps_ret (pe_tup (pa_cons (pe_fld (pv 0) rfl) (pa_cons (pe_fld (pv 0) rfl) pa_nil))))) pss_nil)
      (pss_one (ps_ret (pe_tup (pa_cons (pv 0) (pa_cons pe_int pa_nil)))))), ?_⟩
    rcases o with ⟨a, rfl, r⟩ | ⟨rfl, rfl⟩
    · obtain ⟨dx, ha⟩ := id r
      refine ⟨_, rfl, _, _, .ref C, _, true, rfl, .own C, r.ty IC, kc.own, true, rfl, iteT ?_⟩
      exact ⟨_, rfl, a, C, dx, _, _, rfl, ha, R.cl, R.nT, pf_top p q, _, rfl, a, C, dx, _, _, rfl, ha, R.cl, R.nB, pf_bottom p q, (by show 2 ≤ sizeLine; decide), g⟩
    · refine ⟨_, rfl, _, _, .type "int", _, false, rfl, .own C, .base (.int p), kc.int, false, rfl, iteF ?_⟩
      exact ⟨_, rfl, (by show 2 ≤ sizeLine; decide), g⟩
end
end K02

/-! # ratios are made -/
namespace K02
open PySem PySem.Spec PyProof.Rows L2
abbrev s_init : Stmt := inClass (topS 13) 0
theorem sc_init : FnScope ["self", "top", "bottom", "divisor"] ["self", "top", "bottom"] (defScope s_init) := ⟨rfl, rfl, rfl, by decide +kernel, rfl, by decide +kernel, by decide +kernel⟩
theorem tyx {K : PySem.W.Frag} {H H' : Hp} {x : V} {t : Value} (s : Same H H') (h : TyX K H x t) : TyX K H' x t := by
  cases h with
  | base b =>
    refine .base ?_
    cases b with
    | non => exact .non
    | bl x => exact .bl x
    | int i => exact .int i
    | str x => exact .str x
    | flt x => exact .flt x
    | lst e => exact .lst (s _ _ e)
    | frz e => exact .frz (s _ _ e)
    | tup e => exact .tup (s _ _ e)
    | dK e => exact .dK (s _ _ e)
    | dT e => exact .dT (s _ _ e)
    | ins e a b c d g => exact .ins (s _ _ e) a b c d g
  | byt b => exact .byt b
  | set e => exact .set (s _ _ e)
  | kList e c => exact .kList e c
  | kTuple e c => exact .kTuple e c
  | kDict e c => exact .kDict e c
  | fTuple e => exact .fTuple (s _ _ e)
  | fDict e => exact .fDict (s _ _ e)
theorem IsI.same {K : PySem.W.Frag} {H H' : Hp} {x : V} {c : Bool} (h : IsI K H x c) (s : Same H H') : IsI K H' x c := by
  obtain ⟨t, i, b, ty, r⟩ := h
  exact ⟨t, i, b, tyx s ty, r⟩
theorem isI {K : PySem.W.Frag} {H : Hp} {i : Int} (h : i.natAbs < 10 ^ 60) : IsI K H (.int i) true :=
  ⟨.type "int", true, false, .base (.int i), kit_ty (by decide +kernel), kit_ty (by decide +kernel), .inr ⟨rfl, i, rfl, (decide_eq_true h).symm⟩⟩
/-- an error that tells of the value -/
def Rais (CN : Addr) (x : V) (H : Hp) (E : XK) : Prop := ∀ d, H d = none → E (.ref CN) (some d) (upd H d (.xd [(("given" : Str), x)]))
section
variable {X : Cx} {CX : CXT} {k : Nat} {f C : Addr} {fd : FuncData} {ps : List Str} {sp : Sp} {E : L2.St → XK} {x : Str} {p pos : Pos} {e : Expr} {es : List Expr} {t : TA}
/-- C(e, ..) where what is raised is wished for at the slots -/
theorem pe_makeS (M : Mk X.K C f) (F : FnOk X.prog X.w X.K X.mg X.base CX k f fd ps sp) (hr : Room (k + 1) X.A) (hg : Gl X x) (hm : X.mg x = some (.ref C)) (hb : Binds X.K fd ps []) (hx : ∀ σ, PassesAt CX X σ (E σ)) (ha : PA X (e :: es) t)
    (hdb : (x == ("__debug__" : Str)) = false := by decide) (he : starEach (e :: es) X.env = (false, eval e X.env) :: starEach es X.env := by rfl) (hpl : (backTo pos (starEach es X.env)).any (·.1) = false := by rfl) :
    PE X (.Call (.Name x p) (e :: es) [] pos) (fun σ H Q => t σ H fun vs H1 => ∀ a dx, H1 a = none → H1 dx = none → dx ≠ a → sp (.ref a :: vs) (upd (upd H1 dx (.own a)) a (.ins C dx [])) (fun v H2 => v = .non ∧ Q (.ref a) H2) (E σ)) := by
  refine ⟨fun pins s σ H Q I h => wpAny_Call_Name_kw (ld_glob I hg hm ?_ hdb)⟩
  refine PySem.W.callWith_K (h₀ := X.base) I.ok.mod.kin M.kp (thn (ha.run pos pins s σ H _ I h) fun us s1 ⟨vs, H1, I1, r, q⟩ => ⟨I1.kIn, ?_⟩) he hpl
  have q0 := q (s1.heap.objs.size + 1) s1.heap.objs.size (I1.hok.fresh (Nat.le_succ _)) (I1.hok.fresh (Nat.le_refl _)) (Nat.ne_of_lt (Nat.lt_succ_self _))
  have I2 : Inv X pins σ _ _ := Inv.made (C := C) I1
  have r2 : Vals (V.ref (s1.heap.objs.size + 1) :: vs) (Value.ref (s1.heap.objs.size + 1) :: us) := .cons rfl r
  have many : ((Value.ref (s1.heap.objs.size + 1) :: us) ++ []).length = ps.length := by
    rw [List.append_nil, ← r2.length]
    exact F.len _ _ _ _ q0
  have bnd := hb _ _ I2.kIn many
  rw [List.append_nil] at bnd
  have cd := F.run _ X.stack _ _ ⟨Value.ref (s1.heap.objs.size + 1) :: us, []⟩ (Value.ref (s1.heap.objs.size + 1) :: us) _ _ (E σ) (hr.make C us []) (I2.env0.make C us []) bnd r2 q0
  refine wpAny_call (make_map (f := f) I1.kIn M.makes M.init (beq_iff_eq.mp M.fn) (codeAny_mono cd fun res s' z => ?_))
  cases res with
  | error er => exact hx σ pins _ _ er s' I2 z
  | ok fl =>
    cases fl with
    | ret u =>
      obtain ⟨v, H', I3, rv, ev, q3⟩ := I2.after z
      subst ev
      exact ⟨rv, ⟨V.ref (s1.heap.objs.size + 1), H', I3, rfl, q3⟩⟩
    | next => exact z.elim
    | brk => exact z.elim
    | cont => exact z.elim
end
section
variable {P : Program} {w : World} {K : PySem.W.Frag} {mg : Str → Option Value} {base : Heap} {C CN : Addr}
/-- a ratio is made -/
def spInit (C : Addr) : Sp := fun vs H Q _ => ∃ (a : Addr) (i j : Int) (dx : Addr), vs = [.ref a, .int i, .int j] ∧ i.natAbs < 10 ^ 60 ∧ j.natAbs < 10 ^ 60 ∧ j ≠ 0 ∧ H a = some (.ins C dx []) ∧
  ∀ H', But a H H' → Rat H' a C (i / dv i j) (j / dv i j) → Q .non H'
/-- the rule for __init__, which has a default -/
def Body (P : Program) (w : World) (K : PySem.W.Frag) (mg : Str → Option Value) (base : Heap) (CX : CXT) (f : Addr) (fd : FuncData) : Prop := ∀ (sp : Sp) (j : Nat), (∀ vs H Q E, sp vs H Q E → vs.length = 3) →
  (∀ (cdv : Value) (A : Around) (outer : List Env) (s : Shared) (H : Hp) (vs : List V) (Q : VK) (E : XK), Room j (A.deeper (envOfC "Ratio.__init__" (defScope s_init) s.heap.objs.size f cdv)) → sp vs H Q E →
    ∃ t, PSs (cxOf CX P w K mg base ["self", "top", "bottom", "divisor"] "Ratio.__init__" (defScope s_init) f cdv A outer s H E) (defBody s_init) t ∧ t { nx := fun _ H' => Q .non H', rt := Q } (L2.start ["self", "top", "bottom", "divisor"] vs) H) →
  FnOk P w K mg base CX (j + 1) f fd ["self", "top", "bottom"] sp
theorem ok_init {f f1 f2 f3 : Addr} {fd fd1 fd2 fd3 : FuncData} {k : Nat} (T : Txt mg) (N : Nam mg) (R : RC K mg C) (body : Body P w K mg base CX0 f fd)
    (d1 : D K mg "is_whole" s_is_whole ["value"] f1 fd1) (d2 : D K mg "is_integer" s_is_integer ["value"] f2 fd2) (d3 : D K mg "divisor_of_terms" s_terms ["top", "bottom"] f3 fd3) :
    FnOk P w K mg base CX0 (k + 3) f fd ["self", "top", "bottom"] (spInit C) := by
  have G2 : FnOk P w K mg base CX0 (k + 2) f2 fd2 ["value"] (spInteger K) := ok_integer T N d2 d1
  have G3 : FnOk P w K mg base CX0 (k + 2) f3 fd3 ["top", "bottom"] spTerms := ok_terms N d3
  refine body (spInit C) (k + 2) (fun vs H Q E h => ?_) (fun cdv A outer s H vs Q E hr h => ?_)
  · obtain ⟨a, i, j, dx, rfl, _⟩ := h
    rfl
  · obtain ⟨a, i, j, dx, rfl, hi, hj, j0, ha, g⟩ := h
    refine ⟨_, PSs.nox (pss_cons (ps_if (pt_not (pt_val (pe_call G2 hr (by rfl) d2.g d2.F.kp d2.b .nil pass0 (pa_cons (pv 1) pa_nil)))) dead pss_nil)
      (pss_cons (ps_if (PW.pt (pw_or (pt_not (pt_val (pe_call G2 hr (by rfl) d2.g d2.F.kp d2.b .nil pass0 (pa_cons (pv 2) pa_nil)))) (pw_or1 (pt_cmpR op_eq (pv 2) pe_int (nomark _))))) dead pss_nil)
      (pss_cons (ps_set (i := 3) sc_init.nd rfl (.inl rfl) (pe_call G3 hr (by rfl) d3.g d3.F.kp d3.b .nil pass0 (pa_cons (pv 1) (pa_cons (pv 2) pa_nil))))
      (pss_cons (ps_fld (pv 0) (pe_op op_fdivE (pv 1) (pv 3)) rfl)
      (pss_one (ps_fld (pv 0) (pe_op op_fdivE (pv 2) (pv 3)) rfl)))))), ?_⟩
    refine ⟨_, rfl, _, true, rfl, isI hi, true, rfl, ?_⟩
    refine ite2 (fun z => absurd z (by decide)) (fun _ => ?_)
    refine ⟨_, rfl, _, true, rfl, isI hj, true, rfl, ?_⟩
    refine ite2 (fun z => absurd z (by decide)) (fun _ => ?_)
    refine ⟨_, rfl, rfl, _, rfl, ite2 (fun z => absurd (V.int.inj (of_decide_eq_true z)) j0) (fun _ => ?_)⟩
    refine ⟨_, rfl, _, rfl, i, j, rfl, ?_⟩
    obtain ⟨f1', f2'⟩ := fdiv_dv (i := i) j0
    have sm := Nat.lt_of_lt_of_le ((dv_bd (i := i) j0 (Bd.of60 hj)).log (by decide)) (by decide : 200 ≤ 9000)
    refine ⟨_, rfl, _, rfl, i, dv i j, rfl, rfl, ⟨dv_ne j0, sm⟩, ?_⟩
    refine ⟨_, rfl, a, C, dx, [], rfl, ha, R.cl, R.nT, (by show 0 < 1000; decide), ?_⟩
    refine ⟨_, rfl, _, rfl, j, dv i j, rfl, rfl, ⟨dv_ne j0, sm⟩, ?_⟩
    refine ⟨_, rfl, a, C, dx, _, rfl, upd_same, R.cl, R.nB, (by show 1 < 1000; decide), ?_⟩
    refine g _ ((but_upd a H _).trans (but_upd a _ _)) ⟨dx, ?_⟩
    rw [upd_same, ← f1', ← f2']
    rfl
/-- none is made -/
def spInitX (K : PySem.W.Frag) (CN : Addr) : Sp := fun vs H Q E => ∃ (a : Addr) (x y g : V), vs = [.ref a, x, y] ∧ ((IsI K H x false ∧ g = x) ∨ (∃ i : Int, x = .int i ∧ i.natAbs < 10 ^ 60 ∧ (IsI K H y false ∨ y = .int 0) ∧ g = y)) ∧ Rais CN g H E
theorem ok_initX {f f1 f2 fI : Addr} {fd fd1 fd2 : FuncData} {k : Nat} (T : Txt mg) (N : Nam mg) (NT : PySem.NumX.NumTxt K mg CN fI) (body : Body P w K mg base (L2.CX P w) f fd)
    (d1 : D K mg "is_whole" s_is_whole ["value"] f1 fd1) (d2 : D K mg "is_integer" s_is_integer ["value"] f2 fd2) : FnOk P w K mg base (L2.CX P w) (k + 3) f fd ["self", "top", "bottom"] (spInitX K CN) := by
  have G2 : FnOk P w K mg base CX0 (k + 2) f2 fd2 ["value"] (spInteger K) := ok_integer T N d2 d1
  refine body (spInitX K CN) (k + 2) (fun vs H Q E h => ?_) (fun cdv A outer s H vs Q E hr h => ?_)
  · obtain ⟨a, x, y, g, rfl, _⟩ := h
    rfl
  · obtain ⟨a, x, y, g, rfl, h, ra⟩ := h
    refine ⟨_, (pss_cons (ps_if (pt_not (pt_val (pe_call G2 hr (by rfl) d2.g d2.F.kp d2.b .nil pass0 (pa_cons (pv 1) pa_nil)))) (pss_one (ps_raiseNum rfl NT hr (takes_of rfl rfl rfl rfl) (by exact (pa_cons (pv 1) pa_nil)))) pss_nil)
      (pss_cons (ps_if (PW.pt (pw_or (pt_not (pt_val (pe_call G2 hr (by rfl) d2.g d2.F.kp d2.b .nil pass0 (pa_cons (pv 2) pa_nil)))) (pw_or1 (pt_cmpR op_eq (pv 2) pe_int (nomark _))))) (pss_one (ps_raiseNum rfl NT hr (takes_of rfl rfl rfl rfl) (by exact (pa_cons (pv 2) pa_nil)))) pss_nil)
      dead)), ?_⟩
    rcases h with ⟨nx, rfl⟩ | ⟨i, rfl, hi, hy, rfl⟩
    · refine ⟨_, rfl, _, false, rfl, nx, false, rfl, ?_⟩
      exact iteT ⟨_, rfl, _, rfl, ra⟩
    · refine ⟨_, rfl, _, true, rfl, isI hi, true, rfl, ?_⟩
      refine ite2 (fun z => absurd z (by decide)) (fun _ => ?_)
      rcases hy with ny | rfl
      · refine ⟨_, rfl, _, false, rfl, ny, false, rfl, ?_⟩
        exact iteT (iteT ⟨_, rfl, _, rfl, ra⟩)
      · refine ⟨_, rfl, _, true, rfl, isI (by decide), true, rfl, ?_⟩
        refine ite2 (fun z => absurd z (by decide)) (fun _ => ?_)
        refine ⟨_, rfl, rfl, _, rfl, ite2 (fun _ => ?_) (fun z => absurd (decide_eq_true rfl) z)⟩
        exact ⟨_, rfl, _, rfl, ra⟩
/-- what a new ratio leaves: its terms, at a place of its own -/
def spRatioOf (C : Addr) : Sp := fun vs H Q _ => ∃ (i j : Int) (n : Nat), vs = [.int i, .int j] ∧ j ≠ 0 ∧ Bd n j ∧ n ≤ 8000 ∧ 0 < n ∧ ∀ H' a, Same H H' → H a = none → Rat H' a C (i / dv i j) (j / dv i j) → Q (.ref a) H'
theorem made_same {H G H6 : Hp} {a dx : Addr} {o u : HO} (s : Same H G) (ha : G a = none) (hd : G dx = none) (but : But a (upd (upd G dx o) a u) H6) : Same H H6 ∧ H a = none :=
  ⟨fun c x h => by
    have h1 := s c x h
    have na : c ≠ a := ne_of_none h1 ha
    rw [but c na, upd_ne na, upd_ne (ne_of_none h1 hd)]
    exact h1, s.free ha⟩
theorem dv_one (i : Int) : i / dv i 1 = i ∧ (1 : Int) / dv i 1 = 1 := by
  have e : dv i 1 = 1 := by
    unfold dv
    rw [if_neg (by decide)]
    show ((Nat.gcd i.natAbs 1 : Nat) : Int) = 1
    rw [Nat.gcd_one_right]
    rfl
  rw [e]
  exact ⟨Int.ediv_one i, rfl⟩
theorem ok_ratio_of {f f3 fI : Addr} {fd fd3 fdI : FuncData} {k : Nat} {ds : List Value} (N : Nam mg) (R : RC K mg C) (mk : Mk K C fI) (GI : FnOk P w K mg base CX0 (k + 3) fI fdI ["self", "top", "bottom"] (spInit C)) (b2 : Binds K fdI ["self", "top", "bottom"] ds) (vd : Vals [.int 1] ds)
    (d : D K mg "ratio_of" s_ratio_of ["top", "bottom"] f fd) (d3 : D K mg "divisor_of_terms" s_terms ["top", "bottom"] f3 fd3) : FnOk P w K mg base CX0 (k + 5) f fd ["top", "bottom"] (spRatioOf C) := by
  have G3 : FnOk P w K mg base CX0 (k + 4) f3 fd3 ["top", "bottom"] spTerms := ok_terms N d3
  refine d.F.ok sc_ratio_of (fun vs H Q E h => ?_) (fun cdv A outer s H vs Q E hr h => ?_)
  · obtain ⟨i, j, n, rfl, _⟩ := h
    rfl
  · obtain ⟨i, j, n, rfl, j0, bj, hn, n0, g⟩ := h
    refine ⟨_, (pss_cons (ps_set (i := 2) sc_ratio_of.nd rfl (.inl rfl) (pe_call G3 hr (by rfl) d3.g d3.F.kp d3.b .nil pass0 (pa_cons (pv 0) (pa_cons (pv 1) pa_nil))))
      (pss_cons (ps_set (i := 3) sc_ratio_of.nd rfl (.inl rfl) (pe_make mk GI hr (by rfl) R.mC b2 vd pass0 (pa_cons pe_int pa_nil)))
      (pss_cons (ps_fld (pv 3) (pe_op op_fdivE (pv 0) (pv 2)) rfl)
      (pss_cons (ps_fld (pv 3) (pe_op op_fdivE (pv 1) (pv 2)) rfl)
      (pss_one (ps_ret (pv 3))))))), ?_⟩
    obtain ⟨f1', f2'⟩ := fdiv_dv (i := i) j0
    have sm := Nat.lt_of_lt_of_le ((dv_bd (i := i) j0 bj).log n0) (show n ≤ 9000 by omega)
    refine ⟨_, rfl, _, rfl, i, j, rfl, ?_⟩
    intro a dx ha hdx hne
    refine ⟨a, 0, 1, dx, rfl, by decide, by decide, by decide, upd_same, fun H1 but rat => ⟨rfl, ?_⟩⟩
    obtain ⟨s1, n1⟩ := made_same (Same.refl H) ha hdx but
    obtain ⟨e1, e2⟩ := dv_one 0
    rw [e1, e2] at rat
    obtain ⟨dy, hy⟩ := rat
    refine ⟨_, rfl, _, rfl, i, dv i j, rfl, rfl, ⟨dv_ne j0, sm⟩, ?_⟩
    refine ⟨_, rfl, a, C, dy, _, rfl, hy, R.cl, R.nT, (by rw [pf_eq]; show 2 < 1000; decide), ?_⟩
    refine ⟨_, rfl, _, rfl, j, dv i j, rfl, rfl, ⟨dv_ne j0, sm⟩, ?_⟩
    refine ⟨_, rfl, a, C, dy, _, rfl, upd_same, R.cl, R.nB, ?_, ?_⟩
    · have z : (putF "_top" (.int (i.fdiv (dv i j))) (pf 0 1)).length = 2 := by
        rw [pf_eq]
        show (if ("_top" : Str) = "_top" then (("_top" : Str), V.int (i.fdiv (dv i j))) :: [(("_bottom" : Str), V.int 1)] else _).length = 2
        rw [if_pos rfl]
        rfl
      rw [z]
      decide
    · refine ⟨_, rfl, g _ a (fun c o h => ?_) n1 ⟨dy, ?_⟩⟩
      · have na : c ≠ a := ne_of_none h n1
        rw [upd_ne na, upd_ne na]
        exact s1 c o h
      · rw [upd_same, pf_put, f1', f2']
end
end K02

/-! # what ratios answer -/
namespace K02
open PySem PySem.Spec PyProof.Rows L2
abbrev s_top : Stmt := inClass (topS 13) 2
theorem sc_top : FnScope ["self"] ["self"] (defScope s_top) := ⟨rfl, rfl, rfl, by decide +kernel, rfl, by decide +kernel, by decide +kernel⟩
abbrev s_bottom : Stmt := inClass (topS 13) 3
theorem sc_bottom : FnScope ["self"] ["self"] (defScope s_bottom) := ⟨rfl, rfl, rfl, by decide +kernel, rfl, by decide +kernel, by decide +kernel⟩
abbrev s_sign : Stmt := inClass (topS 13) 4
theorem sc_sign : FnScope ["self"] ["self"] (defScope s_sign) := ⟨rfl, rfl, rfl, by decide +kernel, rfl, by decide +kernel, by decide +kernel⟩
abbrev s_add : Stmt := inClass (topS 13) 5
theorem sc_add : FnScope ["self", "other", "top", "bottom"] ["self", "other"] (defScope s_add) := ⟨rfl, rfl, rfl, by decide +kernel, rfl, by decide +kernel, by decide +kernel⟩
abbrev s_sub : Stmt := inClass (topS 13) 6
theorem sc_sub : FnScope ["self", "other", "top", "bottom"] ["self", "other"] (defScope s_sub) := ⟨rfl, rfl, rfl, by decide +kernel, rfl, by decide +kernel, by decide +kernel⟩
abbrev s_mul : Stmt := inClass (topS 13) 7
theorem sc_mul : FnScope ["self", "other", "top", "bottom"] ["self", "other"] (defScope s_mul) := ⟨rfl, rfl, rfl, by decide +kernel, rfl, by decide +kernel, by decide +kernel⟩
abbrev s_neg : Stmt := inClass (topS 13) 8
theorem sc_neg : FnScope ["self"] ["self"] (defScope s_neg) := ⟨rfl, rfl, rfl, by decide +kernel, rfl, by decide +kernel, by decide +kernel⟩
abbrev s_over : Stmt := inClass (topS 13) 9
theorem sc_over : FnScope ["self", "other", "top", "bottom"] ["self", "other"] (defScope s_over) := ⟨rfl, rfl, rfl, by decide +kernel, rfl, by decide +kernel, by decide +kernel⟩
abbrev s_compared : Stmt := inClass (topS 13) 10
theorem sc_compared : FnScope ["self", "other", "top", "bottom"] ["self", "other"] (defScope s_compared) := ⟨rfl, rfl, rfl, by decide +kernel, rfl, by decide +kernel, by decide +kernel⟩
abbrev s_eq : Stmt := inClass (topS 13) 11
theorem sc_eq : FnScope ["self", "other"] ["self", "other"] (defScope s_eq) := ⟨rfl, rfl, rfl, by decide +kernel, rfl, by decide +kernel, by decide +kernel⟩
abbrev s_bool : Stmt := inClass (topS 13) 12
theorem sc_bool : FnScope ["self"] ["self"] (defScope s_bool) := ⟨rfl, rfl, rfl, by decide +kernel, rfl, by decide +kernel, by decide +kernel⟩
abbrev s_str : Stmt := inClass (topS 13) 13
theorem sc_str : FnScope ["self"] ["self"] (defScope s_str) := ⟨rfl, rfl, rfl, by decide +kernel, rfl, by decide +kernel, by decide +kernel⟩
/-- the text of a ratio -/
def rs (p q : Int) : Str := if q = 1 then Str.ofString (toString p) else Str.ofString (toString p) ++ "/" ++ Str.ofString (toString q)
theorem empty_add (x : Str) : Str.empty ++ x = x := by
  obtain ⟨c⟩ := x
  show (⟨#[] ++ c⟩ : Str) = ⟨c⟩
  rw [Array.empty_append]
theorem small1000' {n : Nat} (h : n ≤ 10000) : n ≤ sizeLine := Nat.le_trans h (by decide)
section
variable {P : Program} {w : World} {K : PySem.W.Frag} {mg : Str → Option Value} {base : Heap} {C CN CO : Addr}
def spTop (C : Addr) : Sp := fun vs H Q _ => ∃ a p q, vs = [.ref a] ∧ Rat H a C p q ∧ Q (.int p) H
theorem ok_top {f : Addr} {fd : FuncData} {k : Nat} (R : RC K mg C) (d : M K "top" "Ratio.top" s_top ["self"] f fd) : FnOk P w K mg base CX0 (k + 1) f fd ["self"] (spTop C) := by
  refine d.F.ok sc_top (fun vs H Q E h => ?_) (fun cdv A outer s H vs Q E hr h => ?_)
  · obtain ⟨a, p, q, rfl, _⟩ := h
    rfl
  · obtain ⟨a, p, q, rfl, ⟨dx, ha⟩, g⟩ := h
    exact ⟨_, pss_one (ps_ret (pe_fld (pv 0) rfl)), _, rfl, a, C, dx, _, _, rfl, ha, R.cl, R.nT, pf_top p q, g⟩
def spBottom (C : Addr) : Sp := fun vs H Q _ => ∃ a p q, vs = [.ref a] ∧ Rat H a C p q ∧ Q (.int q) H
theorem ok_bottom {f : Addr} {fd : FuncData} {k : Nat} (R : RC K mg C) (d : M K "bottom" "Ratio.bottom" s_bottom ["self"] f fd) : FnOk P w K mg base CX0 (k + 1) f fd ["self"] (spBottom C) := by
  refine d.F.ok sc_bottom (fun vs H Q E h => ?_) (fun cdv A outer s H vs Q E hr h => ?_)
  · obtain ⟨a, p, q, rfl, _⟩ := h
    rfl
  · obtain ⟨a, p, q, rfl, ⟨dx, ha⟩, g⟩ := h
    exact ⟨_, pss_one (ps_ret (pe_fld (pv 0) rfl)), _, rfl, a, C, dx, _, _, rfl, ha, R.cl, R.nB, pf_bottom p q, g⟩
def spSignM (C : Addr) : Sp := fun vs H Q _ => ∃ a p q, vs = [.ref a] ∧ Rat H a C p q ∧ Q (.int (sg p)) H
theorem ok_signM {f f1 : Addr} {fd fd1 : FuncData} {k : Nat} (R : RC K mg C) (d : M K "sign" "Ratio.sign" s_sign ["self"] f fd) (d1 : D K mg "sign_of" s_sign_of ["number"] f1 fd1) : FnOk P w K mg base CX0 (k + 2) f fd ["self"] (spSignM C) := by
  have G1 : FnOk P w K mg base CX0 (k + 1) f1 fd1 ["number"] spSign := ok_sign d1
  refine d.F.ok sc_sign (fun vs H Q E h => ?_) (fun cdv A outer s H vs Q E hr h => ?_)
  · obtain ⟨a, p, q, rfl, _⟩ := h
    rfl
  · obtain ⟨a, p, q, rfl, ⟨dx, ha⟩, g⟩ := h
    refine ⟨_, pss_one (ps_ret (pe_call G1 hr (by rfl) d1.g d1.F.kp d1.b .nil pass0 (pa_cons (pe_fld (pv 0) rfl) pa_nil))), ?_⟩
    exact ⟨_, rfl, a, C, dx, _, _, rfl, ha, R.cl, R.nT, pf_top p q, p, rfl, g⟩
def spBool (C : Addr) : Sp := fun vs H Q _ => ∃ a p q, vs = [.ref a] ∧ Rat H a C p q ∧ Q (.bl (p != 0)) H
theorem ok_bool {f : Addr} {fd : FuncData} {k : Nat} (T : Txt mg) (R : RC K mg C) (d : M K "__bool__" "Ratio.__bool__" s_bool ["self"] f fd) : FnOk P w K mg base CX0 (k + 1) f fd ["self"] (spBool C) := by
  refine d.F.ok sc_bool (fun vs H Q E h => ?_) (fun cdv A outer s H vs Q E hr h => ?_)
  · obtain ⟨a, p, q, rfl, _⟩ := h
    rfl
  · obtain ⟨a, p, q, rfl, ⟨dx, ha⟩, g⟩ := h
    refine ⟨_, pss_one (ps_ret (pe_callTy call_bool1 (by rfl) T.n_bool (by decide +kernel) (pa_cons (pe_fld (pv 0) rfl) pa_nil))), ?_⟩
    exact ⟨_, rfl, a, C, dx, _, _, rfl, ha, R.cl, R.nT, pf_top p q, .inl ⟨p, rfl, g⟩⟩
/-- == of a ratio and any value -/
def spEq (K : PySem.W.Frag) (C : Addr) : Sp := fun vs H Q _ => ∃ a p q x t c, vs = [.ref a, x] ∧ Rat H a C p q ∧ TyX K H x t ∧ kit K t (.ref C) c ∧
  ((c = false ∧ Q (.bl false) H) ∨ (c = true ∧ ∃ b p' q', x = .ref b ∧ Rat H b C p' q' ∧ Q (.bl (decide (p = p') && decide (q = q'))) H))
theorem ok_eq {f : Addr} {fd : FuncData} {k : Nat} (T : Txt mg) (R : RC K mg C) (d : M K "__eq__" "Ratio.__eq__" s_eq ["self", "other"] f fd) : FnOk P w K mg base CX0 (k + 1) f fd ["self", "other"] (spEq K C) := by
  refine d.F.ok sc_eq (fun vs H Q E h => ?_) (fun cdv A outer s H vs Q E hr h => ?_)
  · obtain ⟨a, p, q, x, t, c, rfl, _⟩ := h
    rfl
  · obtain ⟨a, p, q, x, t, c, rfl, ⟨dx, ha⟩, ty, kc, h⟩ := h
    refine ⟨_, pss_one (ps_ret (pe_and (pe_callB call_isi (by rfl) T.n_isinstance (by decide +kernel) (pa_cons (pv 1) (pa_cons (pe_glob (v := .ref C) rfl R.mC rfl) pa_nil)))
      (pe_and (pe_cmpR op_eq (pe_fld (pv 0) rfl) (pe_fld (pv 1) rfl) (nomark _)) (pe_one (pe_cmpR op_eq (pe_fld (pv 0) rfl) (pe_fld (pv 1) rfl) (nomark _)))))), ?_⟩
    refine ⟨_, rfl, _, _, t, _, c, rfl, .own C, ty, kc, c, rfl, ?_⟩
    rcases h with ⟨rfl, g⟩ | ⟨rfl, b, p', q', rfl, ⟨dy, hb⟩, g⟩
    · exact iteF g
    · refine iteT ⟨_, rfl, a, C, dx, _, _, rfl, ha, R.cl, R.nT, pf_top p q, _, rfl, b, C, dy, _, _, rfl, hb, R.cl, R.nT, pf_top p' q', rfl, _, rfl, ite2 (fun e => ?_) (fun e => ?_)⟩
      · have e1 : p = p' := V.int.inj (of_decide_eq_true e)
        refine ⟨_, rfl, a, C, dx, _, _, rfl, ha, R.cl, R.nB, pf_bottom p q, _, rfl, b, C, dy, _, _, rfl, hb, R.cl, R.nB, pf_bottom p' q', rfl, ?_⟩
        have e2 : decide (V.int q = V.int q') = (decide (p = p') && decide (q = q')) := by
          rw [decide_eq_true e1, Bool.true_and]
          exact decide_eq_decide.mpr ⟨fun z => V.int.inj z, fun z => congrArg V.int z⟩
        show Q (.bl (decide (V.int q = V.int q'))) H
        rw [e2]
        exact g
      · have e1 : ¬ p = p' := fun z => e (decide_eq_true (congrArg V.int z))
        rw [decide_eq_false e1, Bool.false_and] at g
        exact g
/-- str of a ratio -/
def spStr (C : Addr) : Sp := fun vs H Q _ => ∃ a p q n, vs = [.ref a] ∧ Rat H a C p q ∧ Bd n p ∧ Bd n q ∧ n ≤ 9000 ∧ Q (.str (rs p q)) H
theorem cat_len (x y : Str) : (x ++ y).length = x.length + y.length := strLen_append x y
theorem ok_str {f : Addr} {fd : FuncData} {k : Nat} (Dd : Dg K) (N : Nam mg) (R : RC K mg C) (d : M K "__str__" "Ratio.__str__" s_str ["self"] f fd) : FnOk P w K mg base CX0 (k + 1) f fd ["self"] (spStr C) := by
  refine d.F.ok sc_str (fun vs H Q E h => ?_) (fun cdv A outer s H vs Q E hr h => ?_)
  · obtain ⟨a, p, q, n, rfl, _⟩ := h
    rfl
  · obtain ⟨a, p, q, n, rfl, ⟨dx, ha⟩, hp, hq, hn, g⟩ := h
    refine ⟨_, (pss_cons (ps_if (pt_cmpR op_eq (pe_fld (pv 0) rfl) pe_int (nomark _)) (pss_one (ps_ret (pe_callTy (call_strB Dd rfl) (by rfl) N.n_str (by decide +kernel) (pa_cons (pe_fld (pv 0) rfl) pa_nil)))) pss_nil)
      (pss_one (ps_ret (pe_joined (.cons (pe_fmtB Dd rfl (pe_fld (pv 0) rfl)) (.cons pe_str (.cons (pe_fmtB Dd rfl (pe_fld (pv 0) rfl)) .nil))))))), ?_⟩
    unfold rs at g
    refine ⟨_, rfl, a, C, dx, _, _, rfl, ha, R.cl, R.nB, pf_bottom p q, rfl, _, rfl, ite2 (fun e => ?_) (fun e => ?_)⟩
    · have e1 : q = 1 := V.int.inj (of_decide_eq_true e)
      rw [if_pos e1] at g
      exact ⟨_, rfl, a, C, dx, _, _, rfl, ha, R.cl, R.nT, pf_top p q, p, n, rfl, hp, hn, g⟩
    · have e1 : ¬ q = 1 := fun z => e (decide_eq_true (congrArg V.int z))
      rw [if_neg e1] at g
      have lp := str_size hp hn
      have lq := str_size hq hn
      have l1 : ("/" : Str).length = 1 := by decide +kernel
      refine ⟨_, rfl, a, C, dx, _, _, rfl, ha, R.cl, R.nT, pf_top p q, p, n, rfl, hp, hn, _, rfl, ?_, ?_⟩
      · rw [empty_add]
        exact small1000' (by omega)
      · refine ⟨_, rfl, ?_, _, rfl, a, C, dx, _, _, rfl, ha, R.cl, R.nB, pf_bottom p q, q, n, rfl, hq, hn, _, rfl, ?_, ?_⟩
        · rw [empty_add, cat_len]
          exact small1000' (by omega)
        · rw [empty_add, cat_len, cat_len]
          exact small1000' (by omega)
        · show Q (.str (Str.empty ++ Str.ofString (toString p) ++ "/" ++ Str.ofString (toString q))) H
          rw [empty_add]
          exact g
end
end K02

/-! # sums, differences, products, quotients of ratios -/
namespace K02
open PySem PySem.Spec PyProof.Rows L2
/-- a new ratio of two terms -/
def New (C : Addr) (H : Hp) (t u : Int) (Q : VK) : Prop := ∀ H' b, Same H H' → H b = none → Rat H' b C (t / dv t u) (u / dv t u) → Q (.ref b) H'
theorem New.back {C : Addr} {H H1 : Hp} {t u : Int} {Q : VK} (n : New C H t u Q) (s : Same H H1) : New C H1 t u Q := fun H' b s' nb r => n H' b (s.trans s') (s.free nb) r
/-- an operation's terms -/
abbrev Tm := Int → Int → Int → Int → Int
def spAr (tf bf : Tm) (C : Addr) : Sp := fun vs H Q _ => ∃ (a : Addr) (x : V) (p q p' q' : Int) (n m : Nat), vs = [.ref a, x] ∧ Rat H a C p q ∧ Opd H C x p' q' ∧ Bd n p ∧ Bd n q ∧ Bd m p' ∧ Bd m q' ∧ bf p q p' q' ≠ 0 ∧ 0 < n ∧ 0 < m ∧ n + m ≤ 7000 ∧ New C H (tf p q p' q') (bf p q p' q') Q
abbrev tAdd : Tm := fun p q p' q' => p * q' + p' * q
abbrev tSub : Tm := fun p q p' q' => p * q' - p' * q
abbrev tMul : Tm := fun p _ p' _ => p * p'
abbrev tOver : Tm := fun p _ _ q' => p * q'
abbrev bAll : Tm := fun _ q _ q' => q * q'
abbrev bOver : Tm := fun _ q p' _ => q * p'
section
variable {P : Program} {w : World} {K : PySem.W.Frag} {mg : Str → Option Value} {base : Heap} {C CN CO : Addr}
/-- what the operations call -/
structure Ops (P : Program) (w : World) (K : PySem.W.Frag) (mg : Str → Option Value) (base : Heap) (C : Addr) (fo ft fr fs : Addr) (fdo fdt fdr fds : FuncData) : Prop where
  T : Txt mg
  R : RC K mg C
  IC : C8.InsC K C
  kc : KC K C
  dO : D K mg "is_operand" s_is_operand ["value"] fo fdo
  dT : D K mg "terms_of" s_terms_of ["operand"] ft fdt
  dR : D K mg "ratio_of" s_ratio_of ["top", "bottom"] fr fdr
  dS : D K mg "sign_of" s_sign_of ["number"] fs fds
  GO : FnOk P w K mg base CX0 5 fo fdo ["value"] (spOperand K C)
  GT : FnOk P w K mg base CX0 5 ft fdt ["operand"] (spTermsOf K C)
  GR : FnOk P w K mg base CX0 5 fr fdr ["top", "bottom"] (spRatioOf C)
  GS : FnOk P w K mg base CX0 5 fs fds ["number"] spSign
variable {fo ft fr fs : Addr} {fdo fdt fdr fds : FuncData}
theorem ok_add {f : Addr} {fd : FuncData} (O : Ops P w K mg base C fo ft fr fs fdo fdt fdr fds) (d : M K "__add__" "Ratio.__add__" s_add ["self", "other"] f fd) : FnOk P w K mg base CX0 6 f fd ["self", "other"] (spAr tAdd bAll C) := by
  obtain ⟨T, R, IC, kc, dO, dT, dR, dS, GO, GT, GR, GS⟩ := O
  refine d.F.ok sc_add (fun vs H Q E h => ?_) (fun cdv A outer s H vs Q E hr h => ?_)
  · obtain ⟨a, x, p, q, p', q', n, m, rfl, _⟩ := h
    rfl
  · obtain ⟨a, x, p, q, p', q', n, m, rfl, r, o, bp, bq, bp', bq', z, n0, m0, nm, g⟩ := h
    refine ⟨_, (pss_cons (ps_if (pt_not (pt_val (pe_call GO hr (by rfl) dO.g dO.F.kp dO.b .nil pass0 (pa_cons (pv 1) pa_nil)))) dead pss_nil)
      (pss_cons (ps_asg (pe_call GT hr (by rfl) dT.g dT.F.kp dT.b .nil pass0 (pa_cons (pv 1) pa_nil)) (pg_tup rfl (pgs_cons (pg_name (i := 2) sc_add.nd rfl (.inl rfl)) (pgs_cons (pg_name (i := 3) sc_add.nd rfl (.inl rfl)) pgs_nil))))
      (pss_one (ps_ret (pe_call GR hr (by rfl) dR.g dR.F.kp dR.b .nil pass0 (pa_cons (pe_op op_add (pe_op op_mulW (pe_fld (pv 0) rfl) (pv 3)) (pe_op op_mulW (pv 2) (pe_fld (pv 0) rfl))) (pa_cons (pe_op op_mulW (pe_fld (pv 0) rfl) (pv 3)) pa_nil))))))), ?_⟩
    obtain ⟨t, c, i, b, ty, k1, k2, k3, e⟩ := o.ty IC kc
    refine ⟨_, rfl, x, t, c, i, b, rfl, ty, k1, k2, k3, true, congrArg V.bl e, ite2 (fun z => absurd z (by decide)) (fun _ => ?_)⟩
    refine ⟨_, rfl, x, p', q', rfl, o, fun u hu => ⟨u, _, rfl, .inl (.inl upd_same), rfl, _, _, rfl, _, _, rfl, rfl, ?_⟩⟩
    have s1 := sub_same (o := .tup [V.int p', V.int q']) hu
    obtain ⟨dx, ha⟩ := r.same s1
    refine ⟨_, rfl, a, C, dx, _, _, rfl, ha, R.cl, R.nT, pf_top p q, _, rfl, _, _, rfl, rfl, wide_mul bp bq' n0 m0 (by omega), ?_⟩
    refine ⟨_, rfl, _, rfl, a, C, dx, _, _, rfl, ha, R.cl, R.nB, pf_bottom p q, _, _, rfl, rfl, wide_mul bp' bq m0 n0 (by omega), _, _, rfl, rfl, ?_⟩
    refine ⟨_, rfl, a, C, dx, _, _, rfl, ha, R.cl, R.nB, pf_bottom p q, _, rfl, _, _, rfl, rfl, wide_mul bq bq' n0 m0 (by omega), ?_⟩
    exact ⟨_, _, n + m, rfl, z, bq.mul bq', by omega, by omega, g.back s1⟩
theorem ok_sub {f : Addr} {fd : FuncData} (O : Ops P w K mg base C fo ft fr fs fdo fdt fdr fds) (d : M K "__sub__" "Ratio.__sub__" s_sub ["self", "other"] f fd) : FnOk P w K mg base CX0 6 f fd ["self", "other"] (spAr tSub bAll C) := by
  obtain ⟨T, R, IC, kc, dO, dT, dR, dS, GO, GT, GR, GS⟩ := O
  refine d.F.ok sc_sub (fun vs H Q E h => ?_) (fun cdv A outer s H vs Q E hr h => ?_)
  · obtain ⟨a, x, p, q, p', q', n, m, rfl, _⟩ := h
    rfl
  · obtain ⟨a, x, p, q, p', q', n, m, rfl, r, o, bp, bq, bp', bq', z, n0, m0, nm, g⟩ := h
    refine ⟨_, (pss_cons (ps_if (pt_not (pt_val (pe_call GO hr (by rfl) dO.g dO.F.kp dO.b .nil pass0 (pa_cons (pv 1) pa_nil)))) dead pss_nil)
      (pss_cons (ps_asg (pe_call GT hr (by rfl) dT.g dT.F.kp dT.b .nil pass0 (pa_cons (pv 1) pa_nil)) (pg_tup rfl (pgs_cons (pg_name (i := 2) sc_sub.nd rfl (.inl rfl)) (pgs_cons (pg_name (i := 3) sc_sub.nd rfl (.inl rfl)) pgs_nil))))
      (pss_one (ps_ret (pe_call GR hr (by rfl) dR.g dR.F.kp dR.b .nil pass0 (pa_cons (pe_op op_sub (pe_op op_mulW (pe_fld (pv 0) rfl) (pv 3)) (pe_op op_mulW (pv 2) (pe_fld (pv 0) rfl))) (pa_cons (pe_op op_mulW (pe_fld (pv 0) rfl) (pv 3)) pa_nil))))))), ?_⟩
    obtain ⟨t, c, i, b, ty, k1, k2, k3, e⟩ := o.ty IC kc
    refine ⟨_, rfl, x, t, c, i, b, rfl, ty, k1, k2, k3, true, congrArg V.bl e, ite2 (fun z => absurd z (by decide)) (fun _ => ?_)⟩
    refine ⟨_, rfl, x, p', q', rfl, o, fun u hu => ⟨u, _, rfl, .inl (.inl upd_same), rfl, _, _, rfl, _, _, rfl, rfl, ?_⟩⟩
    have s1 := sub_same (o := .tup [V.int p', V.int q']) hu
    obtain ⟨dx, ha⟩ := r.same s1
    refine ⟨_, rfl, a, C, dx, _, _, rfl, ha, R.cl, R.nT, pf_top p q, _, rfl, _, _, rfl, rfl, wide_mul bp bq' n0 m0 (by omega), ?_⟩
    refine ⟨_, rfl, _, rfl, a, C, dx, _, _, rfl, ha, R.cl, R.nB, pf_bottom p q, _, _, rfl, rfl, wide_mul bp' bq m0 n0 (by omega), _, _, rfl, rfl, ?_⟩
    refine ⟨_, rfl, a, C, dx, _, _, rfl, ha, R.cl, R.nB, pf_bottom p q, _, rfl, _, _, rfl, rfl, wide_mul bq bq' n0 m0 (by omega), ?_⟩
    exact ⟨_, _, n + m, rfl, z, bq.mul bq', by omega, by omega, g.back s1⟩
theorem ok_mul {f : Addr} {fd : FuncData} (O : Ops P w K mg base C fo ft fr fs fdo fdt fdr fds) (d : M K "__mul__" "Ratio.__mul__" s_mul ["self", "other"] f fd) : FnOk P w K mg base CX0 6 f fd ["self", "other"] (spAr tMul bAll C) := by
  obtain ⟨T, R, IC, kc, dO, dT, dR, dS, GO, GT, GR, GS⟩ := O
  refine d.F.ok sc_mul (fun vs H Q E h => ?_) (fun cdv A outer s H vs Q E hr h => ?_)
  · obtain ⟨a, x, p, q, p', q', n, m, rfl, _⟩ := h
    rfl
  · obtain ⟨a, x, p, q, p', q', n, m, rfl, r, o, bp, bq, bp', bq', z, n0, m0, nm, g⟩ := h
    refine ⟨_, (pss_cons (ps_if (pt_not (pt_val (pe_call GO hr (by rfl) dO.g dO.F.kp dO.b .nil pass0 (pa_cons (pv 1) pa_nil)))) dead pss_nil)
      (pss_cons (ps_asg (pe_call GT hr (by rfl) dT.g dT.F.kp dT.b .nil pass0 (pa_cons (pv 1) pa_nil)) (pg_tup rfl (pgs_cons (pg_name (i := 2) sc_mul.nd rfl (.inl rfl)) (pgs_cons (pg_name (i := 3) sc_mul.nd rfl (.inl rfl)) pgs_nil))))
      (pss_one (ps_ret (pe_call GR hr (by rfl) dR.g dR.F.kp dR.b .nil pass0 (pa_cons (pe_op op_mulW (pe_fld (pv 0) rfl) (pv 2)) (pa_cons (pe_op op_mulW (pe_fld (pv 0) rfl) (pv 3)) pa_nil))))))), ?_⟩
    obtain ⟨t, c, i, b, ty, k1, k2, k3, e⟩ := o.ty IC kc
    refine ⟨_, rfl, x, t, c, i, b, rfl, ty, k1, k2, k3, true, congrArg V.bl e, ite2 (fun z => absurd z (by decide)) (fun _ => ?_)⟩
    refine ⟨_, rfl, x, p', q', rfl, o, fun u hu => ⟨u, _, rfl, .inl (.inl upd_same), rfl, _, _, rfl, _, _, rfl, rfl, ?_⟩⟩
    have s1 := sub_same (o := .tup [V.int p', V.int q']) hu
    obtain ⟨dx, ha⟩ := r.same s1
    refine ⟨_, rfl, a, C, dx, _, _, rfl, ha, R.cl, R.nT, pf_top p q, _, rfl, _, _, rfl, rfl, wide_mul bp bp' n0 m0 (by omega), ?_⟩
    refine ⟨_, rfl, a, C, dx, _, _, rfl, ha, R.cl, R.nB, pf_bottom p q, _, rfl, _, _, rfl, rfl, wide_mul bq bq' n0 m0 (by omega), ?_⟩
    exact ⟨_, _, n + m, rfl, z, bq.mul bq', by omega, by omega, g.back s1⟩
theorem ok_over {f : Addr} {fd : FuncData} (O : Ops P w K mg base C fo ft fr fs fdo fdt fdr fds) (d : M K "over" "Ratio.over" s_over ["self", "other"] f fd) : FnOk P w K mg base CX0 6 f fd ["self", "other"] (spAr tOver bOver C) := by
  obtain ⟨T, R, IC, kc, dO, dT, dR, dS, GO, GT, GR, GS⟩ := O
  refine d.F.ok sc_over (fun vs H Q E h => ?_) (fun cdv A outer s H vs Q E hr h => ?_)
  · obtain ⟨a, x, p, q, p', q', n, m, rfl, _⟩ := h
    rfl
  · obtain ⟨a, x, p, q, p', q', n, m, rfl, r, o, bp, bq, bp', bq', z, n0, m0, nm, g⟩ := h
    refine ⟨_, (pss_cons (ps_if (pt_not (pt_val (pe_call GO hr (by rfl) dO.g dO.F.kp dO.b .nil pass0 (pa_cons (pv 1) pa_nil)))) dead pss_nil)
      (pss_cons (ps_asg (pe_call GT hr (by rfl) dT.g dT.F.kp dT.b .nil pass0 (pa_cons (pv 1) pa_nil)) (pg_tup rfl (pgs_cons (pg_name (i := 2) sc_over.nd rfl (.inl rfl)) (pgs_cons (pg_name (i := 3) sc_over.nd rfl (.inl rfl)) pgs_nil))))
      (pss_cons (ps_if (pt_cmpR op_eq (pv 2) pe_int (nomark _)) dead pss_nil)
      (pss_one (ps_ret (pe_call GR hr (by rfl) dR.g dR.F.kp dR.b .nil pass0 (pa_cons (pe_op op_mulW (pe_fld (pv 0) rfl) (pv 3)) (pa_cons (pe_op op_mulW (pe_fld (pv 0) rfl) (pv 2)) pa_nil)))))))), ?_⟩
    obtain ⟨t, c, i, b, ty, k1, k2, k3, e⟩ := o.ty IC kc
    refine ⟨_, rfl, x, t, c, i, b, rfl, ty, k1, k2, k3, true, congrArg V.bl e, ite2 (fun z => absurd z (by decide)) (fun _ => ?_)⟩
    refine ⟨_, rfl, x, p', q', rfl, o, fun u hu => ⟨u, _, rfl, .inl (.inl upd_same), rfl, _, _, rfl, _, _, rfl, rfl, ?_⟩⟩
    have s1 := sub_same (o := .tup [V.int p', V.int q']) hu
    obtain ⟨dx, ha⟩ := r.same s1
    have p0 : p' ≠ 0 := fun z' => z (by rw [z']; exact Int.mul_zero q)
    refine ⟨_, rfl, rfl, _, rfl, ite2 (fun z' => absurd (V.int.inj (of_decide_eq_true z')) p0) (fun _ => ?_)⟩
    refine ⟨_, rfl, a, C, dx, _, _, rfl, ha, R.cl, R.nT, pf_top p q, _, rfl, _, _, rfl, rfl, wide_mul bp bq' n0 m0 (by omega), ?_⟩
    refine ⟨_, rfl, a, C, dx, _, _, rfl, ha, R.cl, R.nB, pf_bottom p q, _, rfl, _, _, rfl, rfl, wide_mul bq bp' n0 m0 (by omega), ?_⟩
    exact ⟨_, _, n + m, rfl, z, bq.mul bp', by omega, by omega, g.back s1⟩
def spNeg (C : Addr) : Sp := fun vs H Q _ => ∃ (a : Addr) (p q : Int) (n : Nat), vs = [.ref a] ∧ Rat H a C p q ∧ Bd n q ∧ q ≠ 0 ∧ 0 < n ∧ n ≤ 7000 ∧ New C H (-p) q Q
theorem ok_neg {f : Addr} {fd : FuncData} (O : Ops P w K mg base C fo ft fr fs fdo fdt fdr fds) (d : M K "__neg__" "Ratio.__neg__" s_neg ["self"] f fd) : FnOk P w K mg base CX0 6 f fd ["self"] (spNeg C) := by
  obtain ⟨T, R, IC, kc, dO, dT, dR, dS, GO, GT, GR, GS⟩ := O
  refine d.F.ok sc_neg (fun vs H Q E h => ?_) (fun cdv A outer s H vs Q E hr h => ?_)
  · obtain ⟨a, p, q, n, rfl, _⟩ := h
    rfl
  · obtain ⟨a, p, q, n, rfl, ⟨dx, ha⟩, bq, z, n0, hn, g⟩ := h
    refine ⟨_, (pss_one (ps_ret (pe_call GR hr (by rfl) dR.g dR.F.kp dR.b .nil pass0 (pa_cons (pe_un un_neg (pe_fld (pv 0) rfl)) (pa_cons (pe_fld (pv 0) rfl) pa_nil))))), ?_⟩
    refine ⟨_, rfl, a, C, dx, _, _, rfl, ha, R.cl, R.nT, pf_top p q, _, rfl, _, rfl, a, C, dx, _, _, rfl, ha, R.cl, R.nB, pf_bottom p q, ?_⟩
    exact ⟨_, _, n, rfl, z, bq, by omega, n0, g⟩
/-- compared -/
def spComp (C : Addr) : Sp := fun vs H Q _ => ∃ (a : Addr) (x : V) (p q p' q' : Int) (n m : Nat), vs = [.ref a, x] ∧ Rat H a C p q ∧ Opd H C x p' q' ∧ Bd n p ∧ Bd n q ∧ Bd m p' ∧ Bd m q' ∧ 0 < n ∧ 0 < m ∧ n + m ≤ 7000 ∧ ∀ H', Same H H' → Q (.int (sg (p * q' - p' * q))) H'
theorem ok_compared {f : Addr} {fd : FuncData} (O : Ops P w K mg base C fo ft fr fs fdo fdt fdr fds) (d : M K "compared" "Ratio.compared" s_compared ["self", "other"] f fd) : FnOk P w K mg base CX0 6 f fd ["self", "other"] (spComp C) := by
  obtain ⟨T, R, IC, kc, dO, dT, dR, dS, GO, GT, GR, GS⟩ := O
  refine d.F.ok sc_compared (fun vs H Q E h => ?_) (fun cdv A outer s H vs Q E hr h => ?_)
  · obtain ⟨a, x, p, q, p', q', n, m, rfl, _⟩ := h
    rfl
  · obtain ⟨a, x, p, q, p', q', n, m, rfl, r, o, bp, bq, bp', bq', n0, m0, nm, g⟩ := h
    refine ⟨_, (pss_cons (ps_if (pt_not (pt_val (pe_call GO hr (by rfl) dO.g dO.F.kp dO.b .nil pass0 (pa_cons (pv 1) pa_nil)))) dead pss_nil)
      (pss_cons (ps_asg (pe_call GT hr (by rfl) dT.g dT.F.kp dT.b .nil pass0 (pa_cons (pv 1) pa_nil)) (pg_tup rfl (pgs_cons (pg_name (i := 2) sc_compared.nd rfl (.inl rfl)) (pgs_cons (pg_name (i := 3) sc_compared.nd rfl (.inl rfl)) pgs_nil))))
      (pss_one (ps_ret (pe_call GS hr (by rfl) dS.g dS.F.kp dS.b .nil pass0 (pa_cons (pe_op op_sub (pe_op op_mulW (pe_fld (pv 0) rfl) (pv 3)) (pe_op op_mulW (pv 2) (pe_fld (pv 0) rfl))) pa_nil)))))), ?_⟩
    obtain ⟨t, c, i, b, ty, k1, k2, k3, e⟩ := o.ty IC kc
    refine ⟨_, rfl, x, t, c, i, b, rfl, ty, k1, k2, k3, true, congrArg V.bl e, ite2 (fun z => absurd z (by decide)) (fun _ => ?_)⟩
    refine ⟨_, rfl, x, p', q', rfl, o, fun u hu => ⟨u, _, rfl, .inl (.inl upd_same), rfl, _, _, rfl, _, _, rfl, rfl, ?_⟩⟩
    have s1 := sub_same (o := .tup [V.int p', V.int q']) hu
    obtain ⟨dx, ha⟩ := r.same s1
    refine ⟨_, rfl, a, C, dx, _, _, rfl, ha, R.cl, R.nT, pf_top p q, _, rfl, _, _, rfl, rfl, wide_mul bp bq' n0 m0 (by omega), ?_⟩
    refine ⟨_, rfl, _, rfl, a, C, dx, _, _, rfl, ha, R.cl, R.nB, pf_bottom p q, _, _, rfl, rfl, wide_mul bp' bq m0 n0 (by omega), _, _, rfl, rfl, ?_⟩
    exact ⟨_, rfl, g _ s1⟩
/-- no ratio, and no integer -/
def NotOp (K : PySem.W.Frag) (C : Addr) (H : Hp) (x : V) : Prop := ∃ t c i b, TyX K H x t ∧ kit K t (.ref C) c ∧ kit K t (.type "int") i ∧ kit K t (.type "bool") b ∧ (c || (i && !b)) = false
/-- wrong operands are refused -/
def spWrong (K : PySem.W.Frag) (C CN : Addr) : Sp := fun vs H Q E => ∃ (a : Addr) (x : V), vs = [.ref a, x] ∧ NotOp K C H x ∧ Rais CN x H E
/-- .. and nothing is divided by 0 -/
def spZero (C CO : Addr) : Sp := fun vs H Q E => ∃ (a : Addr) (x : V) (q' : Int), vs = [.ref a, x] ∧ Opd H C x 0 q' ∧ ∀ H', Same H H' → E (.ref CO) none H'
theorem ok_comparedX {f fI : Addr} {fd : FuncData} (O : Ops P w K mg base C fo ft fr fs fdo fdt fdr fds) (NT : PySem.NumX.NumTxt K mg CN fI) (d : M K "compared" "Ratio.compared" s_compared ["self", "other"] f fd) : FnOk P w K mg base (L2.CX P w) 6 f fd ["self", "other"] (spWrong K C CN) := by
  obtain ⟨T, R, IC, kc, dO, dT, dR, dS, GO, GT, GR, GS⟩ := O
  refine d.F.okX sc_compared (fun vs H Q E h => ?_) (fun cdv A outer s H vs Q E hr h => ?_)
  · obtain ⟨a, x, rfl, _⟩ := h
    rfl
  · obtain ⟨a, x, rfl, ⟨t, c, i, b, ty, k1, k2, k3, e⟩, g⟩ := h
    refine ⟨_, (pss_cons (ps_if (pt_not (pt_val (pe_call GO hr (by rfl) dO.g dO.F.kp dO.b .nil pass0 (pa_cons (pv 1) pa_nil)))) (pss_one (ps_raiseNum rfl NT hr (takes_of rfl rfl rfl rfl) (by exact (pa_cons (pv 1) pa_nil)))) pss_nil) dead), ?_⟩
    exact ⟨_, rfl, x, t, c, i, b, rfl, ty, k1, k2, k3, false, congrArg V.bl e, iteT ⟨_, rfl, _, rfl, g⟩⟩
theorem ok_overX {f fI : Addr} {fd : FuncData} (O : Ops P w K mg base C fo ft fr fs fdo fdt fdr fds) (NT : PySem.NumX.NumTxt K mg CN fI) (d : M K "over" "Ratio.over" s_over ["self", "other"] f fd) : FnOk P w K mg base (L2.CX P w) 6 f fd ["self", "other"] (spWrong K C CN) := by
  obtain ⟨T, R, IC, kc, dO, dT, dR, dS, GO, GT, GR, GS⟩ := O
  refine d.F.okX sc_over (fun vs H Q E h => ?_) (fun cdv A outer s H vs Q E hr h => ?_)
  · obtain ⟨a, x, rfl, _⟩ := h
    rfl
  · obtain ⟨a, x, rfl, ⟨t, c, i, b, ty, k1, k2, k3, e⟩, g⟩ := h
    refine ⟨_, (pss_cons (ps_if (pt_not (pt_val (pe_call GO hr (by rfl) dO.g dO.F.kp dO.b .nil pass0 (pa_cons (pv 1) pa_nil)))) (pss_one (ps_raiseNum rfl NT hr (takes_of rfl rfl rfl rfl) (by exact (pa_cons (pv 1) pa_nil)))) pss_nil) dead), ?_⟩
    exact ⟨_, rfl, x, t, c, i, b, rfl, ty, k1, k2, k3, false, congrArg V.bl e, iteT ⟨_, rfl, _, rfl, g⟩⟩
/-- what the text says of InvalidOperation -/
structure OpX (K : PySem.W.Frag) (mg : Str → Option Value) (CO : Addr) : Prop where
  x : PySem.W.excIn K CO [.type "ValueError", .type "Exception", .type "BaseException", .type "object"] "ValueError.__new__" = true
  g : mg "InvalidOperation" = some (.ref CO)
  k : PySem.W.keepIn K (.ref CO) = true
  b : PySem.W.subIn K (.ref CO) (.type "BaseException") = some true
  t : PySem.W.typeIn K (.ref CO) = some (.type "type")
theorem ok_overZ {f : Addr} {fd : FuncData} (O : Ops P w K mg base C fo ft fr fs fdo fdt fdr fds) (OT : OpX K mg CO) (d : M K "over" "Ratio.over" s_over ["self", "other"] f fd) : FnOk P w K mg base (L2.CX P w) 6 f fd ["self", "other"] (spZero C CO) := by
  obtain ⟨T, R, IC, kc, dO, dT, dR, dS, GO, GT, GR, GS⟩ := O
  refine d.F.okX sc_over (fun vs H Q E h => ?_) (fun cdv A outer s H vs Q E hr h => ?_)
  · obtain ⟨a, x, q', rfl, _⟩ := h
    rfl
  · obtain ⟨a, x, q', rfl, o, g⟩ := h
    refine ⟨_, (pss_cons (ps_if (pt_not (pt_val (pe_call GO hr (by rfl) dO.g dO.F.kp dO.b .nil pass0 (pa_cons (pv 1) pa_nil)))) dead pss_nil)
      (pss_cons (ps_asg (pe_call GT hr (by rfl) dT.g dT.F.kp dT.b .nil pass0 (pa_cons (pv 1) pa_nil)) (pg_tup rfl (pgs_cons (pg_name (i := 2) sc_over.nd rfl (.inl rfl)) (pgs_cons (pg_name (i := 3) sc_over.nd rfl (.inl rfl)) pgs_nil))))
      (pss_cons (ps_if (pt_cmpR op_eq (pv 2) pe_int (nomark _)) (pss_one (ps_raise rfl (takes_of rfl rfl rfl rfl) (pmk_own PySem.F.excBase_ValueError OT.x OT.g OT.k (raises_own OT.b OT.t) rfl))) pss_nil) dead))), ?_⟩
    obtain ⟨t, c, i, b, ty, k1, k2, k3, e⟩ := o.ty IC kc
    refine ⟨_, rfl, x, t, c, i, b, rfl, ty, k1, k2, k3, true, congrArg V.bl e, ite2 (fun z => absurd z (by decide)) (fun _ => ?_)⟩
    refine ⟨_, rfl, x, 0, q', rfl, o, fun u hu => ⟨u, _, rfl, .inl (.inl upd_same), rfl, _, _, rfl, _, _, rfl, rfl, ?_⟩⟩
    exact ⟨_, rfl, rfl, _, rfl, ite2 (fun _ => g _ (sub_same hu)) (fun z => absurd (decide_eq_true rfl) z)⟩
end
end K02

/-! # the law's small functions -/
namespace K02
open PySem PySem.Spec PyProof.Rows L2
/-- all but the urn is as it was -/
def Old (a : Addr) (H H' : Hp) : Prop := ∀ b o, b ≠ a → H b = some o → H' b = some o
theorem Old.of_same {a : Addr} {H H' : Hp} (s : Same H H') : Old a H H' := fun b o _ h => s b o h
theorem Old.of_but {a : Addr} {H H' : Hp} (s : But a H H') : Old a H H' := fun b o n h => (s b n).trans h
theorem Old.trans {a : Addr} {H H1 H2 : Hp} (x : Old a H H1) (y : Old a H1 H2) : Old a H H2 := fun b o n h => y b o n (x b o n h)
theorem Urn.same {H H' : Hp} {a : Addr} (u : Urn H a) (s : Same H H') : Urn H' a := let ⟨g, m, c, h⟩ := u; ⟨g, m, c, s _ _ h⟩
theorem urn_ne {H : Hp} {a p : Addr} (u : Urn H a) (h : H p = none) : p ≠ a := fun e => by
  obtain ⟨g, m, c, hu⟩ := u
  rw [e, hu] at h
  cases h
theorem Old.free {a p : Addr} {H H' : Hp} (o : Old a H H') (u : Urn H a) (u' : Urn H' a) (h : H' p = none) : H p = none := by
  cases q : H p with
  | none => rfl
  | some x =>
    have n := urn_ne u' h
    rw [o p x n q] at h
    cases h
theorem rat_ne {H : Hp} {a b C : Addr} {p q : Int} (u : Urn H a) (r : Rat H b C p q) : b ≠ a := fun e => by
  obtain ⟨g, m, c, hu⟩ := u
  obtain ⟨dx, hb⟩ := r
  rw [e, hu] at hb
  cases hb
theorem Rat.old {H H' : Hp} {a b C : Addr} {p q : Int} (r : Rat H b C p q) (u : Urn H a) (o : Old a H H') : Rat H' b C p q := by
  have n := rat_ne u r
  obtain ⟨dx, hb⟩ := r
  exact ⟨dx, o _ _ n hb⟩
theorem tup_ne {H : Hp} {a b : Addr} {xs : List V} (u : Urn H a) (h : H b = some (.tup xs)) : b ≠ a := fun e => by
  obtain ⟨g, m, c, hu⟩ := u
  rw [e, hu] at h
  cases h
theorem log_60 {i : Int} (h : i.natAbs ≤ 10 ^ 60) : i.natAbs.log2 < 9000 := by
  have z : i.natAbs < 2 ^ 200 := Nat.lt_of_le_of_lt h (by decide)
  exact Nat.lt_of_lt_of_le (PySem.Flt.log2_lt_of (by decide) z) (by decide)
section
variable {P : Program} {w : World} {K : PySem.W.Frag} {mg : Str → Option Value} {base : Heap} {C : Addr}
abbrev s_law_low : Stmt := topS 23
theorem sc_law_low : FnScope ["_law_top", "_law_bottom", "_law_one", "_law_other"] ["_law_top", "_law_bottom"] (defScope s_law_low) := ⟨rfl, rfl, rfl, by decide +kernel, rfl, by decide +kernel, by decide +kernel⟩
abbrev s_law_part : Stmt := topS 24
theorem sc_law_part : FnScope ["_law_urn_here", "_law_bound"] ["_law_urn_here"] (defScope s_law_part) := ⟨rfl, rfl, rfl, by decide +kernel, rfl, by decide +kernel, by decide +kernel⟩
abbrev s_law_pair : Stmt := topS 25
theorem sc_law_pair : FnScope ["_law_urn_here", "_law_bottom"] ["_law_urn_here"] (defScope s_law_pair) := ⟨rfl, rfl, rfl, by decide +kernel, rfl, by decide +kernel, by decide +kernel⟩
/-- lowest terms, as a tuple -/
def spLow : Sp := fun vs H Q _ => ∃ (i j : Int) (n : Nat), vs = [.int i, .int j] ∧ j ≠ 0 ∧ Bd n j ∧ 0 < n ∧ n ≤ 8000 ∧ ∀ t, H t = none → Q (.ref t) (upd H t (.tup [.int (i / dv i j), .int (j / dv i j)]))
theorem quo_sign {x g : Int} (h : g ∣ x) (g0 : 0 < g) : 0 - (0 - x) / g = x / g := by
  obtain ⟨k, rfl⟩ := h
  rw [show 0 - g * k = g * (-k) by rw [Int.mul_neg]; omega, Int.mul_ediv_cancel_left _ (by omega), Int.mul_ediv_cancel_left _ (by omega)]
  omega
theorem quo_neg {x g : Int} (h : g ∣ x) (g0 : 0 < g) : (0 - x) / g = x / -g := by
  obtain ⟨k, rfl⟩ := h
  rw [show 0 - g * k = g * (-k) by rw [Int.mul_neg]; omega, Int.mul_ediv_cancel_left _ (by omega), show g * k = -g * -k by rw [Int.neg_mul_neg], Int.mul_ediv_cancel_left _ (by omega)]
theorem ok_low {f : Addr} {fd : FuncData} {k : Nat} (T : Txt mg) (d : D K mg "_law_low" s_law_low ["_law_top", "_law_bottom"] f fd) : FnOk P w K mg base CX0 (k + 1) f fd ["_law_top", "_law_bottom"] spLow := by
  refine d.F.ok sc_law_low (fun vs H Q E h => ?_) (fun cdv A outer s H vs Q E hr h => ?_)
  · obtain ⟨i, j, n, rfl, _⟩ := h
    rfl
  · obtain ⟨i, j, n, rfl, j0, bj, n0, hn, q⟩ := h
    refine ⟨_, (pss_cons (ps_par (i := 2) (j := 3) rfl sc_law_low.nd rfl rfl (by decide) rfl rfl (pa_cons (pe_callB call_abs (by rfl) T.n_abs (by decide +kernel) (pa_cons (pv 0) pa_nil)) (pa_cons (pe_callB call_abs (by rfl) T.n_abs (by decide +kernel) (pa_cons (pv 1) pa_nil)) pa_nil)) (by rfl))
      (pss_cons (ps_while PassesOwn.never (pt_cmpR op_gt (pv 3) pe_int (nomark _))
        (pss_one (ps_par (i := 2) (j := 3) rfl sc_law_low.nd rfl rfl (by decide) rfl rfl (pa_cons (pv 3) (pa_cons (pe_op op_mod (pe_callTy call_int1 (by rfl) T.n_int (by decide +kernel) (pa_cons (pv 2) pa_nil)) (pv 3)) pa_nil)) (by rfl))))
      (pss_cons (ps_if (pt_cmpR op_lt (pv 1) pe_int (nomark _)) (pss_one (ps_par (i := 0) (j := 1) rfl sc_law_low.nd rfl rfl (by decide) rfl rfl (pa_cons (pe_op op_sub pe_int (pv 0)) (pa_cons (pe_op op_sub pe_int (pv 1)) pa_nil)) (by rfl))) pss_nil)
      (pss_one (ps_ret (pe_tup (pa_cons (pe_ifExp (pt_cmpR op_lt (pv 0) pe_int (nomark _)) (pe_op op_sub pe_int (pe_op op_fdivW (pe_op op_sub pe_int (pv 0)) (pv 2))) (pe_op op_fdivW (pv 0) (pv 2))) (pa_cons (pe_op op_fdivW (pv 1) (pv 2)) pa_nil)))))))), ?_⟩
    refine ⟨_, rfl, i, rfl, _, rfl, j, rfl, _, _, rfl, ?_⟩
    refine ⟨fun t σ H' => ∃ a b : Nat, t = b ∧ σ = [some (.int i), some (.int j), some (.int a), some (.int b)] ∧ Nat.gcd a b = Nat.gcd i.natAbs j.natAbs ∧ H' = H, ⟨j.natAbs, i.natAbs, j.natAbs, rfl, ?_, rfl, rfl⟩, ?_⟩
    · have a1 : (if i < 0 then -i else i) = ((i.natAbs : Nat) : Int) := by split <;> omega
      have a2 : (if j < 0 then -j else j) = ((j.natAbs : Nat) : Int) := by split <;> omega
      show [some (V.int i), some (V.int j), some (V.int (if i < 0 then -i else i)), some (V.int (if j < 0 then -j else j))] = _
      rw [a1, a2]
    rintro b σ H' ⟨a, b', eb, rfl, hg, rfl⟩
    subst eb
    refine ⟨_, rfl, (b : Int), 0, rfl, rfl, _, rfl, ite2 (fun e => ?_) (fun e => ?_)⟩
    · have b0 : 0 < b := by
        have z := of_decide_eq_true e
        omega
      refine ⟨fun σ' H2 => σ' = [some (.int i), some (.int j), some (.int b), some (.int ((a % b : Nat) : Int))] ∧ H2 = H', fun σ' H2 z => ⟨a % b, Nat.mod_lt _ b0, b, a % b, rfl, z.1, ?_, z.2⟩, ?_⟩
      · rw [← hg, Nat.gcd_comm b, ← Nat.gcd_rec, Nat.gcd_comm]
      · exact ⟨_, rfl, _, rfl, .inl ⟨_, rfl, _, rfl, _, _, rfl, rfl, (by show (0 : Int) < _; omega), _, _, rfl, rfl, rfl⟩⟩
    · have b0 : b = 0 := by
        have z : ¬ (0 : Int) < b := fun z => e (decide_eq_true z)
        omega
      subst b0
      rw [Nat.gcd_zero_right] at hg
      have g0 : (0 : Int) < (a : Int) := by
        have := Nat.gcd_pos_of_pos_right i.natAbs (show 0 < j.natAbs by omega)
        omega
      have di : (a : Int) ∣ i := by rw [hg]; exact gcd_i i j
      have dj : (a : Int) ∣ j := by rw [hg]; exact gcd_j i j
      have ba : Bd n (a : Int) := by
        have z := dv_bd (i := i) j0 bj
        have e := dv_abs i j
        have z' : (dv i j).natAbs < 2 ^ n := z
        show ((a : Int)).natAbs < 2 ^ n
        rw [Int.natAbs_natCast]
        omega
      have cw : CDivW 0 (a : Int) := wide_div g0 ba n0 (by omega)
      have cw' : ∀ x : Int, CDivW x (a : Int) := fun x => wide_div g0 ba n0 (by omega)
      refine ⟨_, rfl, _, _, rfl, rfl, _, rfl, ite2 (fun e => ?_) (fun e => ?_)⟩
      · have jn : j < 0 := of_decide_eq_true e
        have ed : dv i j = -(a : Int) := by unfold dv; rw [if_pos jn, hg]
        refine ⟨_, rfl, _, _, rfl, rfl, _, rfl, _, _, rfl, rfl, _, _, rfl, ?_⟩
        refine ⟨_, rfl, _, _, rfl, rfl, _, rfl, ?_⟩
        by_cases ti : 0 - i < 0
        · rw [decide_eq_true ti]
          refine ⟨_, rfl, _, _, rfl, rfl, _, rfl, _, _, rfl, rfl, cw' _, _, _, rfl, rfl, _, rfl, _, rfl, _, _, rfl, rfl, cw' _, (by show 2 ≤ sizeLine; decide), fun t ht => ?_⟩
          have e1 : 0 - (0 - (0 - i)) / (a : Int) = i / dv i j := by rw [ed, quo_sign (show (a : Int) ∣ 0 - i by rw [Int.zero_sub]; exact (Int.dvd_neg).mpr di) g0, quo_neg di g0]
          have e2 : (0 - j) / (a : Int) = j / dv i j := by rw [ed, quo_neg dj g0]
          have z := q t ht
          rw [← e1, ← e2] at z
          exact z
        · rw [decide_eq_false ti]
          refine ⟨_, rfl, _, rfl, _, _, rfl, rfl, cw' _, _, rfl, _, rfl, _, _, rfl, rfl, cw' _, (by show 2 ≤ sizeLine; decide), fun t ht => ?_⟩
          have e1 : (0 - i) / (a : Int) = i / dv i j := by rw [ed, quo_neg di g0]
          have e2 : (0 - j) / (a : Int) = j / dv i j := by rw [ed, quo_neg dj g0]
          have z := q t ht
          rw [← e1, ← e2] at z
          exact z
      · have jn : ¬ j < 0 := fun z => e (decide_eq_true z)
        have ed : dv i j = (a : Int) := by unfold dv; rw [if_neg jn, hg]
        refine ⟨_, rfl, _, _, rfl, rfl, _, rfl, ?_⟩
        by_cases ti : i < 0
        · rw [decide_eq_true ti]
          refine ⟨_, rfl, _, _, rfl, rfl, _, rfl, _, _, rfl, rfl, cw' _, _, _, rfl, rfl, _, rfl, _, rfl, _, _, rfl, rfl, cw' _, (by show 2 ≤ sizeLine; decide), fun t ht => ?_⟩
          have e1 : 0 - (0 - i) / (a : Int) = i / dv i j := by rw [ed, quo_sign di g0]
          have e2 : j / (a : Int) = j / dv i j := by rw [ed]
          have z := q t ht
          rw [← e1, ← e2] at z
          exact z
        · rw [decide_eq_false ti]
          refine ⟨_, rfl, _, rfl, _, _, rfl, rfl, cw' _, _, rfl, _, rfl, _, _, rfl, rfl, cw' _, (by show 2 ≤ sizeLine; decide), fun t ht => ?_⟩
          have z := q t ht
          rw [ed] at z
          exact z
/-- a drawn number -/
def spPart : Sp := fun vs H Q _ => ∃ a, vs = [.ref a] ∧ Urn H a ∧ ∀ (v : Int) H', v.natAbs ≤ 10 ^ 59 → Urn H' a → Old a H H' → Q (.int v) H'
theorem ok_part {f f1 f2 : Addr} {fd fd1 fd2 : FuncData} {k : Nat} (T : Txt mg) (d : D K mg "_law_part" s_law_part ["_law_urn_here"] f fd) (d1 : D K mg "_law_take" s_law_take ["_law_urn_here", "_law_total"] f1 fd1) (d2 : D K mg "_law_some" s_law_some ["_law_urn_here", "_law_items"] f2 fd2) :
    FnOk P w K mg base CX0 (k + 3) f fd ["_law_urn_here"] spPart := by
  have G1 : FnOk P w K mg base CX0 (k + 1) f1 fd1 ["_law_urn_here", "_law_total"] spTake := ok_take T d1
  have G2 : FnOk P w K mg base CX0 (k + 2) f2 fd2 ["_law_urn_here", "_law_items"] spSome := ok_some T d2 d1
  refine d.F.ok sc_law_part (fun vs H Q E h => ?_) (fun cdv A outer s H vs Q E hr h => ?_)
  · obtain ⟨a, rfl, _⟩ := h
    rfl
  · obtain ⟨a, rfl, hu, q⟩ := h
    refine ⟨_, (pss_cons (ps_set (i := 1) sc_law_part.nd rfl (.inl rfl) (pe_call G2 hr (by rfl) d2.g d2.F.kp d2.b .nil pass0 (pa_cons (pv 0) (pa_cons (pe_lst (pa_cons pe_int (pa_cons pe_int (pa_cons pe_int (pa_cons pe_int (pa_cons pe_int (pa_cons (pe_op op_powW pe_int pe_int) (pa_cons (pe_op op_powW pe_int pe_int) pa_nil)))))))) pa_nil))))
      (pss_one (ps_ret (pe_op op_sub (pe_call G1 (hr.mono (by omega)) (by rfl) d1.g d1.F.kp d1.b .nil pass0 (pa_cons (pv 0) (pa_cons (pe_op op_add (pe_op op_mulW pe_int (pv 1)) pe_int) pa_nil))) (pv 1))))), ?_⟩
    have pw18 : CPowW 10 18 := ⟨by decide, by decide +kernel⟩
    have pw59 : CPowW 10 59 := ⟨by decide, by decide +kernel⟩
    refine ⟨_, rfl, _, _, rfl, rfl, pw18, _, _, rfl, rfl, pw59, by decide, fun b nb => ?_⟩
    have bds : ∀ x ∈ [V.int 2, V.int 5, V.int 12, V.int 12, V.int 1000, V.int (10 ^ Int.toNat 18), V.int (10 ^ Int.toNat 59)], ∃ t : Int, x = .int t ∧ 0 < t ∧ t ≤ 10 ^ 59 := by
      intro x hx
      simp only [List.mem_cons, List.not_mem_nil, or_false] at hx
      rcases hx with rfl | rfl | rfl | rfl | rfl | rfl | rfl <;> exact ⟨_, rfl, by decide, by decide⟩
    have b0 : [V.int 2, V.int 5, V.int 12, V.int 12, V.int 1000, V.int (10 ^ Int.toNat 18), V.int (10 ^ Int.toNat 59)] ≠ [] := by simp
    have b1 : [V.int 2, V.int 5, V.int 12, V.int 12, V.int 1000, V.int (10 ^ Int.toNat 18), V.int (10 ^ Int.toNat 59)].length ≤ 1000 := by decide
    show spSome ([V.ref a, V.ref b] ++ []) (upd H b (.lst [V.int 2, V.int 5, V.int 12, V.int 12, V.int 1000, V.int (10 ^ Int.toNat 18), V.int (10 ^ Int.toNat 59)])) _ E0
    revert bds b0 b1
    generalize [V.int 2, V.int 5, V.int 12, V.int 12, V.int 1000, V.int (10 ^ Int.toNat 18), V.int (10 ^ Int.toNat 59)] = xs
    intro bds b0 b1
    have s1 : Same H (upd H b (.lst xs)) := sub_same nb
    refine ⟨a, b, xs, rfl, hu.same s1, upd_same, urn_ne hu nb, b0, b1, fun i x H2 hx hu2 k2 => ?_⟩
    obtain ⟨t, rfl, t0, tb⟩ := bds x (List.mem_of_getElem? hx)
    have tw : t.natAbs < 2 ^ 200 := Nat.lt_of_le_of_lt (show t.natAbs ≤ 10 ^ 59 by omega) (by decide)
    refine ⟨_, rfl, _, rfl, ?_⟩
    refine ⟨_, _, rfl, rfl, wide_mul (a := 4) (b := 200) (by decide) tw (by decide) (by decide) (by decide), ?_⟩
    refine ⟨_, _, rfl, rfl, ?_⟩
    refine ⟨a, 2 * t + 1, rfl, hu2, by omega, log_60 (by omega), fun v H3 v0 v1 hu3 k3 => ?_⟩
    refine ⟨_, rfl, _, _, rfl, rfl, q _ H3 (by omega) hu3 (((Old.of_same s1).trans (.of_but k2)).trans (.of_but k3))⟩
/-- a drawn pair -/
def spPair : Sp := fun vs H Q _ => ∃ a, vs = [.ref a] ∧ Urn H a ∧ ∀ (n d : Int) H' t, n.natAbs ≤ 10 ^ 59 → d.natAbs ≤ 10 ^ 59 → d ≠ 0 → Urn H' a → Old a H H' → H' t = some (.tup [.int n, .int d]) → Q (.ref t) H'
theorem ok_pair {f f0 f1 f2 : Addr} {fd fd0 fd1 fd2 : FuncData} {k : Nat} (T : Txt mg) (d : D K mg "_law_pair" s_law_pair ["_law_urn_here"] f fd) (d0 : D K mg "_law_part" s_law_part ["_law_urn_here"] f0 fd0) (d1 : D K mg "_law_take" s_law_take ["_law_urn_here", "_law_total"] f1 fd1) (d2 : D K mg "_law_some" s_law_some ["_law_urn_here", "_law_items"] f2 fd2) :
    FnOk P w K mg base CX0 (k + 4) f fd ["_law_urn_here"] spPair := by
  have G0 : FnOk P w K mg base CX0 (k + 3) f0 fd0 ["_law_urn_here"] spPart := ok_part T d0 d1 d2
  refine d.F.ok sc_law_pair (fun vs H Q E h => ?_) (fun cdv A outer s H vs Q E hr h => ?_)
  · obtain ⟨a, rfl, _⟩ := h
    rfl
  · obtain ⟨a, rfl, hu, q⟩ := h
    refine ⟨_, (pss_cons (ps_set (i := 1) sc_law_pair.nd rfl (.inl rfl) (pe_call G0 hr (by rfl) d0.g d0.F.kp d0.b .nil pass0 (pa_cons (pv 0) pa_nil)))
      (pss_one (ps_ret (pe_tup (pa_cons (pe_call G0 hr (by rfl) d0.g d0.F.kp d0.b .nil pass0 (pa_cons (pv 0) pa_nil)) (pa_cons (pe_ifExp (pt_cmpR op_ne (pv 1) pe_int (nomark _)) (pv 1) pe_int) pa_nil)))))), ?_⟩
    refine ⟨_, rfl, a, rfl, hu, fun d' H1 bd hu1 o1 => ?_⟩
    refine ⟨_, rfl, a, rfl, hu1, fun n' H2 bn hu2 o2 => ?_⟩
    refine ⟨_, rfl, rfl, _, rfl, ?_⟩
    by_cases z : d' = 0
    · have e : (!decide (V.int d' = V.int 0)) = false := by rw [decide_eq_true (congrArg V.int z)]; rfl
      rw [e]
      refine ⟨(by show 2 ≤ sizeLine; decide), fun t ht => ?_⟩
      exact q n' 6 _ t bn (by decide) (by decide) (hu2.same (sub_same ht)) ((o1.trans o2).trans (.of_same (sub_same ht))) upd_same
    · have e : (!decide (V.int d' = V.int 0)) = true := by rw [decide_eq_false (fun y => z (V.int.inj y))]; rfl
      rw [e]
      refine ⟨_, rfl, (by show 2 ≤ sizeLine; decide), fun t ht => ?_⟩
      exact q n' d' _ t bn bd z (hu2.same (sub_same ht)) ((o1.trans o2).trans (.of_same (sub_same ht))) upd_same
end
end K02

/-! # the law's deeds -/
namespace K02
open PySem PySem.Spec PyProof.Rows L2
def tW (wy : Int) : Tm := if wy = 0 then tAdd else if wy = 1 then tSub else if wy = 2 then tMul else tOver
def bW (wy : Int) : Tm := if wy = 0 then bAll else if wy = 1 then bAll else if wy = 2 then bAll else bOver
theorem pf_none {f : Str} {p q : Int} (h1 : ¬ f = "_top") (h2 : ¬ f = "_bottom") : (pf p q).lookup f = none := by
  unfold pf
  rw [lookup_putF, if_neg h2, lookup_putF, if_neg h1]
  rfl
section
variable {P : Program} {w : World} {K : PySem.W.Frag} {mg : Str → Option Value} {base : Heap} {C CN CO : Addr}
abbrev s_law_made : Stmt := topS 27
theorem sc_law_made : FnScope ["_law_way", "_law_one", "_law_other"] ["_law_way", "_law_one", "_law_other"] (defScope s_law_made) := ⟨rfl, rfl, rfl, by decide +kernel, rfl, by decide +kernel, by decide +kernel⟩
abbrev s_law_done : Stmt := topS 28
theorem sc_law_done : FnScope ["_law_way", "_law_ratio", "_law_other"] ["_law_way", "_law_ratio", "_law_other"] (defScope s_law_done) := ⟨rfl, rfl, rfl, by decide +kernel, rfl, by decide +kernel, by decide +kernel⟩
/-- lowest terms of a deed with pairs -/
def spMade : Sp := fun vs H Q _ => ∃ (wy : Int) (t1 t2 : Addr) (p q n d : Int) (b c : Nat), vs = [.int wy, .ref t1, .ref t2] ∧ H t1 = some (.tup [.int p, .int q]) ∧ H t2 = some (.tup [.int n, .int d]) ∧ Bd b p ∧ Bd b q ∧ Bd c n ∧ Bd c d ∧ 0 < b ∧ 0 < c ∧ b + c ≤ 7000 ∧ bW wy p q n d ≠ 0 ∧
  ∀ t, H t = none → Q (.ref t) (upd H t (.tup [.int (tW wy p q n d / dv (tW wy p q n d) (bW wy p q n d)), .int (bW wy p q n d / dv (tW wy p q n d) (bW wy p q n d))]))
theorem ok_made {f f1 : Addr} {fd fd1 : FuncData} {k : Nat} (T : Txt mg) (d : D K mg "_law_made" s_law_made ["_law_way", "_law_one", "_law_other"] f fd) (d1 : D K mg "_law_low" s_law_low ["_law_top", "_law_bottom"] f1 fd1) : FnOk P w K mg base CX0 (k + 2) f fd ["_law_way", "_law_one", "_law_other"] spMade := by
  have G1 : FnOk P w K mg base CX0 (k + 1) f1 fd1 ["_law_top", "_law_bottom"] spLow := ok_low T d1
  refine d.F.ok sc_law_made (fun vs H Q E h => ?_) (fun cdv A outer s H vs Q E hr h => ?_)
  · obtain ⟨wy, t1, t2, p, q, n, d, b, c, rfl, _⟩ := h
    rfl
  · obtain ⟨wy, t1, t2, p, q, n, d, b, c, rfl, h1, h2, bp, bq, bn, bd, b0, c0, bc, z, g⟩ := h
    refine ⟨_, (pss_cons (ps_if (pt_cmpR op_eq (pv 0) pe_int (nomark _)) (pss_one (ps_ret (pe_call G1 hr (by rfl) d1.g d1.F.kp d1.b .nil pass0
        (pa_cons (pe_op op_add (pe_op op_mulW (pe_ix ix_tup (pv 1) pe_int (fun _ _ => rfl)) (pe_ix ix_tup (pv 2) pe_int (fun _ _ => rfl))) (pe_op op_mulW (pe_ix ix_tup (pv 2) pe_int (fun _ _ => rfl)) (pe_ix ix_tup (pv 1) pe_int (fun _ _ => rfl)))) (pa_cons (pe_op op_mulW (pe_ix ix_tup (pv 1) pe_int (fun _ _ => rfl)) (pe_ix ix_tup (pv 2) pe_int (fun _ _ => rfl))) pa_nil))))) pss_nil)
      (pss_cons (ps_if (pt_cmpR op_eq (pv 0) pe_int (nomark _)) (pss_one (ps_ret (pe_call G1 hr (by rfl) d1.g d1.F.kp d1.b .nil pass0
        (pa_cons (pe_op op_sub (pe_op op_mulW (pe_ix ix_tup (pv 1) pe_int (fun _ _ => rfl)) (pe_ix ix_tup (pv 2) pe_int (fun _ _ => rfl))) (pe_op op_mulW (pe_ix ix_tup (pv 2) pe_int (fun _ _ => rfl)) (pe_ix ix_tup (pv 1) pe_int (fun _ _ => rfl)))) (pa_cons (pe_op op_mulW (pe_ix ix_tup (pv 1) pe_int (fun _ _ => rfl)) (pe_ix ix_tup (pv 2) pe_int (fun _ _ => rfl))) pa_nil))))) pss_nil)
      (pss_cons (ps_if (pt_cmpR op_eq (pv 0) pe_int (nomark _)) (pss_one (ps_ret (pe_call G1 hr (by rfl) d1.g d1.F.kp d1.b .nil pass0
        (pa_cons (pe_op op_mulW (pe_ix ix_tup (pv 1) pe_int (fun _ _ => rfl)) (pe_ix ix_tup (pv 2) pe_int (fun _ _ => rfl))) (pa_cons (pe_op op_mulW (pe_ix ix_tup (pv 1) pe_int (fun _ _ => rfl)) (pe_ix ix_tup (pv 2) pe_int (fun _ _ => rfl))) pa_nil))))) pss_nil)
      (pss_one (ps_ret (pe_call G1 hr (by rfl) d1.g d1.F.kp d1.b .nil pass0
        (pa_cons (pe_op op_mulW (pe_ix ix_tup (pv 1) pe_int (fun _ _ => rfl)) (pe_ix ix_tup (pv 2) pe_int (fun _ _ => rfl))) (pa_cons (pe_op op_mulW (pe_ix ix_tup (pv 1) pe_int (fun _ _ => rfl)) (pe_ix ix_tup (pv 2) pe_int (fun _ _ => rfl))) pa_nil)))))))), ?_⟩
    have x1 : SqT K H t1 [.int p, .int q] := .inl (.inl h1)
    have x2 : SqT K H t2 [.int n, .int d] := .inl (.inl h2)
    have a0 : atI [V.int p, V.int q] 0 = some (.int p) := atI_nat (j := 0) rfl
    have a1 : atI [V.int p, V.int q] 1 = some (.int q) := atI_nat (j := 1) rfl
    have e0 : atI [V.int n, V.int d] 0 = some (.int n) := atI_nat (j := 0) rfl
    have e1 : atI [V.int n, V.int d] 1 = some (.int d) := atI_nat (j := 1) rfl
    have m1 := wide_mul bp bd b0 c0 (show b + c ≤ 1000000 by omega)
    have m2 := wide_mul bn bq c0 b0 (show c + b ≤ 1000000 by omega)
    have m3 := wide_mul bq bd b0 c0 (show b + c ≤ 1000000 by omega)
    have m4 := wide_mul bp bn b0 c0 (show b + c ≤ 1000000 by omega)
    have m5 := wide_mul bq bn b0 c0 (show b + c ≤ 1000000 by omega)
    refine ⟨_, rfl, rfl, _, rfl, ite2 (fun e => ?_) (fun e => ?_)⟩
    · have y : wy = 0 := V.int.inj (of_decide_eq_true e)
      subst y
      exact ⟨_, rfl, t1, _, 0, _, rfl, rfl, x1, a0, _, rfl, t2, _, 1, _, rfl, rfl, x2, e1, _, _, rfl, rfl, m1, _, rfl, t2, _, 0, _, rfl, rfl, x2, e0, _, rfl, t1, _, 1, _, rfl, rfl, x1, a1, _, _, rfl, rfl, m2, _, _, rfl, rfl,
        _, rfl, t1, _, 1, _, rfl, rfl, x1, a1, _, rfl, t2, _, 1, _, rfl, rfl, x2, e1, _, _, rfl, rfl, m3, _, _, b + c, rfl, z, bq.mul bd, by omega, by omega, g⟩
    have y0 : ¬ wy = 0 := fun z => e (decide_eq_true (congrArg V.int z))
    refine ⟨_, rfl, rfl, _, rfl, ite2 (fun e => ?_) (fun e => ?_)⟩
    · have y : wy = 1 := V.int.inj (of_decide_eq_true e)
      subst y
      exact ⟨_, rfl, t1, _, 0, _, rfl, rfl, x1, a0, _, rfl, t2, _, 1, _, rfl, rfl, x2, e1, _, _, rfl, rfl, m1, _, rfl, t2, _, 0, _, rfl, rfl, x2, e0, _, rfl, t1, _, 1, _, rfl, rfl, x1, a1, _, _, rfl, rfl, m2, _, _, rfl, rfl,
        _, rfl, t1, _, 1, _, rfl, rfl, x1, a1, _, rfl, t2, _, 1, _, rfl, rfl, x2, e1, _, _, rfl, rfl, m3, _, _, b + c, rfl, z, bq.mul bd, by omega, by omega, g⟩
    have y1 : ¬ wy = 1 := fun z => e (decide_eq_true (congrArg V.int z))
    refine ⟨_, rfl, rfl, _, rfl, ite2 (fun e => ?_) (fun e => ?_)⟩
    · have y : wy = 2 := V.int.inj (of_decide_eq_true e)
      subst y
      exact ⟨_, rfl, t1, _, 0, _, rfl, rfl, x1, a0, _, rfl, t2, _, 0, _, rfl, rfl, x2, e0, _, _, rfl, rfl, m4,
        _, rfl, t1, _, 1, _, rfl, rfl, x1, a1, _, rfl, t2, _, 1, _, rfl, rfl, x2, e1, _, _, rfl, rfl, m3, _, _, b + c, rfl, z, bq.mul bd, by omega, by omega, g⟩
    have y2 : ¬ wy = 2 := fun z => e (decide_eq_true (congrArg V.int z))
    have w1 : tW wy = tOver := by unfold tW; rw [if_neg y0, if_neg y1, if_neg y2]
    have w2 : bW wy = bOver := by unfold bW; rw [if_neg y0, if_neg y1, if_neg y2]
    rw [w1, w2] at g
    rw [w2] at z
    exact ⟨_, rfl, t1, _, 0, _, rfl, rfl, x1, a0, _, rfl, t2, _, 1, _, rfl, rfl, x2, e1, _, _, rfl, rfl, m1,
      _, rfl, t1, _, 1, _, rfl, rfl, x1, a1, _, rfl, t2, _, 0, _, rfl, rfl, x2, e0, _, _, rfl, rfl, m5, _, _, b + c, rfl, z, bq.mul bn, by omega, by omega, g⟩
/-- what the class has for the operators -/
structure OpM (P : Program) (w : World) (K : PySem.W.Frag) (mg : Str → Option Value) (base : Heap) (C fA fU fM fV : Addr) (fdA fdU fdM fdV : FuncData) : Prop where
  sf : PySem.W.selfFirst K C = true
  hA : PySem.W.findIn K (.ref C) "__add__" = some (some (.ref fA))
  hU : PySem.W.findIn K (.ref C) "__sub__" = some (some (.ref fU))
  hM : PySem.W.findIn K (.ref C) "__mul__" = some (some (.ref fM))
  mV : Meth K C "over" fV
  iA : PySem.W.isFn K (.ref fA) = true
  iU : PySem.W.isFn K (.ref fU) = true
  iM : PySem.W.isFn K (.ref fM) = true
  bA : Binds K fdA ["self", "other"] []
  bU : Binds K fdU ["self", "other"] []
  bM : Binds K fdM ["self", "other"] []
  bV : Binds K fdV ["self", "other"] []
  GA : FnOk P w K mg base CX0 6 fA fdA ["self", "other"] (spAr tAdd bAll C)
  GU : FnOk P w K mg base CX0 6 fU fdU ["self", "other"] (spAr tSub bAll C)
  GM : FnOk P w K mg base CX0 6 fM fdM ["self", "other"] (spAr tMul bAll C)
  GV : FnOk P w K mg base CX0 6 fV fdV ["self", "other"] (spAr tOver bOver C)
end
end K02

/-! # deeds done; what a ratio shows -/
namespace K02
open PySem PySem.Spec PyProof.Rows L2
/-- plain signs -/
def Pl (x : Str) : Prop := ∀ c ∈ x.cps.toList, c < 16 ^ 8
theorem Pl.cat {x y : Str} (h : Pl x) (g : Pl y) : Pl (x ++ y) := fun c hc => by
  have z : c ∈ x.cps.toList ++ y.cps.toList := by
    have e : (x ++ y).cps.toList = x.cps.toList ++ y.cps.toList := by
      show (x.cps ++ y.cps).toList = _
      rw [Array.toList_append]
    rw [← e]
    exact hc
  rcases List.mem_append.mp z with z | z
  · exact h c z
  · exact g c z
theorem pl_of (s : String) : Pl (Str.ofString s) := fun c hc => by
  rw [Str.ofString_eq_toList] at hc
  have z : c ∈ s.toList.map Char.toNat := hc
  obtain ⟨d, _, rfl⟩ := List.mem_map.mp z
  have v := d.valid
  have b : d.toNat < 1114112 := by
    rcases v with v | v
    · have : d.val.toNat < 55296 := v
      show d.val.toNat < 1114112
      omega
    · exact v.2
  exact Nat.lt_trans b (by decide)
theorem pl_rs (p q : Int) : Pl (rs p q) := by
  unfold rs
  split
  · exact pl_of _
  · exact ((pl_of _).cat (pl_of "/")).cat (pl_of _)
theorem rs_len {p q : Int} {n : Nat} (bp : Bd n p) (bq : Bd n q) (hn : n ≤ 9000) : (rs p q).length ≤ 8603 := by
  have a := str_size bp hn
  have b := str_size bq hn
  have c : ("/" : Str).length = 1 := by decide +kernel
  unfold rs
  split
  · omega
  · rw [cat_len, cat_len]
    omega
section
variable {P : Program} {w : World} {K : PySem.W.Frag} {mg : Str → Option Value} {base : Heap} {C CN CO : Addr}
/-- an integer as the right operand -/
structure IntOp (K : PySem.W.Frag) (C : Addr) (op : Operator) : Prop where
  h1 : PySem.W.findIn K (.ref C) (dunderR op.info.2) = some none
  h2 : ∃ fo, PySem.W.findIn K (.type "int") (PySem.dunder op.info.2) = some fo
  h3 : ∃ ro, PySem.W.findIn K (.type "int") (dunderR op.info.2) = some ro
  h4 : PySem.W.subIn K (.type "int") (.ref C) = some false
theorem opd_both {H : Hp} {Q : VK} {a : Addr} {x : V} {p q p' q' : Int} {sp : Sp} (r : Rat H a C p q) (o : Opd H C x p' q') (h : sp [.ref a, x] H Q E0) : rMine C sp (.ref a) x H Q ∨ rMineI C sp (.ref a) x H Q := by
  rcases o with ⟨b, rfl, rb⟩ | ⟨rfl, _⟩
  · exact .inl ⟨a, b, rfl, rfl, r.ins, rb.ins, h⟩
  · exact .inr ⟨a, _, rfl, rfl, r.ins, h⟩
section
variable {X : Cx} {g : Addr} {fd : FuncData} {n : Nat} {sp : Sp}
theorem op_both {op : Operator} (hc : PySem.W.selfFirst X.K C = true) (hs : PySem.W.findIn X.K (.ref C) (PySem.dunder op.info.2) = some (some (.ref g))) (hf : PySem.W.isFn X.K (.ref g) = true) (i : IntOp X.K C op)
    (F : FnOk X.prog X.w X.K X.mg X.base CX0 n g fd ["self", "other"] sp) (hr : Room n X.A) (hb : Binds X.K fd ["self", "other"] []) : OpR X (binaryOp op) (fun x y H Q => rMine C sp x y H Q ∨ rMineI C sp x y H Q) := by
  obtain ⟨fo, h2⟩ := i.h2
  obtain ⟨ro, h3⟩ := i.h3
  exact (op_mine hc hs hf F hr hb).or (op_mineI (rc := none) hc hs hf i.h1 h2 h3 i.h4 F hr hb)
end
variable {fA fU fM fV : Addr} {fdA fdU fdM fdV : FuncData}
theorem tb1 : ¬ (("over" : Str) = "_top") := by decide +kernel
theorem tb2 : ¬ (("over" : Str) = "_bottom") := by decide +kernel
def spDone (C : Addr) : Sp := fun vs H Q _ => ∃ (wy : Int) (a : Addr) (x : V) (p q p' q' : Int) (n m : Nat), vs = [.int wy, .ref a, x] ∧ Rat H a C p q ∧ Opd H C x p' q' ∧ Bd n p ∧ Bd n q ∧ Bd m p' ∧ Bd m q' ∧ bW wy p q p' q' ≠ 0 ∧ 0 < n ∧ 0 < m ∧ n + m ≤ 7000 ∧ New C H (tW wy p q p' q') (bW wy p q p' q') Q
theorem ok_done {f : Addr} {fd : FuncData} (R : RC K mg C) (O : OpM P w K mg base C fA fU fM fV fdA fdU fdM fdV) (iA : IntOp K C .Add) (iU : IntOp K C .Sub) (iM : IntOp K C .Mult) (d : D K mg "_law_done" s_law_done ["_law_way", "_law_ratio", "_law_other"] f fd) :
    FnOk P w K mg base CX0 7 f fd ["_law_way", "_law_ratio", "_law_other"] (spDone C) := by
  refine d.F.ok sc_law_done (fun vs H Q E h => ?_) (fun cdv A outer s H vs Q E hr h => ?_)
  · obtain ⟨wy, a, x, p, q, p', q', n, m, rfl, _⟩ := h
    rfl
  · obtain ⟨wy, a, x, p, q, p', q', n, m, rfl, r, o, bp, bq, bp', bq', z, n0, m0, nm, g⟩ := h
    refine ⟨_, (pss_cons (ps_if (pt_cmpR op_eq (pv 0) pe_int (nomark _)) (pss_one (ps_ret (pe_op (op_both (C := C) O.sf O.hA O.iA iA O.GA hr O.bA) (pv 1) (pv 2)))) pss_nil)
      (pss_cons (ps_if (pt_cmpR op_eq (pv 0) pe_int (nomark _)) (pss_one (ps_ret (pe_op (op_both (C := C) O.sf O.hU O.iU iU O.GU hr O.bU) (pv 1) (pv 2)))) pss_nil)
      (pss_one (ps_ret (pe_ifExp (pt_cmpR op_eq (pv 0) pe_int (nomark _)) (pe_op (op_both (C := C) O.sf O.hM O.iM iM O.GM hr O.bM) (pv 1) (pv 2)) (pe_meth (pv 1) R.cl O.mV O.GV hr O.bV .nil pass0 (pa_cons (pv 2) pa_nil))))))), ?_⟩
    refine ⟨_, rfl, rfl, _, rfl, ite2 (fun e => ?_) (fun e => ?_)⟩
    · have y : wy = 0 := V.int.inj (of_decide_eq_true e)
      subst y
      exact ⟨_, rfl, _, rfl, opd_both r o ⟨a, x, p, q, p', q', n, m, rfl, r, o, bp, bq, bp', bq', z, n0, m0, nm, g⟩⟩
    have y0 : ¬ wy = 0 := fun z => e (decide_eq_true (congrArg V.int z))
    refine ⟨_, rfl, rfl, _, rfl, ite2 (fun e => ?_) (fun e => ?_)⟩
    · have y : wy = 1 := V.int.inj (of_decide_eq_true e)
      subst y
      exact ⟨_, rfl, _, rfl, opd_both r o ⟨a, x, p, q, p', q', n, m, rfl, r, o, bp, bq, bp', bq', z, n0, m0, nm, g⟩⟩
    have y1 : ¬ wy = 1 := fun z => e (decide_eq_true (congrArg V.int z))
    refine ⟨_, rfl, rfl, _, rfl, ?_⟩
    by_cases y2 : wy = 2
    · subst y2
      rw [decide_eq_true (rfl : V.int 2 = V.int 2)]
      exact ⟨_, rfl, _, rfl, opd_both r o ⟨a, x, p, q, p', q', n, m, rfl, r, o, bp, bq, bp', bq', z, n0, m0, nm, g⟩⟩
    · have w1 : tW wy = tOver := by unfold tW; rw [if_neg y0, if_neg y1, if_neg y2]
      have w2 : bW wy = bOver := by unfold bW; rw [if_neg y0, if_neg y1, if_neg y2]
      rw [w1, w2] at g
      rw [w2] at z
      rw [decide_eq_false (fun e => y2 (V.int.inj e))]
      obtain ⟨dx, ha⟩ := id r
      exact ⟨_, rfl, a, dx, _, rfl, ha, pf_none tb1 tb2, _, rfl, a, x, p, q, p', q', n, m, rfl, r, o, bp, bq, bp', bq', z, n0, m0, nm, g⟩
/-- what the class has for the look at a ratio -/
structure Look (P : Program) (w : World) (K : PySem.W.Frag) (mg : Str → Option Value) (base : Heap) (C pT gT pB gB pS gS fS fL : Addr) (fdT fdB fdS fdX fdL : FuncData) : Prop where
  pT : PropOf K C "top" pT gT
  pB : PropOf K C "bottom" pB gB
  pS : PropOf K C "sign" pS gS
  bT : Binds K fdT ["self"] []
  bB : Binds K fdB ["self"] []
  bS : Binds K fdS ["self"] []
  hX : PySem.W.findIn K (.ref C) "__str__" = some (some (.ref fS))
  iX : PySem.W.isFn K (.ref fS) = true
  bX : Binds K fdX ["self"] []
  hL : PySem.W.findIn K (.ref C) "__bool__" = some (some (.ref fL))
  iL : PySem.W.isFn K (.ref fL) = true
  bL : Binds K fdL ["self"] []
  GT : FnOk P w K mg base CX0 2 gT fdT ["self"] (spTop C)
  GB : FnOk P w K mg base CX0 2 gB fdB ["self"] (spBottom C)
  GS : FnOk P w K mg base CX0 2 gS fdS ["self"] (spSignM C)
  GX : FnOk P w K mg base CX0 2 fS fdX ["self"] (spStr C)
  GL : FnOk P w K mg base CX0 2 fL fdL ["self"] (spBool C)
/-- a truth value's text -/
def bt (b : Bool) : Str := if b then "True" else "False"
theorem bt_len (b : Bool) : (bt b).length ≤ 5 := by cases b <;> decide +kernel
abbrev s_law_shows : Stmt := topS 26
theorem sc_law_shows : FnScope ["_law_ratio", "_law_pair_here", "_law_text", "_law_sign", "_law_told"] ["_law_ratio", "_law_pair_here"] (defScope s_law_shows) := ⟨rfl, rfl, rfl, by decide +kernel, rfl, by decide +kernel, by decide +kernel⟩
variable {pT gT pB gB pS gS fS fL : Addr} {fdT fdB fdS fdX fdL : FuncData}
def spShows (C : Addr) : Sp := fun vs H Q _ => ∃ (r t : Addr) (p q : Int) (n : Nat), vs = [.ref r, .ref t] ∧ Rat H r C p q ∧ H t = some (.tup [.int p, .int q]) ∧ Bd n p ∧ Bd n q ∧ n ≤ 9000 ∧ ∀ H', Same H H' → Q (.bl true) H'
theorem ok_shows {f : Addr} {fd : FuncData} (Dd : Dg K) (T : Txt mg) (N : Nam mg) (R : RC K mg C) (L : Look P w K mg base C pT gT pB gB pS gS fS fL fdT fdB fdS fdX fdL) (d : D K mg "_law_shows" s_law_shows ["_law_ratio", "_law_pair_here"] f fd) :
    FnG P w K mg base CX0 5 f fd ["_law_ratio", "_law_pair_here"] (spShows C) := by
  refine FnG.of d.F sc_law_shows (fun vs H Q E h => ?_) (fun cdv A outer s H vs Q E hn hr h => ?_)
  · obtain ⟨r, t, p, q, n, rfl, _⟩ := h
    rfl
  · obtain ⟨r, t, p, q, n, rfl, rat, ht, bp, bq, nn, g⟩ := h
    have un : (A.deeper (envOfC "_law_shows" (defScope s_law_shows) s.heap.objs.size f cdv)).units + 100 < cLine := by have := hr.un; omega
    refine ⟨_, (pss_cons (ps_set (i := 2) sc_law_shows.nd rfl (.inl rfl) (pe_ifExp (pt_cmpR op_eq (pe_ix ix_tup (pv 1) pe_int (fun _ _ => rfl)) pe_int (nomark _)) (pe_callTy (call_strB Dd rfl) (by rfl) N.n_str (by decide +kernel) (pa_cons (pe_ix ix_tup (pv 1) pe_int (fun _ _ => rfl)) pa_nil))
        (pe_op op_add_str (pe_op op_add_str (pe_callTy (call_strB Dd rfl) (by rfl) N.n_str (by decide +kernel) (pa_cons (pe_ix ix_tup (pv 1) pe_int (fun _ _ => rfl)) pa_nil)) pe_str) (pe_callTy (call_strB Dd rfl) (by rfl) N.n_str (by decide +kernel) (pa_cons (pe_ix ix_tup (pv 1) pe_int (fun _ _ => rfl)) pa_nil)))))
      (pss_cons (ps_set (i := 3) sc_law_shows.nd rfl (.inl rfl) (pe_op op_sub (pe_callTy call_int1 (by rfl) T.n_int (by decide +kernel) (pa_cons (pe_cmpR op_gt (pe_ix ix_tup (pv 1) pe_int (fun _ _ => rfl)) pe_int (nomark _)) pa_nil)) (pe_callTy call_int1 (by rfl) T.n_int (by decide +kernel) (pa_cons (pe_cmpR op_lt (pe_ix ix_tup (pv 1) pe_int (fun _ _ => rfl)) pe_int (nomark _)) pa_nil))))
      (pss_cons (ps_set (i := 4) sc_law_shows.nd rfl (.inl rfl) (pe_tup (pa_cons (pe_prop (pv 0) R.cl L.pT L.GT (hr.mono (by decide)) L.bT .nil pass0 (by rfl)) (pa_cons (pe_prop (pv 0) R.cl L.pB L.GB (hr.mono (by decide)) L.bB .nil pass0 (by rfl)) (pa_cons (pe_prop (pv 0) R.cl L.pS L.GS (hr.mono (by decide)) L.bS .nil pass0 (by rfl))
        (pa_cons (pe_callTy (call_strMine L.hX L.iX L.GX (hr.mono (by decide)) L.bX) (by rfl) N.n_str (by decide +kernel) (pa_cons (pv 0) pa_nil)) (pa_cons (pe_callTy (call_boolMine L.hL L.iL L.GL (hr.mono (by decide)) L.bL) (by rfl) T.n_bool (by decide +kernel) (pa_cons (pv 0) pa_nil)) pa_nil)))))))
      (pss_one (ps_ret (pe_cmpR op_eq (pe_callB (call_repr_T Dd hn un) (by rfl) T.n_repr (by decide +kernel) (pa_cons (pv 4) pa_nil))
        (pe_callB (call_repr_T Dd hn un) (by rfl) T.n_repr (by decide +kernel) (pa_cons (pe_tup (pa_cons (pe_ix ix_tup (pv 1) pe_int (fun _ _ => rfl)) (pa_cons (pe_ix ix_tup (pv 1) pe_int (fun _ _ => rfl)) (pa_cons (pv 3) (pa_cons (pv 2) (pa_cons (pe_cmpR op_ne (pe_ix ix_tup (pv 1) pe_int (fun _ _ => rfl)) pe_int (nomark _)) pa_nil)))))) pa_nil)) (nomark _))))))), ?_⟩
    have xt : SqT K H t [.int p, .int q] := .inl (.inl ht)
    have a0 : atI [V.int p, V.int q] 0 = some (.int p) := atI_nat (j := 0) rfl
    have a1 : atI [V.int p, V.int q] 1 = some (.int q) := atI_nat (j := 1) rfl
    have sp := str_size bp nn
    have sq := str_size bq nn
    have s1 : ("/" : Str).length = 1 := by decide +kernel
    refine ⟨_, rfl, t, _, 1, _, rfl, rfl, xt, a1, rfl, _, rfl, ?_⟩
    by_cases e1 : q = 1
    case' pos =>
      rw [decide_eq_true (congrArg V.int e1)]
      refine ⟨_, rfl, t, _, 0, _, rfl, rfl, xt, a0, p, n, rfl, bp, nn, ?_⟩
      rw [show Str.ofString (toString p) = rs p q by unfold rs; rw [if_pos e1]]
    case' neg =>
      rw [decide_eq_false (fun z => e1 (V.int.inj z))]
      refine ⟨_, rfl, t, _, 0, _, rfl, rfl, xt, a0, p, n, rfl, bp, nn, _, _, rfl, rfl, small1000' (by omega), _, rfl, t, _, 1, _, rfl, rfl, xt, a1, q, n, rfl, bq, nn, _, _, rfl, rfl, small1000' (by rw [cat_len]; omega), ?_⟩
      rw [show Str.ofString (toString p) ++ "/" ++ Str.ofString (toString q) = rs p q by unfold rs; rw [if_neg e1]]
    all_goals
      refine ⟨_, rfl, t, _, 0, _, rfl, rfl, xt, a0, _, _, rfl, rfl, .inr ⟨_, rfl, _, rfl, t, _, 0, _, rfl, rfl, xt, a0, _, _, rfl, rfl, .inr ⟨_, rfl, _, _, rfl, rfl, ?_⟩⟩⟩
      obtain ⟨dx, ha⟩ := id rat
      refine ⟨_, rfl, r, dx, _, rfl, ha, r, p, q, rfl, rat, _, rfl, r, dx, _, rfl, ha, r, p, q, rfl, rat, _, rfl, r, dx, _, rfl, ha, r, p, q, rfl, rat, _, rfl, r, rfl, rat.ins, r, p, q, n, rfl, rat, bp, bq, nn, _, rfl, _, rfl, r, rfl, rat.ins, r, p, q, rfl, rat, _, rfl, (by show 5 ≤ sizeLine; decide), fun t2 ht2 => ?_⟩
      have s2 := sub_same (o := .tup [V.int p, V.int q, V.int (sg p), V.str (rs p q), V.bl (p != 0)]) ht2
      have xu : SqT K (upd H t2 (.tup [V.int p, V.int q, V.int (sg p), V.str (rs p q), V.bl (p != 0)])) t [.int p, .int q] := .inl (.inl (s2 _ _ ht))
      have e2 : ((if decide (p > 0) = true then (1 : Int) else 0) - if decide (p < 0) = true then 1 else 0) = sg p := by
        unfold sg
        simp only [decide_eq_true_eq]
        split <;> split <;> split <;> first | rfl | omega | (split <;> omega)
      have bs : Bd 2 (sg p) := by
        unfold sg Bd
        split
        · decide
        · split <;> decide
      have rl : (reprText (rs p q)).length ≤ 86032 := by
        have a := PySem.StrLaws.reprText_len (rs p q) (pl_rs p q)
        have b := rs_len bp bq nn
        omega
      have sh : ShAll [V.int p, V.int q, V.int (sg p), V.str (rs p q), V.bl (p != 0)] [Str.ofString (toString p), Str.ofString (toString q), Str.ofString (toString (sg p)), reprText (rs p q), bt (p != 0)] :=
        .cons (.int bp nn) (.cons (.int bq nn) (.cons (.int bs (by decide)) (.cons (.str (Nat.le_trans rl (by decide))) (.cons (.bl _) .nil))))
      have sz : (tupleText [Str.ofString (toString p), Str.ofString (toString q), Str.ofString (toString (sg p)), reprText (rs p q), bt (p != 0)]).length ≤ sizeLine := by
        have l3 := str_size bs (by decide)
        have l5 := bt_len (p != 0)
        have j := join_length_add [Str.ofString (toString p), Str.ofString (toString q), Str.ofString (toString (sg p)), reprText (rs p q), bt (p != 0)] (by simp)
        rw [piled_cons, piled_cons, piled_cons, piled_cons, piled_cons, piled_nil] at j
        have c1 : ("(" : Str).length = 1 := by decide +kernel
        have c2 : (")" : Str).length = 1 := by decide +kernel
        show (("(" : Str) ++ Str.join ", " [Str.ofString (toString p), Str.ofString (toString q), Str.ofString (toString (sg p)), reprText (rs p q), bt (p != 0)] ++ (")" : Str)).length ≤ sizeLine
        rw [cat_len, cat_len, c1, c2]
        refine Nat.le_trans (m := 200000) ?_ (by decide)
        omega
      refine ⟨_, rfl, t2, _, _, rfl, .inl (.inl upd_same), sh, sz, ?_⟩
      refine ⟨_, rfl, t, _, 0, _, rfl, rfl, xu, a0, _, rfl, t, _, 1, _, rfl, rfl, xu, a1, _, rfl, _, rfl, _, rfl, t, _, 0, _, rfl, rfl, xu, a0, rfl, (by show 5 ≤ sizeLine; decide), fun t3 ht3 => ?_⟩
      have e3 : (!decide (V.int p = V.int 0)) = (p != 0) := by
        by_cases z : p = 0
        · rw [decide_eq_true (congrArg V.int z), z]
          rfl
        · rw [decide_eq_false (fun y => z (V.int.inj y))]
          exact (bne_iff_ne.mpr z).symm
      refine ⟨t3, [V.int p, V.int q, V.int (sg p), V.str (rs p q), V.bl (p != 0)], _, rfl, .inl (.inl ?_), sh, sz, rfl, ?_⟩
      · rw [upd_same]
        show some (HO.tup [V.int p, V.int q, V.int ((if decide (p > 0) = true then (1 : Int) else 0) - if decide (p < 0) = true then 1 else 0), V.str (rs p q), V.bl (!decide (V.int p = V.int 0))]) = _
        rw [e2, e3]
      · have z := g _ (s2.trans (sub_same (o := .tup [V.int p, V.int q, V.int ((if decide (p > 0) = true then (1 : Int) else 0) - if decide (p < 0) = true then 1 else 0), V.str (rs p q), V.bl (!decide (V.int p = V.int 0))]) ht3))
        show Q (.bl (decide (V.str (tupleText _) = V.str (tupleText _)))) _
        rw [decide_eq_true rfl]
        exact z
end
end K02

/-! # ratios compared -/
namespace K02
open PySem PySem.Spec PyProof.Rows L2
section
variable {P : Program} {w : World} {K : PySem.W.Frag} {mg : Str → Option Value} {base : Heap} {C CN CO : Addr}
/-- what the class has for comparisons -/
structure CmpM (P : Program) (w : World) (K : PySem.W.Frag) (mg : Str → Option Value) (base : Heap) (C fE fC fS : Addr) (fdE fdC fdX : FuncData) : Prop where
  hE : PySem.W.findIn K (.ref C) "__eq__" = some (some (.ref fE))
  iE : PySem.W.isFn K (.ref fE) = true
  bE : Binds K fdE ["self", "other"] []
  GE : FnOk P w K mg base CX0 2 fE fdE ["self", "other"] (spEq K C)
  ne : PySem.W.findIn K (.ref C) "__ne__" = some (some (.builtin "object.__ne__"))
  mC : Meth K C "compared" fC
  bC : Binds K fdC ["self", "other"] []
  GC : FnOk P w K mg base CX0 6 fC fdC ["self", "other"] (spComp C)
  hX : PySem.W.findIn K (.ref C) "__str__" = some (some (.ref fS))
  iX : PySem.W.isFn K (.ref fS) = true
  bX : Binds K fdX ["self"] []
  GX : FnOk P w K mg base CX0 2 fS fdX ["self"] (spStr C)
  nO : PySem.W.notFirst K C (.ref C) = true
  nI : PySem.W.notFirst K C (.type "int") = true
  nS : PySem.W.notFirst K C (.type "str") = true
  nT : PySem.W.notFirst K C (.type "tuple") = true
  nN : PySem.W.notFirst K C (.type "NoneType") = true
abbrev s_law_cright : Stmt := topS 31
theorem sc_law_cright : FnScope ["_law_ratio", "_law_pair_here", "_law_other", "_law_more", "_law_cross"] ["_law_ratio", "_law_pair_here", "_law_other", "_law_more"] (defScope s_law_cright) := ⟨rfl, rfl, rfl, by decide +kernel, rfl, by decide +kernel, by decide +kernel⟩
variable {fE fC fS : Addr} {fdE fdC fdX : FuncData}
theorem tb3 : ¬ (("compared" : Str) = "_top") := by decide +kernel
theorem tb4 : ¬ (("compared" : Str) = "_bottom") := by decide +kernel
def spCright (C : Addr) : Sp := fun vs H Q _ => ∃ (r t1 : Addr) (x : V) (t2 : Addr) (p q p' q' n d : Int) (b c : Nat), vs = [.ref r, .ref t1, x, .ref t2] ∧ Rat H r C p q ∧ H t1 = some (.tup [.int p, .int q]) ∧ Opd H C x p' q' ∧ H t2 = some (.tup [.int n, .int d]) ∧
  Bd b p ∧ Bd b q ∧ Bd c p' ∧ Bd c q' ∧ Bd c n ∧ Bd c d ∧ 0 < b ∧ 0 < c ∧ b + c ≤ 7000 ∧ sg (p * q' - p' * q) = sg (p * d - n * q) ∧ (∀ y, x = .ref y → ((decide (p = p') && decide (q = q')) = decide (p * d - n * q = 0))) ∧ ∀ H', Same H H' → Q (.bl true) H'
theorem sg_log (i : Int) : (sg i).natAbs.log2 < 1920 := by
  unfold sg
  split
  · decide
  · split <;> decide
theorem sg_eq (i : Int) : ((if decide (i > 0) = true then (1 : Int) else 0) - if decide (i < 0) = true then 1 else 0) = sg i := by
  unfold sg
  simp only [decide_eq_true_eq]
  split <;> split <;> split <;> first | rfl | omega | (split <;> omega)
theorem ok_cright {f : Addr} {fd : FuncData} (T : Txt mg) (N : Nam mg) (R : RC K mg C) (IC : C8.InsC K C) (kc : KC K C) (O : CmpM P w K mg base C fE fC fS fdE fdC fdX) (d : D K mg "_law_compared_right" s_law_cright ["_law_ratio", "_law_pair_here", "_law_other", "_law_more"] f fd) :
    FnOk P w K mg base CX0 7 f fd ["_law_ratio", "_law_pair_here", "_law_other", "_law_more"] (spCright C) := by
  refine d.F.ok sc_law_cright (fun vs H Q E h => ?_) (fun cdv A outer s H vs Q E hr h => ?_)
  · obtain ⟨r, t1, x, t2, p, q, p', q', n, d, b, c, rfl, _⟩ := h
    rfl
  · obtain ⟨r, t1, x, t2, p, q, p', q', n, d, b, c, rfl, rat, h1, o, h2, bp, bq, bp', bq', bn, bd, b0, c0, bc, hs, he, g⟩ := h
    refine ⟨_, (pss_cons (ps_set (i := 4) sc_law_cright.nd rfl (.inl rfl) (pe_op op_sub (pe_op op_mulW (pe_ix ix_tup (pv 1) pe_int (fun _ _ => rfl)) (pe_ix ix_tup (pv 3) pe_int (fun _ _ => rfl))) (pe_op op_mulW (pe_ix ix_tup (pv 3) pe_int (fun _ _ => rfl)) (pe_ix ix_tup (pv 1) pe_int (fun _ _ => rfl)))))
      (pss_cons (ps_if (pt_cmpR op_ne (pe_callB SkE.call_repr_int (by rfl) T.n_repr (by decide +kernel) (pa_cons (pe_meth (pv 0) R.cl O.mC O.GC hr O.bC .nil pass0 (pa_cons (pv 2) pa_nil)) pa_nil))
          (pe_callB SkE.call_repr_int (by rfl) T.n_repr (by decide +kernel) (pa_cons (pe_op op_sub (pe_callTy call_int1 (by rfl) T.n_int (by decide +kernel) (pa_cons (pe_cmpR op_gt (pv 4) pe_int (nomark _)) pa_nil)) (pe_callTy call_int1 (by rfl) T.n_int (by decide +kernel) (pa_cons (pe_cmpR op_lt (pv 4) pe_int (nomark _)) pa_nil))) pa_nil)) (nomark _))
        (pss_one (ps_ret pe_bl)) pss_nil)
      (pss_cons (ps_if (PW.pt (pw_or (pt_cmpR op_ne (pe_cmpR (op_eqMine O.hE O.iE O.GE (hr.mono (by decide)) O.bE) (pv 0) (pv 2) (nomark _)) (pe_and (pe_cmpR op_eq (pv 4) pe_int (nomark _)) (pe_one (pe_callB call_isi (by rfl) T.n_isinstance (by decide +kernel) (pa_cons (pv 2) (pa_cons (pe_glob (v := .ref C) rfl R.mC rfl) pa_nil))))) (nomark _))
          (pw_or1 (pt_cmpR op_eq (pe_cmpR (op_neMine IC.hm O.ne O.hE O.iE O.GE (hr.mono (by decide)) O.bE) (pv 0) (pv 2) (nomark _)) (pe_cmpR (op_eqMine O.hE O.iE O.GE (hr.mono (by decide)) O.bE) (pv 0) (pv 2) (nomark _)) (nomark _)))))
        (pss_one (ps_ret pe_bl)) pss_nil)
      (pss_one (ps_ret (pe_and (pe_not (pe_cmpR (op_eqMine O.hE O.iE O.GE (hr.mono (by decide)) O.bE) (pv 0) (pe_callTy (call_strMine O.hX O.iX O.GX (hr.mono (by decide)) O.bX) (by rfl) N.n_str (by decide +kernel) (pa_cons (pv 0) pa_nil)) (nomark _)))
        (pe_and (pe_not (pe_cmpR (op_eqMine O.hE O.iE O.GE (hr.mono (by decide)) O.bE) (pv 0) (pv 1) (nomark _)))
        (pe_and (pe_not (pe_cmpR (op_eqMine O.hE O.iE O.GE (hr.mono (by decide)) O.bE) (pv 0) (pe_ix ix_tup (pv 1) pe_int (fun _ _ => rfl)) (nomark _)))
        (pe_one (pe_cmpR (op_neMine IC.hm O.ne O.hE O.iE O.GE (hr.mono (by decide)) O.bE) (pv 0) pe_non (nomark _))))))))))), ?_⟩
    have x1 : SqT K H t1 [.int p, .int q] := .inl (.inl h1)
    have x2 : SqT K H t2 [.int n, .int d] := .inl (.inl h2)
    have a0 : atI [V.int p, V.int q] 0 = some (.int p) := atI_nat (j := 0) rfl
    have a1 : atI [V.int p, V.int q] 1 = some (.int q) := atI_nat (j := 1) rfl
    have e0 : atI [V.int n, V.int d] 0 = some (.int n) := atI_nat (j := 0) rfl
    have e1 : atI [V.int n, V.int d] 1 = some (.int d) := atI_nat (j := 1) rfl
    refine ⟨_, rfl, t1, _, 0, _, rfl, rfl, x1, a0, _, rfl, t2, _, 1, _, rfl, rfl, x2, e1, _, _, rfl, rfl, wide_mul bp bd b0 c0 (by omega), _, rfl, t2, _, 0, _, rfl, rfl, x2, e0, _, rfl, t1, _, 1, _, rfl, rfl, x1, a1, _, _, rfl, rfl, wide_mul bn bq c0 b0 (by omega), _, _, rfl, rfl, ?_⟩
    show gName 4 (V.int (p * d - n * q)) _ _ _
    generalize p * d - n * q = cr at hs he ⊢
    obtain ⟨dx, ha⟩ := id rat
    refine ⟨_, rfl, r, dx, _, rfl, ha, pf_none tb3 tb4, _, rfl, r, x, p, q, p', q', b, c, rfl, rat, o, bp, bq, bp', bq', b0, c0, bc, fun H1 s1 => ?_⟩
    rw [hs]
    refine ⟨_, rfl, sg_log _, _, rfl, _, _, rfl, rfl, .inr ⟨_, rfl, _, rfl, _, _, rfl, rfl, .inr ⟨_, rfl, _, _, rfl, rfl, _, rfl, ?_⟩⟩⟩
    rw [sg_eq]
    refine ⟨sg_log _, rfl, _, rfl, ite2 (fun z => ?_) (fun _ => ?_)⟩
    · rw [decide_eq_true rfl] at z
      exact Bool.noConfusion z
    have rat1 := rat.same s1
    have o1 := o.same s1
    have h1' := s1 _ _ h1
    have x1' : SqT K H1 t1 [.int p, .int q] := .inl (.inl h1')
    have nb : ∀ e : Bool, ¬ (!e) = e := fun e => by cases e <;> decide
    have b9 : b ≤ 9000 := by omega
    rcases o1 with ⟨y, rfl, rb⟩ | ⟨rfl, _⟩
    case' inl =>
      refine ⟨_, rfl, _, rfl, r, .ref C, rfl, rat1.ins, rb.ty IC, O.nO, r, p, q, _, .ref C, true, rfl, rat1, rb.ty IC, kc.own, .inr ⟨rfl, y, p', q', rfl, rb, ?_⟩⟩
      rw [he y rfl]
      refine ⟨_, rfl, rfl, _, rfl, ?_⟩
      by_cases cz : cr = 0
      case' pos =>
        rw [decide_eq_true (congrArg V.int cz), decide_eq_true cz]
        refine iteT ⟨_, rfl, _, _, .ref C, _, true, rfl, .own C, rb.ty IC, kc.own, rfl, _, rfl, ite2 (fun z => Bool.noConfusion (show false = true from z)) (fun _ => ?_)⟩
      case' neg =>
        rw [decide_eq_false (fun z => cz (V.int.inj z)), decide_eq_false cz]
        refine iteF ⟨rfl, _, rfl, ite2 (fun z => Bool.noConfusion (show false = true from z)) (fun _ => ?_)⟩
      all_goals
        refine ⟨_, rfl, _, rfl, r, .ref C, rfl, rat1.ins, rb.ty IC, O.nO, r, p, q, _, .ref C, true, rfl, rat1, rb.ty IC, kc.own, .inr ⟨rfl, y, p', q', rfl, rb, _, rfl, ?_⟩⟩
        refine ⟨_, rfl, _, rfl, r, .ref C, rfl, rat1.ins, rb.ty IC, O.nO, r, p, q, _, .ref C, true, rfl, rat1, rb.ty IC, kc.own, .inr ⟨rfl, y, p', q', rfl, rb, rfl, _, rfl, ite2 (fun z => absurd (V.bl.inj (of_decide_eq_true z)) (nb _)) (fun _ => ?_)⟩⟩
    case' inr =>
      refine ⟨_, rfl, _, rfl, r, .type "int", rfl, rat1.ins, .base (.int p'), O.nI, r, p, q, _, .type "int", false, rfl, rat1, .base (.int p'), kc.int, .inl ⟨rfl, ?_⟩⟩
      refine ⟨_, rfl, rfl, _, rfl, ?_⟩
      by_cases cz : cr = 0
      case' pos =>
        rw [decide_eq_true (congrArg V.int cz)]
        refine iteT ⟨_, rfl, _, _, .type "int", _, false, rfl, .own C, .base (.int p'), kc.int, rfl, _, rfl, ite2 (fun z => Bool.noConfusion (show false = true from z)) (fun _ => ?_)⟩
      case' neg =>
        rw [decide_eq_false (fun z => cz (V.int.inj z))]
        refine iteF ⟨rfl, _, rfl, ite2 (fun z => Bool.noConfusion (show false = true from z)) (fun _ => ?_)⟩
      all_goals
        refine ⟨_, rfl, _, rfl, r, .type "int", rfl, rat1.ins, .base (.int p'), O.nI, r, p, q, _, .type "int", false, rfl, rat1, .base (.int p'), kc.int, .inl ⟨rfl, _, rfl, ?_⟩⟩
        refine ⟨_, rfl, _, rfl, r, .type "int", rfl, rat1.ins, .base (.int p'), O.nI, r, p, q, _, .type "int", false, rfl, rat1, .base (.int p'), kc.int, .inl ⟨rfl, rfl, _, rfl, ite2 (fun z => absurd (V.bl.inj (of_decide_eq_true z)) (nb _)) (fun _ => ?_)⟩⟩
    all_goals
      refine ⟨_, rfl, _, rfl, r, rfl, rat1.ins, r, p, q, b, rfl, rat1, bp, bq, b9, _, rfl, r, .type "str", rfl, rat1.ins, .base (.str _), O.nS, r, p, q, _, .type "str", false, rfl, rat1, .base (.str _), kc.str, .inl ⟨rfl, _, rfl, _, rfl, ite2 (fun _ => ?_) (fun z => absurd rfl z)⟩⟩
      refine ⟨_, rfl, _, rfl, r, .type "tuple", rfl, rat1.ins, .base (.tup h1'), O.nT, r, p, q, _, .type "tuple", false, rfl, rat1, .base (.tup h1'), kc.tup, .inl ⟨rfl, _, rfl, _, rfl, ite2 (fun _ => ?_) (fun z => absurd rfl z)⟩⟩
      refine ⟨_, rfl, _, rfl, t1, _, 0, _, rfl, rfl, x1', a0, r, .type "int", rfl, rat1.ins, .base (.int p), O.nI, r, p, q, _, .type "int", false, rfl, rat1, .base (.int p), kc.int, .inl ⟨rfl, _, rfl, _, rfl, ite2 (fun _ => ?_) (fun z => absurd rfl z)⟩⟩
      exact ⟨_, rfl, r, .type "NoneType", rfl, rat1.ins, .base .non, O.nN, r, p, q, _, .type "NoneType", false, rfl, rat1, .base .non, kc.non, .inl ⟨rfl, _, rfl, g _ s1⟩⟩
end
end K02

/-! # what is refused -/
namespace K02
open PySem PySem.Spec PyProof.Rows L2
/-- x has the data d -/
inductive Shw (H : Hp) : V → PyData → Prop
  | non : Shw H .non .none
  | bl (b : Bool) : Shw H (.bl b) (.bool b)
  | int (i : Int) : Shw H (.int i) (.int i)
  | str (z : Str) : Shw H (.str z) (.str z)
  | tup {a : Addr} {ns : List Int} : H a = some (.tup (ns.map V.int)) → Shw H (.ref a) (.tuple (ns.map PyData.int))
  | lst {a : Addr} {ns : List Int} : H a = some (.lst (ns.map V.int)) → ns.length < 3 → Shw H (.ref a) (.list (ns.map PyData.int))
  | emp {a : Addr} : H a = some (.dK []) → Shw H (.ref a) (.dict [])
theorem Shw.same {H H' : Hp} {x : V} {d : PyData} (h : Shw H x d) (s : Same H H') : Shw H' x d := by
  cases h with
  | non => exact .non
  | bl b => exact .bl b
  | int i => exact .int i
  | str z => exact .str z
  | tup e => exact .tup (s _ _ e)
  | lst e l => exact .lst (s _ _ e) l
  | emp e => exact .emp (s _ _ e)
theorem Shw.old {H H' : Hp} {x : V} {d : PyData} {u : Addr} (h : Shw H x d) (hu : Urn H u) (s : Old u H H') : Shw H' x d := by
  obtain ⟨g, m, c, eu⟩ := hu
  have off : ∀ {a : Addr} {o : HO}, H a = some o → o ≠ .lst [.int g, .int m, .int c] → a ≠ u := fun e ne z => by
    subst z
    rw [e] at eu
    exact ne (Option.some.inj eu)
  cases h with
  | non => exact .non
  | bl b => exact .bl b
  | int i => exact .int i
  | str z => exact .str z
  | tup e => exact .tup (s _ _ (off e (fun z => by cases z)) e)
  | @lst a ns e l =>
    refine .lst (s _ _ (off e (fun z => ?_)) e) l
    have z1 := congrArg List.length (HO.lst.inj z)
    rw [List.length_map] at z1
    have z2 : ns.length = 3 := z1
    omega
  | emp e => exact .emp (s _ _ (off e (fun z => by cases z)) e)
/-- short enough to be shown -/
structure Small (d : PyData) : Prop where
  sh : d.showable = true
  dp : d.depth ≤ 3
  sz : d.shown.length ≤ 400
  sl : (PyData.list [d]).shown.length ≤ sizeLine
theorem dp_ints {K : PySem.W.Frag} {H : Hp} : ∀ ns : List Int, DpAll K H (ns.map V.int) (ns.map PyData.int)
  | [] => .nil
  | n :: ns => .cons (.int n) (dp_ints ns)
theorem nd_ints : ∀ ns : List Int, PyData.hasDictAll (ns.map PyData.int) = false
  | [] => rfl
  | n :: ns => by
    show (PyData.hasDict (.int n) || PyData.hasDictAll (ns.map PyData.int)) = false
    rw [nd_ints ns]
    rfl
section
variable {X : Cx} {pins : List (Addr × Obj)} {σ : L2.St} {H : Hp} {s : Shared}
theorem Shw.reads (I : Inv X pins σ H s) {x : V} {u : Value} {d : PyData} (r : RelV x u) (h : Shw H x d) : ∃ as, Reads s.heap u d as ∧ (d.hasDict = true → sysModules ∉ as) := by
  cases h with
  | non =>
    obtain ⟨as, z⟩ := Dp.reads I .none .non u .non r
    exact ⟨as, z, fun y => nomatch y⟩
  | bl b =>
    obtain ⟨as, z⟩ := Dp.reads I (.bool b) (.bl b) u (.bl b) r
    exact ⟨as, z, fun y => nomatch y⟩
  | int i =>
    obtain ⟨as, z⟩ := Dp.reads I (.int i) (.int i) u (.int i) r
    exact ⟨as, z, fun y => nomatch y⟩
  | str t =>
    obtain ⟨as, z⟩ := Dp.reads I (.str t) (.str t) u (.str t) r
    exact ⟨as, z, fun y => nomatch y⟩
  | @tup a ns e =>
    obtain ⟨as, z⟩ := Dp.reads I _ _ u (.tup (.inl (.inl e)) (dp_ints ns)) r
    exact ⟨as, z, fun y => by have y' : PyData.hasDictAll (ns.map PyData.int) = true := (by simpa only [PyData.hasDict] using y); rw [nd_ints] at y'; cases y'⟩
  | @lst a ns e _ =>
    obtain ⟨as, z⟩ := Dp.reads I _ _ u (.lst (.inl (.inl e)) (dp_ints ns)) r
    exact ⟨as, z, fun y => by have y' : PyData.hasDictAll (ns.map PyData.int) = true := (by simpa only [PyData.hasDict] using y); rw [nd_ints] at y'; cases y'⟩
  | @emp a e =>
    obtain rfl : u = Value.ref a := r
    obtain ⟨_, lo, vs, kv, o, es, ep, h1, h2, h3, _, h5, _⟩ := dk_of I.hok e
    cases kv
    have nil : es.toList = [] := by
      generalize es.toList = l at h5
      cases h5
      rfl
    refine ⟨[a] ++ [], Reads.dict (kvs := []) h1 h2.1 h3 ?_ ?_, fun _ z => ?_⟩
    · rw [nil]
      exact ReadsAll.nil
    · rw [nil]
      exact ReadsAll.nil
    · have z1 : sysModules = a := List.mem_singleton.mp (by simpa using z)
      rw [← z1] at lo
      simp at lo
/-- repr([x]) where no repr is under way -/
theorem call_repr_1 (no : X.A.guards = some []) (hu : X.A.units + 100 < cLine) : CallR X (.builtin "repr") (fun xs H Q => ∃ (a : Addr) (x : V) (d : PyData), xs = [.ref a] ∧ H a = some (.lst [x]) ∧ Shw H x d ∧ Small d ∧ Q (.str (PyData.list [d]).shown) H) := by
  intro pins s σ H vs us Q I r h
  obtain ⟨a, x, d, rfl, e, hs, sm, q⟩ := h
  cases r with
  | cons r1 r2 =>
    cases r2
    obtain rfl := (show _ = Value.ref a from r1)
    obtain ⟨its, n, rv, ho, _⟩ := I.lst e
    cases rv with
    | @cons _ v0 _ vr rx rn =>
      cases rn
      obtain ⟨as, hr, hm⟩ := hs.reads I rx
      have all : ReadsAll s.heap [v0] [d] (as ++ []) := .cons hr .nil
      have szL : (listText (PyData.shownAll [d])).length ≤ sizeLine := by
        have z := sm.sl
        simpa only [PyData.shown] using z
      have dpt := sm.dp
      obtain ⟨bs, hb, hk⟩ := ReprAllK.of_readsAll (prog := X.prog) (w := X.w) all (by simp [PyData.showableAll, sm.sh]) (fun y z => hm (by simpa [PyData.hasDictAll] using y) (by simpa using z)) (fun t ht => Nat.le_trans (listText_mem_le ht) szL)
      have whole : Reads s.heap (.ref a) (.list [d]) _ := Reads.list ho rfl rfl all
      have off : a ∉ bs := not_mem_of_deeper whole (by simp only [PyData.depth]; omega) hb
      refine call_repr_slot (by omega) ⟨_, ho, rfl⟩ F.slot_list_repr.toG ?_
      refine call_list_reprK (g := []) ho rfl rfl off (by simpa using hk.length_eq) (fun i y z => hk.item i y (by simpa using z)) no (fun b _ => Clear.nil b) ?_ (fun b o z => z) (fun h' u tk k => ?_) szL
      · show X.A.units + 1 + _ < cLine
        have dz : PyData.depthAll [d] ≤ 3 := by simp [PyData.depthAll, dpt]
        omega
      · refine ⟨_, _, rfl, .str (PyData.list [d]).shown, H, I.kept (h' := h') (t' := tk) k, ⟨u, ?_⟩, q⟩
        simp only [PyData.shown]
/-- repr(x) -/
theorem call_repr_v (no : X.A.guards = some []) (hu : X.A.units + 100 < cLine) : CallR X (.builtin "repr") (fun xs H Q => ∃ (x : V) (d : PyData), xs = [x] ∧ Shw H x d ∧ Small d ∧ Q (.str d.shown) H) := by
  intro pins s σ H vs us Q I r h
  obtain ⟨x, d, rfl, hs, sm, q⟩ := h
  obtain ⟨u, rfl, rx⟩ := vals1 r
  have ref : ∀ a, x = .ref a → wpAny (model X.prog X.w) X.A (call (.builtin "repr") [u]) (EP X pins σ Q) X.xe s := fun a ex => by
    subst ex
    obtain ⟨as, hr, hm⟩ := hs.reads I rx
    obtain rfl : u = Value.ref a := rx
    have dpt := sm.dp
    exact repr_of_reads' hr sm.sh hm no (by omega) (fun b o e => e) (fun h' t tk k => ⟨.str d.shown, H, I.kept (h' := h') (t' := tk) k, ⟨_, rfl⟩, q⟩) (Nat.le_trans sm.sz (by decide))
  cases hs with
  | non =>
    cases rx
    exact PySem.P.repr_of_none ⟨.str _, H, I.tok _, ⟨_, rfl⟩, q⟩
  | bl b =>
    cases rx
    refine PySem.P.repr_of_bool ⟨.str _, H, I.tok _, ⟨_, rfl⟩, ?_⟩
    cases b <;> exact q
  | int i =>
    obtain ⟨t, rfl⟩ := rx
    have z : i.natAbs.log2 < 1920 := by
      have y := sm.sh
      exact of_decide_eq_true (by simpa only [PyData.showable] using y)
    exact PySem.P.repr_of_int z ⟨.str _, H, I.tok _, ⟨_, rfl⟩, q⟩
  | str z =>
    obtain ⟨t, rfl⟩ := rx
    have y := Nat.le_trans sm.sz (by decide : 400 ≤ sizeLine)
    exact PySem.P.repr_of_str ⟨.str _, H, I.tok _, ⟨_, rfl⟩, q⟩ y
  | tup e => exact ref _ rfl
  | lst e l => exact ref _ rfl
  | emp e => exact ref _ rfl
end
section
variable {X : Cx} {CX : CXT} {k : Nat} {f C : Addr} {fd : FuncData} {ps : List Str} {sp : Sp} {E : L2.St → XK} {m : Str} {o e : Expr} {es : List Expr} {pos apos : Pos} {ta : TE} {t : TA} {pl : Sem Bool}
/-- o.m(e, ..) where what is raised is wished for at the slots -/
theorem pe_methE (he : PE X o ta) (c : Cls X.K C) (hm : Meth X.K C m f) (F : FnOk X.prog X.w X.K X.mg X.base CX k f fd ps sp) (hr : Room k X.A) (hb : Binds X.K fd ps []) (hx : ∀ σ, PassesAt CX X σ (E σ)) (ha : PA X (e :: es) t)
    (hst : starEach (e :: es) X.env = (false, eval e X.env) :: starEach es X.env := by rfl) (hpl : (backTo pos (starEach es X.env)).any (·.1) = false := by rfl)
    (ht : eval (.Call (.Attribute o m apos) (e :: es) [] pos) X.env = (do
      let ov ← eval o X.env
      standAt apos.atName
      let (f, first) ← holding [ov] (getMethod ov m pl)
      callWith pos f first (backTo pos (starEach (e :: es) X.env)) (backToKw pos (keywordEach [] X.env))) := by rfl) :
    PE X (.Call (.Attribute o m apos) (e :: es) [] pos) (fun σ H Q => ta σ H fun x H1 => ∃ a dx fs, x = .ref a ∧ H1 a = some (.ins C dx fs) ∧ fs.lookup m = none ∧ t σ H1 fun vs H2 => sp (.ref a :: vs) H2 Q (E σ)) := by
  refine ⟨fun pins s σ H Q I h => PySem.W.methodCall_KW (pl := pl) (thn (he.run pins s σ H _ I h) fun u s1 ⟨x, H1, I1, rx, a, dx, fs, ex, ea, l, q⟩ => ?_) ht⟩
  subst ex
  obtain rfl : u = Value.ref a := rx
  exact getmeth_ok I1 ea c hm l (PySem.W.callWith_K (first := [.ref a]) (h₀ := X.base) I.ok.mod.kin hm.kp (thn (ha.run pos pins s1 σ H1 _ I1 q) fun us s2 ⟨vs, H2, I2, r, q2⟩ => ⟨I2.kIn, run_fnS (us := .ref a :: us) (vs := .ref a :: vs) F hr hb (hx σ) I2 (.cons rfl r) q2⟩) hst hpl)
end
end K02

/-! # what is refused, seen by the law -/
namespace K02
open PySem PySem.Spec PyProof.Rows L2
section
variable {P : Program} {w : World} {K : PySem.W.Frag} {mg : Str → Option Value} {base : Heap} {C CN CO : Addr}
abbrev s_law_error : Stmt := topS 29
theorem sc_law_error : FnScope ["_law_way", "_law_ratio", "_law_value", "error"] ["_law_way", "_law_ratio", "_law_value"] (defScope s_law_error) := ⟨rfl, rfl, rfl, by decide +kernel, rfl, by decide +kernel, by decide +kernel⟩
abbrev s_law_merror : Stmt := topS 30
theorem sc_law_merror : FnScope ["_law_top", "_law_bottom", "error"] ["_law_top", "_law_bottom"] (defScope s_law_merror) := ⟨rfl, rfl, rfl, by decide +kernel, rfl, by decide +kernel, by decide +kernel⟩
/-- which argument is refused -/
def Bads (K : PySem.W.Frag) (H : Hp) (x y g : V) : Prop := (IsI K H x false ∧ g = x) ∨ (∃ i : Int, x = .int i ∧ i.natAbs < 10 ^ 60 ∧ (IsI K H y false ∨ y = .int 0) ∧ g = y)
theorem Bads.same {H H' : Hp} {x y g : V} (h : Bads K H x y g) (s : Same H H') : Bads K H' x y g := by
  rcases h with ⟨a, e⟩ | ⟨i, e, l, a | a, e'⟩
  · exact .inl ⟨a.same s, e⟩
  · exact .inr ⟨i, e, l, .inl (a.same s), e'⟩
  · exact .inr ⟨i, e, l, .inr a, e'⟩
def spMerr (K : PySem.W.Frag) : Sp := fun vs H Q _ => ∃ x y g, vs = [x, y] ∧ Bads K H x y g ∧ ∀ H' a, Same H H' → H a = none → H' a = some (.lst [g]) → Q (.ref a) H'
theorem ok_merror {f fI fX : Addr} {fd fdI : FuncData} {k : Nat} (R : RC K mg C) (NT : PySem.NumX.NumTxt K mg CN fX) (mk : Mk K C fI) (GX : FnOk P w K mg base (L2.CX P w) (k + 3) fI fdI ["self", "top", "bottom"] (spInitX K CN)) (bI : Binds K fdI ["self", "top", "bottom"] [])
    (d : D K mg "_law_made_error" s_law_merror ["_law_top", "_law_bottom"] f fd) : FnOk P w K mg base CX0 (k + 5) f fd ["_law_top", "_law_bottom"] (spMerr K) := by
  refine d.F.ok sc_law_merror (fun vs H Q E h => ?_) (fun cdv A outer s H vs Q E hr h => ?_)
  · obtain ⟨x, y, g, rfl, _⟩ := h
    rfl
  · obtain ⟨x, y, g, rfl, hb, q⟩ := h
    refine ⟨_, (pss_cons (ps_try_as (i := 2) (Wout := fun _ _ _ _ => False) rfl rfl sc_law_merror.nd rfl rfl ⟨rfl, by decide, Or.inl NT.gC⟩ takes0
        (fun W pn xe tk _ => pss_one (ps_expr (by exact (pe_makeS mk GX hr rfl R.mC bI (fun σ => passAt tk σ) (by exact (pa_cons (pv 0) (pa_cons (pv 1) pa_nil)))))))
        (fun a oe cls d pn hz hf => pss_one (ps_ret (pe_lst (pa_cons (pe_given NT hz hf (pv 2)) pa_nil)))))
      (pss_one (ps_ret (pe_lst pa_nil)))), ?_⟩
    refine ⟨_, rfl, _, rfl, fun a dx ha hdx hne => ?_⟩
    have s1 : Same H (upd (upd H dx (.own a)) a (.ins C dx [])) := (sub_same hdx).trans (sub_same (by rw [upd_ne (Ne.symm hne)]; exact ha))
    refine ⟨a, x, y, g, rfl, hb.same s1, fun dd hd => ?_⟩
    refine ⟨true, NT.te, fun _ a0 _ => ⟨_, rfl, rfl, rfl, dd, g, rfl, upd_same, (by show 1 ≤ sizeLine; decide), fun p hp => ?_⟩, fun z => Bool.noConfusion z⟩
    have s2 := s1.trans (sub_same (o := .xd [(("given" : Str), g)]) hd)
    exact q _ p (s2.trans (sub_same hp)) (s2.free hp) upd_same
/-- over and compared refuse -/
structure ErrM (P : Program) (w : World) (K : PySem.W.Frag) (mg : Str → Option Value) (base : Heap) (C CN CO fX fV fC : Addr) (fdV fdC : FuncData) : Prop where
  NT : PySem.NumX.NumTxt K mg CN fX
  OT : OpX K mg CO
  e1 : PySem.W.exmOne K (.ref CO) (.ref CN) = some false
  e2 : PySem.W.exmOne K (.ref CO) (.ref CO) = some true
  mV : Meth K C "over" fV
  mC : Meth K C "compared" fC
  bV : Binds K fdV ["self", "other"] []
  bC : Binds K fdC ["self", "other"] []
  GV : FnOk P w K mg base (L2.CX P w) 6 fV fdV ["self", "other"] (spWrong K C CN)
  GZ : FnOk P w K mg base (L2.CX P w) 6 fV fdV ["self", "other"] (spZero C CO)
  GC : FnOk P w K mg base (L2.CX P w) 6 fC fdC ["self", "other"] (spWrong K C CN)
variable {fX fV fC : Addr} {fdV fdC : FuncData}
def spErr (K : PySem.W.Frag) (C : Addr) : Sp := fun vs H Q _ => ∃ (wy : Int) (a : Addr) (x : V) (p q : Int), vs = [.int wy, .ref a, x] ∧ Rat H a C p q ∧
  (((wy = 3 ∨ wy = 4) ∧ NotOp K C H x ∧ ∃ d, Shw H x d ∧ Small d ∧ ∀ H', Same H H' → Q (.str ("number " ++ d.shown)) H') ∨ (wy = 3 ∧ ∃ q', Opd H C x 0 q' ∧ ∀ H', Same H H' → Q (.str "operation") H'))
theorem ok_error {f : Addr} {fd : FuncData} (T : Txt mg) (R : RC K mg C) (O : ErrM P w K mg base C CN CO fX fV fC fdV fdC) (d : D K mg "_law_error" s_law_error ["_law_way", "_law_ratio", "_law_value"] f fd) :
    FnG P w K mg base CX0 7 f fd ["_law_way", "_law_ratio", "_law_value"] (spErr K C) := by
  refine FnG.of d.F sc_law_error (fun vs H Q E h => ?_) (fun cdv A outer s H vs Q E hn hr h => ?_)
  · obtain ⟨wy, a, x, p, q, rfl, _⟩ := h
    rfl
  · obtain ⟨wy, a, x, p, q, rfl, rat, h⟩ := h
    have un : (A.deeper (envOfC "_law_error" (defScope s_law_error) s.heap.objs.size f cdv)).units + 100 < cLine := by have := hr.un; omega
    obtain ⟨dx, ha⟩ := id rat
    have l7 : ("number " : Str).length = 7 := by decide +kernel
    rcases h with ⟨hw, no, dd0, sw, sm, g⟩ | ⟨rfl, q', o, g⟩
    · refine ⟨_, (pss_one (ps_try_mix (W0 := fun _ _ _ _ => False) rfl rfl sc_law_error.nd takes0
          (fun W pn xe tk _ => pss_cons (ps_if (pt_cmpR op_eq (pv 0) pe_int (nomark _)) (pss_one (ps_expr (by exact (pe_methE (pv 1) R.cl O.mV O.GV hr O.bV (fun σ => passAt tk σ) (by exact (pa_cons (pv 2) pa_nil)))))) (pss_one (ps_expr (by exact (pe_methE (pv 1) R.cl O.mC O.GC hr O.bC (fun σ => passAt tk σ) (by exact (pa_cons (pv 2) pa_nil))))))) (pss_one (ps_ret pe_str)))
          (.named (i := 3) rfl rfl ⟨rfl, by decide, Or.inl O.NT.gC⟩ (fun a oe cls d pn hz hf => pss_one (ps_ret (pe_op op_add_str pe_str (pe_callB (call_repr_v hn un) (by rfl) T.n_repr (by decide +kernel) (pa_cons (pe_given O.NT hz hf (pv 3)) pa_nil)))))
          (.plain ⟨rfl, by decide, Or.inl O.OT.g⟩ (fun a oe cls d pn hz hf => pss_one (ps_ret pe_str)) .nil)))), ?_⟩
      have fin : ∀ dd, H dd = none → ∀ (a0 : Addr), Q (.str ("number " ++ dd0.shown)) (upd H dd (.xd [(("given" : Str), x)])) := fun dd hd _ => g _ (sub_same hd)
      have sz : ("number " : Str).length + dd0.shown.length ≤ sizeLine := by
        have z := sm.sz
        rw [l7]
        exact Nat.le_trans (show 7 + dd0.shown.length ≤ 1000 by omega) (by decide)
      refine ⟨_, rfl, rfl, _, rfl, ite2 (fun _ => ?_) (fun _ => ?_)⟩
      · refine ⟨_, rfl, a, dx, _, rfl, ha, pf_none tb1 tb2, _, rfl, a, x, rfl, no, fun dd hd => ?_⟩
        exact ⟨true, O.NT.te, fun _ a0 _ => ⟨_, rfl, rfl, rfl, dd, x, rfl, upd_same, x, dd0, rfl, sw.same (sub_same hd), sm, _, _, rfl, rfl, sz, fin dd hd a0⟩, fun z => Bool.noConfusion z⟩
      · refine ⟨_, rfl, a, dx, _, rfl, ha, pf_none tb3 tb4, _, rfl, a, x, rfl, no, fun dd hd => ?_⟩
        exact ⟨true, O.NT.te, fun _ a0 _ => ⟨_, rfl, rfl, rfl, dd, x, rfl, upd_same, x, dd0, rfl, sw.same (sub_same hd), sm, _, _, rfl, rfl, sz, fin dd hd a0⟩, fun z => Bool.noConfusion z⟩
    · refine ⟨_, (pss_one (ps_try_mix (W0 := fun _ _ _ _ => False) rfl rfl sc_law_error.nd takes0
          (fun W pn xe tk _ => pss_cons (ps_if (pt_cmpR op_eq (pv 0) pe_int (nomark _)) (pss_one (ps_expr (by exact (pe_methE (pv 1) R.cl O.mV O.GZ hr O.bV (fun σ => passAt tk σ) (by exact (pa_cons (pv 2) pa_nil)))))) dead) (pss_one (ps_ret pe_str)))
          (.named (i := 3) rfl rfl ⟨rfl, by decide, Or.inl O.NT.gC⟩ (fun a oe cls d pn hz hf => pss_one (ps_ret (pe_op op_add_str pe_str (pe_callB (call_repr_v hn un) (by rfl) T.n_repr (by decide +kernel) (pa_cons (pe_given O.NT hz hf (pv 3)) pa_nil)))))
          (.plain ⟨rfl, by decide, Or.inl O.OT.g⟩ (fun a oe cls d pn hz hf => pss_one (ps_ret pe_str)) .nil)))), ?_⟩
      refine ⟨_, rfl, rfl, _, rfl, ite2 (fun _ => ?_) (fun z => absurd (decide_eq_true rfl) z)⟩
      refine ⟨_, rfl, a, dx, _, rfl, ha, pf_none tb1 tb2, _, rfl, a, x, q', rfl, o, fun H' s' => ?_⟩
      exact ⟨false, O.e1, fun z => Bool.noConfusion z, fun _ => ⟨true, O.e2, fun _ a0 _ => g _ s', fun z => Bool.noConfusion z⟩⟩
end
end K02

/-! # of pairs in lowest terms -/
namespace K02
open PySem PySem.Spec PyProof.Rows L2
theorem sg_scale (x : Int) {g : Int} (h : 0 < g) : sg (x * g) = sg x := by
  unfold sg
  rcases Int.lt_trichotomy x 0 with z | z | z
  · have y := Int.mul_neg_of_neg_of_pos z h
    rw [if_neg (by omega), if_neg (by omega), if_neg (by omega), if_neg (by omega)]
  · rw [z, Int.zero_mul]
  · have y := Int.mul_pos z h
    rw [if_neg (by omega), if_pos (by omega), if_neg (by omega), if_pos (by omega)]
/-- in lowest terms -/
structure Lw (p q : Int) : Prop where
  pos : 0 < q
  cop : Nat.gcd p.natAbs q.natAbs = 1
theorem Lw.of {i j : Int} (h : j ≠ 0) : Lw (i / dv i j) (j / dv i j) := ⟨dv_pos h, low h⟩
theorem Lw.one (p : Int) : Lw p 1 := ⟨by decide, Nat.gcd_one_right _⟩
theorem Lw.dv {p q : Int} (h : Lw p q) : dv p q = 1 := by
  unfold K02.dv
  have := h.pos
  rw [if_neg (by omega), h.cop]
  rfl
theorem Lw.low {p q : Int} (h : Lw p q) : p / K02.dv p q = p ∧ q / K02.dv p q = q := by
  rw [h.dv]
  exact ⟨Int.ediv_one p, Int.ediv_one q⟩
theorem Lw.neg {p q : Int} (h : Lw p q) : Lw (-p) q := ⟨h.pos, by rw [Int.natAbs_neg]; exact h.cop⟩
theorem Lw.ne {p q : Int} (h : Lw p q) : q ≠ 0 := by have := h.pos; omega
theorem Lw.eq {p q p' q' : Int} (h : Lw p q) (h' : Lw p' q') (e : p * q' = p' * q) : p = p' ∧ q = q' := by
  have n := congrArg Int.natAbs e
  rw [Int.natAbs_mul, Int.natAbs_mul] at n
  have d1 : q.natAbs ∣ q'.natAbs := by
    have z : q.natAbs ∣ p.natAbs * q'.natAbs := ⟨p'.natAbs, by rw [n, Nat.mul_comm]⟩
    exact Nat.Coprime.dvd_of_dvd_mul_left (show Nat.gcd q.natAbs p.natAbs = 1 by rw [Nat.gcd_comm]; exact h.cop) z
  have d2 : q'.natAbs ∣ q.natAbs := by
    have z : q'.natAbs ∣ p'.natAbs * q.natAbs := ⟨p.natAbs, by rw [← n, Nat.mul_comm]⟩
    exact Nat.Coprime.dvd_of_dvd_mul_left (show Nat.gcd q'.natAbs p'.natAbs = 1 by rw [Nat.gcd_comm]; exact h'.cop) z
  have eq : q.natAbs = q'.natAbs := Nat.dvd_antisymm d1 d2
  have a := h.pos
  have b := h'.pos
  have e2 : q = q' := by omega
  subst e2
  exact ⟨Int.eq_of_mul_eq_mul_right (by omega) e, rfl⟩
theorem cross_b {p q p' q' : Int} (h : Lw p q) (h' : Lw p' q') : (decide (p = p') && decide (q = q')) = decide (p * q' - p' * q = 0) := by
  by_cases z : p = p' ∧ q = q'
  · obtain ⟨rfl, rfl⟩ := z
    rw [decide_eq_true rfl, decide_eq_true rfl, decide_eq_true (by omega)]
    rfl
  · have y : ¬ (p * q' - p' * q = 0) := fun y => z (h.eq h' (by omega))
    rw [decide_eq_false y, ← Bool.decide_and]
    exact decide_eq_false z
/-- a pair that is a multiple of one in lowest terms -/
structure Mul (n d p' q' g : Int) : Prop where
  n : n = p' * g
  d : d = q' * g
  g : g ≠ 0
  l : Lw p' q'
theorem Mul.of {n d : Int} (h : d ≠ 0) : Mul n d (n / K02.dv n d) (d / K02.dv n d) (K02.dv n d) := ⟨(dv_mul h).1.symm, (dv_mul h).2.symm, dv_ne h, .of h⟩
theorem Mul.one (n : Int) : Mul n 1 n 1 1 := ⟨(Int.mul_one n).symm, rfl, by decide, .one n⟩
theorem Mul.pos {n d p' q' g : Int} (m : Mul n d p' q' g) (h : d > 0) : 0 < g := by
  have a := m.l.pos
  rcases Int.lt_trichotomy g 0 with z | z | z
  · have := Int.mul_neg_of_pos_of_neg a z
    have e := m.d
    omega
  · exact absurd z m.g
  · exact z
theorem Mul.neg {n d p' q' g : Int} (m : Mul n d p' q' g) (h : ¬ d > 0) : 0 < -g := by
  have a := m.l.pos
  rcases Int.lt_trichotomy g 0 with z | z | z
  · omega
  · exact absurd z m.g
  · have := Int.mul_pos a z
    have e := m.d
    omega
/-- compared with such a pair -/
theorem Mul.cmp {p' q' p q n2 d2 k : Int} (h : Lw p q) (l : Lw p' q') (k0 : 0 < k) (hn : n2 = p' * k) (hd : d2 = q' * k) : sg (p * q' - p' * q) = sg (p * d2 - n2 * q) ∧ (decide (p = p') && decide (q = q')) = decide (p * d2 - n2 * q = 0) := by
  have e : p * d2 - n2 * q = (p * q' - p' * q) * k := by
    rw [hn, hd, Int.sub_mul, ← Int.mul_assoc p q' k, Int.mul_assoc p' k q, Int.mul_comm k q, ← Int.mul_assoc p' q k]
  rw [e, sg_scale _ k0, cross_b h l]
  refine ⟨rfl, decide_eq_decide.mpr ⟨fun z => by rw [z, Int.zero_mul], fun z => ?_⟩⟩
  rcases Int.mul_eq_zero.mp z with y | y
  · exact y
  · omega
theorem Mul.tW {n d p' q' g : Int} (m : Mul n d p' q' g) (wy p q : Int) : tW wy p q n d = tW wy p q p' q' * g ∧ bW wy p q n d = bW wy p q p' q' * g := by
  obtain ⟨rfl, rfl, _, _⟩ := m
  unfold K02.tW bW
  have a : p * (q' * g) = p * q' * g := (Int.mul_assoc ..).symm
  have b : p' * g * q = p' * q * g := by rw [Int.mul_assoc, Int.mul_comm g, ← Int.mul_assoc]
  have c : q * (q' * g) = q * q' * g := (Int.mul_assoc ..).symm
  have e : p * (p' * g) = p * p' * g := (Int.mul_assoc ..).symm
  have f : q * (p' * g) = q * p' * g := (Int.mul_assoc ..).symm
  by_cases w0 : wy = 0
  · rw [if_pos w0, if_pos w0]
    show p * (q' * g) + p' * g * q = (p * q' + p' * q) * g ∧ q * (q' * g) = q * q' * g
    rw [a, b, Int.add_mul]
    exact ⟨rfl, c⟩
  · rw [if_neg w0, if_neg w0]
    by_cases w1 : wy = 1
    · rw [if_pos w1, if_pos w1]
      show p * (q' * g) - p' * g * q = (p * q' - p' * q) * g ∧ q * (q' * g) = q * q' * g
      rw [a, b, Int.sub_mul]
      exact ⟨rfl, c⟩
    · rw [if_neg w1, if_neg w1]
      by_cases w2 : wy = 2
      · rw [if_pos w2, if_pos w2]
        exact ⟨e, c⟩
      · rw [if_neg w2, if_neg w2]
        exact ⟨a, f⟩
theorem bW_ne {p q p' q' wy : Int} (h : Lw p q) (h' : Lw p' q') (w : (wy = 0 ∨ wy = 1 ∨ wy = 2) ∨ p' ≠ 0) : bW wy p q p' q' ≠ 0 := by
  have a := Int.mul_ne_zero h.ne h'.ne
  unfold bW
  split
  · exact a
  · split
    · exact a
    · split
      · exact a
      · rcases w with w | w
        · omega
        · exact Int.mul_ne_zero h.ne w
theorem W_bd {p q p' q' : Int} {b c : Nat} (wy : Int) (bp : Bd b p) (bq : Bd b q) (bp' : Bd c p') (bq' : Bd c q') : Bd (b + c + 1) (tW wy p q p' q') ∧ Bd (b + c + 1) (bW wy p q p' q') := by
  have m1 := bp.mul bq'
  have m2 : Bd (b + c) (p' * q) := by have z := bp'.mul bq; rw [Nat.add_comm] at z; exact z
  have m3 := (bq.mul bq').up (Nat.le_succ _)
  have m4 := (bp.mul bp').up (Nat.le_succ _)
  have m5 := (bq.mul bp').up (Nat.le_succ _)
  have m6 := m1.up (Nat.le_succ _)
  unfold tW bW
  split
  · exact ⟨m1.add m2, m3⟩
  · split
    · exact ⟨m1.sub m2, m3⟩
    · split
      · exact ⟨m4, m3⟩
      · exact ⟨m6, m5⟩
end K02

/-! # a row of deeds -/
namespace K02
open PySem PySem.Spec PyProof.Rows L2
section
variable {P : Program} {w : World} {K : PySem.W.Frag} {mg : Str → Option Value} {base : Heap} {C CN CO : Addr}
abbrev s_law_row : Stmt := topS 32
theorem sc_law_row : FnScope ["_law_urn_here", "_law_first", "_law_ratio", "_law_pair_here", "_law_turn", "_law_way", "_law_more", "_law_other", "_law_before", "_law_later"] ["_law_urn_here"] (defScope s_law_row) := ⟨rfl, rfl, rfl, by decide +kernel, rfl, by decide +kernel, by decide +kernel⟩
/-- what a row of deeds calls -/
structure RowM (P : Program) (w : World) (K : PySem.W.Frag) (mg : Str → Option Value) (base : Heap) (C fI fE fM fU fN pT gT pB gB f1 f2 f3 f4 f5 f6 f7 f8 f9 : Addr) (fdI fdE fdM fdU fdN fdT fdB d1 d2 d3 d4 d5 d6 d7 d8 d9 : FuncData) (ds : List Value) : Prop where
  T : Txt mg
  R : RC K mg C
  IC : C8.InsC K C
  kc : KC K C
  mkI : Mk K C fI
  bI : Binds K fdI ["self", "top", "bottom"] []
  bD : Binds K fdI ["self", "top", "bottom"] ds
  vD : Vals [.int 1] ds
  GI : FnOk P w K mg base CX0 3 fI fdI ["self", "top", "bottom"] (spInit C)
  sf : PySem.W.selfFirst K C = true
  hE : PySem.W.findIn K (.ref C) "__eq__" = some (some (.ref fE))
  iE : PySem.W.isFn K (.ref fE) = true
  bE : Binds K fdE ["self", "other"] []
  GE : FnOk P w K mg base CX0 2 fE fdE ["self", "other"] (spEq K C)
  nO : PySem.W.notFirst K C (.ref C) = true
  hM : PySem.W.findIn K (.ref C) "__mul__" = some (some (.ref fM))
  iM : PySem.W.isFn K (.ref fM) = true
  bM : Binds K fdM ["self", "other"] []
  GM : FnOk P w K mg base CX0 6 fM fdM ["self", "other"] (spAr tMul bAll C)
  hU : PySem.W.findIn K (.ref C) "__sub__" = some (some (.ref fU))
  iU : PySem.W.isFn K (.ref fU) = true
  bU : Binds K fdU ["self", "other"] []
  GU : FnOk P w K mg base CX0 6 fU fdU ["self", "other"] (spAr tSub bAll C)
  hN : PySem.W.findIn K (.ref C) "__neg__" = some (some (.ref fN))
  iN : PySem.W.isFn K (.ref fN) = true
  bN : Binds K fdN ["self"] []
  GN : FnOk P w K mg base CX0 6 fN fdN ["self"] (spNeg C)
  pT : PropOf K C "top" pT gT
  bT : Binds K fdT ["self"] []
  GT : FnOk P w K mg base CX0 2 gT fdT ["self"] (spTop C)
  pB : PropOf K C "bottom" pB gB
  bB : Binds K fdB ["self"] []
  GB : FnOk P w K mg base CX0 2 gB fdB ["self"] (spBottom C)
  c1 : D K mg "_law_pair" s_law_pair ["_law_urn_here"] f1 d1
  g1 : FnOk P w K mg base CX0 4 f1 d1 ["_law_urn_here"] spPair
  c2 : D K mg "_law_low" s_law_low ["_law_top", "_law_bottom"] f2 d2
  g2 : FnOk P w K mg base CX0 4 f2 d2 ["_law_top", "_law_bottom"] spLow
  c3 : D K mg "_law_shows" s_law_shows ["_law_ratio", "_law_pair_here"] f3 d3
  g3 : FnG P w K mg base CX0 5 f3 d3 ["_law_ratio", "_law_pair_here"] (spShows C)
  c4 : D K mg "_law_take" s_law_take ["_law_urn_here", "_law_total"] f4 d4
  g4 : FnOk P w K mg base CX0 4 f4 d4 ["_law_urn_here", "_law_total"] spTake
  c5 : D K mg "_law_some" s_law_some ["_law_urn_here", "_law_items"] f5 d5
  g5 : FnOk P w K mg base CX0 4 f5 d5 ["_law_urn_here", "_law_items"] spSome
  c6 : D K mg "_law_compared_right" s_law_cright ["_law_ratio", "_law_pair_here", "_law_other", "_law_more"] f6 d6
  g6 : FnOk P w K mg base CX0 7 f6 d6 ["_law_ratio", "_law_pair_here", "_law_other", "_law_more"] (spCright C)
  c7 : D K mg "_law_error" s_law_error ["_law_way", "_law_ratio", "_law_value"] f7 d7
  g7 : FnG P w K mg base CX0 7 f7 d7 ["_law_way", "_law_ratio", "_law_value"] (spErr K C)
  c8 : D K mg "_law_done" s_law_done ["_law_way", "_law_ratio", "_law_other"] f8 d8
  g8 : FnOk P w K mg base CX0 7 f8 d8 ["_law_way", "_law_ratio", "_law_other"] (spDone C)
  c9 : D K mg "_law_made" s_law_made ["_law_way", "_law_one", "_law_other"] f9 d9
  g9 : FnOk P w K mg base CX0 4 f9 d9 ["_law_way", "_law_one", "_law_other"] spMade
variable {fI fE fM fU fN pT gT pB gB f1 f2 f3 f4 f5 f6 f7 f8 f9 : Addr} {fdI fdE fdM fdU fdN fdT fdB d1 d2 d3 d4 d5 d6 d7 d8 d9 : FuncData} {ds : List Value}
theorem dv_zero {j : Int} (h : j ≠ 0) : 0 / dv 0 j = 0 ∧ j / dv 0 j = 1 := by
  refine ⟨Int.zero_ediv _, ?_⟩
  have e : dv 0 j = j := by
    unfold dv
    rw [show Nat.gcd (0 : Int).natAbs j.natAbs = j.natAbs from Nat.gcd_zero_left _]
    split <;> omega
  rw [e]
  exact Int.ediv_self h
def spRow : Sp := fun vs H Q _ => ∃ u, vs = [.ref u] ∧ Urn H u ∧ ∀ H', Urn H' u → Old u H H' → Q (.bl true) H'
theorem ok_row {f : Addr} {fd : FuncData} (O : RowM P w K mg base C fI fE fM fU fN pT gT pB gB f1 f2 f3 f4 f5 f6 f7 f8 f9 fdI fdE fdM fdU fdN fdT fdB d1 d2 d3 d4 d5 d6 d7 d8 d9 ds) (d : D K mg "_law_row_right" s_law_row ["_law_urn_here"] f fd) :
    FnG P w K mg base CX0 8 f fd ["_law_urn_here"] spRow := by
  obtain ⟨T, R, IC, kc, mk, bI, bD, vD, GI, sf, hE, iE, bE, GE, nO, hM, iM, bM, GM, hU, iU, bU, GU, hN, iN, bN, GN, pT, bT, GT, pB, bB, GB, c1, g1, c2, g2, c3, g3, c4, g4, c5, g5, c6, g6, c7, g7, c8, g8, c9, g9⟩ := O
  refine FnG.of d.F sc_law_row (fun vs H Q E h => ?_) (fun cdv A outer s H vs Q E hn hr h => ?_)
  · obtain ⟨u, rfl, _⟩ := h
    rfl
  · obtain ⟨u, rfl, hu, g⟩ := h
    have un : (A.deeper (envOfC "_law_row_right" (defScope s_law_row) s.heap.objs.size f cdv)).units + 64 < cLine := by have := hr.un; omega
    refine ⟨_, (pss_cons (ps_set (i := 1) sc_law_row.nd rfl (.inl rfl) (pe_call g1 (hr.mono (by decide)) (by rfl) c1.g c1.F.kp c1.b .nil pass0 (pa_cons (pv 0) pa_nil)))
      (pss_cons (ps_par (i := 2) (j := 3) rfl sc_law_row.nd rfl rfl (by decide) rfl rfl (pa_cons (pe_make mk GI (hr.mono (by decide)) (by rfl) R.mC bI .nil pass0 (pa_cons (pe_ix ix_tup (pv 1) pe_int (fun _ _ => rfl)) (pa_cons (pe_ix ix_tup (pv 1) pe_int (fun _ _ => rfl)) pa_nil))) (pa_cons (pe_call g2 (hr.mono (by decide)) (by rfl) c2.g c2.F.kp c2.b .nil pass0 (pa_cons (pe_ix ix_tup (pv 1) pe_int (fun _ _ => rfl)) (pa_cons (pe_ix ix_tup (pv 1) pe_int (fun _ _ => rfl)) pa_nil))) pa_nil)) (by rfl))
      (pss_cons (ps_if (pt_not (pt_val (pe_callG g3 hn (hr.mono (by decide)) (by rfl) c3.g c3.F.kp c3.b (pa_cons (pv 2) (pa_cons (pv 3) pa_nil))))) (pss_one (ps_ret pe_bl)) pss_nil)
      (pss_cons (ps_for PassesOwn.never rfl (pi_range1 rfl T.n_range (pa_cons (pe_op op_add pe_int (pe_call g4 (hr.mono (by decide)) (by rfl) c4.g c4.F.kp c4.b .nil pass0 (pa_cons (pv 0) (pa_cons pe_int pa_nil)))) pa_nil)) (pg_name (i := 4) sc_law_row.nd rfl (.inl rfl))
        (pss_cons (ps_par (i := 5) (j := 6) rfl sc_law_row.nd rfl rfl (by decide) rfl rfl (pa_cons (pe_call g4 (hr.mono (by decide)) (by rfl) c4.g c4.F.kp c4.b .nil pass0 (pa_cons (pv 0) (pa_cons pe_int pa_nil))) (pa_cons (pe_call g1 (hr.mono (by decide)) (by rfl) c1.g c1.F.kp c1.b .nil pass0 (pa_cons (pv 0) pa_nil)) pa_nil)) (by rfl))
        (pss_cons (ps_if (pt_cmpR op_eq (pe_call g4 (hr.mono (by decide)) (by rfl) c4.g c4.F.kp c4.b .nil pass0 (pa_cons (pv 0) (pa_cons pe_int pa_nil))) pe_int (nomark _))
          (pss_cons (ps_set (i := 6) sc_law_row.nd rfl (.inl rfl) (pe_tup (pa_cons (pe_call g5 (hr.mono (by decide)) (by rfl) c5.g c5.F.kp c5.b .nil pass0 (pa_cons (pv 0) (pa_cons (pe_lst (pa_cons (pe_ix ix_tup (pv 6) pe_int (fun _ _ => rfl)) (pa_cons pe_int (pa_cons pe_int (pa_cons (pe_op op_mulW (pe_ix ix_tup (pv 6) pe_int (fun _ _ => rfl)) (pe_op op_powW pe_int pe_int)) pa_nil))))) pa_nil))) (pa_cons pe_int pa_nil))))
          (pss_one (ps_set (i := 7) sc_law_row.nd rfl (.inl rfl) (pe_ix ix_tup (pv 6) pe_int (fun _ _ => rfl)))))
          (pss_one (ps_set (i := 7) sc_law_row.nd rfl (.inl rfl) (pe_make mk GI (hr.mono (by decide)) (by rfl) R.mC bI .nil pass0 (pa_cons (pe_ix ix_tup (pv 6) pe_int (fun _ _ => rfl)) (pa_cons (pe_ix ix_tup (pv 6) pe_int (fun _ _ => rfl)) pa_nil))))))
        (pss_cons (ps_if (pt_not (pt_val (pe_call g6 hr (by rfl) c6.g c6.F.kp c6.b .nil pass0 (pa_cons (pv 2) (pa_cons (pv 3) (pa_cons (pv 7) (pa_cons (pe_ifExp (pt_cmpR op_gt (pe_ix ix_tup (pv 6) pe_int (fun _ _ => rfl)) pe_int (nomark _)) (pv 6)
          (pe_tup (pa_cons (pe_op op_sub pe_int (pe_ix ix_tup (pv 6) pe_int (fun _ _ => rfl))) (pa_cons (pe_op op_sub pe_int (pe_ix ix_tup (pv 6) pe_int (fun _ _ => rfl))) pa_nil)))) pa_nil))))))) (pss_one (ps_ret pe_bl)) pss_nil)
        (pss_cons (ps_set (i := 8) sc_law_row.nd rfl (.inl rfl) (pe_tup (pa_cons (pe_prop (pv 2) R.cl pT GT (hr.mono (by decide)) bT .nil pass0 (by rfl)) (pa_cons (pe_prop (pv 2) R.cl pB GB (hr.mono (by decide)) bB .nil pass0 (by rfl)) pa_nil))))
        (pss_cons (ps_if (pt_cmpR op_gt (pv 5) pe_int (nomark _))
          (pss_one (ps_par (i := 2) (j := 3) rfl sc_law_row.nd rfl rfl (by decide) rfl rfl (pa_cons (pe_un (un_mine hN iN GN (hr.mono (by decide)) bN) (pv 2)) (pa_cons (pe_tup (pa_cons (pe_op op_sub pe_int (pe_ix ix_tup (pv 3) pe_int (fun _ _ => rfl))) (pa_cons (pe_ix ix_tup (pv 3) pe_int (fun _ _ => rfl)) pa_nil))) pa_nil)) (by rfl)))
          (pss_one (ps_if (PW.pt (pw_and (pt_cmpR op_eq (pv 5) pe_int (nomark _)) (pw_and1 (pt_cmpR op_eq (pe_ix ix_tup (pv 6) pe_int (fun _ _ => rfl)) pe_int (nomark _)))))
            (pss_one (ps_if (PW.pt (pw_or (pt_cmpR op_ne (pe_callG g7 hn hr (by rfl) c7.g c7.F.kp c7.b (pa_cons pe_int (pa_cons (pv 2) (pa_cons (pv 7) pa_nil)))) pe_str (nomark _)) (pw_or1 (pt_cmpR op_notBl (pe_callG g3 hn (hr.mono (by decide)) (by rfl) c3.g c3.F.kp c3.b (pa_cons (pv 2) (pa_cons (pv 8) pa_nil))) pe_bl (by rfl))))) (pss_one (ps_ret pe_bl)) pss_nil))
            (pss_cons (ps_set (i := 9) sc_law_row.nd rfl (.inl rfl) (pe_call g8 hr (by rfl) c8.g c8.F.kp c8.b .nil pass0 (pa_cons (pv 5) (pa_cons (pv 2) (pa_cons (pv 7) pa_nil)))))
            (pss_cons (ps_if (pt_cmpR (op_neD un) (pe_tup (pa_cons (pe_prop (pv 2) R.cl pT GT (hr.mono (by decide)) bT .nil pass0 (by rfl)) (pa_cons (pe_prop (pv 2) R.cl pB GB (hr.mono (by decide)) bB .nil pass0 (by rfl)) pa_nil))) (pv 8) (nomark _)) (pss_one (ps_ret pe_bl)) pss_nil)
            (pss_one (ps_par (i := 2) (j := 3) rfl sc_law_row.nd rfl rfl (by decide) rfl rfl (pa_cons (pv 9) (pa_cons (pe_call g9 (hr.mono (by decide)) (by rfl) c9.g c9.F.kp c9.b .nil pass0 (pa_cons (pv 5) (pa_cons (pv 3) (pa_cons (pv 6) pa_nil)))) pa_nil)) (by rfl))))))))
        (pss_one (ps_if (pt_not (pt_val (pe_callG g3 hn (hr.mono (by decide)) (by rfl) c3.g c3.F.kp c3.b (pa_cons (pv 2) (pa_cons (pv 3) pa_nil))))) (pss_one (ps_ret pe_bl)) pss_nil))))))))
      (pss_one (ps_ret (pe_and (pe_cmpR (op_eqMine hE iE GE (hr.mono (by decide)) bE) (pv 2) (pe_op (op_mine (C := C) sf hM iM GM (hr.mono (by decide)) bM) (pv 2) (pe_make mk GI (hr.mono (by decide)) (by rfl) R.mC bD vD pass0 (pa_cons pe_int pa_nil))) (nomark _))
        (pe_one (pe_cmpR (op_eqMine hE iE GE (hr.mono (by decide)) bE) (pe_op (op_mine (C := C) sf hU iU GU (hr.mono (by decide)) bU) (pv 2) (pv 2)) (pe_make mk GI (hr.mono (by decide)) (by rfl) R.mC bI .nil pass0 (pa_cons pe_int (pa_cons pe_int pa_nil))) (nomark _)))))))))), ?_⟩
    have sm : ∀ {z : Int}, z.natAbs ≤ 10 ^ 59 → z.natAbs < 10 ^ 60 := fun h => by omega
    refine ⟨_, rfl, u, rfl, hu, fun n d H1 t1 bn bd dne hu1 o1 h1 => ?_⟩
    have x1 : SqT K H1 t1 [.int n, .int d] := .inl (.inl h1)
    have a0 : atI [V.int n, V.int d] 0 = some (.int n) := atI_nat (j := 0) rfl
    have a1 : atI [V.int n, V.int d] 1 = some (.int d) := atI_nat (j := 1) rfl
    refine ⟨_, rfl, t1, _, 0, _, rfl, rfl, x1, a0, _, rfl, t1, _, 1, _, rfl, rfl, x1, a1, ?_⟩
    intro r dx hr0 hdx hne
    refine ⟨r, n, d, dx, rfl, sm bn, sm bd, dne, upd_same, fun H2 but rat => ⟨rfl, ?_⟩⟩
    obtain ⟨s2, nr⟩ := made_same (Same.refl H1) hr0 hdx but
    have x2 : SqT K H2 t1 [.int n, .int d] := .inl (.inl (s2 _ _ h1))
    refine ⟨_, rfl, t1, _, 0, _, rfl, rfl, x2, a0, _, rfl, t1, _, 1, _, rfl, rfl, x2, a1, n, d, 200, rfl, dne, Bd.of60 (sm bd), by decide, by decide, fun t2 ht2 => ?_⟩
    refine ⟨_, _, rfl, ?_⟩
    have lw : Lw (n / dv n d) (d / dv n d) := Lw.of dne
    obtain ⟨bp, bq⟩ := low_bd dne (Bd.of60 (sm bn)) (Bd.of60 (sm bd))
    revert rat lw bp bq ht2
    generalize n / dv n d = p
    generalize d / dv n d = q
    intro rat ht2 lw bp bq
    have s3 := sub_same (o := .tup [V.int p, V.int q]) ht2
    refine ⟨_, rfl, _, rfl, r, t2, p, q, 200, rfl, rat.same s3, upd_same, bp, bq, by decide, fun H4 s4 => ⟨true, rfl, ?_⟩⟩
    refine ite2 (fun z => absurd z (by decide)) (fun _ => ?_)
    have rat4 := (rat.same s3).same s4
    have ht4 : H4 t2 = some (.tup [.int p, .int q]) := s4 _ _ upd_same
    have hu4 : Urn H4 u := ((hu1.same s2).same s3).same s4
    have o4 : Old u H H4 := o1.trans (.of_same ((s2.trans s3).trans s4))
    clear s3 s4 s2 x2 rat but a0 a1 x1 h1 o1 hu1 hr0 hdx hne nr ht2
    refine ⟨_, rfl, u, 8, rfl, hu4, by decide, log_60 (by decide), fun v H5 v0 v1 hu5 k5 => ⟨_, _, rfl, rfl, 1 + v, rfl, by omega, by omega, ?_⟩⟩
    refine for_range (n := (1 + v).toNat) (fun i σ H' => ∃ r t p q y1 y4 y5 y6 y7 y8 y9, σ = [some (.ref u), y1, some (.ref r), some (.ref t), y4, y5, y6, y7, y8, y9] ∧ Urn H' u ∧ Old u H H' ∧ Rat H' r C p q ∧ H' t = some (.tup [.int p, .int q]) ∧ Lw p q ∧ Bd (200 + 400 * i) p ∧ Bd (200 + 400 * i) q)
      ⟨r, t2, p, q, _, _, _, _, _, _, _, rfl, hu5, o4.trans (.of_but k5), rat4.old hu4 (.of_but k5), (k5 _ (tup_ne hu4 ht4)).trans ht4, lw, bp, bq⟩ ?_ ?_
    · clear lw bp bq rat4 ht4 hu4 o4 hu5 k5
      rintro i σ H' hi ⟨r, t, p, q, y1, y4, y5, y6, y7, y8, y9, rfl, hu', o', rat', ht', lw, bp, bq⟩
      have i8 : i < 8 := by omega
      refine ⟨_, rfl, u, 6, rfl, hu', by decide, log_60 (by decide), fun wy H6 w0 w1 hu6 k6 => ⟨_, rfl, u, rfl, hu6, fun n d H7 m0 bn bd dne hu7 o7 hm => ⟨_, _, rfl, ?_⟩⟩⟩
      have o7' : Old u H' H7 := (Old.of_but k6).trans o7
      refine ⟨_, rfl, u, 3, rfl, hu7, by decide, log_60 (by decide), fun z H8 _ _ hu8 k8 => ⟨rfl, _, rfl, ite2 (fun _ => ?_) (fun _ => ?_)⟩⟩
      all_goals
        have hm8 : H8 m0 = some (.tup [.int n, .int d]) := (k8 _ (tup_ne hu7 hm)).trans hm
        have o8 : Old u H' H8 := o7'.trans (.of_but k8)
        have rat8 := rat'.old hu' o8
        have ht8 := o8 _ _ (tup_ne hu' ht') ht'
        have xm : SqT K H8 m0 [.int n, .int d] := .inl (.inl hm8)
        have am0 : atI [V.int n, V.int d] 0 = some (.int n) := atI_nat (j := 0) rfl
        have am1 : atI [V.int n, V.int d] 1 = some (.int d) := atI_nat (j := 1) rfl
        clear k8 o7' o7 k6 hu6 hu7 hm
      case' refine_1 =>
        have pw30 : CPowW 10 30 := ⟨by decide, by decide +kernel⟩
        refine ⟨_, rfl, _, rfl, m0, _, 0, _, rfl, rfl, xm, am0, _, rfl, m0, _, 0, _, rfl, rfl, xm, am0, _, _, rfl, rfl, pw30, _, _, rfl, rfl, wide_mul (a := 200) (b := 200) (Bd.of60 (sm bn)) (by decide) (by decide) (by decide) (by decide), (by show 4 ≤ sizeLine; decide), fun b nb => ?_⟩
        have bds : ∀ x ∈ [V.int n, V.int 0, V.int 1, V.int (n * 10 ^ Int.toNat 30)], ∃ t : Int, x = .int t ∧ Bd 300 t := by
          intro x hx
          simp only [List.mem_cons, List.not_mem_nil, or_false] at hx
          rcases hx with rfl | rfl | rfl | rfl
          · exact ⟨n, rfl, (Bd.of60 (sm bn)).up (by decide)⟩
          · exact ⟨0, rfl, show (0 : Int).natAbs < 2 ^ 300 by decide⟩
          · exact ⟨1, rfl, show (1 : Int).natAbs < 2 ^ 300 by decide⟩
          · exact ⟨_, rfl, (Bd.of60 (sm bn)).mul (m := 100) (show ((10 : Int) ^ Int.toNat 30).natAbs < 2 ^ 100 by decide)⟩
        have b0 : [V.int n, V.int 0, V.int 1, V.int (n * 10 ^ Int.toNat 30)] ≠ [] := by simp
        have b1 : [V.int n, V.int 0, V.int 1, V.int (n * 10 ^ Int.toNat 30)].length ≤ 1000 := (by decide : 4 ≤ 1000)
        show spSome ([V.ref u, V.ref b] ++ []) (upd H8 b (.lst [V.int n, V.int 0, V.int 1, V.int (n * 10 ^ Int.toNat 30)])) _ E0
        revert bds b0 b1
        generalize [V.int n, V.int 0, V.int 1, V.int (n * 10 ^ Int.toNat 30)] = xs
        intro bds b0 b1
        have s9 : Same H8 (upd H8 b (.lst xs)) := sub_same nb
        refine ⟨u, b, xs, rfl, hu8.same s9, upd_same, urn_ne hu8 nb, b0, b1, fun ix x H9 hx hu9 k9 => ?_⟩
        obtain ⟨n', rfl, bn'⟩ := bds x (List.mem_of_getElem? hx)
        refine ⟨(by show 2 ≤ sizeLine; decide), fun mo hm1 => ?_⟩
        refine ⟨_, rfl, mo, _, 0, _, rfl, rfl, .inl (.inl upd_same), atI_nat (j := 0) rfl, ?_⟩
        have s10 := sub_same (o := .tup [V.int n', V.int 1]) hm1
        have huk := hu9.same s10
        have ok := ((o8.trans (.of_same s9)).trans (.of_but k9)).trans (.of_same s10)
        have b1' : Bd 300 1 := show (1 : Int).natAbs < 2 ^ 300 by decide
        have F : ∃ (nn dd pp qq gg : Int), upd H9 mo (.tup [V.int n', V.int 1]) mo = some (.tup [.int nn, .int dd]) ∧ Opd (upd H9 mo (.tup [V.int n', V.int 1])) C (V.int n') pp qq ∧ Mul nn dd pp qq gg ∧ Bd 300 nn ∧ Bd 300 dd ∧ Bd 300 pp ∧ Bd 300 qq :=
          ⟨n', 1, n', 1, 1, upd_same, .inr ⟨rfl, rfl⟩, .one n', bn', b1', bn', b1'⟩
        clear s10 b1' bds b0 b1 hx k9 s9 hu9 nb hm1 pw30 bn'
        revert huk ok F
        generalize upd H9 mo (.tup [V.int n', V.int 1]) = Hk
        generalize V.int n' = x
        intro huk ok F
        clear xs
      case' refine_2 =>
        refine ⟨_, rfl, m0, _, 0, _, rfl, rfl, xm, am0, _, rfl, m0, _, 1, _, rfl, rfl, xm, am1, ?_⟩
        intro ro dx hr0 hdx hne
        refine ⟨ro, n, d, dx, rfl, sm bn, sm bd, dne, upd_same, fun Hk but ratx => ⟨rfl, ?_⟩⟩
        obtain ⟨s9, nro⟩ := made_same (Same.refl H8) hr0 hdx but
        have huk := hu8.same s9
        have ok := o8.trans (.of_same s9)
        obtain ⟨bpp, bqq⟩ := low_bd dne (Bd.of60 (sm bn)) (Bd.of60 (sm bd))
        have F : ∃ (nn dd pp qq gg : Int), Hk m0 = some (.tup [.int nn, .int dd]) ∧ Opd Hk C (V.ref ro) pp qq ∧ Mul nn dd pp qq gg ∧ Bd 300 nn ∧ Bd 300 dd ∧ Bd 300 pp ∧ Bd 300 qq :=
          ⟨n, d, _, _, _, s9 _ _ hm8, .inl ⟨ro, rfl, ratx⟩, Mul.of dne, (Bd.of60 (sm bn)).up (by decide), (Bd.of60 (sm bd)).up (by decide), bpp.up (by decide), bqq.up (by decide)⟩
        clear bpp bqq s9 nro ratx but hdx hne hr0
        revert F
        generalize V.ref ro = x
        intro F
        obtain ⟨mo, em⟩ : ∃ mo, mo = m0 := ⟨_, rfl⟩
        subst em
      all_goals
        clear hm8 o8 rat8 ht8 xm am0 am1 hu8
        obtain ⟨nn, dd, pp, qq, gg, hmk, opk, mul, bnn, bdd, bpp, bqq⟩ := F
        have ratk := rat'.old hu' ok
        have htk := ok _ _ (tup_ne hu' ht') ht'
        have xk : SqT K Hk mo [.int nn, .int dd] := .inl (.inl hmk)
        have am0 : atI [V.int nn, V.int dd] 0 = some (.int nn) := atI_nat (j := 0) rfl
        have am1 : atI [V.int nn, V.int dd] 1 = some (.int dd) := atI_nat (j := 1) rfl
        refine ⟨_, rfl, _, rfl, _, rfl, _, rfl, mo, _, 1, _, rfl, rfl, xk, am1, _, _, rfl, rfl, _, rfl, ?_⟩
        by_cases dp : dd > 0
        case' pos =>
          rw [decide_eq_true dp]
          obtain ⟨cm1, cm2⟩ := Mul.cmp lw mul.l (mul.pos dp) mul.n mul.d
          refine ⟨_, rfl, r, t, x, mo, p, q, pp, qq, nn, dd, 200 + 400 * i, 300, rfl, ratk, htk, opk, hmk, bp, bq, bpp, bqq, bnn, bdd, by omega, by decide, by omega, cm1, fun _ _ => cm2, fun Hl sl => ⟨true, rfl, ite2 (fun z => absurd z (by decide)) (fun _ => ?_)⟩⟩
        case' neg =>
          rw [decide_eq_false dp]
          refine ⟨_, rfl, mo, _, 0, _, rfl, rfl, xk, am0, _, _, rfl, rfl, _, rfl, mo, _, 1, _, rfl, rfl, xk, am1, _, _, rfl, rfl, (by show 2 ≤ sizeLine; decide), fun m2 hm2 => ?_⟩
          have s0 := sub_same (o := .tup [V.int (0 - nn), V.int (0 - dd)]) hm2
          obtain ⟨cm1, cm2⟩ := Mul.cmp (n2 := 0 - nn) (d2 := 0 - dd) lw mul.l (mul.neg dp) (by rw [mul.n, Int.mul_neg, Int.zero_sub]) (by rw [mul.d, Int.mul_neg, Int.zero_sub])
          refine ⟨r, t, x, m2, p, q, pp, qq, 0 - nn, 0 - dd, 200 + 400 * i, 300, rfl, ratk.same s0, s0 _ _ htk, opk.same s0, upd_same, bp, bq, bpp, bqq, (by rw [Int.zero_sub]; exact bnn.neg), (by rw [Int.zero_sub]; exact bdd.neg), by omega, by decide, by omega, cm1, fun _ _ => cm2, fun Hl sl' => ⟨true, rfl, ite2 (fun z => absurd z (by decide)) (fun _ => ?_)⟩⟩
          have sl := s0.trans sl'
        all_goals
          have hul := huk.same sl
          have ol := ok.trans (.of_same sl)
          have ratl := ratk.same sl
          have htl := sl _ _ htk
          have hml := sl _ _ hmk
          have opl := opk.same sl
          obtain ⟨dx, hal⟩ := id ratl
          refine ⟨_, rfl, r, dx, _, rfl, hal, r, p, q, rfl, ratl, _, rfl, r, dx, _, rfl, hal, r, p, q, rfl, ratl, (by show 2 ≤ sizeLine; decide), fun b4 hb4 => ?_⟩
          have sb := sub_same (o := .tup [V.int p, V.int q]) hb4
          have hun := hul.same sb
          have on := ol.trans (.of_same sb)
          have ratn := ratl.same sb
          have htn := sb _ _ htl
          have hmn := sb _ _ hml
          have opn := opl.same sb
          have hbn : upd Hl b4 (.tup [V.int p, V.int q]) b4 = some (.tup [V.int p, V.int q]) := upd_same
          clear hul ol ratl htl hml opl hal sb sl huk ok ratk htk hmk opk xk am0 am1 dp cm1 cm2
          revert hun on ratn htn hmn opn hbn
          generalize upd Hl b4 (.tup [V.int p, V.int q]) = Hn
          intro hun on ratn htn hmn opn hbn
          have xt : SqT K Hn t [.int p, .int q] := .inl (.inl htn)
          have at0 : atI [V.int p, V.int q] 0 = some (.int p) := atI_nat (j := 0) rfl
          have at1 : atI [V.int p, V.int q] 1 = some (.int q) := atI_nat (j := 1) rfl
          have xk : SqT K Hn mo [.int nn, .int dd] := .inl (.inl hmn)
          have am0 : atI [V.int nn, V.int dd] 0 = some (.int nn) := atI_nat (j := 0) rfl
          have B0 : 0 < 200 + 400 * i := by omega
          have B7 : 200 + 400 * i + 300 ≤ 7000 := by omega
          have B9 : 200 + 400 * i ≤ 7000 := by omega
          have else_ : (wy = 0 ∨ wy = 1 ∨ wy = 2) ∨ pp ≠ 0 → bW wy p q pp qq ≠ 0 ∧ bW wy p q nn dd ≠ 0 := fun W => by
            have z := bW_ne (wy := wy) lw mul.l W
            refine ⟨z, ?_⟩
            rw [(mul.tW wy p q).2]
            exact Int.mul_ne_zero z mul.g
          obtain ⟨tb, bb⟩ := W_bd wy bp bq bpp bqq
          obtain ⟨mt, mb⟩ := mul.tW wy p q
          refine ⟨_, rfl, _, _, rfl, rfl, _, rfl, ite2 (fun w3 => ?_) (fun w3 => ?_)⟩
          case' refine_1 =>
            refine ⟨_, rfl, r, rfl, ratn.ins, r, p, q, 200 + 400 * i, rfl, ratn, bq, lw.ne, B0, B9, fun Hp rz sp nrz ratp => ?_⟩
            rw [lw.neg.low.1, lw.neg.low.2] at ratp
            refine ⟨_, rfl, t, _, 0, _, rfl, rfl, .inl (.inl (sp _ _ htn)), at0, _, _, rfl, rfl, _, rfl, t, _, 1, _, rfl, rfl, .inl (.inl (sp _ _ htn)), at1, (by show 2 ≤ sizeLine; decide), fun tz htz => ⟨_, _, rfl, ?_⟩⟩
            have sz := sub_same (o := .tup [V.int (0 - p), V.int q]) htz
            have huz := (hun.same sp).same sz
            have oz := (on.trans (.of_same sp)).trans (.of_same sz)
            have G : ∃ pz qz : Int, Rat (upd Hp tz (.tup [V.int (0 - p), V.int q])) rz C pz qz ∧ upd Hp tz (.tup [V.int (0 - p), V.int q]) tz = some (.tup [.int pz, .int qz]) ∧ Lw pz qz ∧ Bd (200 + 400 * (i + 1)) pz ∧ Bd (200 + 400 * (i + 1)) qz :=
              ⟨-p, q, ratp.same sz, by rw [upd_same, Int.zero_sub], lw.neg, bp.neg.up (by omega), bq.up (by omega)⟩
            revert huz oz G
            generalize upd Hp tz (.tup [V.int (0 - p), V.int q]) = Hz
            intro huz oz G
          case' refine_2 =>
            have wl : wy ≤ 3 := by
              have z : ¬ (3 : Int) < wy := fun z => w3 (decide_eq_true z)
              omega
            refine ⟨_, rfl, rfl, _, rfl, ite2 (fun e3 => ?_) (fun e3 => ?_)⟩
            case' refine_2 =>
              have W : (wy = 0 ∨ wy = 1 ∨ wy = 2) ∨ pp ≠ 0 := .inl (by have y : wy ≠ 3 := fun z => e3 (decide_eq_true (congrArg V.int z)); omega)
              obtain ⟨z1, z2⟩ := else_ W
              refine ⟨_, rfl, _, rfl, _, rfl, wy, r, x, p, q, pp, qq, 200 + 400 * i, 300, rfl, ratn, opn, bp, bq, bpp, bqq, z1, B0, by decide, B7, fun Hp rz sp nrz ratp => ?_⟩
              have ratq := ratn.same sp
              obtain ⟨dy, haq⟩ := id ratq
              refine ⟨_, rfl, r, dy, _, rfl, haq, r, p, q, rfl, ratq, _, rfl, r, dy, _, rfl, haq, r, p, q, rfl, ratq, (by show 2 ≤ sizeLine; decide), fun c4 hc4 => ?_⟩
              have sc := sub_same (o := .tup [V.int p, V.int q]) hc4
              have shp : SeqAt.shaped (.tuple [.int p, .int q]) = true := rfl
              refine ⟨_, rfl, .tuple [.int p, .int q], .tuple [.int p, .int q], .tup (.inl (.inl upd_same)) (.cons (.int p) (.cons (.int q) .nil)), .tup (.inl (.inl (sc _ _ (sp _ _ hbn)))) (.cons (.int p) (.cons (.int q) .nil)), shp, shp, _, rfl, ite2 (fun z => ?_) (fun _ => ?_)⟩
              · rw [SeqAt.eqv_refl _ (SeqAt.canLay_of_shaped shp)] at z
                exact Bool.noConfusion z
              refine ⟨_, rfl, _, rfl, _, rfl, _, rfl, wy, t, mo, p, q, nn, dd, 200 + 400 * i, 300, rfl, sc _ _ (sp _ _ htn), sc _ _ (sp _ _ hmn), bp, bq, bnn, bdd, B0, by decide, B7, z2, fun tz htz => ⟨_, _, rfl, ?_⟩⟩
              obtain ⟨l1, l2⟩ := low_scale (i := tW wy p q pp qq) z1 mul.g
              rw [← mt, ← mb] at l1 l2
              rw [l1, l2]
              obtain ⟨b1, b2⟩ := low_bd z1 tb bb
              have sz := sub_same (o := .tup [V.int (tW wy p q pp qq / dv (tW wy p q pp qq) (bW wy p q pp qq)), V.int (bW wy p q pp qq / dv (tW wy p q pp qq) (bW wy p q pp qq))]) htz
              have huz := ((hun.same sp).same sc).same sz
              have oz := ((on.trans (.of_same sp)).trans (.of_same sc)).trans (.of_same sz)
              have G : ∃ pz qz : Int, Rat (upd (upd Hp c4 (.tup [V.int p, V.int q])) tz (.tup [V.int (tW wy p q pp qq / dv (tW wy p q pp qq) (bW wy p q pp qq)), V.int (bW wy p q pp qq / dv (tW wy p q pp qq) (bW wy p q pp qq))])) rz C pz qz ∧ upd (upd Hp c4 (.tup [V.int p, V.int q])) tz (.tup [V.int (tW wy p q pp qq / dv (tW wy p q pp qq) (bW wy p q pp qq)), V.int (bW wy p q pp qq / dv (tW wy p q pp qq) (bW wy p q pp qq))]) tz = some (.tup [.int pz, .int qz]) ∧ Lw pz qz ∧ Bd (200 + 400 * (i + 1)) pz ∧ Bd (200 + 400 * (i + 1)) qz :=
                ⟨_, _, (ratp.same sc).same sz, upd_same, Lw.of z1, b1.up (by omega), b2.up (by omega)⟩
              revert huz oz G
              generalize upd (upd Hp c4 (.tup [V.int p, V.int q])) tz (.tup [V.int (tW wy p q pp qq / dv (tW wy p q pp qq) (bW wy p q pp qq)), V.int (bW wy p q pp qq / dv (tW wy p q pp qq) (bW wy p q pp qq))]) = Hz
              intro huz oz G
            case' refine_1 =>
              have y3 : wy = 3 := V.int.inj (of_decide_eq_true e3)
              refine ⟨_, rfl, mo, _, 0, _, rfl, rfl, xk, am0, rfl, _, rfl, ite2 (fun e0 => ?_) (fun e0 => ?_)⟩
              case' refine_1 =>
                have n0 : nn = 0 := V.int.inj (of_decide_eq_true e0)
                have p0 : pp = 0 := by
                  have z := mul.n
                  rw [n0] at z
                  rcases Int.mul_eq_zero.mp z.symm with y | y
                  · exact y
                  · exact absurd y mul.g
                subst p0
                refine ⟨_, rfl, _, rfl, 3, r, x, p, q, rfl, ratn, .inr ⟨rfl, qq, opn, fun Hp sp => ?_⟩⟩
                refine ⟨rfl, _, rfl, ite2 (fun z => ?_) (fun _ => ?_)⟩
                · rw [decide_eq_true rfl] at z
                  exact Bool.noConfusion z
                refine ⟨_, rfl, _, rfl, r, b4, p, q, 200 + 400 * i, rfl, ratn.same sp, sp _ _ hbn, bp, bq, by omega, fun Hz sz => ⟨true, true, rfl, rfl, _, rfl, ite2 (fun z => ?_) (fun _ => ?_)⟩⟩
                · rw [decide_eq_true rfl] at z
                  exact Bool.noConfusion z
                have st := sp.trans sz
                have huz := hun.same st
                have oz := on.trans (.of_same st)
                have G : ∃ pz qz : Int, Rat Hz r C pz qz ∧ Hz t = some (.tup [.int pz, .int qz]) ∧ Lw pz qz ∧ Bd (200 + 400 * (i + 1)) pz ∧ Bd (200 + 400 * (i + 1)) qz := ⟨p, q, ratn.same st, st _ _ htn, lw, bp.up (by omega), bq.up (by omega)⟩
                clear sz sp st
                obtain ⟨rz, er⟩ : ∃ rz, rz = r := ⟨_, rfl⟩
                obtain ⟨tz, et⟩ : ∃ tz, tz = t := ⟨_, rfl⟩
                subst er et
              case' refine_2 =>
                have W : (wy = 0 ∨ wy = 1 ∨ wy = 2) ∨ pp ≠ 0 := .inr fun z => e0 (decide_eq_true (congrArg V.int (by rw [mul.n, z, Int.zero_mul])))
                obtain ⟨z1, z2⟩ := else_ W
                refine ⟨_, rfl, _, rfl, _, rfl, wy, r, x, p, q, pp, qq, 200 + 400 * i, 300, rfl, ratn, opn, bp, bq, bpp, bqq, z1, B0, by decide, B7, fun Hp rz sp nrz ratp => ?_⟩
                have ratq := ratn.same sp
                obtain ⟨dy, haq⟩ := id ratq
                refine ⟨_, rfl, r, dy, _, rfl, haq, r, p, q, rfl, ratq, _, rfl, r, dy, _, rfl, haq, r, p, q, rfl, ratq, (by show 2 ≤ sizeLine; decide), fun c4 hc4 => ?_⟩
                have sc := sub_same (o := .tup [V.int p, V.int q]) hc4
                have shp : SeqAt.shaped (.tuple [.int p, .int q]) = true := rfl
                refine ⟨_, rfl, .tuple [.int p, .int q], .tuple [.int p, .int q], .tup (.inl (.inl upd_same)) (.cons (.int p) (.cons (.int q) .nil)), .tup (.inl (.inl (sc _ _ (sp _ _ hbn)))) (.cons (.int p) (.cons (.int q) .nil)), shp, shp, _, rfl, ite2 (fun z => ?_) (fun _ => ?_)⟩
                · rw [SeqAt.eqv_refl _ (SeqAt.canLay_of_shaped shp)] at z
                  exact Bool.noConfusion z
                refine ⟨_, rfl, _, rfl, _, rfl, _, rfl, wy, t, mo, p, q, nn, dd, 200 + 400 * i, 300, rfl, sc _ _ (sp _ _ htn), sc _ _ (sp _ _ hmn), bp, bq, bnn, bdd, B0, by decide, B7, z2, fun tz htz => ⟨_, _, rfl, ?_⟩⟩
                obtain ⟨l1, l2⟩ := low_scale (i := tW wy p q pp qq) z1 mul.g
                rw [← mt, ← mb] at l1 l2
                rw [l1, l2]
                obtain ⟨b1, b2⟩ := low_bd z1 tb bb
                have sz := sub_same (o := .tup [V.int (tW wy p q pp qq / dv (tW wy p q pp qq) (bW wy p q pp qq)), V.int (bW wy p q pp qq / dv (tW wy p q pp qq) (bW wy p q pp qq))]) htz
                have huz := ((hun.same sp).same sc).same sz
                have oz := ((on.trans (.of_same sp)).trans (.of_same sc)).trans (.of_same sz)
                have G : ∃ pz qz : Int, Rat (upd (upd Hp c4 (.tup [V.int p, V.int q])) tz (.tup [V.int (tW wy p q pp qq / dv (tW wy p q pp qq) (bW wy p q pp qq)), V.int (bW wy p q pp qq / dv (tW wy p q pp qq) (bW wy p q pp qq))])) rz C pz qz ∧ upd (upd Hp c4 (.tup [V.int p, V.int q])) tz (.tup [V.int (tW wy p q pp qq / dv (tW wy p q pp qq) (bW wy p q pp qq)), V.int (bW wy p q pp qq / dv (tW wy p q pp qq) (bW wy p q pp qq))]) tz = some (.tup [.int pz, .int qz]) ∧ Lw pz qz ∧ Bd (200 + 400 * (i + 1)) pz ∧ Bd (200 + 400 * (i + 1)) qz :=
                  ⟨_, _, (ratp.same sc).same sz, upd_same, Lw.of z1, b1.up (by omega), b2.up (by omega)⟩
                revert huz oz G
                generalize upd (upd Hp c4 (.tup [V.int p, V.int q])) tz (.tup [V.int (tW wy p q pp qq / dv (tW wy p q pp qq) (bW wy p q pp qq)), V.int (bW wy p q pp qq / dv (tW wy p q pp qq) (bW wy p q pp qq))]) = Hz
                intro huz oz G
          all_goals
            obtain ⟨pz, qz, ratz, htz', lwz, bpz, bqz⟩ := G
            refine ⟨_, rfl, _, rfl, rz, tz, pz, qz, 200 + 400 * (i + 1), rfl, ratz, htz', bpz, bqz, by omega, fun Hy sy => ⟨true, rfl, ite2 (fun z => absurd z (by decide)) (fun _ => ?_)⟩⟩
            exact ⟨rz, tz, pz, qz, _, _, _, _, _, _, _, rfl, huz.same sy, (o'.trans oz).trans (.of_same sy), ratz.same sy, sy _ _ htz', lwz, bpz, bqz⟩
    · rintro σ Hf ⟨r, t, p, q, y1, y4, y5, y6, y7, y8, y9, rfl, huf, of_, ratf, htf, lw, bp, bq⟩
      refine ⟨_, rfl, _, rfl, ?_⟩
      intro ro dx hr0 hdx hne
      refine ⟨ro, 1, 1, dx, rfl, by decide, by decide, by decide, upd_same, fun Hg but rat1 => ⟨rfl, ?_⟩⟩
      obtain ⟨sg1, nro⟩ := made_same (Same.refl Hf) hr0 hdx but
      rw [(dv_one 1).1] at rat1
      have ratg := ratf.same sg1
      have bp' : Bd 3400 p := bp.up (by omega)
      have bq' : Bd 3400 q := bq.up (by omega)
      have b1 : Bd 1 1 := show (1 : Int).natAbs < 2 ^ 1 by decide
      refine ⟨r, ro, rfl, rfl, ratg.ins, rat1.ins, r, V.ref ro, p, q, 1, 1, 3400, 1, rfl, ratg, .inl ⟨ro, rfl, rat1⟩, bp', bq', b1, b1, Int.mul_ne_zero lw.ne (by decide), by decide, by decide, by decide, fun Hh rm sh nrm ratm => ?_⟩
      have m1 : tMul p q 1 1 = p := Int.mul_one p
      have m2 : bAll p q 1 1 = q := Int.mul_one q
      rw [m1, m2, lw.low.1, lw.low.2] at ratm
      have rath := ratg.same sh
      refine ⟨r, .ref C, rfl, rath.ins, ratm.ty IC, nO, r, p, q, V.ref rm, .ref C, true, rfl, rath, ratm.ty IC, kc.own, .inr ⟨rfl, rm, p, q, rfl, ratm, _, rfl, ite2 (fun _ => ?_) (fun z => ?_)⟩⟩
      · refine ⟨_, rfl, _, rfl, r, r, rfl, rfl, rath.ins, rath.ins, r, V.ref r, p, q, p, q, 3400, 3400, rfl, rath, .inl ⟨r, rfl, rath⟩, bp', bq', bp', bq', Int.mul_ne_zero lw.ne lw.ne, by decide, by decide, by decide, fun Hi rz si nrz ratz => ?_⟩
        have m3 : tSub p q p q = 0 := Int.sub_self _
        rw [m3, (dv_zero (Int.mul_ne_zero lw.ne lw.ne)).1, (dv_zero (Int.mul_ne_zero lw.ne lw.ne)).2] at ratz
        intro rx dy hr1 hdy hne1
        refine ⟨rx, 0, 7, dy, rfl, by decide, by decide, by decide, upd_same, fun Hj but1 ratx => ⟨rfl, ?_⟩⟩
        obtain ⟨sj, nrx⟩ := made_same (Same.refl Hi) hr1 hdy but1
        rw [(dv_zero (by decide)).1, (dv_zero (by decide)).2] at ratx
        have ratj := ratz.same sj
        refine ⟨rz, .ref C, rfl, ratj.ins, ratx.ty IC, nO, rz, 0, 1, V.ref rx, .ref C, true, rfl, ratj, ratx.ty IC, kc.own, .inr ⟨rfl, rx, 0, 1, rfl, ratx, ?_⟩⟩
        have st := (sg1.trans sh).trans (si.trans sj)
        exact g _ (huf.same st) (of_.trans (.of_same st))
      · rw [decide_eq_true rfl, decide_eq_true rfl] at z
        exact absurd rfl z
end
end K02

/-! # what isn't allowed is refused -/
namespace K02
open PySem PySem.Spec PyProof.Rows L2
section
variable {X : Cx}
/-- [r] != [r], of one object -/
theorem op_ne1 (hu : X.A.units + 64 < cLine) : OpR X (compareOp .NotEq) (fun x y H Q => ∃ a b r, x = .ref a ∧ y = .ref b ∧ H a = some (.lst [.ref r]) ∧ H b = some (.lst [.ref r]) ∧ Q (.bl false) H) := by
  intro pins s σ H x y v u Q I rx ry h
  obtain ⟨a, b, r, rfl, rfl, ha, hb, q⟩ := h
  cases (show v = Value.ref a from rx)
  cases (show u = Value.ref b from ry)
  have one : ∀ {z : Addr}, H z = some (.lst [.ref r]) → s.heap.IsList z #[.ref r] := fun {z} e => by
    obtain ⟨its, n, rv, ho, _⟩ := I.lst e
    cases rv with
    | @cons _ v0 _ vr rx rn =>
      cases rn
      obtain rfl : v0 = Value.ref r := rx
      exact ⟨_, ho, rfl, _, rfl⟩
  have n := PySem.SeqAt.RcNeAt.lists (A := X.A) (s := s) (e := fun _ => true) (one ha) (one hb) rfl (by omega) (fun j h1 h2 => by
    have j0 : j = 0 := by
      have z : j < 1 := h1
      omega
    subst j0
    exact PySem.SeqAt.EqAt.same _)
  refine n X.prog X.w X.xe _ ?_
  exact (⟨.bl false, H, I, rfl, q⟩ : EP X pins σ Q (Value.bool false) s)
end
section
variable {P : Program} {w : World} {K : PySem.W.Frag} {mg : Str → Option Value} {base : Heap} {C CN CO : Addr}
/-- the type of what is shown -/
def tyD : PyData → Value
  | .none => .type "NoneType"
  | .bool _ => .type "bool"
  | .int _ => .type "int"
  | .str _ => .type "str"
  | .tuple _ => .type "tuple"
  | .list _ => .type "list"
  | .dict _ => .type "dict"
theorem Shw.ty {H : Hp} {x : V} {d : PyData} (h : Shw H x d) : TyX K H x (tyD d) := by
  cases h with
  | non => exact .base .non
  | bl b => exact .base (.bl b)
  | int i => exact .base (.int i)
  | str z => exact .base (.str z)
  | tup e => exact .base (.tup e)
  | lst e _ => exact .base (.lst e)
  | emp e => exact .base (.dK e)
/-- a datum that no integer is -/
def noInt : PyData → Bool
  | .int _ => false
  | _ => true
theorem Shw.wr {H : Hp} {x : V} {d : PyData} (kc : KC K C) (h : Shw H x d) (n : noInt d = true) : NotOp K C H x := by
  have ty := h.ty (K := K)
  cases h with
  | non => exact ⟨_, false, false, false, ty, kc.non, kit_ty (by decide +kernel), kit_ty (by decide +kernel), rfl⟩
  | bl b => exact ⟨_, false, true, true, ty, kc.bool, kit_ty (by decide +kernel), kit_ty (by decide +kernel), rfl⟩
  | int i => cases n
  | str z => exact ⟨_, false, false, false, ty, kc.str, kit_ty (by decide +kernel), kit_ty (by decide +kernel), rfl⟩
  | tup e => exact ⟨_, false, false, false, ty, kc.tup, kit_ty (by decide +kernel), kit_ty (by decide +kernel), rfl⟩
  | lst e _ => exact ⟨_, false, false, false, ty, kc.lst, kit_ty (by decide +kernel), kit_ty (by decide +kernel), rfl⟩
  | emp e => exact ⟨_, false, false, false, ty, kc.dic, kit_ty (by decide +kernel), kit_ty (by decide +kernel), rfl⟩
/-- a datum that is no integer that is allowed -/
def noIn : PyData → Bool
  | .int i => !decide (i.natAbs < 10 ^ 60)
  | _ => true
theorem Shw.gr {H : Hp} {x : V} {d : PyData} (h : Shw H x d) (n : noIn d = true) : IsI K H x false := by
  have ty := h.ty (K := K)
  cases h with
  | non => exact ⟨_, false, false, ty, kit_ty (by decide +kernel), kit_ty (by decide +kernel), .inl ⟨rfl, rfl⟩⟩
  | bl b => exact ⟨_, true, true, ty, kit_ty (by decide +kernel), kit_ty (by decide +kernel), .inl ⟨rfl, rfl⟩⟩
  | int i =>
    refine ⟨_, true, false, ty, kit_ty (by decide +kernel), kit_ty (by decide +kernel), .inr ⟨rfl, i, rfl, ?_⟩⟩
    have y : (!decide (i.natAbs < 10 ^ 60)) = true := n
    cases z : decide (i.natAbs < 10 ^ 60) with
    | false => rfl
    | true => rw [z] at y; cases y
  | str z => exact ⟨_, false, false, ty, kit_ty (by decide +kernel), kit_ty (by decide +kernel), .inl ⟨rfl, rfl⟩⟩
  | tup e => exact ⟨_, false, false, ty, kit_ty (by decide +kernel), kit_ty (by decide +kernel), .inl ⟨rfl, rfl⟩⟩
  | lst e _ => exact ⟨_, false, false, ty, kit_ty (by decide +kernel), kit_ty (by decide +kernel), .inl ⟨rfl, rfl⟩⟩
  | emp e => exact ⟨_, false, false, ty, kit_ty (by decide +kernel), kit_ty (by decide +kernel), .inl ⟨rfl, rfl⟩⟩
def isZ : PyData → Bool
  | .int i => decide (i = 0)
  | _ => false
/-- each of the values has a datum of the list -/
inductive ShA (H : Hp) : List V → List PyData → Prop
  | nil : ShA H [] []
  | cons {x : V} {d : PyData} {xs : List V} {ds : List PyData} : Shw H x d → ShA H xs ds → ShA H (x :: xs) (d :: ds)
theorem ShA.get {H : Hp} : ∀ {xs : List V} {ds : List PyData} {i : Nat} {x : V}, ShA H xs ds → xs[i]? = some x → ∃ d, d ∈ ds ∧ Shw H x d
  | _, _, _, _, .nil, h => by simp at h
  | _, _, 0, _, .cons a _, h => by
    simp only [List.length_cons, Nat.zero_lt_succ, List.getElem?_cons_zero, Option.some.injEq] at h
    subst h
    exact ⟨_, .head _, a⟩
  | _, _, i + 1, _, .cons _ b, h => by
    rw [List.getElem?_cons_succ] at h
    obtain ⟨d, m, s⟩ := b.get h
    exact ⟨d, .tail _ m, s⟩
abbrev ws : List PyData := [.none, .str "1", .bool true, .tuple [.int 1, .int 2], .list [.int 3], .dict [], .bool false]
abbrev gs : List PyData := [.int (10 ^ Int.toNat 60), .int (0 - 10 ^ Int.toNat 60), .none, .str "2", .bool true, .tuple [.int 1], .list [.int 0], .int (10 ^ Int.toNat 60 * 10 ^ Int.toNat 39)]
abbrev ls : List PyData := [.int 0, .none, .int (10 ^ Int.toNat 60), .str "3", .bool false]
def smallC (d : PyData) : Bool := PyData.strOk ("number " ++ d.shown) && d.showable && decide (d.depth ≤ 3) && decide (d.shown.length ≤ 400) && decide ((PyData.list [d]).shown.length ≤ sizeLine)
theorem Small.by {d : PyData} (h : smallC d = true) : Small d := by
  unfold smallC at h
  simp only [Bool.and_eq_true, decide_eq_true_eq] at h
  exact ⟨h.1.1.1.2, h.1.1.2, h.1.2, h.2⟩
theorem Small.str {d : PyData} (h : smallC d = true) : PyData.strOk ("number " ++ d.shown) = true := by
  unfold smallC at h
  simp only [Bool.and_eq_true, decide_eq_true_eq] at h
  exact h.1.1.1.1
theorem ws_ok : ws.all (fun d => noInt d && smallC d) = true := by decide +kernel
theorem gs_ok : gs.all (fun d => noIn d && smallC d) = true := by decide +kernel
theorem ls_ok : ls.all (fun d => (noIn d || isZ d) && smallC d) = true := by decide +kernel

abbrev s_law_wrong : Stmt := topS 33
theorem sc_law_wrong : FnScope ["_law_urn_here", "_law_ratio", "_law_wrong", "_law_great", "_law_later", "_law_way"] ["_law_urn_here"] (defScope s_law_wrong) := ⟨rfl, rfl, rfl, by decide +kernel, rfl, by decide +kernel, by decide +kernel⟩
/-- what the refusals call -/
structure WrongM (P : Program) (w : World) (K : PySem.W.Frag) (mg : Str → Option Value) (base : Heap) (C fI f1 f2 f3 f4 : Addr) (fdI d1 d2 d3 d4 : FuncData) : Prop where
  T : Txt mg
  R : RC K mg C
  IC : C8.InsC K C
  kc : KC K C
  mkI : Mk K C fI
  bI : Binds K fdI ["self", "top", "bottom"] []
  GI : FnOk P w K mg base CX0 3 fI fdI ["self", "top", "bottom"] (spInit C)
  c1 : D K mg "_law_part" s_law_part ["_law_urn_here"] f1 d1
  g1 : FnOk P w K mg base CX0 4 f1 d1 ["_law_urn_here"] spPart
  c2 : D K mg "_law_some" s_law_some ["_law_urn_here", "_law_items"] f2 d2
  g2 : FnOk P w K mg base CX0 4 f2 d2 ["_law_urn_here", "_law_items"] spSome
  c3 : D K mg "_law_error" s_law_error ["_law_way", "_law_ratio", "_law_value"] f3 d3
  g3 : FnG P w K mg base CX0 7 f3 d3 ["_law_way", "_law_ratio", "_law_value"] (spErr K C)
  c4 : D K mg "_law_made_error" s_law_merror ["_law_top", "_law_bottom"] f4 d4
  g4 : FnOk P w K mg base CX0 7 f4 d4 ["_law_top", "_law_bottom"] (spMerr K)
variable {fI f1 f2 f3 f4 : Addr} {fdI d1 d2 d3 d4 : FuncData}
theorem ok_wrong {f : Addr} {fd : FuncData} (O : WrongM P w K mg base C fI f1 f2 f3 f4 fdI d1 d2 d3 d4) (d : D K mg "_law_wrong_right" s_law_wrong ["_law_urn_here"] f fd) :
    FnG P w K mg base CX0 8 f fd ["_law_urn_here"] spRow := by
  obtain ⟨T, R, IC, kc, mk, bI, GI, c1, g1, c2, g2, c3, g3, c4, g4⟩ := O
  refine FnG.of d.F sc_law_wrong (fun vs H Q E h => ?_) (fun cdv A outer s H vs Q E hn hr h => ?_)
  · obtain ⟨u, rfl, _⟩ := h
    rfl
  · obtain ⟨u, rfl, hu, g⟩ := h
    have un : (A.deeper (envOfC "_law_wrong_right" (defScope s_law_wrong) s.heap.objs.size f cdv)).units + 100 < cLine := by have := hr.un; omega
    have un' : (A.deeper (envOfC "_law_wrong_right" (defScope s_law_wrong) s.heap.objs.size f cdv)).units + 64 < cLine := by omega
    refine ⟨_, (pss_cons (ps_set (i := 1) sc_law_wrong.nd rfl (.inr rfl) (pe_make mk GI (hr.mono (by decide)) (by rfl) R.mC bI .nil pass0 (pa_cons (pe_call g1 (hr.mono (by decide)) (by rfl) c1.g c1.F.kp c1.b .nil pass0 (pa_cons (pv 0) pa_nil)) (pa_cons pe_int pa_nil))))
      (pss_cons (ps_set (i := 2) sc_law_wrong.nd rfl (.inr rfl) (pe_call g2 (hr.mono (by decide)) (by rfl) c2.g c2.F.kp c2.b .nil pass0 (pa_cons (pv 0) (pa_cons (pe_lst (pa_cons pe_non (pa_cons pe_str (pa_cons pe_bl (pa_cons (pe_tup (pa_cons pe_int (pa_cons pe_int pa_nil))) (pa_cons (pe_lst (pa_cons pe_int pa_nil)) (pa_cons pe_dnewK (pa_cons pe_bl pa_nil)))))))) pa_nil))))
      (pss_cons (ps_if (pt_cmpR (op_neD un')
          (pe_lc (own := [("_law_way", 5)]) (g := gName 5) (tt := tYes) (by rfl) sc_law_wrong.nd (pi_tup (pe_tup (pa_cons pe_int (pa_cons pe_int pa_nil)))) (blkOk_by (own := [("_law_way", 5)]) (N := ["_law_urn_here", "_law_ratio", "_law_wrong", "_law_great", "_law_later", "_law_way"]) (sc := defScope s_law_wrong) (by decide +kernel))
            (fun _ _ _ _ _ => pg_name (i := 5) sc_law_wrong.nd rfl (Or.inl rfl)) (fun _ _ _ _ _ => pts_nil)
            (fun _ _ _ _ _ => pe_callG g3 hn hr (by rfl) c3.g c3.F.kp c3.b (pa_cons (pv 5) (pa_cons (pv 1) (pa_cons (pv 2) pa_nil)))))
          (pe_lst (pa_cons (pe_op op_add_str pe_str (pe_callB (call_repr_v hn un) (by rfl) T.n_repr (by decide +kernel) (pa_cons (pv 2) pa_nil))) (pa_cons (pe_op op_add_str pe_str (pe_callB (call_repr_v hn un) (by rfl) T.n_repr (by decide +kernel) (pa_cons (pv 2) pa_nil))) pa_nil))) (nomark _))
        (pss_one (ps_ret pe_bl)) pss_nil)
      (pss_cons (ps_set (i := 3) sc_law_wrong.nd rfl (.inl rfl) (pe_call g2 (hr.mono (by decide)) (by rfl) c2.g c2.F.kp c2.b .nil pass0 (pa_cons (pv 0) (pa_cons (pe_lst (pa_cons (pe_op op_powW pe_int pe_int) (pa_cons (pe_op op_sub pe_int (pe_op op_powW pe_int pe_int)) (pa_cons pe_non (pa_cons pe_str (pa_cons pe_bl (pa_cons (pe_tup (pa_cons pe_int pa_nil)) (pa_cons (pe_lst (pa_cons pe_int pa_nil)) (pa_cons (pe_op op_mulW (pe_op op_powW pe_int pe_int) (pe_op op_powW pe_int pe_int)) pa_nil))))))))) pa_nil))))
      (pss_cons (ps_set (i := 4) sc_law_wrong.nd rfl (.inl rfl) (pe_call g2 (hr.mono (by decide)) (by rfl) c2.g c2.F.kp c2.b .nil pass0 (pa_cons (pv 0) (pa_cons (pe_lst (pa_cons pe_int (pa_cons pe_non (pa_cons (pe_op op_powW pe_int pe_int) (pa_cons pe_str (pa_cons pe_bl pa_nil)))))) pa_nil))))
      (pss_cons (ps_if (PW.pt (pw_or (pt_cmpR (op_ne1 un') (pe_call g4 hr (by rfl) c4.g c4.F.kp c4.b .nil pass0 (pa_cons (pv 1) (pa_cons pe_int pa_nil))) (pe_lst (pa_cons (pv 1) pa_nil)) (nomark _))
          (pw_or1 (pt_cmpR (op_ne1 un') (pe_call g4 hr (by rfl) c4.g c4.F.kp c4.b .nil pass0 (pa_cons pe_int (pa_cons (pv 1) pa_nil))) (pe_lst (pa_cons (pv 1) pa_nil)) (nomark _)))))
        (pss_one (ps_ret pe_bl)) pss_nil)
      (pss_one (ps_ret (pe_and (pe_cmpR op_eq (pe_callB (call_repr_1 hn un) (by rfl) T.n_repr (by decide +kernel) (pa_cons (pe_call g4 hr (by rfl) c4.g c4.F.kp c4.b .nil pass0 (pa_cons (pv 3) (pa_cons (pv 4) pa_nil))) pa_nil)) (pe_callB (call_repr_1 hn un) (by rfl) T.n_repr (by decide +kernel) (pa_cons (pe_lst (pa_cons (pv 3) pa_nil)) pa_nil)) (nomark _))
        (pe_one (pe_cmpR op_eq (pe_callB (call_repr_1 hn un) (by rfl) T.n_repr (by decide +kernel) (pa_cons (pe_call g4 hr (by rfl) c4.g c4.F.kp c4.b .nil pass0 (pa_cons pe_int (pa_cons (pv 4) pa_nil))) pa_nil)) (pe_callB (call_repr_1 hn un) (by rfl) T.n_repr (by decide +kernel) (pa_cons (pe_lst (pa_cons (pv 4) pa_nil)) pa_nil)) (nomark _)))))))))))), ?_⟩
    have sm : ∀ {z : Int}, z.natAbs ≤ 10 ^ 59 → z.natAbs < 10 ^ 60 := fun h => by omega
    refine ⟨_, rfl, u, rfl, hu, fun n H1 bn hu1 o1 => ?_⟩
    intro r dx hr0 hdx hne
    refine ⟨r, n, 7, dx, rfl, sm bn, by decide, by decide, upd_same, fun H2 but rat => ⟨rfl, ?_⟩⟩
    obtain ⟨s2, nr⟩ := made_same (Same.refl H1) hr0 hdx but
    have hu2 := hu1.same s2
    have o2 := o1.trans (.of_same s2)
    clear o1 hu1 nr s2 but hne hdx hr0 dx bn
    revert rat
    generalize n / dv n 7 = p
    generalize (7 : Int) / dv n 7 = q
    intro rat
    refine ⟨_, rfl, (by show 2 ≤ sizeLine; decide), fun t1 ht1 => ⟨(by show 1 ≤ sizeLine; decide), fun l1 hl1 => fun e1 he1 => ⟨(by show 7 ≤ sizeLine; decide), fun b hb => ?_⟩⟩⟩
    have sa : Same H2 (upd (upd (upd H2 t1 (.tup [V.int 1, V.int 2])) l1 (.lst [V.int 3])) e1 (.dK [])) := ((sub_same ht1).trans (sub_same hl1)).trans (sub_same he1)
    have A1 : ShA (upd (upd (upd H2 t1 (.tup [V.int 1, V.int 2])) l1 (.lst [V.int 3])) e1 (.dK [])) [V.non, V.str "1", V.bl true, V.ref t1, V.ref l1, V.ref e1, V.bl false] ws :=
      .cons .non (.cons (.str _) (.cons (.bl _) (.cons (.tup (ns := [1, 2]) (sub_same he1 _ _ (sub_same hl1 _ _ upd_same))) (.cons (.lst (ns := [3]) (sub_same he1 _ _ upd_same) (by decide)) (.cons (.emp upd_same) (.cons (.bl _) .nil))))))
    have hb' := hb
    revert hb' sa A1
    show _ → _ → _ → spSome ([V.ref u, V.ref b] ++ []) (upd (upd (upd (upd H2 t1 (.tup [V.int 1, V.int 2])) l1 (.lst [V.int 3])) e1 (.dK [])) b (.lst [V.non, V.str "1", V.bl true, V.ref t1, V.ref l1, V.ref e1, V.bl false])) _ E0
    clear hb
    generalize upd (upd (upd H2 t1 (.tup [V.int 1, V.int 2])) l1 (.lst [V.int 3])) e1 (.dK []) = Ha
    intro sa A1 hb
    clear he1 hl1 ht1
    have hua := hu2.same sa
    have sb := sub_same (o := .lst [V.non, V.str "1", V.bl true, V.ref t1, V.ref l1, V.ref e1, V.bl false]) hb
    refine ⟨u, b, _, rfl, hua.same sb, upd_same, urn_ne hua hb, (fun z => nomatch z), (by show 7 ≤ 1000; decide), fun i x H3 hx hu3 k3 => ?_⟩
    obtain ⟨dd, md, sh⟩ := A1.get hx
    have fd0 := List.all_eq_true.mp ws_ok dd md
    simp only [Bool.and_eq_true] at fd0
    have sml := Small.by fd0.2
    have sk := Small.str fd0.2
    have sh3 : Shw H3 x dd := (sh.same sb).old (hua.same sb) (.of_but k3)
    have no3 := sh3.wr kc fd0.1
    have rat3 := ((rat.same sa).same sb).old (hua.same sb) (.of_but k3)
    have o3 := ((o2.trans (.of_same sa)).trans (.of_same sb)).trans (.of_but k3)
    have nI := fd0.1
    clear fd0 sh k3 hx md sb hua A1 sa hb rat hu2 o2
    have l7 : ("number " : Str).length = 7 := by decide +kernel
    have sz : ("number " : Str).length + dd.shown.length ≤ sizeLine := by
      have z := sml.sz
      rw [l7]
      exact Nat.le_trans (show 7 + dd.shown.length ≤ 1000 by omega) (by decide)
    show gName 2 x _ _ _
    refine ⟨(by show 2 ≤ sizeLine; decide), fun t2 ht2 => ⟨t2, rfl, ⟨_, .inl (.inl upd_same)⟩, fun D hD => ?_⟩⟩
    have s4 := sub_same (o := .tup [V.int 3, V.int 4]) ht2
    have ht : upd H3 t2 (.tup [V.int 3, V.int 4]) t2 = some (.tup [V.int 3, V.int 4]) := upd_same
    have sh4 := sh3.same s4
    have rat4 := rat3.same s4
    have hu4 := hu3.same s4
    have o4 := o3.trans (.of_same s4)
    clear sh3 no3 rat3 hu3 o3 s4 ht2
    revert hD ht sh4 rat4 hu4 o4
    generalize upd H3 t2 (.tup [V.int 3, V.int 4]) = H4
    intro hD ht sh4 rat4 hu4 o4
    have off : ∀ {Z : Hp} {o : HO}, Same H4 Z → Same H4 (upd Z D o) := fun sz b o h => by
      have n : b ≠ D := fun e => by
        rw [e, hD] at h
        cases h
      rw [upd_ne n]
      exact sz b o h
    refine lc_tup (K := K) (a := t2) (xs := [V.int 3, V.int 4]) (fun i H' => Same H4 H' ∧ H' D = some (.lst (List.replicate i (V.str ("number " ++ dd.shown))))) ⟨off (Same.refl H4), upd_same⟩ (fun i H' _ h => .inl (.inl (h.1 _ _ ht))) ?_ ?_
    · rintro j x0 H' hx0 ⟨sj, hj⟩
      obtain ⟨wy, rfl, hw⟩ : ∃ wy : Int, x0 = .int wy ∧ (wy = 3 ∨ wy = 4) := by
        rcases j with _ | _ | j
        · exact ⟨3, (Option.some.inj hx0).symm, .inl rfl⟩
        · exact ⟨4, (Option.some.inj hx0).symm, .inr rfl⟩
        · simp at hx0
      have j2 : j < 2 := by
        rcases j with _ | _ | j
        · decide
        · decide
        · simp at hx0
      have shj := sh4.same sj
      show gName 5 _ _ _ _
      refine ⟨rfl, ?_⟩
      dsimp only [tYes]
      rw [if_pos rfl]
      refine ⟨_, rfl, _, rfl, _, rfl, wy, r, x, p, q, rfl, rat4.same sj, .inl ⟨hw, shj.wr kc ?_, dd, shj, sml, fun H'' s'' => ⟨_, s'' _ _ hj, ?_, off (sj.trans s''), ?_⟩⟩⟩
      · exact nI
      · rw [List.length_replicate]
        exact Nat.lt_trans j2 (by decide)
      · rw [upd_same, List.replicate_succ']
    · rintro H' ⟨sj, hj⟩
      have hu5 := hu4.same sj
      have o5 := o4.trans (.of_same sj)
      have rat5 := rat4.same sj
      have sh5 := sh4.same sj
      refine ⟨_, rfl, x, dd, rfl, sh5, sml, _, _, rfl, rfl, sz, _, rfl, x, dd, rfl, sh5, sml, _, _, rfl, rfl, sz, (by show 2 ≤ sizeLine; decide), fun b2 hb2 => ?_⟩
      have s6 := sub_same (o := .lst [V.str ("number " ++ dd.shown), V.str ("number " ++ dd.shown)]) hb2
      have shp : SeqAt.shaped (.list [.str ("number " ++ dd.shown), .str ("number " ++ dd.shown)]) = true := by
        show ((PyData.strOk _ && (PyData.strOk _ && true)) && true) = true
        rw [sk]
        rfl
      refine ⟨.list [.str ("number " ++ dd.shown), .str ("number " ++ dd.shown)], .list [.str ("number " ++ dd.shown), .str ("number " ++ dd.shown)], .lst (.inl (.inl (s6 _ _ hj))) (.cons (.str _) (.cons (.str _) .nil)), .lst (.inl (.inl upd_same)) (.cons (.str _) (.cons (.str _) .nil)), shp, shp, _, rfl, ite2 (fun z => ?_) (fun _ => ?_)⟩
      · rw [SeqAt.eqv_refl _ (SeqAt.canLay_of_shaped shp)] at z
        exact Bool.noConfusion z
      have hu6 := hu5.same s6
      have o6 := o5.trans (.of_same s6)
      have rat6 := rat5.same s6
      clear sh5 sh4 rat5 rat4 hu5 hu4 o5 o4 s6 shp hj sj hD ht off sml nI l7 sz
      revert hu6 o6 rat6
      generalize upd H' b2 (.lst [V.str ("number " ++ dd.shown), V.str ("number " ++ dd.shown)]) = H6
      intro hu6 o6 rat6
      have pw60 : CPowW 10 60 := ⟨by decide, by decide +kernel⟩
      have pw39 : CPowW 10 39 := ⟨by decide, by decide +kernel⟩
      have cm : CMulW (10 ^ Int.toNat 60) (10 ^ Int.toNat 39) := by
        show Nat.log2 _ + Nat.log2 _ < 1000000
        decide +kernel
      refine ⟨_, rfl, _, _, rfl, rfl, pw60, _, _, rfl, rfl, pw60, _, _, rfl, rfl, (by show 1 ≤ sizeLine; decide), fun t1 ht1 => ⟨(by show 1 ≤ sizeLine; decide), fun l1 hl1 => ⟨_, _, rfl, rfl, pw60, _, _, rfl, rfl, pw39, _, _, rfl, rfl, cm, (by show 8 ≤ sizeLine; decide), fun b hb => ?_⟩⟩⟩
      have sa : Same H6 (upd (upd H6 t1 (.tup [V.int 1])) l1 (.lst [V.int 0])) := (sub_same ht1).trans (sub_same hl1)
      have A1 : ShA (upd (upd H6 t1 (.tup [V.int 1])) l1 (.lst [V.int 0])) [V.int (10 ^ Int.toNat 60), V.int (0 - 10 ^ Int.toNat 60), V.non, V.str "2", V.bl true, V.ref t1, V.ref l1, V.int (10 ^ Int.toNat 60 * 10 ^ Int.toNat 39)] gs :=
        .cons (.int _) (.cons (.int _) (.cons .non (.cons (.str _) (.cons (.bl _) (.cons (.tup (ns := [1]) (sub_same hl1 _ _ upd_same)) (.cons (.lst (ns := [0]) upd_same (by decide)) (.cons (.int _) .nil)))))))
      revert sa A1 hb
      show _ → _ → _ → spSome ([V.ref u, V.ref b] ++ []) (upd (upd (upd H6 t1 (.tup [V.int 1])) l1 (.lst [V.int 0])) b (.lst [V.int (10 ^ Int.toNat 60), V.int (0 - 10 ^ Int.toNat 60), V.non, V.str "2", V.bl true, V.ref t1, V.ref l1, V.int (10 ^ Int.toNat 60 * 10 ^ Int.toNat 39)])) _ E0
      clear hl1 ht1 cm
      generalize upd (upd H6 t1 (.tup [V.int 1])) l1 (.lst [V.int 0]) = Ha
      have gz : [V.int (10 ^ Int.toNat 60), V.int (0 - 10 ^ Int.toNat 60), V.non, V.str "2", V.bl true, V.ref t1, V.ref l1, V.int (10 ^ Int.toNat 60 * 10 ^ Int.toNat 39)] ≠ [] ∧ [V.int (10 ^ Int.toNat 60), V.int (0 - 10 ^ Int.toNat 60), V.non, V.str "2", V.bl true, V.ref t1, V.ref l1, V.int (10 ^ Int.toNat 60 * 10 ^ Int.toNat 39)].length ≤ 1000 := ⟨(fun z => nomatch z), (by show 8 ≤ 1000; decide)⟩
      revert gz
      generalize [V.int (10 ^ Int.toNat 60), V.int (0 - 10 ^ Int.toNat 60), V.non, V.str "2", V.bl true, V.ref t1, V.ref l1, V.int (10 ^ Int.toNat 60 * 10 ^ Int.toNat 39)] = xs
      intro gz hb sa A1
      have hua := hu6.same sa
      have sb := sub_same (o := .lst xs) hb
      refine ⟨u, b, _, rfl, hua.same sb, upd_same, urn_ne hua hb, gz.1, gz.2, fun i1 xg H7 hx hu7 k7 => ?_⟩
      obtain ⟨dg, md, sh⟩ := A1.get hx
      have fd1 := List.all_eq_true.mp gs_ok dg md
      simp only [Bool.and_eq_true] at fd1
      have smg := Small.by fd1.2
      have shg := (sh.same sb).old (hua.same sb) (.of_but k7)
      have nG := fd1.1
      have rat7 := ((rat6.same sa).same sb).old (hua.same sb) (.of_but k7)
      have o7 := ((o6.trans (.of_same sa)).trans (.of_same sb)).trans (.of_but k7)
      clear fd1 sh k7 hx md sb hua A1 sa hb rat6 hu6 o6 gz
      show gName 3 xg _ _ _
      refine ⟨_, rfl, _, _, rfl, rfl, pw60, (by show 5 ≤ sizeLine; decide), fun b hb => ?_⟩
      have A1 : ShA H7 [V.int 0, V.non, V.int (10 ^ Int.toNat 60), V.str "3", V.bl false] ls := .cons (.int _) (.cons .non (.cons (.int _) (.cons (.str _) (.cons (.bl _) .nil))))
      show spSome ([V.ref u, V.ref b] ++ []) (upd H7 b (.lst [V.int 0, V.non, V.int (10 ^ Int.toNat 60), V.str "3", V.bl false])) _ E0
      have gz : [V.int 0, V.non, V.int (10 ^ Int.toNat 60), V.str "3", V.bl false] ≠ [] ∧ [V.int 0, V.non, V.int (10 ^ Int.toNat 60), V.str "3", V.bl false].length ≤ 1000 := ⟨(fun z => nomatch z), (by show 5 ≤ 1000; decide)⟩
      revert gz A1
      generalize [V.int 0, V.non, V.int (10 ^ Int.toNat 60), V.str "3", V.bl false] = xs
      intro A1 gz
      have sb := sub_same (o := .lst xs) hb
      refine ⟨u, b, _, rfl, hu7.same sb, upd_same, urn_ne hu7 hb, gz.1, gz.2, fun i2 xl H8 hx hu8 k8 => ?_⟩
      obtain ⟨dl, md, sh⟩ := A1.get hx
      have fd1 := List.all_eq_true.mp ls_ok dl md
      simp only [Bool.and_eq_true] at fd1
      have sml := Small.by fd1.2
      have shl := (sh.same sb).old (hu7.same sb) (.of_but k8)
      have nL := fd1.1
      have rat8 := (rat7.same sb).old (hu7.same sb) (.of_but k8)
      have shg8 := (shg.same sb).old (hu7.same sb) (.of_but k8)
      have o8 := (o7.trans (.of_same sb)).trans (.of_but k8)
      clear fd1 sh k8 hx md sb A1 hb rat7 hu7 o7 gz shg pw60 pw39
      show gName 4 xl _ _ _
      have IR : ∀ {Z : Hp}, Rat Z r C p q → IsI K Z (V.ref r) false := fun z => ⟨_, false, false, z.ty IC, kc.ownI, kc.ownB, .inl ⟨rfl, rfl⟩⟩
      refine ⟨_, rfl, V.ref r, V.int 2, V.ref r, rfl, .inl ⟨IR rat8, rfl⟩, fun H9 a9 s9 n9 e9 => ⟨_, rfl, (by show 1 ≤ sizeLine; decide), fun b9 hb9 => ?_⟩⟩
      have x9 := sub_same (o := .lst [V.ref r]) hb9
      have y9 := s9.trans x9
      refine ⟨a9, b9, r, rfl, rfl, x9 _ _ e9, upd_same, _, rfl, ite2 (fun z => Bool.noConfusion z) (fun _ => ?_)⟩
      have rat9 := rat8.same y9
      refine ⟨_, rfl, V.int 5, V.ref r, V.ref r, rfl, .inr ⟨5, rfl, by decide, .inl (IR rat9), rfl⟩, fun HA aA sA nA eA => ⟨_, rfl, (by show 1 ≤ sizeLine; decide), fun bA hbA => ?_⟩⟩
      have xA := sub_same (o := .lst [V.ref r]) hbA
      have yA := y9.trans (sA.trans xA)
      refine ⟨aA, bA, r, rfl, rfl, xA _ _ eA, upd_same, _, rfl, ite2 (fun z => Bool.noConfusion z) (fun _ => ?_)⟩
      have shgA := shg8.same yA
      have shlA := shl.same yA
      have huA := hu8.same yA
      have oA := o8.trans (.of_same yA)
      clear xA sA eA nA rat9 y9 x9 e9 n9 s9 shg8 shl hu8 o8 rat8 IR hb9 yA
      revert shgA shlA huA oA
      generalize upd HA bA (.lst [V.ref r]) = HB
      intro shgA shlA huA oA
      clear hbA
      have IL : ∀ {Z : Hp}, Shw Z xl dl → IsI K Z xl false ∨ xl = .int 0 := fun z => by
        cases e : noIn dl with
        | true => exact .inl (z.gr e)
        | false =>
          rw [e, Bool.false_or] at nL
          cases z with
          | int i =>
            have y : i = 0 := of_decide_eq_true nL
            rw [y]
            exact .inr rfl
          | _ => cases nL
      refine ⟨_, rfl, _, rfl, xg, xl, xg, rfl, .inl ⟨shgA.gr nG, rfl⟩, fun HC aC sC nC eC => ⟨aC, xg, dg, rfl, eC, shgA.same sC, smg, _, rfl, (by show 1 ≤ sizeLine; decide), fun bC hbC => ⟨bC, xg, dg, rfl, upd_same, (shgA.same sC).same (sub_same hbC), smg, rfl, _, rfl, ite2 (fun _ => ?_) (fun z => absurd (decide_eq_true rfl) z)⟩⟩⟩
      have yC := sC.trans (sub_same (o := .lst [xg]) hbC)
      have shlC := shlA.same yC
      refine ⟨_, rfl, V.int 9, xl, xl, rfl, .inr ⟨9, rfl, by decide, IL shlC, rfl⟩, fun HD aD sD nD eD => ⟨aD, xl, dl, rfl, eD, shlC.same sD, sml, _, rfl, (by show 1 ≤ sizeLine; decide), fun bD hbD => ⟨bD, xl, dl, rfl, upd_same, (shlC.same sD).same (sub_same hbD), sml, rfl, ?_⟩⟩⟩
      have yD := yC.trans (sD.trans (sub_same (o := .lst [xl]) hbD))
      have fin := g _ (huA.same yD) (oA.trans (.of_same yD))
      show Q (.bl (decide (_ = _))) _
      rw [decide_eq_true rfl]
      exact fin
end
end K02

/-! # the law -/
namespace K02
open PySem PySem.Spec PyProof.Rows L2
section
variable {P : Program} {w : World} {K : PySem.W.Frag} {mg : Str → Option Value} {base : Heap} {C CN CO : Addr}
abbrev s_law : Stmt := topS 34
theorem sc_law : FnScope ["_law_script", "_law_at", "_law_urn_here", "_law_half", "_law_third", "_law_told", "_law_great"] ["_law_script"] (defScope s_law) := ⟨rfl, rfl, rfl, by decide +kernel, rfl, by decide +kernel, by decide +kernel⟩
/-- what the law calls -/
structure LawM (P : Program) (w : World) (K : PySem.W.Frag) (mg : Str → Option Value) (base : Heap) (C fI fS fC fu fr fw : Addr) (fdI fdS fdC fdu fdr fdw : FuncData) : Prop where
  T : Txt mg
  N : Nam mg
  Dd : Dg K
  R : RC K mg C
  mkI : Mk K C fI
  bI : Binds K fdI ["self", "top", "bottom"] []
  GI : FnOk P w K mg base CX0 3 fI fdI ["self", "top", "bottom"] (spInit C)
  hX : PySem.W.findIn K (.ref C) "__str__" = some (some (.ref fS))
  iX : PySem.W.isFn K (.ref fS) = true
  bX : Binds K fdS ["self"] []
  GX : FnOk P w K mg base CX0 2 fS fdS ["self"] (spStr C)
  mC : Meth K C "compared" fC
  bC : Binds K fdC ["self", "other"] []
  GC : FnOk P w K mg base CX0 6 fC fdC ["self", "other"] (spComp C)
  iA : IntOp K C .Add
  iU : IntOp K C .Sub
  iM : IntOp K C .Mult
  cu : D K mg "_law_urn" s_law_urn ["_law_script", "_law_at"] fu fdu
  gu : FnOk P w K mg base CX0 1 fu fdu ["_law_script", "_law_at"] (spUrn K)
  cr : D K mg "_law_row_right" s_law_row ["_law_urn_here"] fr fdr
  gr : FnG P w K mg base CX0 8 fr fdr ["_law_urn_here"] spRow
  cw : D K mg "_law_wrong_right" s_law_wrong ["_law_urn_here"] fw fdw
  gw : FnG P w K mg base CX0 8 fw fdw ["_law_urn_here"] spRow
variable {fI fS fC fu fr fw : Addr} {fdI fdS fdC fdu fdr fdw : FuncData} {fA fU fM fV : Addr} {fdA fdU fdM fdV : FuncData}
def spLaw (K : PySem.W.Frag) : Sp := fun vs H Q _ => ∃ (a : Addr) (ns : List Int), vs = [.ref a] ∧ SqL K H a (ns.map V.int) ∧ ns.length ≤ 63 ∧ ∀ H', Q (.bl true) H'
theorem turns (z : Int) : -(2 ^ 62) ≤ (if (if z < 3 then z else 3) > 1 then (if z < 3 then z else 3) else 1) ∧ (if (if z < 3 then z else 3) > 1 then (if z < 3 then z else 3) else 1) < 2 ^ 62 ∧ (if (if z < 3 then z else 3) > 1 then (if z < 3 then z else 3) else 1) ≤ 3 := by
  split <;> split <;> omega
theorem Rat.cast {H : Hp} {a : Addr} {p q p' q' : Int} (h : Rat H a C p q) (e1 : p = p') (e2 : q = q') : Rat H a C p' q' := by
  subst e1 e2
  exact h
theorem ok_law {f : Addr} {fd : FuncData} (O : OpM P w K mg base C fA fU fM fV fdA fdU fdM fdV) (L : LawM P w K mg base C fI fS fC fu fr fw fdI fdS fdC fdu fdr fdw) (d : D K mg "law" s_law ["_law_script"] f fd) :
    FnG P w K mg base CX0 9 f fd ["_law_script"] (spLaw K) := by
  obtain ⟨T, N, Dd, R, mk, bI, GI, hX, iX, bX, GX, mC, bC, GC, iA, iU, iM, cu, gu, cr, gr, cw, gw⟩ := L
  refine FnG.of d.F sc_law (fun vs H Q E h => ?_) (fun cdv A outer s H vs Q E hn hr h => ?_)
  · obtain ⟨a, ns, rfl, _⟩ := h
    rfl
  · obtain ⟨a, ns, rfl, hS, hl, g⟩ := h
    have un : (A.deeper (envOfC "law" (defScope s_law) s.heap.objs.size f cdv)).units + 64 < cLine := by have := hr.un; omega
    refine ⟨_, (pss_cons (ps_for PassesOwn.never rfl (pi_range1 rfl T.n_range (pa_cons (pe_callB (call_max2 rfl) (by rfl) T.n_max (by decide +kernel) (pa_cons pe_int (pa_cons (pe_callB (call_min2 rfl) (by rfl) T.n_min (by decide +kernel) (pa_cons pe_int (pa_cons (pe_callB call_len_seq (by rfl) T.n_len PySem.boot_len (pa_cons (pv 0) pa_nil)) pa_nil))) pa_nil))) pa_nil)) (pg_name (i := 1) sc_law.nd rfl (.inl rfl))
        (pss_cons (ps_set (i := 2) sc_law.nd rfl (.inl rfl) (pe_call gu (hr.mono (by decide)) (by rfl) cu.g cu.F.kp cu.b .nil pass0 (pa_cons (pv 0) (pa_cons (pv 1) pa_nil))))
        (pss_one (ps_if (PW.pt (pw_or (pt_not (pt_val (pe_callG gr hn hr (by rfl) cr.g cr.F.kp cr.b (pa_cons (pv 2) pa_nil)))) (pw_or1 (pt_not (pt_val (pe_callG gw hn hr (by rfl) cw.g cw.F.kp cw.b (pa_cons (pv 2) pa_nil))))))) (pss_one (ps_ret pe_bl)) pss_nil))))
      (pss_cons (ps_par (i := 3) (j := 4) rfl sc_law.nd rfl rfl (by decide) rfl rfl (pa_cons (pe_make mk GI (hr.mono (by decide)) (by rfl) R.mC bI .nil pass0 (pa_cons pe_int (pa_cons (pe_un un_neg pe_int) pa_nil))) (pa_cons (pe_make mk GI (hr.mono (by decide)) (by rfl) R.mC bI .nil pass0 (pa_cons pe_int (pa_cons pe_int pa_nil))) pa_nil)) (by rfl))
      (pss_cons (ps_set (i := 5) sc_law.nd rfl (.inl rfl) (pe_lst (pa_cons (pe_callTy (call_strMine hX iX GX (hr.mono (by decide)) bX) (by rfl) N.n_str (by decide +kernel) (pa_cons (pv 3) pa_nil))
          (pa_cons (pe_callTy (call_strMine hX iX GX (hr.mono (by decide)) bX) (by rfl) N.n_str (by decide +kernel) (pa_cons (pe_op (op_mine (C := C) O.sf O.hA O.iA O.GA (hr.mono (by decide)) O.bA) (pv 3) (pv 4)) pa_nil))
          (pa_cons (pe_callTy (call_strMine hX iX GX (hr.mono (by decide)) bX) (by rfl) N.n_str (by decide +kernel) (pa_cons (pe_op (op_both (C := C) O.sf O.hM O.iM iM O.GM (hr.mono (by decide)) O.bM) (pv 3) pe_int) pa_nil))
          (pa_cons (pe_callTy (call_strMine hX iX GX (hr.mono (by decide)) bX) (by rfl) N.n_str (by decide +kernel) (pa_cons (pe_meth (pv 4) R.cl O.mV O.GV (hr.mono (by decide)) O.bV .nil pass0 (pa_cons (pv 3) pa_nil)) pa_nil))
          (pa_cons (pe_meth (pv 3) R.cl mC GC (hr.mono (by decide)) bC .nil pass0 (pa_cons (pv 4) pa_nil))
          (pa_cons (pe_callTy (call_strMine hX iX GX (hr.mono (by decide)) bX) (by rfl) N.n_str (by decide +kernel) (pa_cons (pe_make mk GI (hr.mono (by decide)) (by rfl) R.mC bI .nil pass0 (pa_cons pe_int (pa_cons (pe_un un_neg pe_int) pa_nil))) pa_nil)) pa_nil))))))))
      (pss_cons (ps_set (i := 6) sc_law.nd rfl (.inl rfl) (pe_op op_add_str (pe_op op_add_str pe_str (pe_callTy (call_strB Dd rfl) (by rfl) N.n_str (by decide +kernel) (pa_cons (pe_op op_add (pe_op op_mulW pe_int (pe_op op_powW pe_int pe_int)) pe_int) pa_nil))) pe_str))
      (pss_one (ps_ret (pe_and (pe_cmpR (op_eqD un) (pv 5) (pe_lst (pa_cons pe_str (pa_cons pe_str (pa_cons pe_str (pa_cons pe_str (pa_cons (pe_un un_neg pe_int) (pa_cons pe_str pa_nil))))))) (nomark _))
        (pe_one (pe_cmpR op_eq (pe_callTy (call_strMine hX iX GX (hr.mono (by decide)) bX) (by rfl) N.n_str (by decide +kernel) (pa_cons (pe_op (op_both (C := C) O.sf O.hU O.iU iU O.GU (hr.mono (by decide)) O.bU) (pe_make mk GI (hr.mono (by decide)) (by rfl) R.mC bI .nil pass0 (pa_cons pe_int (pa_cons (pe_un un_neg pe_int) pa_nil))) (pe_op op_powW pe_int pe_int)) pa_nil)) (pv 6) (nomark _)))))))))), ?_⟩
    obtain ⟨j0, j1, j2⟩ := turns (((ns.map V.int).length : Nat) : Int)
    refine ⟨.ref a, rfl, a, _, rfl, .inl hS, _, _, rfl, _, _, rfl, _, rfl, j0, j1, ?_⟩
    refine for_range (fun i σ H' => (∃ y1 y2, σ = [some (.ref a), y1, y2, none, none, none, none]) ∧ Same H H') ⟨⟨_, _, rfl⟩, Same.refl H⟩ ?_ ?_
    · rintro i σ H' hi ⟨⟨y1, y2, rfl⟩, sm⟩
      refine ⟨.ref a, rfl, _, rfl, a, i, ns, (by simp), sm.seq hS, by omega, fun H1 u s1 n1 u1 => ?_⟩
      refine ⟨_, rfl, u, rfl, u1, fun H2 u2 o2 => ⟨_, rfl, ite2 (fun z => Bool.noConfusion z) (fun _ => ⟨_, rfl, u, rfl, u2, fun H3 u3 o3 => ⟨_, rfl, ite2 (fun z => Bool.noConfusion z) (fun _ => ⟨⟨_, _, rfl⟩, fun b o hb => ?_⟩)⟩⟩)⟩⟩
      have nb : b ≠ u := ne_of_none (sm _ _ hb) n1
      exact (o2.trans o3) _ _ nb (s1 _ _ (sm _ _ hb))
    · rintro σ H1 ⟨⟨y1, y2, rfl⟩, sm⟩
      have b60 : ∀ {z : Int}, z.natAbs < 10 ^ 60 → Bd 300 z := fun h => (Bd.of60 h).up (by decide)
      refine ⟨_, rfl, ?_⟩
      intro r1 dx hr0 hdx hne
      refine ⟨r1, 2, -4, dx, rfl, by decide, by decide, by decide, upd_same, fun H2 but rat => ⟨rfl, ?_⟩⟩
      obtain ⟨s2, nr⟩ := made_same (Same.refl H1) hr0 hdx but
      have a2 := rat.cast (p' := -1) (q' := 2) (by decide +kernel) (by decide +kernel)
      clear nr rat but hne hdx hr0 dx
      intro r2 dx hr0 hdx hne
      refine ⟨r2, 1, 3, dx, rfl, by decide, by decide, by decide, upd_same, fun H3 but rat => ⟨rfl, ?_⟩⟩
      obtain ⟨s3, nr⟩ := made_same (Same.refl H2) hr0 hdx but
      have b3 := rat.cast (p' := 1) (q' := 3) (by decide +kernel) (by decide +kernel)
      have a3 := a2.same s3
      clear nr rat but hne hdx hr0 dx a2 s2 s3
      refine ⟨_, _, rfl, ?_⟩
      refine ⟨_, rfl, r1, rfl, a3.ins, r1, -1, 2, 300, rfl, a3, b60 (by decide), b60 (by decide), by decide, _, rfl, ?_⟩
      refine ⟨_, rfl, _, rfl, r1, r2, rfl, rfl, a3.ins, b3.ins, r1, V.ref r2, -1, 2, 1, 3, 300, 300, rfl, a3, .inl ⟨r2, rfl, b3⟩, b60 (by decide), b60 (by decide), b60 (by decide), b60 (by decide), by decide, by decide, by decide, by decide, fun H4 c4 s4 n4 q4 => ?_⟩
      refine ⟨c4, rfl, q4.ins, c4, -1, 6, 300, rfl, q4.cast (by decide +kernel) (by decide +kernel), b60 (by decide), b60 (by decide), by decide, _, rfl, ?_⟩
      have a4 := a3.same s4
      have b4 := b3.same s4
      clear q4 n4 s4 a3 b3
      refine ⟨_, rfl, .inr ⟨r1, 6, rfl, rfl, a4.ins, r1, V.int 6, -1, 2, 6, 1, 300, 300, rfl, a4, .inr ⟨rfl, rfl⟩, b60 (by decide), b60 (by decide), b60 (by decide), b60 (by decide), by decide, by decide, by decide, by decide, fun H5 c5 s5 n5 q5 => ?_⟩⟩
      refine ⟨c5, rfl, q5.ins, c5, -3, 1, 300, rfl, q5.cast (by decide +kernel) (by decide +kernel), b60 (by decide), b60 (by decide), by decide, _, rfl, ?_⟩
      have a5 := a4.same s5
      have b5 := b4.same s5
      clear q5 n5 s5 a4 b4
      obtain ⟨dy, ha5⟩ := id b5
      refine ⟨_, rfl, r2, dy, _, rfl, ha5, pf_none tb1 tb2, _, rfl, r2, V.ref r1, 1, 3, -1, 2, 300, 300, rfl, b5, .inl ⟨r1, rfl, a5⟩, b60 (by decide), b60 (by decide), b60 (by decide), b60 (by decide), by decide, by decide, by decide, by decide, fun H6 c6 s6 n6 q6 => ?_⟩
      refine ⟨c6, rfl, q6.ins, c6, -2, 3, 300, rfl, q6.cast (by decide +kernel) (by decide +kernel), b60 (by decide), b60 (by decide), by decide, _, rfl, ?_⟩
      have a6 := a5.same s6
      have b6 := b5.same s6
      clear q6 n6 s6 ha5 a5 b5 dy
      obtain ⟨dy, ha6⟩ := id a6
      refine ⟨_, rfl, r1, dy, _, rfl, ha6, pf_none tb3 tb4, _, rfl, r1, V.ref r2, -1, 2, 1, 3, 300, 300, rfl, a6, .inl ⟨r2, rfl, b6⟩, b60 (by decide), b60 (by decide), b60 (by decide), b60 (by decide), by decide, by decide, by decide, fun H7 s7 => ?_⟩
      refine ⟨_, rfl, ?_⟩
      intro r3 dx hr0 hdx hne
      refine ⟨r3, 0, -9, dx, rfl, by decide, by decide, by decide, upd_same, fun H8 but rat => ⟨rfl, ?_⟩⟩
      have c8 := rat.cast (p' := 0) (q' := 1) (by decide +kernel) (by decide +kernel)
      refine ⟨r3, rfl, c8.ins, r3, 0, 1, 300, rfl, c8, b60 (by decide), b60 (by decide), by decide, _, rfl, ?_⟩
      refine ⟨(by show 6 ≤ sizeLine; decide), fun tl hb => ?_⟩
      have e1 : rs (-1) 2 = "-1/2" := by decide +kernel
      have e2 : rs (-1) 6 = "-1/6" := by decide +kernel
      have e3 : rs (-3) 1 = "-3" := by decide +kernel
      have e4 : rs (-2) 3 = "-2/3" := by decide +kernel
      have e5 : sg (-1 * 3 - 1 * 2) = -1 := by decide +kernel
      have e6 : rs 0 1 = "0" := by decide +kernel
      have ht : upd H8 tl (.lst [V.str (rs (-1) 2), V.str (rs (-1) 6), V.str (rs (-3) 1), V.str (rs (-2) 3), V.int (sg (-1 * 3 - 1 * 2)), V.str (rs 0 1)]) tl = some (.lst [V.str "-1/2", V.str "-1/6", V.str "-3", V.str "-2/3", V.int (-1), V.str "0"]) := by
        rw [upd_same, e1, e2, e3, e4, e5, e6]
      revert ht
      generalize upd H8 tl (.lst [V.str (rs (-1) 2), V.str (rs (-1) 6), V.str (rs (-3) 1), V.str (rs (-2) 3), V.int (sg (-1 * 3 - 1 * 2)), V.str (rs 0 1)]) = H9
      intro ht
      clear hb c8 rat but hne hdx hr0 dx s7 ha6 dy a6 b6
      have pw62 : CPowW 10 62 := ⟨by decide, by decide +kernel⟩
      have bG : Bd 300 (2 * 10 ^ Int.toNat 62 + 3) := by show Int.natAbs _ < _; decide +kernel
      have bP : Bd 300 (10 ^ Int.toNat 62) := by show Int.natAbs _ < _; decide +kernel
      have cm : CMulW 2 (10 ^ Int.toNat 62) := by
        show Nat.log2 _ + Nat.log2 _ < 1000000
        decide +kernel
      have z1 : ("-" : Str).length + (Str.ofString (toString (2 * 10 ^ Int.toNat 62 + 3 : Int))).length ≤ sizeLine := Nat.le_trans (show _ ≤ 1000 by decide +kernel) (by decide)
      have z2 : (("-" : Str) ++ Str.ofString (toString (2 * 10 ^ Int.toNat 62 + 3 : Int))).length + ("/2" : Str).length ≤ sizeLine := Nat.le_trans (show _ ≤ 1000 by decide +kernel) (by decide)
      have e7 : rs (-(2 * 10 ^ Int.toNat 62 + 3)) 2 = ("-" : Str) ++ Str.ofString (toString (2 * 10 ^ Int.toNat 62 + 3 : Int)) ++ "/2" := by decide +kernel
      refine ⟨_, _, rfl, rfl, pw62, _, _, rfl, rfl, cm, _, _, rfl, rfl, _, 300, rfl, bG, by decide, _, _, rfl, rfl, z1, _, _, rfl, rfl, z2, ?_⟩
      refine ⟨_, rfl, _, rfl, (by show 6 ≤ sizeLine; decide), fun t2 ht2 => ?_⟩
      have sT := sub_same (o := .lst [V.str "-1/2", V.str "-1/6", V.str "-3", V.str "-2/3", V.int (-1), V.str "0"]) ht2
      have shp : SeqAt.shaped (.list [.str "-1/2", .str "-1/6", .str "-3", .str "-2/3", .int (-1), .str "0"]) = true := by decide +kernel
      refine ⟨.list [.str "-1/2", .str "-1/6", .str "-3", .str "-2/3", .int (-1), .str "0"], .list [.str "-1/2", .str "-1/6", .str "-3", .str "-2/3", .int (-1), .str "0"], .lst (.inl (.inl (sT _ _ ht))) (.cons (.str _) (.cons (.str _) (.cons (.str _) (.cons (.str _) (.cons (.int _) (.cons (.str _) .nil)))))), .lst (.inl (.inl upd_same)) (.cons (.str _) (.cons (.str _) (.cons (.str _) (.cons (.str _) (.cons (.int _) (.cons (.str _) .nil)))))), shp, shp, _, rfl, ite2 (fun _ => ?_) (fun z => absurd (SeqAt.eqv_refl _ (SeqAt.canLay_of_shaped shp)) z)⟩
      refine ⟨_, rfl, ?_⟩
      intro r4 dx hr0 hdx hne
      refine ⟨r4, 6, -4, dx, rfl, by decide, by decide, by decide, upd_same, fun HA but rat => ⟨rfl, ?_⟩⟩
      have dA := rat.cast (p' := -3) (q' := 2) (by decide +kernel) (by decide +kernel)
      refine ⟨_, _, rfl, rfl, pw62, .inr ⟨r4, _, rfl, rfl, dA.ins, r4, V.int (10 ^ Int.toNat 62), -3, 2, 10 ^ Int.toNat 62, 1, 300, 300, rfl, dA, .inr ⟨rfl, rfl⟩, b60 (by decide), b60 (by decide), bP, b60 (by decide), by decide, by decide, by decide, by decide, fun HB cB sB nB qB => ?_⟩⟩
      refine ⟨cB, rfl, qB.ins, cB, -(2 * 10 ^ Int.toNat 62 + 3), 2, 300, rfl, qB.cast (by decide +kernel) (by decide +kernel), bG.neg, b60 (by decide), by decide, _, rfl, _, rfl, rfl, ?_⟩
      show Q (.bl (decide (_ = _))) _
      rw [e7, decide_eq_true rfl]
      exact g _
end
end K02

namespace K02
open PySem PySem.Spec PyProof.Rows L2
theorem kit_self {K : PySem.W.Frag} (t : Value) : PySem.W.kitOne K t t = some true := by
  unfold PySem.W.kitOne
  rw [if_pos (beq_self_eq_true t)]
theorem all_of {l : PySem.W.OpenLaw} {w : World} {K : PySem.W.Frag} {h : Heap} {mg : Str → Option Value} {fa : Addr} (X : K.In h) (G : h.Ns mainGlobals mg) (hfa : mg "law" = some (.ref fa))
    {C fI fE fS fA fU fM fV fN fC fL pT gT pB gB pG gG TD : Addr} {rT rB rG : List Value} {fo1 ro1 fo2 ro2 fo3 ro3 : Option Value}
    (aC : PySem.W.nsIn K mainGlobals "Ratio" = some (some (.ref C)))
    (pg : PySem.W.plainGet K C Str.empty = true) (hd : PySem.W.hasDictIn K C = true) (po : PySem.W.plainOver K C = true) (sa : PySem.W.findIn K (.ref C) "__setattr__" = some (some (.builtin "object.__setattr__")))
    (nT : PySem.W.findIn K (.ref C) "_top" = some none) (nB : PySem.W.findIn K (.ref C) "_bottom" = some none)
    (ha : PySem.W.findIn K (.ref C) "__class__" = some (some (.builtin "object.__class__"))) (hn : PySem.W.specialIn K (.builtin "object.__class__") "__get__" = some (some (.builtin "getset_descriptor.__get__"))) (htk : PySem.W.takesIn K (.builtin "object.__class__") = some true) (hm : PySem.W.mroIn K C (.type "object") = some true)
    (nfO : PySem.W.notFirst K C (.ref C) = true)
    (nfI : PySem.W.notFirst K C (.type "int") = true)
    (nfS : PySem.W.notFirst K C (.type "str") = true)
    (nfT : PySem.W.notFirst K C (.type "tuple") = true)
    (nfN : PySem.W.notFirst K C (.type "NoneType") = true)
    (sf : PySem.W.selfFirst K C = true)
    (mks : PySem.W.makesIn K C = true) (ini : PySem.W.findIn K (.ref C) "__init__" = some (some (.ref fI))) (ifn : PySem.W.isFn K (.ref fI) = true) (kpC : PySem.W.keepIn K (.ref C) = true)
    (eL : PySem.W.findIn K (.ref C) "__bool__" = some (some (.ref fL))) (iL : PySem.W.isFn K (.ref fL) = true)
    (eE : PySem.W.findIn K (.ref C) "__eq__" = some (some (.ref fE))) (iE : PySem.W.isFn K (.ref fE) = true)
    (eS : PySem.W.findIn K (.ref C) "__str__" = some (some (.ref fS))) (iS : PySem.W.isFn K (.ref fS) = true)
    (eA : PySem.W.findIn K (.ref C) "__add__" = some (some (.ref fA))) (iA : PySem.W.isFn K (.ref fA) = true)
    (eU : PySem.W.findIn K (.ref C) "__sub__" = some (some (.ref fU))) (iU : PySem.W.isFn K (.ref fU) = true)
    (eM : PySem.W.findIn K (.ref C) "__mul__" = some (some (.ref fM))) (iM : PySem.W.isFn K (.ref fM) = true)
    (eV : PySem.W.findIn K (.ref C) "over" = some (some (.ref fV))) (iV : PySem.W.isFn K (.ref fV) = true)
    (eN : PySem.W.findIn K (.ref C) "__neg__" = some (some (.ref fN))) (iN : PySem.W.isFn K (.ref fN) = true)
    (eC : PySem.W.findIn K (.ref C) "compared" = some (some (.ref fC))) (iC : PySem.W.isFn K (.ref fC) = true)
    (ne : PySem.W.findIn K (.ref C) "__ne__" = some (some (.builtin "object.__ne__")))
    (x1a : PySem.W.findIn K (.ref C) "__radd__" = some none) (x1b : PySem.W.findIn K (.type "int") "__add__" = some fo1) (x1c : PySem.W.findIn K (.type "int") "__radd__" = some ro1)
    (x2a : PySem.W.findIn K (.ref C) "__rsub__" = some none) (x2b : PySem.W.findIn K (.type "int") "__sub__" = some fo2) (x2c : PySem.W.findIn K (.type "int") "__rsub__" = some ro2)
    (x3a : PySem.W.findIn K (.ref C) "__rmul__" = some none) (x3b : PySem.W.findIn K (.type "int") "__mul__" = some fo3) (x3c : PySem.W.findIn K (.type "int") "__rmul__" = some ro3)
    (sbI : PySem.W.subIn K (.type "int") (.ref C) = some false)
    (ktkI : PySem.W.kitOne K (.ref C) (.type "int") = some false)
    (ktkB : PySem.W.kitOne K (.ref C) (.type "bool") = some false)
    (ktk_int : PySem.W.kitOne K (.type "int") (.ref C) = some false)
    (ktk_bool : PySem.W.kitOne K (.type "bool") (.ref C) = some false)
    (ktk_str : PySem.W.kitOne K (.type "str") (.ref C) = some false)
    (ktk_non : PySem.W.kitOne K (.type "NoneType") (.ref C) = some false)
    (ktk_tup : PySem.W.kitOne K (.type "tuple") (.ref C) = some false)
    (ktk_lst : PySem.W.kitOne K (.type "list") (.ref C) = some false)
    (ktk_dic : PySem.W.kitOne K (.type "dict") (.ref C) = some false)
    (pTa : PySem.W.findIn K (.ref C) "top" = some (some (.ref pT))) (pTg : PySem.W.specialIn K (.ref pT) "__get__" = some (some (.builtin "property.__get__"))) (pTt : PySem.W.takesIn K (.ref pT) = some true) (pTr : PySem.W.recIn K pT "property" = some (.ref gT :: rT))
    (pBa : PySem.W.findIn K (.ref C) "bottom" = some (some (.ref pB))) (pBg : PySem.W.specialIn K (.ref pB) "__get__" = some (some (.builtin "property.__get__"))) (pBt : PySem.W.takesIn K (.ref pB) = some true) (pBr : PySem.W.recIn K pB "property" = some (.ref gB :: rB))
    (pGa : PySem.W.findIn K (.ref C) "sign" = some (some (.ref pG))) (pGg : PySem.W.specialIn K (.ref pG) "__get__" = some (some (.builtin "property.__get__"))) (pGt : PySem.W.takesIn K (.ref pG) = some true) (pGr : PySem.W.recIn K pG "property" = some (.ref gG :: rG))
    (kpV : PySem.W.keepIn K (.ref fV) = true) (kpCm : PySem.W.keepIn K (.ref fC) = true)
    {ocJ : Value} {odJ : Option Addr} {esJ : Array DictEntry} {nJ : _} {slJ : Array (Option Value)} (dgl : K.lookup cStatics = some ⟨ocJ, odJ, .dict esJ nJ, slJ⟩) (dga : (esJ.toList.all fun e => match e.key with | .str _ _ => true | _ => false) = true) (dg2 : PySem.W.nsIn K cStatics "sys.int_max_str_digits" = some none)
    {CN fX N0 : Addr} {nm qn : Str} {bs : List Value} {sn : List Str} {sub : List Value} {ab : Bool} {col : Option Bool} {dd : Option Addr} {m0 m1 m2 m3 m5 : Option Value} {odX anX : Option Addr} {slX : Array (Option Value)} {ocX dcX pmX cdX ctX : Value}
    (aN : PySem.W.nsIn K mainGlobals "InvalidNumber" = some (some (.ref CN)))
    (xL : K.lookup CN = some (excClassObj nm qn CN N0 bs [.type "IndexError", .type "LookupError", .type "Exception", .type "BaseException", .type "object"] true sn sub ab col dd m0 m1 m2 m3 m5 "IndexError.__new__"))
    (ov : PySem.W.excOver K CN PySem.NumX.tailIE = true) (tk : PySem.W.takerIn K CN "given" = some none)
    (saN : PySem.W.findIn K (.ref CN) "__setattr__" = some (some (.builtin "object.__setattr__"))) (gaN : PySem.W.findIn K (.ref CN) "__getattribute__" = some (some (.builtin "BaseException.__getattribute__"))) (ggN : PySem.W.findIn K (.ref CN) "__getattr__" = some none) (nbN : PySem.W.findIn K (.ref CN) "given" = some none)
    (aX : PySem.W.findIn K (.ref CN) "__init__" = some (some (.ref fX))) (tX : PySem.W.typeIn K (.ref fX) = some (.type "function"))
    (lX : K.lookup fX = some ⟨ocX, odX, .func (PySem.W.fnOf "__init__" "InvalidNumber.__init__" (PySem.NumX.iA ⟨13, 17, 13, 21⟩ ⟨13, 23, 13, 28⟩) (PySem.NumX.iB ⟨14, 8, 14, 12⟩ ⟨14, 8, 14, 18⟩ ⟨14, 21, 14, 26⟩ ⟨14, 8, 14, 26⟩) PySem.NumX.iS .none .none dcX pmX anX cdX ctX), slX⟩) (cX : PySem.W.codeIn K cdX "InvalidNumber.__init__" = true)
    (kN : PySem.W.keepIn K (.ref CN) = true) (exN : PySem.W.subIn K (.ref CN) (.type "BaseException") = some true) (tyN : PySem.W.typeIn K (.ref CN) = some (.type "type")) (hdN : PySem.W.hasDictIn K CN = true) (sbN : PySem.W.subIn K (.ref CN) (.ref CN) = some true)
    {CO : Addr} (aO : PySem.W.nsIn K mainGlobals "InvalidOperation" = some (some (.ref CO))) (xO : PySem.W.excIn K CO [.type "ValueError", .type "Exception", .type "BaseException", .type "object"] "ValueError.__new__" = true) (kO : PySem.W.keepIn K (.ref CO) = true) (bO : PySem.W.subIn K (.ref CO) (.type "BaseException") = some true) (tO : PySem.W.typeIn K (.ref CO) = some (.type "type")) (hdO : PySem.W.hasDictIn K CO = true) (soN : PySem.W.subIn K (.ref CO) (.ref CN) = some false) (soO : PySem.W.subIn K (.ref CO) (.ref CO) = some true)
    {t1 : Tok} (g1 : PySem.W.nsIn K mainGlobals "_LIMIT" = some (some (.int (10 ^ 60) t1))) (g3 : PySem.W.nsIn K mainGlobals "gcd" = some (some (.builtin "math.gcd")))
    (n_len : PySem.W.nsIn K mainGlobals "len" = some none)
    (n_abs : PySem.W.nsIn K mainGlobals "abs" = some none)
    (n_int : PySem.W.nsIn K mainGlobals "int" = some none)
    (n_bool : PySem.W.nsIn K mainGlobals "bool" = some none)
    (n_max : PySem.W.nsIn K mainGlobals "max" = some none)
    (n_min : PySem.W.nsIn K mainGlobals "min" = some none)
    (n_sum : PySem.W.nsIn K mainGlobals "sum" = some none)
    (n_tuple : PySem.W.nsIn K mainGlobals "tuple" = some none)
    (n_range : PySem.W.nsIn K mainGlobals "range" = some none)
    (n_repr : PySem.W.nsIn K mainGlobals "repr" = some none)
    (n_isinstance : PySem.W.nsIn K mainGlobals "isinstance" = some none)
    (n_reversed : PySem.W.nsIn K mainGlobals "reversed" = some none)
    (n_str : PySem.W.nsIn K mainGlobals "str" = some none)
    {od_T an_T : Option Addr} {sl_T : Array (Option Value)} {oc_T kV_T dc_T pm_T cd_T ct_T : Value} (l_T : K.lookup gT = some ⟨oc_T, od_T, .func (PySem.W.fnOf "top" "Ratio.top" (defArgs s_top) (defBody s_top) (defScope s_top) .none kV_T dc_T pm_T an_T cd_T ct_T), sl_T⟩) (c_T : PySem.W.codeIn K cd_T "Ratio.top" = true) (k_T : PySem.W.keepIn K (.ref gT) = true)
    {od_B an_B : Option Addr} {sl_B : Array (Option Value)} {oc_B kV_B dc_B pm_B cd_B ct_B : Value} (l_B : K.lookup gB = some ⟨oc_B, od_B, .func (PySem.W.fnOf "bottom" "Ratio.bottom" (defArgs s_bottom) (defBody s_bottom) (defScope s_bottom) .none kV_B dc_B pm_B an_B cd_B ct_B), sl_B⟩) (c_B : PySem.W.codeIn K cd_B "Ratio.bottom" = true) (k_B : PySem.W.keepIn K (.ref gB) = true)
    {od_G an_G : Option Addr} {sl_G : Array (Option Value)} {oc_G kV_G dc_G pm_G cd_G ct_G : Value} (l_G : K.lookup gG = some ⟨oc_G, od_G, .func (PySem.W.fnOf "sign" "Ratio.sign" (defArgs s_sign) (defBody s_sign) (defScope s_sign) .none kV_G dc_G pm_G an_G cd_G ct_G), sl_G⟩) (c_G : PySem.W.codeIn K cd_G "Ratio.sign" = true) (k_G : PySem.W.keepIn K (.ref gG) = true)
    {od_L an_L : Option Addr} {sl_L : Array (Option Value)} {oc_L kV_L dc_L pm_L cd_L ct_L : Value} (l_L : K.lookup fL = some ⟨oc_L, od_L, .func (PySem.W.fnOf "__bool__" "Ratio.__bool__" (defArgs s_bool) (defBody s_bool) (defScope s_bool) .none kV_L dc_L pm_L an_L cd_L ct_L), sl_L⟩) (c_L : PySem.W.codeIn K cd_L "Ratio.__bool__" = true) (k_L : PySem.W.keepIn K (.ref fL) = true)
    {od_E an_E : Option Addr} {sl_E : Array (Option Value)} {oc_E kV_E dc_E pm_E cd_E ct_E : Value} (l_E : K.lookup fE = some ⟨oc_E, od_E, .func (PySem.W.fnOf "__eq__" "Ratio.__eq__" (defArgs s_eq) (defBody s_eq) (defScope s_eq) .none kV_E dc_E pm_E an_E cd_E ct_E), sl_E⟩) (c_E : PySem.W.codeIn K cd_E "Ratio.__eq__" = true) (k_E : PySem.W.keepIn K (.ref fE) = true)
    {od_S an_S : Option Addr} {sl_S : Array (Option Value)} {oc_S kV_S dc_S pm_S cd_S ct_S : Value} (l_S : K.lookup fS = some ⟨oc_S, od_S, .func (PySem.W.fnOf "__str__" "Ratio.__str__" (defArgs s_str) (defBody s_str) (defScope s_str) .none kV_S dc_S pm_S an_S cd_S ct_S), sl_S⟩) (c_S : PySem.W.codeIn K cd_S "Ratio.__str__" = true) (k_S : PySem.W.keepIn K (.ref fS) = true)
    {od_A an_A : Option Addr} {sl_A : Array (Option Value)} {oc_A kV_A dc_A pm_A cd_A ct_A : Value} (l_A : K.lookup fA = some ⟨oc_A, od_A, .func (PySem.W.fnOf "__add__" "Ratio.__add__" (defArgs s_add) (defBody s_add) (defScope s_add) .none kV_A dc_A pm_A an_A cd_A ct_A), sl_A⟩) (c_A : PySem.W.codeIn K cd_A "Ratio.__add__" = true) (k_A : PySem.W.keepIn K (.ref fA) = true)
    {od_U an_U : Option Addr} {sl_U : Array (Option Value)} {oc_U kV_U dc_U pm_U cd_U ct_U : Value} (l_U : K.lookup fU = some ⟨oc_U, od_U, .func (PySem.W.fnOf "__sub__" "Ratio.__sub__" (defArgs s_sub) (defBody s_sub) (defScope s_sub) .none kV_U dc_U pm_U an_U cd_U ct_U), sl_U⟩) (c_U : PySem.W.codeIn K cd_U "Ratio.__sub__" = true) (k_U : PySem.W.keepIn K (.ref fU) = true)
    {od_M an_M : Option Addr} {sl_M : Array (Option Value)} {oc_M kV_M dc_M pm_M cd_M ct_M : Value} (l_M : K.lookup fM = some ⟨oc_M, od_M, .func (PySem.W.fnOf "__mul__" "Ratio.__mul__" (defArgs s_mul) (defBody s_mul) (defScope s_mul) .none kV_M dc_M pm_M an_M cd_M ct_M), sl_M⟩) (c_M : PySem.W.codeIn K cd_M "Ratio.__mul__" = true) (k_M : PySem.W.keepIn K (.ref fM) = true)
    {od_V an_V : Option Addr} {sl_V : Array (Option Value)} {oc_V kV_V dc_V pm_V cd_V ct_V : Value} (l_V : K.lookup fV = some ⟨oc_V, od_V, .func (PySem.W.fnOf "over" "Ratio.over" (defArgs s_over) (defBody s_over) (defScope s_over) .none kV_V dc_V pm_V an_V cd_V ct_V), sl_V⟩) (c_V : PySem.W.codeIn K cd_V "Ratio.over" = true) (k_V : PySem.W.keepIn K (.ref fV) = true)
    {od_N an_N : Option Addr} {sl_N : Array (Option Value)} {oc_N kV_N dc_N pm_N cd_N ct_N : Value} (l_N : K.lookup fN = some ⟨oc_N, od_N, .func (PySem.W.fnOf "__neg__" "Ratio.__neg__" (defArgs s_neg) (defBody s_neg) (defScope s_neg) .none kV_N dc_N pm_N an_N cd_N ct_N), sl_N⟩) (c_N : PySem.W.codeIn K cd_N "Ratio.__neg__" = true) (k_N : PySem.W.keepIn K (.ref fN) = true)
    {od_C an_C : Option Addr} {sl_C : Array (Option Value)} {oc_C kV_C dc_C pm_C cd_C ct_C : Value} (l_C : K.lookup fC = some ⟨oc_C, od_C, .func (PySem.W.fnOf "compared" "Ratio.compared" (defArgs s_compared) (defBody s_compared) (defScope s_compared) .none kV_C dc_C pm_C an_C cd_C ct_C), sl_C⟩) (c_C : PySem.W.codeIn K cd_C "Ratio.compared" = true) (k_C : PySem.W.keepIn K (.ref fC) = true)
    {odI anI odD : Option Addr} {slI slD : Array (Option Value)} {ocI kVI dcI pmI cdI ctI ocD : Value} {tD : Tok} {nD : Nat} (lI : K.lookup fI = some ⟨ocI, odI, .func (PySem.W.fnOf "__init__" "Ratio.__init__" (defArgs s_init) (defBody s_init) (defScope s_init) (.ref TD) kVI dcI pmI anI cdI ctI), slI⟩) (cI : PySem.W.codeIn K cdI "Ratio.__init__" = true) (kI : PySem.W.keepIn K (.ref fI) = true) (lD : K.lookup TD = some ⟨ocD, odD, .seq #[.int 1 tD] nD, slD⟩)
    {f0 : Addr} {od0 an0 : Option Addr} {sl0 : Array (Option Value)} {oc0 kV0 dc0 pm0 cd0 ct0 : Value} (a0 : PySem.W.nsIn K mainGlobals "is_whole" = some (some (.ref f0))) (l0 : K.lookup f0 = some ⟨oc0, od0, .func (PySem.W.fnOf "is_whole" "is_whole" (defArgs s_is_whole) (defBody s_is_whole) (defScope s_is_whole) .none kV0 dc0 pm0 an0 cd0 ct0), sl0⟩) (c0 : PySem.W.codeIn K cd0 "is_whole" = true) (k0 : PySem.W.keepIn K (.ref f0) = true)
    {f1 : Addr} {od1 an1 : Option Addr} {sl1 : Array (Option Value)} {oc1 kV1 dc1 pm1 cd1 ct1 : Value} (a1 : PySem.W.nsIn K mainGlobals "is_integer" = some (some (.ref f1))) (l1 : K.lookup f1 = some ⟨oc1, od1, .func (PySem.W.fnOf "is_integer" "is_integer" (defArgs s_is_integer) (defBody s_is_integer) (defScope s_is_integer) .none kV1 dc1 pm1 an1 cd1 ct1), sl1⟩) (c1 : PySem.W.codeIn K cd1 "is_integer" = true) (k1 : PySem.W.keepIn K (.ref f1) = true)
    {f2 : Addr} {od2 an2 : Option Addr} {sl2 : Array (Option Value)} {oc2 kV2 dc2 pm2 cd2 ct2 : Value} (a2 : PySem.W.nsIn K mainGlobals "sign_of" = some (some (.ref f2))) (l2 : K.lookup f2 = some ⟨oc2, od2, .func (PySem.W.fnOf "sign_of" "sign_of" (defArgs s_sign_of) (defBody s_sign_of) (defScope s_sign_of) .none kV2 dc2 pm2 an2 cd2 ct2), sl2⟩) (c2 : PySem.W.codeIn K cd2 "sign_of" = true) (k2 : PySem.W.keepIn K (.ref f2) = true)
    {f3 : Addr} {od3 an3 : Option Addr} {sl3 : Array (Option Value)} {oc3 kV3 dc3 pm3 cd3 ct3 : Value} (a3 : PySem.W.nsIn K mainGlobals "divisor_of_terms" = some (some (.ref f3))) (l3 : K.lookup f3 = some ⟨oc3, od3, .func (PySem.W.fnOf "divisor_of_terms" "divisor_of_terms" (defArgs s_terms) (defBody s_terms) (defScope s_terms) .none kV3 dc3 pm3 an3 cd3 ct3), sl3⟩) (c3 : PySem.W.codeIn K cd3 "divisor_of_terms" = true) (k3 : PySem.W.keepIn K (.ref f3) = true)
    {f4 : Addr} {od4 an4 : Option Addr} {sl4 : Array (Option Value)} {oc4 kV4 dc4 pm4 cd4 ct4 : Value} (a4 : PySem.W.nsIn K mainGlobals "ratio_of" = some (some (.ref f4))) (l4 : K.lookup f4 = some ⟨oc4, od4, .func (PySem.W.fnOf "ratio_of" "ratio_of" (defArgs s_ratio_of) (defBody s_ratio_of) (defScope s_ratio_of) .none kV4 dc4 pm4 an4 cd4 ct4), sl4⟩) (c4 : PySem.W.codeIn K cd4 "ratio_of" = true) (k4 : PySem.W.keepIn K (.ref f4) = true)
    {f5 : Addr} {od5 an5 : Option Addr} {sl5 : Array (Option Value)} {oc5 kV5 dc5 pm5 cd5 ct5 : Value} (a5 : PySem.W.nsIn K mainGlobals "is_operand" = some (some (.ref f5))) (l5 : K.lookup f5 = some ⟨oc5, od5, .func (PySem.W.fnOf "is_operand" "is_operand" (defArgs s_is_operand) (defBody s_is_operand) (defScope s_is_operand) .none kV5 dc5 pm5 an5 cd5 ct5), sl5⟩) (c5 : PySem.W.codeIn K cd5 "is_operand" = true) (k5 : PySem.W.keepIn K (.ref f5) = true)
    {f6 : Addr} {od6 an6 : Option Addr} {sl6 : Array (Option Value)} {oc6 kV6 dc6 pm6 cd6 ct6 : Value} (a6 : PySem.W.nsIn K mainGlobals "terms_of" = some (some (.ref f6))) (l6 : K.lookup f6 = some ⟨oc6, od6, .func (PySem.W.fnOf "terms_of" "terms_of" (defArgs s_terms_of) (defBody s_terms_of) (defScope s_terms_of) .none kV6 dc6 pm6 an6 cd6 ct6), sl6⟩) (c6 : PySem.W.codeIn K cd6 "terms_of" = true) (k6 : PySem.W.keepIn K (.ref f6) = true)
    {f7 : Addr} {od7 an7 : Option Addr} {sl7 : Array (Option Value)} {oc7 kV7 dc7 pm7 cd7 ct7 : Value} (a7 : PySem.W.nsIn K mainGlobals "_law_urn" = some (some (.ref f7))) (l7 : K.lookup f7 = some ⟨oc7, od7, .func (PySem.W.fnOf "_law_urn" "_law_urn" (defArgs s_law_urn) (defBody s_law_urn) (defScope s_law_urn) .none kV7 dc7 pm7 an7 cd7 ct7), sl7⟩) (c7 : PySem.W.codeIn K cd7 "_law_urn" = true) (k7 : PySem.W.keepIn K (.ref f7) = true)
    {f8 : Addr} {od8 an8 : Option Addr} {sl8 : Array (Option Value)} {oc8 kV8 dc8 pm8 cd8 ct8 : Value} (a8 : PySem.W.nsIn K mainGlobals "_law_take" = some (some (.ref f8))) (l8 : K.lookup f8 = some ⟨oc8, od8, .func (PySem.W.fnOf "_law_take" "_law_take" (defArgs s_law_take) (defBody s_law_take) (defScope s_law_take) .none kV8 dc8 pm8 an8 cd8 ct8), sl8⟩) (c8 : PySem.W.codeIn K cd8 "_law_take" = true) (k8 : PySem.W.keepIn K (.ref f8) = true)
    {f9 : Addr} {od9 an9 : Option Addr} {sl9 : Array (Option Value)} {oc9 kV9 dc9 pm9 cd9 ct9 : Value} (a9 : PySem.W.nsIn K mainGlobals "_law_some" = some (some (.ref f9))) (l9 : K.lookup f9 = some ⟨oc9, od9, .func (PySem.W.fnOf "_law_some" "_law_some" (defArgs s_law_some) (defBody s_law_some) (defScope s_law_some) .none kV9 dc9 pm9 an9 cd9 ct9), sl9⟩) (c9 : PySem.W.codeIn K cd9 "_law_some" = true) (k9 : PySem.W.keepIn K (.ref f9) = true)
    {f10 : Addr} {od10 an10 : Option Addr} {sl10 : Array (Option Value)} {oc10 kV10 dc10 pm10 cd10 ct10 : Value} (a10 : PySem.W.nsIn K mainGlobals "_law_low" = some (some (.ref f10))) (l10 : K.lookup f10 = some ⟨oc10, od10, .func (PySem.W.fnOf "_law_low" "_law_low" (defArgs s_law_low) (defBody s_law_low) (defScope s_law_low) .none kV10 dc10 pm10 an10 cd10 ct10), sl10⟩) (c10 : PySem.W.codeIn K cd10 "_law_low" = true) (k10 : PySem.W.keepIn K (.ref f10) = true)
    {f11 : Addr} {od11 an11 : Option Addr} {sl11 : Array (Option Value)} {oc11 kV11 dc11 pm11 cd11 ct11 : Value} (a11 : PySem.W.nsIn K mainGlobals "_law_part" = some (some (.ref f11))) (l11 : K.lookup f11 = some ⟨oc11, od11, .func (PySem.W.fnOf "_law_part" "_law_part" (defArgs s_law_part) (defBody s_law_part) (defScope s_law_part) .none kV11 dc11 pm11 an11 cd11 ct11), sl11⟩) (c11 : PySem.W.codeIn K cd11 "_law_part" = true) (k11 : PySem.W.keepIn K (.ref f11) = true)
    {f12 : Addr} {od12 an12 : Option Addr} {sl12 : Array (Option Value)} {oc12 kV12 dc12 pm12 cd12 ct12 : Value} (a12 : PySem.W.nsIn K mainGlobals "_law_pair" = some (some (.ref f12))) (l12 : K.lookup f12 = some ⟨oc12, od12, .func (PySem.W.fnOf "_law_pair" "_law_pair" (defArgs s_law_pair) (defBody s_law_pair) (defScope s_law_pair) .none kV12 dc12 pm12 an12 cd12 ct12), sl12⟩) (c12 : PySem.W.codeIn K cd12 "_law_pair" = true) (k12 : PySem.W.keepIn K (.ref f12) = true)
    {f13 : Addr} {od13 an13 : Option Addr} {sl13 : Array (Option Value)} {oc13 kV13 dc13 pm13 cd13 ct13 : Value} (a13 : PySem.W.nsIn K mainGlobals "_law_shows" = some (some (.ref f13))) (l13 : K.lookup f13 = some ⟨oc13, od13, .func (PySem.W.fnOf "_law_shows" "_law_shows" (defArgs s_law_shows) (defBody s_law_shows) (defScope s_law_shows) .none kV13 dc13 pm13 an13 cd13 ct13), sl13⟩) (c13 : PySem.W.codeIn K cd13 "_law_shows" = true) (k13 : PySem.W.keepIn K (.ref f13) = true)
    {f14 : Addr} {od14 an14 : Option Addr} {sl14 : Array (Option Value)} {oc14 kV14 dc14 pm14 cd14 ct14 : Value} (a14 : PySem.W.nsIn K mainGlobals "_law_made" = some (some (.ref f14))) (l14 : K.lookup f14 = some ⟨oc14, od14, .func (PySem.W.fnOf "_law_made" "_law_made" (defArgs s_law_made) (defBody s_law_made) (defScope s_law_made) .none kV14 dc14 pm14 an14 cd14 ct14), sl14⟩) (c14 : PySem.W.codeIn K cd14 "_law_made" = true) (k14 : PySem.W.keepIn K (.ref f14) = true)
    {f15 : Addr} {od15 an15 : Option Addr} {sl15 : Array (Option Value)} {oc15 kV15 dc15 pm15 cd15 ct15 : Value} (a15 : PySem.W.nsIn K mainGlobals "_law_done" = some (some (.ref f15))) (l15 : K.lookup f15 = some ⟨oc15, od15, .func (PySem.W.fnOf "_law_done" "_law_done" (defArgs s_law_done) (defBody s_law_done) (defScope s_law_done) .none kV15 dc15 pm15 an15 cd15 ct15), sl15⟩) (c15 : PySem.W.codeIn K cd15 "_law_done" = true) (k15 : PySem.W.keepIn K (.ref f15) = true)
    {f16 : Addr} {od16 an16 : Option Addr} {sl16 : Array (Option Value)} {oc16 kV16 dc16 pm16 cd16 ct16 : Value} (a16 : PySem.W.nsIn K mainGlobals "_law_error" = some (some (.ref f16))) (l16 : K.lookup f16 = some ⟨oc16, od16, .func (PySem.W.fnOf "_law_error" "_law_error" (defArgs s_law_error) (defBody s_law_error) (defScope s_law_error) .none kV16 dc16 pm16 an16 cd16 ct16), sl16⟩) (c16 : PySem.W.codeIn K cd16 "_law_error" = true) (k16 : PySem.W.keepIn K (.ref f16) = true)
    {f17 : Addr} {od17 an17 : Option Addr} {sl17 : Array (Option Value)} {oc17 kV17 dc17 pm17 cd17 ct17 : Value} (a17 : PySem.W.nsIn K mainGlobals "_law_made_error" = some (some (.ref f17))) (l17 : K.lookup f17 = some ⟨oc17, od17, .func (PySem.W.fnOf "_law_made_error" "_law_made_error" (defArgs s_law_merror) (defBody s_law_merror) (defScope s_law_merror) .none kV17 dc17 pm17 an17 cd17 ct17), sl17⟩) (c17 : PySem.W.codeIn K cd17 "_law_made_error" = true) (k17 : PySem.W.keepIn K (.ref f17) = true)
    {f18 : Addr} {od18 an18 : Option Addr} {sl18 : Array (Option Value)} {oc18 kV18 dc18 pm18 cd18 ct18 : Value} (a18 : PySem.W.nsIn K mainGlobals "_law_compared_right" = some (some (.ref f18))) (l18 : K.lookup f18 = some ⟨oc18, od18, .func (PySem.W.fnOf "_law_compared_right" "_law_compared_right" (defArgs s_law_cright) (defBody s_law_cright) (defScope s_law_cright) .none kV18 dc18 pm18 an18 cd18 ct18), sl18⟩) (c18 : PySem.W.codeIn K cd18 "_law_compared_right" = true) (k18 : PySem.W.keepIn K (.ref f18) = true)
    {f19 : Addr} {od19 an19 : Option Addr} {sl19 : Array (Option Value)} {oc19 kV19 dc19 pm19 cd19 ct19 : Value} (a19 : PySem.W.nsIn K mainGlobals "_law_row_right" = some (some (.ref f19))) (l19 : K.lookup f19 = some ⟨oc19, od19, .func (PySem.W.fnOf "_law_row_right" "_law_row_right" (defArgs s_law_row) (defBody s_law_row) (defScope s_law_row) .none kV19 dc19 pm19 an19 cd19 ct19), sl19⟩) (c19 : PySem.W.codeIn K cd19 "_law_row_right" = true) (k19 : PySem.W.keepIn K (.ref f19) = true)
    {f20 : Addr} {od20 an20 : Option Addr} {sl20 : Array (Option Value)} {oc20 kV20 dc20 pm20 cd20 ct20 : Value} (a20 : PySem.W.nsIn K mainGlobals "_law_wrong_right" = some (some (.ref f20))) (l20 : K.lookup f20 = some ⟨oc20, od20, .func (PySem.W.fnOf "_law_wrong_right" "_law_wrong_right" (defArgs s_law_wrong) (defBody s_law_wrong) (defScope s_law_wrong) .none kV20 dc20 pm20 an20 cd20 ct20), sl20⟩) (c20 : PySem.W.codeIn K cd20 "_law_wrong_right" = true) (k20 : PySem.W.keepIn K (.ref f20) = true)
    {f21 : Addr} {od21 an21 : Option Addr} {sl21 : Array (Option Value)} {oc21 kV21 dc21 pm21 cd21 ct21 : Value} (a21 : PySem.W.nsIn K mainGlobals "law" = some (some (.ref f21))) (l21 : K.lookup f21 = some ⟨oc21, od21, .func (PySem.W.fnOf "law" "law" (defArgs s_law) (defBody s_law) (defScope s_law) .none kV21 dc21 pm21 an21 cd21 ct21), sl21⟩) (c21 : PySem.W.codeIn K cd21 "law" = true) (k21 : PySem.W.keepIn K (.ref f21) = true) :
    ∃ fd : FuncData, (∀ (s : Shared) (u : Value), BindsTo s fd ⟨[u], []⟩ [("_law_script", u)]) ∧ ∀ base : Heap, K.In base → base.Ns mainGlobals mg → FnG l.prog w K mg base CX0 9 fa fd ["_law_script"] (spLaw K) := by
  have e := hfa.symm.trans (PySem.W.mg_of X G a21)
  cases e
  have cls : Cls K C := ⟨pg, hd, po, sa⟩
  have R : RC K mg C := ⟨cls, nT, nB, PySem.W.mg_of X G aC⟩
  have IC : C8.InsC K C := ⟨cls, ha, hn, htk, hm, kit_self _⟩
  have kc : KC K C := ⟨kit_self _, ktkI, ktkB, ktk_int, ktk_bool, ktk_str, ktk_non, ktk_tup, ktk_lst, ktk_dic⟩
  have mk : Mk K C fI := ⟨mks, ini, ifn, kpC⟩
  have Dd : Dg K := ⟨by unfold PySem.W.nsOkIn; rw [dgl]; exact (Array.all_toList ..).symm.trans dga, dg2⟩
  have iA' : IntOp K C .Add := ⟨x1a, ⟨_, x1b⟩, ⟨_, x1c⟩, sbI⟩
  have iU' : IntOp K C .Sub := ⟨x2a, ⟨_, x2b⟩, ⟨_, x2c⟩, sbI⟩
  have iM' : IntOp K C .Mult := ⟨x3a, ⟨_, x3b⟩, ⟨_, x3c⟩, sbI⟩
  have NT : PySem.NumX.NumTxt K mg CN fX :=
    { gC := PySem.W.mg_of X G aN, cls := ⟨nm, qn, N0, bs, _, sn, sub, ab, col, dd, m0, m1, m2, m3, m5, xL, by decide +kernel⟩, over := ov, tk := tk, sa := saN, ga := gaN, gg := ggN, noN := nbN, iC := aX, tC := tX, kC := kN, exC := exN, tyC := tyN, hdC := hdN, te := PySem.W.exm_ref exN hdN tyN sbN,
      fn := ⟨_, _, _, _, _, _, _, _, _, _, _, _, _, _, lX, cX⟩ }
  have OT : OpX K mg CO := ⟨xO, PySem.W.mg_of X G aO, kO, bO, tO⟩
  have T : Txt mg := ⟨PySem.W.mg_none_of X G n_len, PySem.W.mg_none_of X G n_abs, PySem.W.mg_none_of X G n_int, PySem.W.mg_none_of X G n_bool, PySem.W.mg_none_of X G n_max, PySem.W.mg_none_of X G n_min, PySem.W.mg_none_of X G n_sum, PySem.W.mg_none_of X G n_tuple, PySem.W.mg_none_of X G n_range, PySem.W.mg_none_of X G n_repr, PySem.W.mg_none_of X G n_isinstance, PySem.W.mg_none_of X G n_reversed⟩
  have N : Nam mg := ⟨PySem.W.mg_none_of X G n_str, PySem.W.mg_of X G g3, ⟨_, PySem.W.mg_of X G g1⟩⟩
  have F_T := fun_mk (st := s_top) l_T c_T k_T
  have M_T : M K "top" "Ratio.top" s_top ["self"] gT _ := ⟨F_T, F_T.binds (ps := ["self"]) fun _ _ _ _ _ _ us hl => match us, hl with | [_], _ => rfl⟩
  have F_B := fun_mk (st := s_bottom) l_B c_B k_B
  have M_B : M K "bottom" "Ratio.bottom" s_bottom ["self"] gB _ := ⟨F_B, F_B.binds (ps := ["self"]) fun _ _ _ _ _ _ us hl => match us, hl with | [_], _ => rfl⟩
  have F_G := fun_mk (st := s_sign) l_G c_G k_G
  have M_G : M K "sign" "Ratio.sign" s_sign ["self"] gG _ := ⟨F_G, F_G.binds (ps := ["self"]) fun _ _ _ _ _ _ us hl => match us, hl with | [_], _ => rfl⟩
  have F_L := fun_mk (st := s_bool) l_L c_L k_L
  have M_L : M K "__bool__" "Ratio.__bool__" s_bool ["self"] fL _ := ⟨F_L, F_L.binds (ps := ["self"]) fun _ _ _ _ _ _ us hl => match us, hl with | [_], _ => rfl⟩
  have F_E := fun_mk (st := s_eq) l_E c_E k_E
  have M_E : M K "__eq__" "Ratio.__eq__" s_eq ["self", "other"] fE _ := ⟨F_E, F_E.binds (ps := ["self", "other"]) fun _ _ _ _ _ _ us hl => match us, hl with | [_, _], _ => rfl⟩
  have F_S := fun_mk (st := s_str) l_S c_S k_S
  have M_S : M K "__str__" "Ratio.__str__" s_str ["self"] fS _ := ⟨F_S, F_S.binds (ps := ["self"]) fun _ _ _ _ _ _ us hl => match us, hl with | [_], _ => rfl⟩
  have F_A := fun_mk (st := s_add) l_A c_A k_A
  have M_A : M K "__add__" "Ratio.__add__" s_add ["self", "other"] fA _ := ⟨F_A, F_A.binds (ps := ["self", "other"]) fun _ _ _ _ _ _ us hl => match us, hl with | [_, _], _ => rfl⟩
  have F_U := fun_mk (st := s_sub) l_U c_U k_U
  have M_U : M K "__sub__" "Ratio.__sub__" s_sub ["self", "other"] fU _ := ⟨F_U, F_U.binds (ps := ["self", "other"]) fun _ _ _ _ _ _ us hl => match us, hl with | [_, _], _ => rfl⟩
  have F_M := fun_mk (st := s_mul) l_M c_M k_M
  have M_M : M K "__mul__" "Ratio.__mul__" s_mul ["self", "other"] fM _ := ⟨F_M, F_M.binds (ps := ["self", "other"]) fun _ _ _ _ _ _ us hl => match us, hl with | [_, _], _ => rfl⟩
  have F_V := fun_mk (st := s_over) l_V c_V k_V
  have M_V : M K "over" "Ratio.over" s_over ["self", "other"] fV _ := ⟨F_V, F_V.binds (ps := ["self", "other"]) fun _ _ _ _ _ _ us hl => match us, hl with | [_, _], _ => rfl⟩
  have F_N := fun_mk (st := s_neg) l_N c_N k_N
  have M_N : M K "__neg__" "Ratio.__neg__" s_neg ["self"] fN _ := ⟨F_N, F_N.binds (ps := ["self"]) fun _ _ _ _ _ _ us hl => match us, hl with | [_], _ => rfl⟩
  have F_C := fun_mk (st := s_compared) l_C c_C k_C
  have M_C : M K "compared" "Ratio.compared" s_compared ["self", "other"] fC _ := ⟨F_C, F_C.binds (ps := ["self", "other"]) fun _ _ _ _ _ _ us hl => match us, hl with | [_, _], _ => rfl⟩
  have F0 := fun_mk (st := s_is_whole) l0 c0 k0
  have d_is_whole : D K mg "is_whole" s_is_whole ["value"] _ _ := ⟨F0, PySem.W.mg_of X G a0, F0.binds (ps := ["value"]) fun _ _ _ _ _ _ us hl => match us, hl with | [_], _ => rfl⟩
  have F1 := fun_mk (st := s_is_integer) l1 c1 k1
  have d_is_integer : D K mg "is_integer" s_is_integer ["value"] _ _ := ⟨F1, PySem.W.mg_of X G a1, F1.binds (ps := ["value"]) fun _ _ _ _ _ _ us hl => match us, hl with | [_], _ => rfl⟩
  have F2 := fun_mk (st := s_sign_of) l2 c2 k2
  have d_sign_of : D K mg "sign_of" s_sign_of ["number"] _ _ := ⟨F2, PySem.W.mg_of X G a2, F2.binds (ps := ["number"]) fun _ _ _ _ _ _ us hl => match us, hl with | [_], _ => rfl⟩
  have F3 := fun_mk (st := s_terms) l3 c3 k3
  have d_divisor_of_terms : D K mg "divisor_of_terms" s_terms ["top", "bottom"] _ _ := ⟨F3, PySem.W.mg_of X G a3, F3.binds (ps := ["top", "bottom"]) fun _ _ _ _ _ _ us hl => match us, hl with | [_, _], _ => rfl⟩
  have F4 := fun_mk (st := s_ratio_of) l4 c4 k4
  have d_ratio_of : D K mg "ratio_of" s_ratio_of ["top", "bottom"] _ _ := ⟨F4, PySem.W.mg_of X G a4, F4.binds (ps := ["top", "bottom"]) fun _ _ _ _ _ _ us hl => match us, hl with | [_, _], _ => rfl⟩
  have F5 := fun_mk (st := s_is_operand) l5 c5 k5
  have d_is_operand : D K mg "is_operand" s_is_operand ["value"] _ _ := ⟨F5, PySem.W.mg_of X G a5, F5.binds (ps := ["value"]) fun _ _ _ _ _ _ us hl => match us, hl with | [_], _ => rfl⟩
  have F6 := fun_mk (st := s_terms_of) l6 c6 k6
  have d_terms_of : D K mg "terms_of" s_terms_of ["operand"] _ _ := ⟨F6, PySem.W.mg_of X G a6, F6.binds (ps := ["operand"]) fun _ _ _ _ _ _ us hl => match us, hl with | [_], _ => rfl⟩
  have F7 := fun_mk (st := s_law_urn) l7 c7 k7
  have d_law_urn : D K mg "_law_urn" s_law_urn ["_law_script", "_law_at"] _ _ := ⟨F7, PySem.W.mg_of X G a7, F7.binds (ps := ["_law_script", "_law_at"]) fun _ _ _ _ _ _ us hl => match us, hl with | [_, _], _ => rfl⟩
  have F8 := fun_mk (st := s_law_take) l8 c8 k8
  have d_law_take : D K mg "_law_take" s_law_take ["_law_urn_here", "_law_total"] _ _ := ⟨F8, PySem.W.mg_of X G a8, F8.binds (ps := ["_law_urn_here", "_law_total"]) fun _ _ _ _ _ _ us hl => match us, hl with | [_, _], _ => rfl⟩
  have F9 := fun_mk (st := s_law_some) l9 c9 k9
  have d_law_some : D K mg "_law_some" s_law_some ["_law_urn_here", "_law_items"] _ _ := ⟨F9, PySem.W.mg_of X G a9, F9.binds (ps := ["_law_urn_here", "_law_items"]) fun _ _ _ _ _ _ us hl => match us, hl with | [_, _], _ => rfl⟩
  have F10 := fun_mk (st := s_law_low) l10 c10 k10
  have d_law_low : D K mg "_law_low" s_law_low ["_law_top", "_law_bottom"] _ _ := ⟨F10, PySem.W.mg_of X G a10, F10.binds (ps := ["_law_top", "_law_bottom"]) fun _ _ _ _ _ _ us hl => match us, hl with | [_, _], _ => rfl⟩
  have F11 := fun_mk (st := s_law_part) l11 c11 k11
  have d_law_part : D K mg "_law_part" s_law_part ["_law_urn_here"] _ _ := ⟨F11, PySem.W.mg_of X G a11, F11.binds (ps := ["_law_urn_here"]) fun _ _ _ _ _ _ us hl => match us, hl with | [_], _ => rfl⟩
  have F12 := fun_mk (st := s_law_pair) l12 c12 k12
  have d_law_pair : D K mg "_law_pair" s_law_pair ["_law_urn_here"] _ _ := ⟨F12, PySem.W.mg_of X G a12, F12.binds (ps := ["_law_urn_here"]) fun _ _ _ _ _ _ us hl => match us, hl with | [_], _ => rfl⟩
  have F13 := fun_mk (st := s_law_shows) l13 c13 k13
  have d_law_shows : D K mg "_law_shows" s_law_shows ["_law_ratio", "_law_pair_here"] _ _ := ⟨F13, PySem.W.mg_of X G a13, F13.binds (ps := ["_law_ratio", "_law_pair_here"]) fun _ _ _ _ _ _ us hl => match us, hl with | [_, _], _ => rfl⟩
  have F14 := fun_mk (st := s_law_made) l14 c14 k14
  have d_law_made : D K mg "_law_made" s_law_made ["_law_way", "_law_one", "_law_other"] _ _ := ⟨F14, PySem.W.mg_of X G a14, F14.binds (ps := ["_law_way", "_law_one", "_law_other"]) fun _ _ _ _ _ _ us hl => match us, hl with | [_, _, _], _ => rfl⟩
  have F15 := fun_mk (st := s_law_done) l15 c15 k15
  have d_law_done : D K mg "_law_done" s_law_done ["_law_way", "_law_ratio", "_law_other"] _ _ := ⟨F15, PySem.W.mg_of X G a15, F15.binds (ps := ["_law_way", "_law_ratio", "_law_other"]) fun _ _ _ _ _ _ us hl => match us, hl with | [_, _, _], _ => rfl⟩
  have F16 := fun_mk (st := s_law_error) l16 c16 k16
  have d_law_error : D K mg "_law_error" s_law_error ["_law_way", "_law_ratio", "_law_value"] _ _ := ⟨F16, PySem.W.mg_of X G a16, F16.binds (ps := ["_law_way", "_law_ratio", "_law_value"]) fun _ _ _ _ _ _ us hl => match us, hl with | [_, _, _], _ => rfl⟩
  have F17 := fun_mk (st := s_law_merror) l17 c17 k17
  have d_law_made_error : D K mg "_law_made_error" s_law_merror ["_law_top", "_law_bottom"] _ _ := ⟨F17, PySem.W.mg_of X G a17, F17.binds (ps := ["_law_top", "_law_bottom"]) fun _ _ _ _ _ _ us hl => match us, hl with | [_, _], _ => rfl⟩
  have F18 := fun_mk (st := s_law_cright) l18 c18 k18
  have d_law_compared_right : D K mg "_law_compared_right" s_law_cright ["_law_ratio", "_law_pair_here", "_law_other", "_law_more"] _ _ := ⟨F18, PySem.W.mg_of X G a18, F18.binds (ps := ["_law_ratio", "_law_pair_here", "_law_other", "_law_more"]) fun _ _ _ _ _ _ us hl => match us, hl with | [_, _, _, _], _ => rfl⟩
  have F19 := fun_mk (st := s_law_row) l19 c19 k19
  have d_law_row_right : D K mg "_law_row_right" s_law_row ["_law_urn_here"] _ _ := ⟨F19, PySem.W.mg_of X G a19, F19.binds (ps := ["_law_urn_here"]) fun _ _ _ _ _ _ us hl => match us, hl with | [_], _ => rfl⟩
  have F20 := fun_mk (st := s_law_wrong) l20 c20 k20
  have d_law_wrong_right : D K mg "_law_wrong_right" s_law_wrong ["_law_urn_here"] _ _ := ⟨F20, PySem.W.mg_of X G a20, F20.binds (ps := ["_law_urn_here"]) fun _ _ _ _ _ _ us hl => match us, hl with | [_], _ => rfl⟩
  have F21 := fun_mk (st := s_law) l21 c21 k21
  have d_law : D K mg "law" s_law ["_law_script"] _ _ := ⟨F21, PySem.W.mg_of X G a21, F21.binds (ps := ["_law_script"]) fun _ _ _ _ _ _ us hl => match us, hl with | [_], _ => rfl⟩
  have FI : FunD K "__init__" "Ratio.__init__" (defArgs s_init) (defBody s_init) (defScope s_init) [.int 1] [] fI (PySem.W.fnOf "__init__" "Ratio.__init__" (defArgs s_init) (defBody s_init) (defScope s_init) (.ref TD) kVI dcI pmI anI cdI ctI) :=
    ⟨⟨_, _, _, _, _, _, _, _, _, _, rfl, lI, cI, .inr ⟨List.cons_ne_nil _ _, TD, _, [.int 1 tD], nD, rfl, lD, rfl, .cons ⟨tD, rfl⟩ .nil⟩, .inl rfl⟩, kI⟩
  have bI : Binds K (PySem.W.fnOf "__init__" "Ratio.__init__" (defArgs s_init) (defBody s_init) (defScope s_init) (.ref TD) kVI dcI pmI anI cdI ctI) ["self", "top", "bottom"] [] := by
    obtain ⟨ds, r, b⟩ := FI.binds1 (ps := ["self", "top", "bottom"]) 3 1 (List.cons_ne_nil _ _) rfl fun T kV doc pm an cdv ct us its hl hi => match us, its, hl, hi with | [_, _, _], [_], _, _ => ⟨_, rfl, rfl⟩
    cases r
    exact b
  obtain ⟨ds, vD, bD⟩ : ∃ ds, Vals [.int 1] ds ∧ Binds K (PySem.W.fnOf "__init__" "Ratio.__init__" (defArgs s_init) (defBody s_init) (defScope s_init) (.ref TD) kVI dcI pmI anI cdI ctI) ["self", "top", "bottom"] ds :=
    FI.binds1 (ps := ["self", "top", "bottom"]) 2 0 (List.cons_ne_nil _ _) rfl fun T kV doc pm an cdv ct us its hl hi => match us, its, hl, hi with | [_, _], [_], _, _ => ⟨_, rfl, rfl⟩
  have ppT : PropOf K C "top" pT gT := ⟨pTa, pTg, pTt, ⟨_, pTr⟩⟩
  have ppB : PropOf K C "bottom" pB gB := ⟨pBa, pBg, pBt, ⟨_, pBr⟩⟩
  have ppG : PropOf K C "sign" pG gG := ⟨pGa, pGg, pGt, ⟨_, pGr⟩⟩
  have mV : Meth K C "over" fV := ⟨eV, iV, kpV⟩
  have mC : Meth K C "compared" fC := ⟨eC, iC, kpCm⟩
  refine ⟨PySem.W.fnOf "law" "law" (defArgs s_law) (defBody s_law) (defScope s_law) .none kV21 dc21 pm21 an21 cd21 ct21, fun s u => .of_eq rfl, fun base _ _ => ?_⟩
  have GI : ∀ k : Nat, FnOk l.prog w K mg base CX0 (k + 3) fI (PySem.W.fnOf "__init__" "Ratio.__init__" (defArgs s_init) (defBody s_init) (defScope s_init) (.ref TD) kVI dcI pmI anI cdI ctI) ["self", "top", "bottom"] (spInit C) := fun k =>
    ok_init T N R (fun sp j len hb => FI.ok sc_init len fun cdv A outer s H vs Q E hr h => hb cdv A outer s H vs Q E hr h) d_is_whole d_is_integer d_divisor_of_terms
  have GIX : ∀ k : Nat, FnOk l.prog w K mg base (L2.CX l.prog w) (k + 3) fI (PySem.W.fnOf "__init__" "Ratio.__init__" (defArgs s_init) (defBody s_init) (defScope s_init) (.ref TD) kVI dcI pmI anI cdI ctI) ["self", "top", "bottom"] (spInitX K CN) := fun k =>
    ok_initX T N NT (fun sp j len hb => FI.ok sc_init len fun cdv A outer s H vs Q E hr h => hb cdv A outer s H vs Q E hr h) d_is_whole d_is_integer
  have O : Ops l.prog w K mg base C _ _ _ _ _ _ _ _ := ⟨T, R, IC, kc, d_is_operand, d_terms_of, d_ratio_of, d_sign_of, ok_operand (k := 3) T R d_is_operand d_is_whole, ok_terms_of (k := 4) T R IC kc d_terms_of, ok_ratio_of (k := 0) N R mk (GI 0) bD vD d_ratio_of d_divisor_of_terms, ok_sign (k := 4) d_sign_of⟩
  have GE : FnOk l.prog w K mg base CX0 2 fE _ ["self", "other"] (spEq K C) := ok_eq (k := 1) T R M_E
  have GS : FnOk l.prog w K mg base CX0 2 fS _ ["self"] (spStr C) := ok_str (k := 1) Dd N R M_S
  have GT : FnOk l.prog w K mg base CX0 2 gT _ ["self"] (spTop C) := ok_top (k := 1) R M_T
  have GB : FnOk l.prog w K mg base CX0 2 gB _ ["self"] (spBottom C) := ok_bottom (k := 1) R M_B
  have OM : OpM l.prog w K mg base C fA fU fM fV _ _ _ _ := ⟨sf, eA, eU, eM, mV, iA, iU, iM, M_A.b, M_U.b, M_M.b, M_V.b, ok_add O M_A, ok_sub O M_U, ok_mul O M_M, ok_over O M_V⟩
  have LK : Look l.prog w K mg base C pT gT pB gB pG gG fS fL _ _ _ _ _ := ⟨ppT, ppB, ppG, M_T.b, M_B.b, M_G.b, eS, iS, M_S.b, eL, iL, M_L.b, GT, GB, ok_signM (k := 0) R M_G d_sign_of, GS, ok_bool (k := 1) T R M_L⟩
  have GC := ok_compared O M_C
  have CM : CmpM l.prog w K mg base C fE fC fS _ _ _ := ⟨eE, iE, M_E.b, GE, ne, mC, M_C.b, GC, eS, iS, M_S.b, GS, nfO, nfI, nfS, nfT, nfN⟩
  have EM : ErrM l.prog w K mg base C CN CO fX fV fC _ _ := ⟨NT, OT, PySem.W.exm_ref exN hdN tyN soN, PySem.W.exm_ref bO hdO tO soO, mV, mC, M_V.b, M_C.b, ok_overX O NT M_V, ok_overZ O OT M_V, ok_comparedX O NT M_C⟩
  have Gerr := ok_error (base := base) T R EM d_law_error
  have Gsome : FnOk l.prog w K mg base CX0 4 _ _ ["_law_urn_here", "_law_items"] spSome := ok_some (k := 2) T d_law_some d_law_take
  have Grow := ok_row (ds := ds) ⟨T, R, IC, kc, mk, bI, bD, vD, GI 0, sf, eE, iE, M_E.b, GE, nfO, eM, iM, M_M.b, ok_mul O M_M, eU, iU, M_U.b, ok_sub O M_U, eN, iN, M_N.b, ok_neg O M_N, ppT, M_T.b, GT, ppB, M_B.b, GB,
    d_law_pair, ok_pair (k := 0) T d_law_pair d_law_part d_law_take d_law_some, d_law_low, ok_low (k := 3) T d_law_low, d_law_shows, ok_shows Dd T N R LK d_law_shows, d_law_take, ok_take (k := 3) T d_law_take, d_law_some, Gsome, d_law_compared_right, ok_cright T N R IC kc CM d_law_compared_right, d_law_error, Gerr, d_law_done, ok_done R OM iA' iU' iM' d_law_done, d_law_made, ok_made (k := 2) T d_law_made d_law_low⟩ d_law_row_right
  have Gwrong := ok_wrong ⟨T, R, IC, kc, mk, bI, GI 0, d_law_part, ok_part (k := 1) T d_law_part d_law_take d_law_some, d_law_some, Gsome, d_law_error, Gerr, d_law_made_error, ok_merror (k := 2) R NT mk (GIX 2) bI d_law_made_error⟩ d_law_wrong_right
  exact ok_law OM ⟨T, N, Dd, R, mk, bI, GI 0, eS, iS, M_S.b, GS, mC, M_C.b, GC, iA', iU', iM', d_law_urn, ok_urn (k := 0) T d_law_urn, d_law_row_right, Grow, d_law_wrong_right, Gwrong⟩ d_law
end K02

open PySem PySem.W PyProof.Rows
set_option maxRecDepth 100000 in
set_option maxHeartbeats 0 in
theorem PySem.Challenge.cw_stairlots_k02_whole_rows_of_ratios_holds : PySem.Challenge.rw_stairlots_k02_whole_rows_of_ratios.Holds := by
  w_on; o_law; k_head; (case hw => w_witness2)
  k_fill
  refine K02.walk_ofG (l := PySem.Challenge.rw_stairlots_k02_whole_rows_of_ratios) (n := 63) (k := 9) (x := "_law_script") (sp := K02.spLaw) rfl (by decide) rfl ⟨rfl, by decide, by decide⟩ (fun w h Y => PySem.W.kIn_of Y) ?F (fun _ _ a ns hl hS => ⟨a, ns, rfl, hS, hl, fun _ => rfl⟩)
  case F =>
    intro w mg fa h KX G hmg
    refine' K02.all_of KX G hmg ?aC ?pg ?hd ?po ?sa ?nT ?nB ?ha ?hn ?htk ?hm ?nfO ?nfI ?nfS ?nfT ?nfN ?sf ?mks ?ini ?ifn ?kpC ?eL ?iL ?eE ?iE ?eS ?iS ?eA ?iA ?eU ?iU ?eM ?iM ?eV ?iV ?eN ?iN ?eC ?iC ?ne ?x1a ?x1b ?x1c ?x2a ?x2b ?x2c ?x3a ?x3b ?x3c ?sbI ?ktkI ?ktkB ?ktk_int ?ktk_bool ?ktk_str ?ktk_non ?ktk_tup ?ktk_lst ?ktk_dic ?pTa ?pTg ?pTt ?pTr ?pBa ?pBg ?pBt ?pBr ?pGa ?pGg ?pGt ?pGr ?kpV ?kpCm ?dgl ?dga ?dg2 ?aN ?xL ?ov ?tk ?saN ?gaN ?ggN ?nbN ?aX ?tX ?lX ?cX ?kN ?exN ?tyN ?hdN ?sbN ?aO ?xO ?kO ?bO ?tO ?hdO ?soN ?soO ?g1 ?g3 ?n_len ?n_abs ?n_int ?n_bool ?n_max ?n_min ?n_sum ?n_tuple ?n_range ?n_repr ?n_isinstance ?n_reversed ?n_str ?l_T ?c_T ?k_T ?l_B ?c_B ?k_B ?l_G ?c_G ?k_G ?l_L ?c_L ?k_L ?l_E ?c_E ?k_E ?l_S ?c_S ?k_S ?l_A ?c_A ?k_A ?l_U ?c_U ?k_U ?l_M ?c_M ?k_M ?l_V ?c_V ?k_V ?l_N ?c_N ?k_N ?l_C ?c_C ?k_C ?lI ?cI ?kI ?lD ?a0 ?l0 ?c0 ?k0 ?a1 ?l1 ?c1 ?k1 ?a2 ?l2 ?c2 ?k2 ?a3 ?l3 ?c3 ?k3 ?a4 ?l4 ?c4 ?k4 ?a5 ?l5 ?c5 ?k5 ?a6 ?l6 ?c6 ?k6 ?a7 ?l7 ?c7 ?k7 ?a8 ?l8 ?c8 ?k8 ?a9 ?l9 ?c9 ?k9 ?a10 ?l10 ?c10 ?k10 ?a11 ?l11 ?c11 ?k11 ?a12 ?l12 ?c12 ?k12 ?a13 ?l13 ?c13 ?k13 ?a14 ?l14 ?c14 ?k14 ?a15 ?l15 ?c15 ?k15 ?a16 ?l16 ?c16 ?k16 ?a17 ?l17 ?c17 ?k17 ?a18 ?l18 ?c18 ?k18 ?a19 ?l19 ?c19 ?k19 ?a20 ?l20 ?c20 ?k20 ?a21 ?l21 ?c21 ?k21
    (case aC => k_is)
    (case pg => k_is)
    (case hd => k_is)
    (case po => k_is)
    (case sa => k_is)
    (case nT => k_is)
    (case nB => k_is)
    (case ha => k_is)
    (case hn => k_is)
    (case htk => k_is)
    (case hm => k_is)
    (case nfO => k_is)
    (case nfI => k_is)
    (case nfS => k_is)
    (case nfT => k_is)
    (case nfN => k_is)
    (case sf => k_is)
    (case mks => k_is)
    (case ini => k_is)
    (case ifn => k_is)
    (case kpC => k_is)
    (case eL => k_is)
    (case iL => k_is)
    (case eE => k_is)
    (case iE => k_is)
    (case eS => k_is)
    (case iS => k_is)
    (case eA => k_is)
    (case iA => k_is)
    (case eU => k_is)
    (case iU => k_is)
    (case eM => k_is)
    (case iM => k_is)
    (case eV => k_is)
    (case iV => k_is)
    (case eN => k_is)
    (case iN => k_is)
    (case eC => k_is)
    (case iC => k_is)
    (case ne => k_is)
    (case x1a => k_is)
    (case x1b => k_is)
    (case x1c => k_is)
    (case x2a => k_is)
    (case x2b => k_is)
    (case x2c => k_is)
    (case x3a => k_is)
    (case x3b => k_is)
    (case x3c => k_is)
    (case sbI => k_is)
    (case ktkI => first | kit_is | k_is)
    (case ktkB => first | kit_is | k_is)
    (case ktk_int => first | kit_is | k_is)
    (case ktk_bool => first | kit_is | k_is)
    (case ktk_str => first | kit_is | k_is)
    (case ktk_non => first | kit_is | k_is)
    (case ktk_tup => first | kit_is | k_is)
    (case ktk_lst => first | kit_is | k_is)
    (case ktk_dic => first | kit_is | k_is)
    (case pTa => k_is)
    (case pTg => k_is)
    (case pTt => k_is)
    (case pTr => k_is)
    (case pBa => k_is)
    (case pBg => k_is)
    (case pBt => k_is)
    (case pBr => k_is)
    (case pGa => k_is)
    (case pGg => k_is)
    (case pGt => k_is)
    (case pGr => k_is)
    (case kpV => k_is)
    (case kpCm => k_is)
    (case dgl => k_is)
    (case dga => first | rfl | decide +kernel | simp)
    (case dg2 => k_is)
    (case aN => k_is)
    (case xL => k_is)
    (case ov => first | kx_is | k_is)
    (case tk => k_is)
    (case saN => k_is)
    (case gaN => k_is)
    (case ggN => k_is)
    (case nbN => k_is)
    (case aX => k_is)
    (case tX => k_is)
    (case lX => k_is)
    (case cX => k_is)
    (case kN => k_is)
    (case exN => k_is)
    (case tyN => k_is)
    (case hdN => k_is)
    (case sbN => first | rfl | k_is)
    (case aO => k_is)
    (case xO => first | k_exc | k_is)
    (case kO => k_is)
    (case bO => k_is)
    (case tO => k_is)
    (case hdO => k_is)
    (case soN => k_is)
    (case soO => first | rfl | k_is)
    (case g1 => k_is)
    (case g3 => k_is)
    (case n_len => k_is)
    (case n_abs => k_is)
    (case n_int => k_is)
    (case n_bool => k_is)
    (case n_max => k_is)
    (case n_min => k_is)
    (case n_sum => k_is)
    (case n_tuple => k_is)
    (case n_range => k_is)
    (case n_repr => k_is)
    (case n_isinstance => k_is)
    (case n_reversed => k_is)
    (case n_str => k_is)
    (case l_T => k_is)
    (case c_T => k_is)
    (case k_T => k_is)
    (case l_B => k_is)
    (case c_B => k_is)
    (case k_B => k_is)
    (case l_G => k_is)
    (case c_G => k_is)
    (case k_G => k_is)
    (case l_L => k_is)
    (case c_L => k_is)
    (case k_L => k_is)
    (case l_E => k_is)
    (case c_E => k_is)
    (case k_E => k_is)
    (case l_S => k_is)
    (case c_S => k_is)
    (case k_S => k_is)
    (case l_A => k_is)
    (case c_A => k_is)
    (case k_A => k_is)
    (case l_U => k_is)
    (case c_U => k_is)
    (case k_U => k_is)
    (case l_M => k_is)
    (case c_M => k_is)
    (case k_M => k_is)
    (case l_V => k_is)
    (case c_V => k_is)
    (case k_V => k_is)
    (case l_N => k_is)
    (case c_N => k_is)
    (case k_N => k_is)
    (case l_C => k_is)
    (case c_C => k_is)
    (case k_C => k_is)
    (case lI => k_is)
    (case cI => k_is)
    (case kI => k_is)
    (case lD => k_is)
    (case a0 => k_is)
    (case l0 => k_is)
    (case c0 => k_is)
    (case k0 => k_is)
    (case a1 => k_is)
    (case l1 => k_is)
    (case c1 => k_is)
    (case k1 => k_is)
    (case a2 => k_is)
    (case l2 => k_is)
    (case c2 => k_is)
    (case k2 => k_is)
    (case a3 => k_is)
    (case l3 => k_is)
    (case c3 => k_is)
    (case k3 => k_is)
    (case a4 => k_is)
    (case l4 => k_is)
    (case c4 => k_is)
    (case k4 => k_is)
    (case a5 => k_is)
    (case l5 => k_is)
    (case c5 => k_is)
    (case k5 => k_is)
    (case a6 => k_is)
    (case l6 => k_is)
    (case c6 => k_is)
    (case k6 => k_is)
    (case a7 => k_is)
    (case l7 => k_is)
    (case c7 => k_is)
    (case k7 => k_is)
    (case a8 => k_is)
    (case l8 => k_is)
    (case c8 => k_is)
    (case k8 => k_is)
    (case a9 => k_is)
    (case l9 => k_is)
    (case c9 => k_is)
    (case k9 => k_is)
    (case a10 => k_is)
    (case l10 => k_is)
    (case c10 => k_is)
    (case k10 => k_is)
    (case a11 => k_is)
    (case l11 => k_is)
    (case c11 => k_is)
    (case k11 => k_is)
    (case a12 => k_is)
    (case l12 => k_is)
    (case c12 => k_is)
    (case k12 => k_is)
    (case a13 => k_is)
    (case l13 => k_is)
    (case c13 => k_is)
    (case k13 => k_is)
    (case a14 => k_is)
    (case l14 => k_is)
    (case c14 => k_is)
    (case k14 => k_is)
    (case a15 => k_is)
    (case l15 => k_is)
    (case c15 => k_is)
    (case k15 => k_is)
    (case a16 => k_is)
    (case l16 => k_is)
    (case c16 => k_is)
    (case k16 => k_is)
    (case a17 => k_is)
    (case l17 => k_is)
    (case c17 => k_is)
    (case k17 => k_is)
    (case a18 => k_is)
    (case l18 => k_is)
    (case c18 => k_is)
    (case k18 => k_is)
    (case a19 => k_is)
    (case l19 => k_is)
    (case c19 => k_is)
    (case k19 => k_is)
    (case a20 => k_is)
    (case l20 => k_is)
    (case c20 => k_is)
    (case k20 => k_is)
    (case a21 => k_is)
    (case l21 => k_is)
    (case c21 => k_is)
    (case k21 => k_is)

