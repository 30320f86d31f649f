import PyProof.Rows.All
import Wide.All
import OpenK.AllK
import Wide.FinOn
import PySem.Challenge.RW_stairlots_k03_whole_texts_of_ratios
import HandS.ForMost
import HandS.Exc
import HandS.TryOnly
import HandS.ExcOwn
import HandS.WordsExc
import HandS.Wide
import HandS.Gcd
import HandS.IsInst
import HandS.Property
import HandS.SlotsOwn
import KE.KOpsOwn
import KE.KCallOwn
import KE.KFmtOwn
import HandS.TryMany
import KE.KExcInit
import HandS.Codes
import KE.IntTextText
import HandS.Walk
import HandS.FStr
import HandS.ExcInit
import HandS.CallLocal
import HandS.ClsMeth
import HandS.ExcField
import PyProof.ListStr
import PyProof.StrOps2
import PyProof.StrLawsRepr
import HandS.Defaults
import KE.KExcLine
set_option Elab.async false
set_option linter.all false
set_option maxRecDepth 100000
set_option maxHeartbeats 8000000
/-! # operators of an own class's instances -/
namespace K03W
open PySem PySem.Spec PySem.Calls PyProof.Rows PySem.W Builtin
section
variable {prog : Program} {w : World} {A : Around} {E : PySem.Value → Shared → Prop} {s : Shared} {K : Frag} {x C f : Addr} {ox : Obj} {od : Option Obj} {b tb : PySem.Value}
/-- an own == that answers True or False, asked for != -/
def NotBack (Q : PySem.Value → Shared → Prop) (v : PySem.Value) (s' : Shared) : Prop := ∃ k, v = .bool k ∧ Q (.bool (!k)) s'
theorem boundSlot {M : Model} {id : String} {args : List PySem.Value} {name : Str} {Q : Option PySem.Value → Shared → Prop} (X : K.In s.heap) (I : InstAt s.heap x ox C od) (hs : findIn K (.ref C) name = some (some (.builtin id)))
    (hb : ∀ self, bindSpecial (.builtin id) self = pure (.builtin id, [self]))
    (h : wpAny M A (call (.builtin id) (.ref x :: args)) (fun v => Q (some v)) E s) : wpAny M A (callSpecialIfBound? (.ref x) name args) Q E s := by
  simp only [callSpecialIfBound?, bindSpecialIfBound?]
  refine wpAny_holding (wpAny_bind (wpAny_bind (wpAny_bind (I.type.here ((looks_findIn X hs).here (wpAny_bind (wpAny_askSetting (wpAny_ite ?_))))))))
  have fin : wpAny M A (call (.builtin id) ([PySem.Value.ref x] ++ args) >>= fun v => pure (some v)) Q E s := wpAny_bind (wpAny_mono h (fun _ _ z => wpAny_pure z) fun _ _ z => z)
  split
  · exact wpAny_bind ((Looks.of_pure (hb _)).here (wpAny_pure fin))
  · exact wpAny_tryCatch (wpAny_bind ((Looks.of_pure (hb _)).here (wpAny_pure fin)))
/-- what object's own != does with an own == -/
theorem objNe {Q : PySem.Value → Shared → Prop} (hu : A.in1.units < cLine) (X : K.In s.heap) (I : InstAt s.heap x ox C od) (hm : mroIn K C (.type "object") = some true) (hs : findIn K (.ref C) "__eq__" = some (some (.ref f))) (hf : isFn K (.ref f) = true)
    (h : wpAny (model prog w) A.in1 (call (.ref f) [.ref x, b]) (NotBack Q) E s) : wpAny (model prog w) A (call (.builtin "object.__ne__") [.ref x, b]) Q E s := by
  refine wpAny_call (codeAny_call_builtin PySem.F.slot_zip_ne.plain PySem.F.cmpEntry_ne (check_slot (i := "object.__ne__") (owner := "object") (n := "__ne__") (by decide +kernel) (by decide +kernel) (I.type.andThen (looks_mroIn X hm)) (PySem.F.cmpArgs_ne _ _) ?_))
  unfold Builtin.«object.__ne__»
  refine wpAny_bind (m := slotArgs "__ne__" 1 _) (wpAny_pure (wpAny_bind (m := cRoomFor _ _) (wpAny_cRoomFor hu ?_)))
  refine wpAny_bind (m := callSpecialIfBound? (.ref x) (Str.ofString "__eq__") _) (ifBound_K X I hs hf (wpAny_mono h (fun r s' hq => ?_) fun _ _ y => y))
  obtain ⟨k, rfl, q⟩ := hq
  repeat (first | exact q | exact wpAny_pure q | exact wpAny_truthy_bool q | (refine wpAny_bind (m := truthy (.bool _)) (wpAny_truthy_bool ?_)) | wp_step)
/-- x != b, x an instance of a class with an own == and no own != -/
theorem ne_own {Q : PySem.Value → Shared → Prop} (hu : A.in1.units < cLine) (hu0 : A.units < cLine) (X : K.In s.heap) (I : InstAt s.heap x ox C od) (hb : Looks (model prog w) s.heap (typeOf b) tb) (hn : notFirst K C tb = true)
    (hm : mroIn K C (.type "object") = some true) (hne : findIn K (.ref C) "__ne__" = some (some (.builtin "object.__ne__"))) (hs : findIn K (.ref C) "__eq__" = some (some (.ref f))) (hf : isFn K (.ref f) = true)
    (h : wpAny (model prog w) A.in1 (call (.ref f) [.ref x, b]) (NotBack Q) E s) : wpAny (model prog w) A (richCompare .NotEq (.ref x) b) Q E s := by
  have one : wpAny (model prog w) A (tryCompare (.ref x) "__ne__" b) (fun r s' => ∃ v, r = some v ∧ Q v s') E s := by
    unfold tryCompare
    refine wpAny_bind (boundSlot X I hne PySem.F.slot_zip_ne.bind (objNe hu X I hm hs hf (wpAny_mono h (fun v s' hv => ?_) fun _ _ e => e)))
    obtain ⟨k, rfl, q⟩ := hv
    exact ⟨k, rfl, wpAny_pure ⟨_, rfl, q⟩⟩
  unfold richCompare
  simp only [oneThing_ref, cmpInfo_NotEq]
  refine wpAny_holding (wpAny_bind (wpAny_cRoomFor hu0 (wpAny_bind (I.type.here (wpAny_bind (hb.here ?_))))))
  split
  · rename_i q
    have e : subIn K tb (.ref C) = some false := (Bool.or_eq_true_iff.mp hn).elim (fun z => by rw [beq_iff_eq.mp z] at q; simp at q) (fun z => beq_iff_eq.mp z)
    refine wpAny_bind ((looks_subIn X e).here ?_)
    simp only [Bool.false_eq_true, if_false]
    exact wpAny_bind (wpAny_mono one (fun r s' ⟨v, e1, z⟩ => by subst e1; exact wpAny_pure z) fun _ _ e => e)
  · refine wpAny_bind (wpAny_pure ?_)
    simp only [Bool.false_eq_true, if_false]
    exact wpAny_bind (wpAny_mono one (fun r s' ⟨v, e1, z⟩ => by subst e1; exact wpAny_pure z) fun _ _ e => e)
/-- bool(x) by an own __bool__ -/
theorem bool_own {Q : PySem.Value → Shared → Prop} (X : K.In s.heap) (I : InstAt s.heap x ox C od) (hs : findIn K (.ref C) "__bool__" = some (some (.ref f))) (hf : isFn K (.ref f) = true)
    (h : wpAny (model prog w) A.in1.in1 (call (.ref f) [.ref x]) (fun v s' => ∃ k, v = .bool k ∧ Q (.bool k) s') E s) : wpAny (model prog w) A (call (.type "bool") [.ref x]) Q E s := by
  refine callType_codes (T := "bool") (Bi := Builtin.«object.__init__») (Q₁ := fun r s₁ => ∃ k, r = PySem.Value.bool k ∧ Q r s₁) PySem.F.called_bool (PySem.F.typeCall_bool_1 _) PySem.F.entry_object_init ?_ ?_
  · refine codeAny_of_tree ?_
    show wpAny _ A.in1.in1 (do checkBuiltinCall "bool.__new__" ⟨[.type "bool", .ref x], []⟩; again (.builtin "bool.__new__" ⟨[.type "bool", .ref x], []⟩)) _ _ s
    refine wpAny_bind (wpAny_of_eq (PySem.F.newCall_bool_1 _) (wpAny_pure ⟨plainId_quiet (by decide +kernel) _, codeAny_builtin PySem.F.entry_bool_new ?_⟩))
    rw [Around.under_plainId (by decide +kernel) _]
    unfold Builtin.«bool.__new__»
    have tr : ∀ {Q' : Bool → Shared → Prop}, (∀ k s', Q (.bool k) s' → Q' k s') → wpAny (model prog w) A.in1.in1 (truthy (.ref x)) Q' E s := fun {Q'} g => by
      unfold truthy
      refine wpAny_bind (m := callSpecial? (.ref x) (Str.ofString "__bool__")) (special_fn X I hs (beq_iff_eq.mp hf) (wpAny_mono h (fun r s' ⟨k, e, z⟩ => ?_) fun _ _ y => y))
      subst e
      exact wpAny_pure (g k s' z)
    repeat (first | (refine wpAny_bind (m := truthy (.ref x)) (tr fun k s' z => ?_)) | wp_step)
    all_goals first | exact ⟨_, rfl, z⟩ | exact wpAny_pure ⟨_, rfl, z⟩ | skip
  · rintro obj s₁ ⟨k, rfl, hq⟩
    exact ⟨PySem.typeIs_bool _ _, PySem.F.args_object_init_2 _ _, object_init_meets PySem.F.called_bool.init.lookup PySem.F.called_bool.made (by decide) prog w A.in1 _ s₁ ⟨PySem.typeIs_bool _ _, rfl, hq⟩⟩
end
end K03W

/-! # operators of an own class's instances, over the layer -/
namespace K03
open PySem PySem.Spec PyProof.Rows L2
/-! ### the text -/
def topS (i : Nat) : Stmt := PySem.Challenge.pw_stairlots_k03_whole_texts_of_ratios.main.body.getD i (.Pass ⟨0, 0, 0, 0⟩)
def Ins (H : Hp) (a C : Addr) : Prop := ∃ dx fs, H a = some (.ins C dx fs)
section
variable {X : Cx} {C g : Addr} {n : Nat} {fd : FuncData} {ps : List Str} {sp : Sp} {pins : List (Addr × Obj)} {σ : L2.St} {H : Hp} {s : Shared} {a : Addr}
theorem ins_look (I : Inv X pins σ H s) (h : Ins H a C) : ∃ (ox od : Obj), PySem.W.InstAt s.heap a ox C (some od) := by
  obtain ⟨dx, fs, e⟩ := h
  obtain ⟨mA, O, _⟩ := ins_get I.hok e
  obtain ⟨od, J, _⟩ := O.look
  exact ⟨_, od, J⟩
theorem run_below {A : Around} {Q : VK} {us : List Value} {vs : List V} {E' : Value → Shared → Prop} (F : FnOk X.prog X.w X.K X.mg X.base CX0 n g fd ps sp) (hr : Room n A) (e0 : Env0 X.prog X.w X.K X.mg X.base A X.stack s H) (hb : Binds X.K fd ps [])
    (I : Inv X pins σ H s) (r : Vals vs us) (h : sp vs H Q E0) : wpAny (model X.prog X.w) A (call (.ref g) us) (EP X pins σ Q) E' s := by
  have hl : (us ++ []).length = ps.length := by
    rw [List.append_nil, ← r.length]
    exact F.len _ _ _ _ h
  have b := hb s us I.kIn hl
  rw [List.append_nil] at b
  refine wpAny_call (codeAny_mono (F.run A X.stack s H ⟨us, []⟩ us vs Q E0 hr e0 b r h) fun r s' hq => ?_)
  cases r with
  | error e => exact False.elim hq
  | ok fl =>
    cases fl with
    | ret u => exact I.after hq
    | next => exact False.elim hq
    | brk => exact False.elim hq
    | cont => exact False.elim hq
/-- x op y, both of the class -/
def rMine (C : Addr) (sp : Sp) : R2 := fun x y H Q => ∃ a b, x = .ref a ∧ y = .ref b ∧ Ins H a C ∧ Ins H b C ∧ sp [x, y] H Q E0
theorem op_mine {op : Operator} (hc : PySem.W.selfFirst X.K C = true) (hs : PySem.W.findIn X.K (.ref C) (PySem.dunder op.info.2) = some (some (.ref g))) (hf : PySem.W.isFn X.K (.ref g) = true) (F : FnOk X.prog X.w X.K X.mg X.base CX0 n g fd ps sp)
    (hr : Room n X.A) (hb : Binds X.K fd ps []) : OpR X (binaryOp op) (rMine C sp) := by
  intro pins s σ H x y v u Q I rx ry h
  obtain ⟨a, b, rfl, rfl, ha, hb', q⟩ := h
  cases (show v = Value.ref a from rx)
  cases (show u = Value.ref b from ry)
  obtain ⟨ox, od, J⟩ := ins_look I ha
  obtain ⟨oy, od', J'⟩ := ins_look I hb'
  obtain ⟨m, hF⟩ := I.fr
  refine PySem.W.binop_K hF I.ok.mod.kin J J'.type hc hs hf (wpAny_mono (run_below (us := [.ref a, .ref b]) (vs := [.ref a, .ref b]) F hr I.env0 hb I (.cons rfl (.cons rfl .nil)) q) (fun w s' z => ?_) fun _ _ x => x)
  obtain ⟨z', H', I', rz, qz⟩ := z
  exact SlX.cmpback rz ⟨z', H', I', rz, qz⟩
/-- x op i, i an int -/
def rMineI (C : Addr) (sp : Sp) : R2 := fun x y H Q => ∃ a i, x = .ref a ∧ y = .int i ∧ Ins H a C ∧ sp [x, y] H Q E0
theorem op_mineI {op : Operator} {fo ro rc : Option Value} (hc : PySem.W.selfFirst X.K C = true) (hs : PySem.W.findIn X.K (.ref C) (PySem.dunder op.info.2) = some (some (.ref g))) (hf : PySem.W.isFn X.K (.ref g) = true)
    (h1 : PySem.W.findIn X.K (.ref C) (dunderR op.info.2) = some none) (h2 : PySem.W.findIn X.K (.type "int") (PySem.dunder op.info.2) = some fo) (h3 : PySem.W.findIn X.K (.type "int") (dunderR op.info.2) = some ro)
    (h4 : PySem.W.subIn X.K (.type "int") (.ref C) = some false) (F : FnOk X.prog X.w X.K X.mg X.base CX0 n g fd ps sp)
    (hr : Room n X.A) (hb : Binds X.K fd ps []) : OpR X (binaryOp op) (rMineI C sp) := by
  intro pins s σ H x y v u Q I rx ry h
  obtain ⟨a, i, rfl, rfl, ha, q⟩ := h
  cases (show v = Value.ref a from rx)
  obtain ⟨t, e⟩ := (show ∃ t, u = Value.int i t from ry)
  cases e
  obtain ⟨ox, od, J⟩ := ins_look I ha
  obtain ⟨m, hF⟩ := I.fr
  refine PySem.W.ksp_binT (T := "int") hF I.ok.mod.kin J (by rfl) hc hs hf h1 (.inl rfl) h2 h3 h4 (wpAny_mono (run_below (us := [.ref a, .int i t]) (vs := [.ref a, .int i]) F hr I.env0 hb I (.cons rfl (.cons ⟨t, rfl⟩ .nil)) q) (fun w s' z => ?_) fun _ _ x => x)
  obtain ⟨z', H', I', rz, qz⟩ := z
  exact SlX.cmpback rz ⟨z', H', I', rz, qz⟩
/-- -x -/
theorem un_mine (hs : PySem.W.findIn X.K (.ref C) "__neg__" = some (some (.ref g))) (hf : PySem.W.isFn X.K (.ref g) = true) (F : FnOk X.prog X.w X.K X.mg X.base CX0 n g fd ps sp) (hr : Room n X.A) (hb : Binds X.K fd ps []) :
    UnR X (unaryOp .USub) (fun x H Q => ∃ a, x = .ref a ∧ Ins H a C ∧ sp [x] H Q E0) := by
  intro pins s σ H x v Q I rx h
  obtain ⟨a, rfl, ha, q⟩ := h
  cases (show v = Value.ref a from rx)
  obtain ⟨ox, od, J⟩ := ins_look I ha
  obtain ⟨m, hF⟩ := I.fr
  exact PySem.W.ksp_neg hF I.ok.mod.kin J hs hf (run_below (us := [.ref a]) (vs := [.ref a]) F hr I.env0 hb I (.cons rfl .nil) q)
/-- str(x) -/
theorem call_strMine (hs : PySem.W.findIn X.K (.ref C) "__str__" = some (some (.ref g))) (hf : PySem.W.isFn X.K (.ref g) = true) (F : FnOk X.prog X.w X.K X.mg X.base CX0 n g fd ps sp) (hr : Room (n + 2) X.A) (hb : Binds X.K fd ps []) :
    CallR X (.type "str") (fun xs H Q => ∃ a, xs = [.ref a] ∧ Ins H a C ∧ sp xs H (fun v H' => ∃ t, v = .str t ∧ Q v H') E0) := by
  intro pins s σ H xs us Q I r h
  obtain ⟨a, rfl, ha, q⟩ := h
  obtain ⟨u, rfl, ru⟩ := r.one
  cases (show u = Value.ref a from ru)
  obtain ⟨ox, od, J⟩ := ins_look I ha
  have hr2 : Room n X.A.in1.in1 := (show Room (n + 1) X.A.in1 from Room.in1 hr).in1
  refine PySem.W.kso_call hr2.units0 I.kIn J hs hf (wpAny_mono (run_below (us := [.ref a]) (vs := [.ref a]) F hr2 I.env0.in1.in1 hb I (.cons rfl .nil) q) (fun w s' z => ?_) fun _ _ x => x)
  obtain ⟨z', H', I', rz, t, et, qz⟩ := z
  subst et
  obtain ⟨tk, e⟩ := (show ∃ tk, w = Value.str t tk from rz)
  cases e
  exact ⟨.str t, H', I', ⟨tk, rfl⟩, qz⟩
/-- bool(x) -/
theorem call_boolMine (hs : PySem.W.findIn X.K (.ref C) "__bool__" = some (some (.ref g))) (hf : PySem.W.isFn X.K (.ref g) = true) (F : FnOk X.prog X.w X.K X.mg X.base CX0 n g fd ps sp) (hr : Room (n + 2) X.A) (hb : Binds X.K fd ps []) :
    CallR X (.type "bool") (fun xs H Q => ∃ a, xs = [.ref a] ∧ Ins H a C ∧ sp xs H (fun v H' => ∃ k, v = .bl k ∧ Q v H') E0) := by
  intro pins s σ H xs us Q I r h
  obtain ⟨a, rfl, ha, q⟩ := h
  obtain ⟨u, rfl, ru⟩ := r.one
  cases (show u = Value.ref a from ru)
  obtain ⟨ox, od, J⟩ := ins_look I ha
  have hr2 : Room n X.A.in1.in1 := (show Room (n + 1) X.A.in1 from Room.in1 hr).in1
  refine K03W.bool_own I.kIn J hs hf (wpAny_mono (run_below (us := [.ref a]) (vs := [.ref a]) F hr2 I.env0.in1.in1 hb I (.cons rfl .nil) q) (fun w s' z => ?_) fun _ _ x => x)
  obtain ⟨z', H', I', rz, k, ek, qz⟩ := z
  subst ek
  cases (show w = Value.bool k from rz)
  exact ⟨k, rfl, .bl k, H', I', rfl, qz⟩
/-- x == y, x of the class -/
def rEqMine (K : PySem.W.Frag) (C : Addr) (sp : Sp) : R2 := fun x y H Q => ∃ a t, x = .ref a ∧ Ins H a C ∧ TyX K H y t ∧ PySem.W.notFirst K C t = true ∧ sp [x, y] H Q E0
theorem op_eqMine (hs : PySem.W.findIn X.K (.ref C) "__eq__" = some (some (.ref g))) (hf : PySem.W.isFn X.K (.ref g) = true) (F : FnOk X.prog X.w X.K X.mg X.base CX0 n g fd ps sp) (hr : Room n X.A) (hb : Binds X.K fd ps []) :
    OpR X (compareOp .Eq) (rEqMine X.K C sp) := by
  intro pins s σ H x y v u Q I rx ry h
  obtain ⟨a, t, rfl, ha, ty, hn, q⟩ := h
  cases (show v = Value.ref a from rx)
  obtain ⟨ox, od, J⟩ := ins_look I ha
  obtain ⟨P, Z, hP, _⟩ := kit_of I ry ty
  obtain ⟨m, hF⟩ := I.fr
  show wpAny _ _ (richCompare .Eq (.ref a) u) _ _ _
  refine PySem.W.cmp_K (op := .Eq) hr.units0 hF I.ok.mod.kin J (Z.ty _ _ I.kIn hP) hn hs hf (wpAny_mono (run_below (us := [.ref a, u]) (vs := [.ref a, y]) F hr I.env0 hb I (.cons rfl (.cons ry .nil)) q) (fun w s' z => ?_) fun _ _ x => x)
  obtain ⟨z', H', I', rz, qz⟩ := z
  exact SlX.cmpback rz ⟨z', H', I', rz, qz⟩
/-- x != y, x of the class -/
def rNeMine (K : PySem.W.Frag) (C : Addr) (sp : Sp) : R2 := fun x y H Q => ∃ a t, x = .ref a ∧ Ins H a C ∧ TyX K H y t ∧ PySem.W.notFirst K C t = true ∧ sp [x, y] H (fun v H' => ∃ k, v = .bl k ∧ Q (.bl (!k)) H') E0
theorem op_neMine (hm : PySem.W.mroIn X.K C (.type "object") = some true) (hne : PySem.W.findIn X.K (.ref C) "__ne__" = some (some (.builtin "object.__ne__"))) (hs : PySem.W.findIn X.K (.ref C) "__eq__" = some (some (.ref g)))
    (hf : PySem.W.isFn X.K (.ref g) = true) (F : FnOk X.prog X.w X.K X.mg X.base CX0 n g fd ps sp) (hr : Room (n + 1) X.A) (hb : Binds X.K fd ps []) : OpR X (compareOp .NotEq) (rNeMine X.K C sp) := by
  intro pins s σ H x y v u Q I rx ry h
  obtain ⟨a, t, rfl, ha, ty, hn, q⟩ := h
  cases (show v = Value.ref a from rx)
  obtain ⟨ox, od, J⟩ := ins_look I ha
  obtain ⟨P, Z, hP, _⟩ := kit_of I ry ty
  show wpAny _ _ (richCompare .NotEq (.ref a) u) _ _ _
  refine K03W.ne_own hr.in1.units0 hr.units0 I.kIn J (Z.ty _ _ I.kIn hP) hn hm hne hs hf (wpAny_mono (run_below (us := [.ref a, u]) (vs := [.ref a, y]) F hr.in1 I.env0.in1 hb I (.cons rfl (.cons ry .nil)) q) (fun w s' z => ?_) fun _ _ x => x)
  obtain ⟨z', H', I', rz, k, ek, qz⟩ := z
  subst ek
  cases (show w = Value.bool k from rz)
  exact ⟨k, rfl, .bl (!k), H', I', rfl, qz⟩
end
end K03

/-! # try with several clauses, some of them with a name -/
namespace K03
open PySem PySem.Spec PyProof.Rows L2
theorem sp_map {X Y : Cx} {ps qs : List (Addr × Obj)} {D D' : Ends} {f : Flow} {s : Shared} (g : ∀ σ H, Inv X ps σ H s → ∃ τ, Inv Y qs τ H s ∧ (D.nx σ H → D'.nx τ H) ∧ (D.bk σ H → D'.bk τ H) ∧ (D.ct σ H → D'.ct τ H)) (gr : ∀ σ H v, Inv X ps σ H s → D.rt v H → (∃ τ, Inv Y qs τ H s) ∧ D'.rt v H)
    (h : SP X ps D f s) : SP Y qs D' f s := by
  cases f with
  | next => obtain ⟨σ, H, I, q⟩ := h; obtain ⟨τ, J, a, _, _⟩ := g σ H I; exact ⟨τ, H, J, a q⟩
  | brk => obtain ⟨σ, H, I, q⟩ := h; obtain ⟨τ, J, _, a, _⟩ := g σ H I; exact ⟨τ, H, J, a q⟩
  | cont => obtain ⟨σ, H, I, q⟩ := h; obtain ⟨τ, J, _, _, a⟩ := g σ H I; exact ⟨τ, H, J, a q⟩
  | ret u => obtain ⟨v, σ, H, I, r, q⟩ := h; obtain ⟨⟨τ, J⟩, a⟩ := gr σ H v I q; exact ⟨v, τ, H, J, r, a⟩
/-- what a clause wishes: the class, the name's slot where it has one, the suite -/
abbrev Cl := Value × Option Nat × (Addr → Value → Option Addr → TS)
def lose (o : Option Nat) (D : Ends) : Ends := match o with
  | none => D
  | some i => { nx := fun σ H => D.nx (σ.set i none) H, rt := D.rt, bk := fun σ H => D.bk (σ.set i none) H, ct := fun σ H => D.ct (σ.set i none) H }
def gain (o : Option Nat) (a : Addr) (σ : L2.St) : L2.St := match o with
  | none => σ
  | some i => σ.set i (some (.ref a))
def wMix (K : PySem.W.Frag) (W0 : WX) (D : Ends) : List Cl → WX
  | [] => W0
  | (c, o, ts) :: r => fun cls d σ H => ∃ b, PySem.W.exmOne K cls c = some b ∧ (b = true → ∀ a, H a = none → ts a cls d (lose o D) (gain o a σ) H) ∧ (b = false → wMix K W0 D r cls d σ H)
inductive Mix (X : Cx) : List ExceptHandler → List Cl → Prop
  | nil : Mix X [] []
  | plain {x : Str} {c : Value} {ts : Addr → Value → Option Addr → TS} {b : Stmt} {su : List Stmt} {p q : Pos} {hs : List ExceptHandler} {l : List Cl} (nm : Names X x c)
      (run : ∀ (a : Addr) (oe : Obj) (cls : Value) (d : Option Addr) (pn : List (Addr × Obj)), Zc cls d oe → (∃ vs, oe.data = .fields vs) → PSs (X.suite a ((a, oe) :: pn)) (b :: su) (ts a cls d)) (r : Mix X hs l) :
      Mix X (.ExceptHandler (some (.Name x p)) none (b :: su) q :: hs) ((c, none, ts) :: l)
  | named {x n : Str} {i : Nat} {c : Value} {ts : Addr → Value → Option Addr → TS} {b : Stmt} {su : List Stmt} {p q : Pos} {hs : List ExceptHandler} {l : List Cl} (at_ : X.N[i]? = some n) (lo : X.env.kindOf n = some .local) (nm : Names X x c)
      (run : ∀ (a : Addr) (oe : Obj) (cls : Value) (d : Option Addr) (pn : List (Addr × Obj)), Zc cls d oe → (∃ vs, oe.data = .fields vs) → PSs (X.suite a ((a, oe) :: pn)) (b :: su) (ts a cls d)) (r : Mix X hs l) :
      Mix X (.ExceptHandler (some (.Name x p)) (some n) (b :: su) q :: hs) ((c, some i, ts) :: l)
section
variable {X : Cx} {body : List Stmt} {h0 : ExceptHandler} {hs : List ExceptHandler} {l : List Cl} {pos : Pos} {tb : WX → TS} {W0 : WX}
theorem ps_try_mix (st : X.stack = X.env :: X.outer) (fr : X.env.frame = some X.env.locals) (nd : X.N.Nodup) (tk : Takes X W0)
    (bd : ∀ (W : WX) (pn : List (Addr × Obj)) (xe : Value → Shared → Prop), Takes (X.tr pn xe) W → PassesOwn (model X.prog X.w) X.A X.env xe → PSs (X.tr pn xe) body (tb W))
    (mx : Mix X (h0 :: hs) l) : PS X (.Try body (h0 :: hs) [] [] pos) (fun D σ H => tb (wMix X.K W0 D l) D σ H) := by
  refine ⟨fun pins s σ H D I h => wpAny_Try_except ?_⟩
  have ok := I.ok
  have frs_ : X.A.frames = some (X.env :: X.outer) := by rw [ok.frames, st]
  refine wpAny_mono ((bd (wMix X.K W0 D l) (X.pn ++ pins) (fun e s1 => wpAny (model X.prog X.w) X.A (noteFrame e X.env) (fun _ s2 => wpAny (model X.prog X.w) X.A (setFlight e none) (fun _ s3 =>
    wpAny (model X.prog X.w) X.A (handleBy e X.env (h0 :: hs)) (SP X pins D) X.xe s3) X.xe s2) X.xe s1) (fun u s' xx => ?_) PassesOwn.looking).run [] s σ H D (I.toTry _) h)
    (fun f s1 ends => ?_) (fun e s1 he => he)
  · obtain ⟨a, B, sI, pins', σ', H', cls, d, rfl, J', nb, up, sky, na, os, ag, w⟩ := xx
    have J : Inv X pins σ' H' sI := J'.ofTry ok
    rw [st] at sky
    refine Sky.land Zc.steady frs_ fr sky fun hA flA upA => ?_
    have JA : Inv X pins σ' H' { s' with heap := hA } := J.landed nb flA.1 (up.trans upA) os ag
    obtain ⟨oA, vA, eA, zA, dA⟩ := flA.there
    have off : a ∉ frs (X.env :: X.outer) := fun hm => by
      obtain ⟨_, o', e', no⟩ := (flA.2.2.1).mem hm
      rw [eA] at e'
      cases e'
      exact no _ dA
    have nL : a ≠ X.env.locals := fun z => off (List.mem_filterMap.mpr ⟨X.env, List.mem_cons_self, by rw [fr, z]⟩)
    have nF : a ∉ X.fs := fun hm => (List.mem_filterMap.mp hm).elim fun e he => off (List.mem_filterMap.mpr ⟨e, List.mem_cons_of_mem _ he.1, he.2⟩)
    have SA := JA.suite eA dA na nL nF
    have typ : PySem.W.Looks (model X.prog X.w) hA (typeOf (.ref a)) cls := fun _ _ _ _ k q => wpAny_typeOf_ref (k _ _ eA) (by rw [zA.1]; exact q)
    have asked : ∀ {x : Str} {c : Value} {p : Pos} {b : Bool} {Q : Bool → Shared → Prop} {E : Value → Shared → Prop}, Names X x c → PySem.W.exmOne X.K cls c = some b →
        Q b { s' with heap := hA } → wpAny (model X.prog X.w) (X.A.mark (some (.ref a))) (eval (.Name x p) X.env) (fun t s1 => wpAny (model X.prog X.w) (X.A.mark (some (.ref a))) (excMatches (.ref a) t) Q E s1) E { s' with heap := hA } := fun {x c p b Q E} nm eb q => by
      have LM := PySem.W.exm_one (M := model X.prog X.w) (JA.kIn) typ eb
      obtain ⟨hg, hdbg, hm | ⟨hm, hv, hnn⟩⟩ := nm
      · exact ld_glob (X := X.suite a ((a, oA) :: (X.pn ++ pins))) SA hg hm (LM.here q) hdbg
      · exact ld_blt (X := X.suite a ((a, oA) :: (X.pn ++ pins))) SA hg hm hv (LM.here q) hnn hdbg
    have go : ∀ {hs' : List ExceptHandler} {l' : List Cl}, Mix X hs' l' → wMix X.K W0 D l' cls d σ' H' → wpAny (model X.prog X.w) X.A (handleBy (.ref a) X.env hs') (SP X pins D) X.xe { s' with heap := hA } := by
      intro hs' l' hk
      induction hk with
      | nil =>
        intro w
        obtain ⟨k1, k2, k3, oe, vs, T, oT, ts', he, hz, hd, e1, hr⟩ := id flA
        refine wpAny_handleBy_nil ?_
        unfold PySem.passOn
        refine wpAny_bind (wpAny_field he hd e1 ?_)
        rw [if_neg (by simp)]
        have fin : wpAny (model X.prog X.w) X.A (setFlight (.ref a) X.env.frame) (fun _ s4 => wpAny (model X.prog X.w) X.A (throw (.ref a) : Sem Flow) (SP X pins D) X.xe s4) X.xe { s' with heap := hA } := by
          rw [fr]
          exact HandSPX.setFlight_upZ flA fun hB hhB upB => wpAny_throw (tk _ _ ⟨a, B, sI, pins, σ', H', cls, d, rfl, J, nb, (up.trans upA).trans upB, .inr (.inr (by rw [st]; exact hhB)), na, os, ag, w⟩)
        first | exact wpAny_bind fin | exact wpAny_bind (wpAny_pure (wpAny_bind fin))
      | @plain x c ts b su p q hs2 l2 nm run r ih =>
        intro w
        obtain ⟨k, ek, yes, no⟩ := w
        refine wpAny_handleBy_cons (codeAny_handlers_test (asked nm ek ?_)) (by intro q; cases q)
        cases k with
        | false => exact ih (no rfl)
        | true =>
          refine codeAny_handlers_suite (HandSPX.lands_againZ flA fun hB flB upB => ?_)
          have JB : Inv X pins σ' H' { s' with heap := hB } := J.landed nb flB.1 ((up.trans upA).trans upB) os ag
          obtain ⟨oB, vB, eB, zB, dB⟩ := flB.there
          refine wpAny_mono ((run a oB cls d (X.pn ++ pins) zB ⟨_, dB⟩).run [] _ _ H' _ (JB.suite eB dB na nL nF) (yes rfl a na)) (fun f s6 e6 => ?_) (fun _ _ z => False.elim z)
          have z := sp_map (Y := X) (qs := pins) (D' := D) (fun σ H I => ⟨σ, I.unsuite ok, id, id, id⟩) (fun σ H v I q => ⟨⟨σ, I.unsuite ok⟩, q⟩) e6
          cases f <;> exact z
      | @named x n i c ts b su p q hs2 l2 at_ lo nm run r ih =>
        intro w
        obtain ⟨k, ek, yes, no⟩ := w
        refine wpAny_handleBy_cons (codeAny_handlers_test (asked nm ek ?_)) (by intro q; cases q)
        cases k with
        | false => exact ih (no rfl)
        | true =>
          refine codeAny_handlers_suite_as (HandSPX.lands_againZ flA fun hB flB upB => ?_)
          have JB : Inv X pins σ' H' { s' with heap := hB } := J.landed nb flB.1 ((up.trans upA).trans upB) os ag
          obtain ⟨oB, vB, eB, zB, dB⟩ := flB.there
          refine store_ok (X := X.suite a ((a, oB) :: (X.pn ++ pins))) (v := .ref a) (JB.suite eB dB na nL nF) nd at_ (.inl lo) rfl (fun s5 S5 => ?_) (.inr lo)
          refine wpAny_mono ((run a oB cls d (X.pn ++ pins) zB ⟨_, dB⟩).run [] s5 _ H' _ S5 (yes rfl a na)) (fun f s6 e6 => ?_) (fun _ _ z => False.elim z)
          have done : ∀ {σ6 : L2.St} {H6 : Hp} {Q : Shared → Prop}, Inv (X.suite a ((a, oB) :: (X.pn ++ pins))) [] σ6 H6 s6 → (∀ s7, Inv X pins (σ6.set i none) H6 s7 → Q s7) →
              wpAny (model X.prog X.w) X.A (do bindName X.env n .none; unbindBehindTheSuite X.env n q) (fun _ s7 => Q s7) X.xe s6 := fun {σ6 H6 Q} S6 hq => gone_ok (S6.unsuite ok) nd at_ lo hq
          cases f with
          | next => obtain ⟨τ, G, S6, q6⟩ := e6; exact done S6 fun s7 J7 => ⟨_, _, J7, q6⟩
          | brk => obtain ⟨τ, G, S6, q6⟩ := e6; exact done S6 fun s7 J7 => ⟨_, _, J7, q6⟩
          | cont => obtain ⟨τ, G, S6, q6⟩ := e6; exact done S6 fun s7 J7 => ⟨_, _, J7, q6⟩
          | ret u => obtain ⟨v6, τ, G, S6, r6, q6⟩ := e6; exact done S6 fun s7 J7 => ⟨_, _, _, J7, r6, q6⟩
    exact go mx w
  · have z := sp_map (Y := X) (qs := pins) (D' := D) (fun σ H I => ⟨σ, I.ofTry ok, id, id, id⟩) (fun σ H v I q => ⟨⟨σ, I.ofTry ok⟩, q⟩) ends
    cases f with
    | next => exact wpAny_execs_nil z
    | brk => exact z
    | cont => exact z
    | ret u => exact z
end
end K03

namespace PySem
namespace NumX
open PySem.W PySem.Calls PyProof.Rows PySem.HandSPX
abbrev tailIE : List Value := [.type "IndexError", .type "LookupError", .type "Exception", .type "BaseException", .type "object"]
/-! ### the text of __init__ -/
def iA (p1 p2 : Pos) : Arguments := { posonlyargs := [], args := [{ arg := "self", annotation := none, pos := p1 }, { arg := "given", annotation := none, pos := p2 }], vararg := none, kwonlyargs := [], kw_defaults := [], kwarg := none, defaults := [] }
def iB (q1 q2 q3 q4 : Pos) : List Stmt := [.Assign [.Attribute (.Name "self" q1) "given" q2] (.Name "given" q3) q4]
def iS : Scope := { kind := .function, names := [(PySem.Str.ofString "self", .local), (PySem.Str.ofString "given", .local)], isGenerator := false, isCoroutine := false, more := [] }
/-- what the written part says of Low, at C, and of its __init__, at fI -/
structure NumTxt (K : Frag) (mg : Str → Option Value) (C fI : Addr) : Prop where
  gC : mg "InvalidNumber" = some (.ref C)
  cls : ∃ nm q N bs bm sn sub ab col dd k0 k1 k2 k3 k5, K.lookup C = some (excClassObj nm q C N bs bm true sn sub ab col dd k0 k1 k2 k3 k5 "IndexError.__new__") ∧ PySem.W.excTail tailIE bm = true
  over : excOver K C tailIE = true
  tk : takerIn K C "given" = some none
  sa : findIn K (.ref C) "__setattr__" = some (some (.builtin "object.__setattr__"))
  ga : findIn K (.ref C) "__getattribute__" = some (some (.builtin "BaseException.__getattribute__"))
  gg : findIn K (.ref C) "__getattr__" = some none
  noN : findIn K (.ref C) "given" = some none
  iC : findIn K (.ref C) "__init__" = some (some (.ref fI))
  tC : typeIn K (.ref fI) = some (.type "function")
  kC : keepIn K (.ref C) = true
  exC : subIn K (.ref C) (.type "BaseException") = some true
  tyC : typeIn K (.ref C) = some (.type "type")
  hdC : hasDictIn K C = true
  te : exmOne K (.ref C) (.ref C) = some true
  fn : ∃ (oc : Value) (od : Option Addr) (doc pm : Value) (an : Option Addr) (cdv ct : Value) (osl : Array (Option Value)) (p1 p2 q1 q2 q3 q4 : Pos),
    K.lookup fI = some ⟨oc, od, .func (fnOf "__init__" "InvalidNumber.__init__" (iA p1 p2) (iB q1 q2 q3 q4) iS .none .none doc pm an cdv ct), osl⟩ ∧ codeIn K cdv "InvalidNumber.__init__" = true
section
open Builtin Builtin.ObjectAttr
variable {prog : Program} {w : World} {A : Around} {E : Value → Shared → Prop} {R : Result → Shared → Prop} {hp : Heap} {g : Array GenState} {d : Drawn} {t : Nat} {os : OsState}
/-- the first field of an exception over IndexError is stored: its dict is made -/
theorem num_osa {K : Frag} {nam : Str} {tok : Tok} {u : Value} {ex C t0 : Addr} {cdt : ClassData} (X : K.In hp) (he : hp.get? ex = some (excO C t0)) (hcl : clsIn K C = some cdt) (hdi : cdt.hasDict = true) (hov : excOver K C tailIE = true) (htk : takerIn K C nam = some none)
    (go : ∀ h' tk' dx, (∀ b o, b ≠ ex → hp.get? b = some o → h'.get? b = some o) → hp.objs.size ≤ dx → dx ≠ ex → h'.get? ex = some { cls := .ref C, dict := some dx, data := .fields #[.ref t0, .none, .none, .none, .bool false, .none] } →
      h'.Ns1 dx (fun y => if y = nam then some u else none) → R (.ok (.ret .none)) ⟨h', g, d, tk', os⟩) :
    codeAny (model prog w) A (.call (.builtin "object.__setattr__") ⟨[.ref ex, .str nam tok, u], []⟩) R ⟨hp, g, d, t, os⟩ := by
  have J : InstAt hp ex (excO C t0) C none := ⟨he, rfl, rfl, trivial⟩
  have away : ex ≠ hp.objs.size := Nat.ne_of_lt (Heap.lt_size he)
  have look : Looks (model prog w) hp (classData C) cdt := looks_clsIn X hcl
  refine osa_openX F.store_IndexError X J hov htk (fun b => ?_)
  show wpAny _ _ (storeInOwnDict (.ref ex) (.ref C) (.str nam tok) nam u b) _ _ _
  obtain ⟨c1, c2, c3, c4, c5, c6, c7, c8, c9, c10, c11⟩ := cdt
  dsimp only at hdi
  subst hdi
  unfold storeInOwnDict ownDictForStores
  repeat (first | with_reducible refine store_in_new ?_ ?_ | with_reducible refine wpAny_loadPart_at he ?_ | with_reducible refine look.at ?_ | wp_step)
  · exact ⟨_, #[], _, (Heap.get?_update_ne _ _ _ _ away.symm).trans (Heap.get?_push_at rfl rfl), rfl, fun z hz => absurd hz (by simp), fun _ => rfl⟩
  · intro h' tk' hn' same
    have he1 : (hp.push { cls := .type "dict", data := .dict #[] }).get? ex = some (excO C t0) := Heap.get?_push_of_some _ he
    refine go h' tk' hp.objs.size (fun b o hb ho => ?_) (Nat.le_refl _) away.symm ?_ hn'
    · have y := same.2 b (Nat.ne_of_lt (Heap.lt_size ho))
      exact y.trans ((Heap.get?_update_ne _ _ _ _ hb).trans (Heap.get?_push_of_some _ ho))
    · exact (same.2 ex away).trans (Heap.get?_update_self _ he1 rfl)
end
theorem one_size (v : Value) : [v].length ≤ sizeLine := by
  rw [sizeLine_eq]
  exact (by decide : 1 ≤ 16777216)
theorem kept_but {K : Frag} {h h' : Heap} {x : Addr} (X : K.In h) (hx : K.lookup x = none) (k : ∀ b o, b ≠ x → h.get? b = some o → h'.get? b = some o) : K.In h' := fun a o e =>
  k a o (fun z => by rw [z, hx] at e; cases e) (X a o e)
theorem ldC {M : Model} {s : Shared} {name : Str} {scope : Scope} {L a : Addr} {cd : Value} {m : Str → Option Value} {x : Str} {pos : Pos} {v : Value} {Q : Value → Shared → Prop} {A : Around} {E : Value → Shared → Prop} (hn : s.heap.Ns L m) (hv : m x = some v) (h : Q v s)
    (hk : scope.kind = .function := by rfl) (hl : (envOfC name scope L a cd).kindOf x = some .local := by rfl) (hd : (x == ("__debug__" : Str)) = false := by decide) :
    wpAny M A (eval (.Name x pos) (envOfC name scope L a cd)) Q E s := wpAny_Name (wpAny_loadName_local hk hl hn hv h) hd
/-- what __init__ leaves of a fresh exception at x -/
structure InitEnd (h h' : Heap) (x C dx t1 : Addr) (v : Value) : Prop where
  keep : ∀ b o, b ≠ x → h.get? b = some o → h'.get? b = some o
  obj : h'.get? x = some { cls := .ref C, dict := some dx, data := .fields #[.ref t1, .none, .none, .none, .bool false, .none] }
  dbig : h.objs.size ≤ dx
  dne : dx ≠ x
  ns : h'.Ns1 dx (fun y => if y = "given" then some v else none)
/-- a made Low -/
structure OwnMade (h h' : Heap) (e C d : Addr) (v : Value) : Prop where
  keep : ∀ b o, h.get? b = some o → h'.get? b = some o
  new : h.objs.size ≤ e
  obj : ∃ oe vs, h'.get? e = some oe ∧ oe.cls = .ref C ∧ oe.dict = some d ∧ oe.data = .fields vs ∧ vs[1]? = some .none
  dbig : h.objs.size ≤ d
  dne : d ≠ e
  ns : h'.Ns1 d (fun y => if y = "given" then some v else none)
section
variable {prog : Program} {w : World} {A : Around} {E : Value → Shared → Prop} {R : Result → Shared → Prop} {s : Shared} {K : Frag} {mg : Str → Option Value} {C fI : Addr}
theorem num_init (T : NumTxt K mg C fI) {x t0 : Addr} {v : Value} (X : K.In s.heap) (hlim : s.heap.NoLimit) (hx : s.heap.get? x = some (excO C t0)) (hnx : K.lookup x = none) (hroom : A.depth < recursionLimit)
    (hq : ∀ h' tk dx, InitEnd s.heap h' x C dx t0 v → R (.ok (.ret .none)) { s with heap := h', toks := tk }) :
    codeAny (model prog w) A (.call (.ref fI) ⟨[.ref x, v], []⟩) R s := by
  obtain ⟨oc, od, doc, pm, an, cdv, ct, osl, p1, p2, q1, q2, q3, q4, ho, hcd⟩ := T.fn
  obtain ⟨nm, q, N, bs, bm, sn, sub, ab, col, dd, k0, k1, k2, k3, k5, hC, hbm⟩ := T.cls
  have hcl : clsIn K C = some { name := nm, bases := bs, mro := .ref C :: bm, ns := N, qualname := q, hasDict := true, slotNames := sn, subclasses := sub, abstract := ab, collection := col, hasDel := false } := by unfold clsIn; rw [hC] <;> rfl
  refine Att.call_fn (binds := [("self", .ref x), ("given", v)]) X hlim ho hcd hroom (BindsTo.of_eq (by first | rfl | with_unfolding_all rfl)) (by first | rfl | decide | with_unfolding_all rfl) (fun s₁ IC => ?_) rfl rfl rfl
  obtain ⟨h₁, tk₁, rfl⟩ := IC.toInCall.same
  have k : ∀ b o, s.heap.get? b = some o → h₁.get? b = some o := IC.toInCall.keep
  have hn := IC.toInCall.ns
  have hxL : s.heap.objs.size ≠ x := Nat.ne_of_gt (Heap.lt_size hx)
  have X₁ : K.In h₁ := X.keeps k
  have hx₁ := k _ _ hx
  -- self.by = by
  show wpAny _ _ (execs _ _) _ _ _
  refine wpAny_execs_cons (plainObj_wpAny_Assign_Attribute ?_)
  refine ldC (v := v) hn (by first | rfl | with_unfolding_all rfl | kernel_rfl) (ldC (v := .ref x) hn (by first | rfl | with_unfolding_all rfl | kernel_rfl) ?_)
  refine set_plain X₁ (ox := excO C t0) (od := none) ⟨hx₁, rfl, rfl, trivial⟩ T.sa ?_
  refine num_osa X₁ hx₁ hcl rfl T.over T.tk (fun h₃ tk₃ dx k₃ dn dne hx₃ hn₃ => ?_)
  show wpAny _ _ (execs _ _) _ _ _
  have z : s.heap.objs.size < h₁.objs.size := hn.lt
  exact wpAny_execs_nil (hq h₃ tk₃ dx ⟨fun b o hb e => k₃ b o hb (k b o e), hx₃, Nat.le_of_lt (Nat.lt_of_lt_of_le z dn), dne, hn₃⟩)
theorem num_made (T : NumTxt K mg C fI) {v : Value} (X : K.In s.heap) (hlim : s.heap.NoLimit) (hroom : A.depth + 1 < recursionLimit)
    (hq : ∀ h' tk e d, OwnMade s.heap h' e C d v → R (.ok (.ret (.ref e))) { s with heap := h', toks := tk }) :
    codeAny (model prog w) A (.call (.ref C) ⟨[v], []⟩) R s := by
  obtain ⟨nm, q, N, bs, bm, sn, sub, ab, col, dd, k0, k1, k2, k3, k5, hC, hbm⟩ := T.cls
  obtain ⟨hp, g, dr, tk, os⟩ := s
  have k : ∀ b o, hp.get? b = some o → ((hp.push (kdv_tup [v])).push (excO C hp.objs.size)).get? b = some o := fun b o e => Heap.get?_push_of_some _ (Heap.get?_push_of_some _ e)
  have hget : ((hp.push (kdv_tup [v])).push (excO C hp.objs.size)).get? (hp.objs.size + 1) = some (excO C hp.objs.size) := by heap_get
  have hnx : K.lookup (hp.objs.size + 1) = none := by
    cases e : K.lookup (hp.objs.size + 1) with
    | none => rfl
    | some o =>
      have z : hp.get? (hp.objs.size + 1) = some o := X _ _ e
      exact absurd (Nat.lt_of_succ_lt (Heap.lt_size z)) (Nat.lt_irrefl _)
  refine call_own F.excBase_IndexError (fun X => PySem.W.excTail_contains X bm hbm) (X _ _ hC) (looks_findIn X T.iC) (fun self => bind_fn X self T.tC) (one_size v) ?_
  refine num_init (s := ⟨(hp.push (kdv_tup [v])).push (excO C hp.objs.size), g, dr, tk, os⟩) T (X.keeps k) (hlim.keeps k) hget hnx ?_ fun h' tk' dx ⟨k', hx, dn, dne, hns⟩ => ?_
  · show A.depth + 1 < recursionLimit
    exact hroom
  · have old : ∀ b o, hp.get? b = some o → h'.get? b = some o := fun b o e => k' b o (Nat.ne_of_lt (Nat.lt_succ_of_lt (Heap.lt_size e))) (k b o e)
    have z : hp.objs.size + 1 + 1 ≤ dx := by
      first
        | (simpa only [Heap.size_push] using dn)
        | exact dn
        | (have q := dn; rw [Heap.size_push, Heap.size_push] at q; exact q)
    exact ⟨rfl, hq h' tk' (hp.objs.size + 1) dx ⟨old, Nat.le_succ _, ⟨_, _, hx, rfl, rfl, rfl, rfl⟩, Nat.le_trans (Nat.le_trans (Nat.le_succ _) (Nat.le_succ _)) z, dne, hns⟩⟩
end
end NumX
end PySem
namespace L2
open PySem PySem.Spec PyProof.Rows
theorem relO_num {v : V} {v' : Value} (r : RelV v v') (f : Str) : RelO (List.lookup f [(("given" : Str), v)]) (if f = "given" then some v' else none) := by
  by_cases hw : f = "given"
  · subst hw
    rw [if_pos rfl]
    have q : List.lookup ("given" : Str) [(("given" : Str), v)] = some v := by simp [List.lookup]
    rw [q]
    exact r
  · rw [if_neg hw]
    have qw : (f == ("given" : Str)) = false := by simpa using hw
    have q2 : List.lookup f [(("given" : Str), v)] = none := by simp [List.lookup, qw]
    rw [q2]
    trivial
section
variable {X : Cx} {C fI : Addr}
/-- Low(e) -/
def tMkNum (C : Addr) (ta : TA) : St → Hp → XK → Prop := fun σ H Q => ta σ H fun vs H1 => ∃ v, vs = [v] ∧ ∀ d, H1 d = none → Q (.ref C) (some d) (upd H1 d (.xd [(("given" : Str), v)]))
theorem pmk_num {a : Expr} {ta : TA} {p pos : Pos} {k : Nat} (T : PySem.NumX.NumTxt X.K X.mg C fI) (hr : Room k X.A) (ha : PA X [a] ta) (hg : Gl X "InvalidNumber" := by rfl)
    (he : starEach (a :: []) X.env = (false, eval a X.env) :: starEach [] X.env := by rfl) (hpl : (backTo pos (starEach [] X.env)).any (·.1) = false := by rfl) :
    PMk X (.Call (.Name "InvalidNumber" p) [a] [] pos) (tMkNum C ta) := by
  intro pins s σ H Q I h
  refine wpAny_Call_Name_kw (ld_glob I hg T.gC ?_)
  refine PySem.W.callWith_K (h₀ := X.base) I.ok.mod.kin T.kC (thn (ha.run pos pins s σ H _ I h) fun us s1 hh => ?_) he hpl
  obtain ⟨vs, H1, I1, r1, v, ev, q1⟩ := hh
  subst ev
  refine ⟨I1.kIn, ?_⟩
  cases r1 with
  | cons rv rn =>
    rename_i v' us'
    cases rn
    show wpAny _ _ (call (.ref C) [v']) _ _ _
    have hlim := I1.nolimit
    obtain ⟨hp, g, dr, tk, os⟩ := s1
    refine wpAny_call (PySem.NumX.num_made T I1.kIn hlim (by have := hr.dp; omega) fun h' tk' e d M => ?_)
    show MkP X pins σ Q (.ref e) ⟨h', g, dr, tk', os⟩
    obtain ⟨oe, fv, hoe, hc, hd, hdat, h1⟩ := M.obj
    have hns := M.ns
    obtain ⟨G', g1, g2⟩ := restrict h' fun b => decide (b ≠ e)
    have gk : ∀ b, b ≠ e → G'.get? b = h'.get? b := fun b hb => g1 b (decide_eq_true hb)
    have ge : G'.get? e = none := g2 e (by simp)
    have old : ∀ b o, hp.get? b = some o → G'.get? b = some o := fun b o q => (gk b (Nat.ne_of_lt (Nat.lt_of_lt_of_le (Heap.lt_size q) M.new))).trans (M.keep b o q)
    have ob : ObjOk X.prog X.w (upd H1 d (.xd [(("given" : Str), v)])) G' d (.xd [(("given" : Str), v)]) :=
      ⟨_, hns.at (fun o q => (gk d M.dne).trans q), fun f => relO_num rv f⟩
    have J : Inv X pins σ (upd H1 d (.xd [(("given" : Str), v)])) ⟨G', g, dr, tk', os⟩ := I1.laid (t' := tk') old M.dbig ob
    refine ⟨e, oe, fv, ⟨G', g, dr, tk', os⟩, _, .ref C, some d, rfl, J, fun b o q => ?_, ge, hoe, ⟨hc, hd⟩, hdat, h1, ?_, rfl, I1.bare, raises_own T.exC T.tyC, q1 d (I1.hok.fresh M.dbig)⟩
    · by_cases hb : b = e
      · have q' : G'.get? b = some o := q
        rw [hb, ge] at q'; cases q'
      · exact (gk b hb).symm.trans q
    · rw [upd_ne (Ne.symm M.dne)]
      exact I1.hok.fresh M.new
/-- raise Low(e) -/
def tRaiseNum (C : Addr) (W : WX) (ta : TA) : TS := fun _ σ H => tMkNum C ta σ H fun cls d H' => W cls d σ H'
theorem ps_raiseNum {a : Expr} {ta : TA} {W : WX} {p pos pos2 : Pos} {k : Nat} (hc : X.calm = true) (T : PySem.NumX.NumTxt X.K X.mg C fI) (hr : Room k X.A) (tk : Takes X W) (ha : PA X [a] ta) (hg : Gl X "InvalidNumber" := by rfl)
    (he : starEach (a :: []) X.env = (false, eval a X.env) :: starEach [] X.env := by rfl) (hpl : (backTo pos (starEach [] X.env)).any (·.1) = false := by rfl) :
    PS X (.Raise (some (.Call (.Name "InvalidNumber" p) [a] [] pos)) none pos2) (tRaiseNum C W ta) := ps_raise hc tk (pmk_num T hr ha hg he hpl)
/-- low.by, low the exception that the suite holds (at a; its class cls, its dict d) -/
def tGiven (C : Addr) (a : Addr) (cls : Value) (d : Option Addr) (te : TE) : TE := fun σ H Q => te σ H fun x H1 => x = .ref a ∧ cls = .ref C ∧ ∃ (dd : Addr) (v : V), d = some dd ∧ H1 dd = some (.xd [(("given" : Str), v)]) ∧ Q v H1
theorem pe_given {a : Addr} {oe : Obj} {cls : Value} {d : Option Addr} {pn : List (Addr × Obj)} {e : Expr} {te : TE} {pos : Pos} (T : PySem.NumX.NumTxt X.K X.mg C fI) (hz : Zc cls d oe) (hf : ∃ vs, oe.data = .fields vs) (he : PE (X.suite a ((a, oe) :: pn)) e te)
    (hb : attributeBase e "given" X.env (eval e X.env) = eval e X.env := by rfl) :
    PE (X.suite a ((a, oe) :: pn)) (.Attribute e "given" pos) (tGiven C a cls d te) := by
  refine ⟨fun pins s σ H Q I h => ?_⟩
  refine attr_of hb (thn (he.run pins s σ H _ I h) fun u s1 hh => ?_)
  obtain ⟨x, H1, I1, rx, ex, ec, dd, v, ed, ea, q⟩ := hh
  subst ex
  obtain rfl : u = Value.ref a := rx
  subst ec
  subst ed
  obtain ⟨ha, _⟩ := I1.pin (a, oe) (List.mem_append_left _ List.mem_cons_self)
  obtain ⟨vs, hd⟩ := hf
  have hx : ObjOk X.prog X.w H1 s1.heap dd (.xd [(("given" : Str), v)]) := I1.hok dd _ ea
  obtain ⟨mA, hns, hr⟩ := hx
  obtain ⟨od, ho, hl⟩ := lookIn_ns hns
  have l : List.lookup ("given" : Str) [(("given" : Str), v)] = some v := by simp [List.lookup]
  obtain ⟨u, hu, ru⟩ := RelO.some_of (v := v) (o := mA "given") (by rw [← l]; exact hr "given")
  have J : PySem.W.InstAt s1.heap a oe C (some od) := ⟨ha, hz.1, by unfold PySem.W.notCls; rw [hd] <;> rfl, by rw [hz.2]; exact ho⟩
  exact HandSPX.exc_get I1.kIn J T.ga T.gg T.exC (PySem.W.findObj_own T.hdC T.noN rfl (by rw [hl, hu])) (handed_of ru) ⟨v, H1, I1.tok _, ru, q⟩
end
end L2

namespace K03
open PySem PySem.Spec PyProof.Rows L2
/-! ### rules of my own -/
/-- ** of a base of any size, the result below 2 ^ 27 bits -/
def CPowW (i j : Int) : Prop := 0 ≤ j ∧ (Builtin.Int.intBits i : Int) * j ≤ 2 ^ 27
theorem op_powW {X : Cx} : OpR X (binaryOp .Pow) (rI CPowW fun i j => .int (i ^ j.toNat)) := opI fun _ _ _ _ _ _ _ hc q => pow_int hc.1 hc.2 q
theorem sub_same {H : Hp} {p : Addr} {o : HO} (h : H p = none) : Same H (upd H p o) := fun b x e => by
  rw [upd_ne (ne_of_none e h)]
  exact e
/-- all but one address as before -/
def But (a : Addr) (H H' : Hp) : Prop := ∀ b, b ≠ a → H' b = H b
theorem But.refl (a : Addr) (H : Hp) : But a H H := fun _ _ => rfl
theorem But.trans {a : Addr} {H H1 H2 : Hp} (x : But a H H1) (y : But a H1 H2) : But a H H2 := fun b hb => (y b hb).trans (x b hb)
theorem but_upd (a : Addr) (H : Hp) (o : HO) : But a H (upd H a o) := fun b hb => upd_ne hb
/-! ### the urn: a list of three ints -/
def Urn (H : Hp) (a : Addr) : Prop := ∃ g m c : Int, H a = some (.lst [.int g, .int m, .int c])
theorem Urn.seq {K : PySem.W.Frag} {H : Hp} {a : Addr} {xs : List V} (h : H a = some (.lst xs)) : SqL K H a xs := .inl (.inl h)
abbrev s_law_take : Stmt := topS 21
theorem sc_law_take : FnScope ["_law_urn_here", "_law_total", "_law_found", "_law_one", "_law_two"] ["_law_urn_here", "_law_total"] (defScope s_law_take) := ⟨rfl, rfl, rfl, by decide +kernel, rfl, by decide +kernel, by decide +kernel⟩
abbrev s_law_some : Stmt := topS 22
theorem sc_law_some : FnScope ["_law_urn_here", "_law_items"] ["_law_urn_here", "_law_items"] (defScope s_law_some) := ⟨rfl, rfl, rfl, by decide +kernel, rfl, by decide +kernel, by decide +kernel⟩
section
variable {P : Program} {w : World} {K : PySem.W.Frag} {mg : Str → Option Value} {base : Heap}
structure Txt (mg : Str → Option Value) : Prop where
  n_len : mg "len" = none
  n_abs : mg "abs" = none
  n_int : mg "int" = none
  n_bool : mg "bool" = none
  n_max : mg "max" = none
  n_min : mg "min" = none
  n_sum : mg "sum" = none
  n_tuple : mg "tuple" = none
  n_range : mg "range" = none
  n_repr : mg "repr" = none
  n_isinstance : mg "isinstance" = none
  n_reversed : mg "reversed" = none
structure D (K : PySem.W.Frag) (mg : Str → Option Value) (x : Str) (st : Stmt) (ps : List Str) (f : Addr) (fd : FuncData) : Prop where
  F : Fun K x x st f fd
  g : mg x = some (.ref f)
  b : Binds K fd ps []
/-- a drawn number below the total -/
def spTake : Sp := fun vs H Q _ => ∃ (a : Addr) (t : Int), vs = [.ref a, .int t] ∧ Urn H a ∧ 0 < t ∧ t.natAbs.log2 < 9000 ∧
  ∀ (v : Int) (H' : Hp), 0 ≤ v → v < t → Urn H' a → But a H H' → Q (.int v) H'
theorem ok_take {f : Addr} {fd : FuncData} {k : Nat} (T : Txt mg) (d : D K mg "_law_take" s_law_take ["_law_urn_here", "_law_total"] f fd) :
    FnOk P w K mg base CX0 (k + 1) f fd ["_law_urn_here", "_law_total"] spTake := by
  refine d.F.ok sc_law_take (fun vs H Q E h => ?_) (fun cdv A outer s H vs Q E hr h => ?_)
  · obtain ⟨a, t, rfl, _⟩ := h
    rfl
  · obtain ⟨a, t, rfl, ⟨g, m, c, hu⟩, ht, hl, q⟩ := h
    refine ⟨_, (pss_cons (ps_if (pt_cmpR op_gt (pe_ix ix_list (pv 0) pe_int (fun _ _ => rfl)) pe_int (nomark _)) (pss_cons (ps_set (i := 2) sc_law_take.nd rfl (.inl rfl) (pe_op op_mod (pe_callTy call_int1 (by rfl) T.n_int (by decide +kernel) (pa_cons (pe_ix ix_list (pv 0) pe_int (fun _ _ => rfl)) pa_nil)) (pv 1)))
        (pss_cons (ps_asg (pe_op op_fdivW (pe_ix ix_list (pv 0) pe_int (fun _ _ => rfl)) (pv 1)) (pg_sub (pv 0) pe_int set_list))
        (pss_one (ps_ret (pv 2))))) pss_nil)
      (pss_cons (ps_asg (pe_op op_add (pe_ix ix_list (pv 0) pe_int (fun _ _ => rfl)) pe_int) (pg_sub (pv 0) pe_int set_list))
      (pss_cons (ps_set (i := 3) sc_law_take.nd rfl (.inl rfl) (pe_op op_mod (pe_callTy call_int1 (by rfl) T.n_int (by decide +kernel) (pa_cons (pe_op op_add (pe_ix ix_list (pv 0) pe_int (fun _ _ => rfl)) (pe_op op_mul pe_int (pe_ix ix_list (pv 0) pe_int (fun _ _ => rfl)))) pa_nil)) pe_int))
      (pss_cons (ps_set (i := 4) sc_law_take.nd rfl (.inl rfl) (pe_op op_mod (pe_callTy call_int1 (by rfl) T.n_int (by decide +kernel) (pa_cons (pe_op op_add (pe_op op_mul (pv 3) (pv 3)) (pe_op op_mul pe_int (pe_ix ix_list (pv 0) pe_int (fun _ _ => rfl)))) pa_nil)) pe_int))
      (pss_one (ps_ret (pe_op op_mod (pe_callTy call_int1 (by rfl) T.n_int (by decide +kernel) (pa_cons (pe_op op_fdivW (pe_op op_mod (pe_callTy call_int1 (by rfl) T.n_int (by decide +kernel) (pa_cons (pe_op op_add (pe_op op_mul (pv 4) pe_int) (pv 3)) pa_nil)) pe_int) pe_int) pa_nil)) (pv 1)))))))), ?_⟩
    have A0 : ∀ {xs : List V} {v : V} {i : Int}, xs = [.int g, .int m, .int c] → atI xs i = some v → True := fun _ _ => trivial
    -- if urn[0] > 0
    refine ⟨.ref a, rfl, a, _, 0, .int g, rfl, rfl, Urn.seq hu, atI_nat (j := 0) rfl, g, 0, rfl, rfl, _, rfl, ite2 (fun e => ?_) (fun e => ?_)⟩
    · refine ⟨.ref a, rfl, ⟨a, _, 0, .int g, rfl, rfl, Urn.seq hu, atI_nat (j := 0) rfl, .inl ⟨g, rfl, .int t, rfl, g, t, rfl, rfl, ht, ?_⟩⟩⟩
      refine ⟨.ref a, rfl, ⟨a, _, 0, .int g, rfl, rfl, Urn.seq hu, atI_nat (j := 0) rfl, .int t, rfl, g, t, rfl, rfl, ⟨ht, hl⟩, ?_⟩⟩
      refine ⟨.ref a, rfl, a, _, 0, 0, rfl, rfl, hu, rfl, ?_⟩
      exact ⟨_, rfl, q _ _ (Int.emod_nonneg _ (by omega)) (Int.emod_lt_of_pos _ ht) ⟨_, _, _, upd_same⟩ (but_upd _ _ _)⟩
    · refine ⟨.ref a, rfl, ⟨a, _, 2, .int c, rfl, rfl, Urn.seq hu, atI_nat (j := 2) rfl, c, 1, rfl, rfl, ?_⟩⟩
      refine ⟨.ref a, rfl, a, _, 2, 2, rfl, rfl, hu, rfl, ?_⟩
      have h1 : (upd H a (.lst ([.int g, .int m, .int c].set 2 (.int (c + 1))))) a = some (.lst [.int g, .int m, .int (c + 1)]) := upd_same
      have b1 := but_upd a H (.lst ([.int g, .int m, .int c].set 2 (.int (c + 1))))
      revert h1 b1
      generalize upd H a (.lst ([.int g, .int m, .int c].set 2 (.int (c + 1)))) = H1
      intro h1 b1
      refine ⟨.ref a, rfl, ⟨a, _, 1, .int m, rfl, rfl, Urn.seq h1, atI_nat (j := 1) rfl, ?_⟩⟩
      refine ⟨.ref a, rfl, ⟨a, _, 2, .int (c + 1), rfl, rfl, Urn.seq h1, atI_nat (j := 2) rfl, ?_⟩⟩
      refine ⟨_, _, rfl, rfl, .inl (by decide), _, _, rfl, rfl, .inl ⟨_, rfl, _, _, rfl, rfl, (by show (0 : Int) < _; decide), ?_⟩⟩
      generalize ho : (m + 1299709 * (c + 1)) % 2305843009213693951 = o
      have o0 : 0 ≤ o := by omega
      have o1 : o < 2305843009213693951 := by omega
      refine ⟨_, rfl, _, rfl, _, _, rfl, rfl, .inl (by omega), ?_⟩
      refine ⟨.ref a, rfl, ⟨a, _, 2, .int (c + 1), rfl, rfl, Urn.seq h1, atI_nat (j := 2) rfl, ?_⟩⟩
      refine ⟨_, _, rfl, rfl, .inl (by decide), _, _, rfl, rfl, .inl ⟨_, rfl, _, _, rfl, rfl, (by show (0 : Int) < _; decide), ?_⟩⟩
      generalize (o * o + 15485863 * (c + 1)) % 1152921504606846883 = z
      refine ⟨_, rfl, _, _, rfl, rfl, .inr (by decide), _, rfl, _, _, rfl, rfl, .inl ⟨_, rfl, _, _, rfl, rfl, (by show (0 : Int) < _; decide), _, _, rfl, rfl, ⟨by decide, by decide⟩, .inl ⟨_, rfl, _, rfl, _, _, rfl, rfl, ht, ?_⟩⟩⟩
      exact q _ _ (Int.emod_nonneg _ (by omega)) (Int.emod_lt_of_pos _ ht) ⟨_, _, _, h1⟩ b1
/-- one of the items -/
def spSome : Sp := fun vs H Q _ => ∃ (a b : Addr) (xs : List V), vs = [.ref a, .ref b] ∧ Urn H a ∧ H b = some (.lst xs) ∧ b ≠ a ∧ xs ≠ [] ∧ xs.length ≤ 1000 ∧
  ∀ (i : Nat) (x : V) (H' : Hp), xs[i]? = some x → Urn H' a → But a H H' → Q x H'
theorem ok_some {f ft : Addr} {fd fdt : FuncData} {k : Nat} (T : Txt mg) (d : D K mg "_law_some" s_law_some ["_law_urn_here", "_law_items"] f fd) (dt : D K mg "_law_take" s_law_take ["_law_urn_here", "_law_total"] ft fdt) :
    FnOk P w K mg base CX0 (k + 2) f fd ["_law_urn_here", "_law_items"] spSome := by
  have G : FnOk P w K mg base CX0 (k + 1) ft fdt ["_law_urn_here", "_law_total"] spTake := ok_take T dt
  refine d.F.ok sc_law_some (fun vs H Q E h => ?_) (fun cdv A outer s H vs Q E hr h => ?_)
  · obtain ⟨a, b, xs, rfl, _⟩ := h
    rfl
  · obtain ⟨a, b, xs, rfl, hu, hb, hne, hx, hz, q⟩ := h
    refine ⟨_, (pss_one (ps_ret (pe_ix ix_list (pv 1) (pe_call G hr (by rfl) dt.g dt.F.kp dt.b .nil pass0 (pa_cons (pv 0) (pa_cons (pe_callB call_len_seq (by rfl) T.n_len PySem.boot_len (pa_cons (pv 1) pa_nil)) pa_nil))) (fun _ _ => rfl)))), ?_⟩
    refine ⟨.ref b, rfl, .ref a, rfl, .ref b, rfl, b, xs, rfl, .inl (Urn.seq hb), a, _, rfl, hu, ?_, ?_, fun v H' v0 v1 hu' hk => ?_⟩
    · cases xs with
      | nil => exact absurd rfl hx
      | cons x r => rw [List.length_cons]; omega
    · have e : ((xs.length : Int)).natAbs = xs.length := Int.natAbs_natCast _
      rw [e]
      exact Nat.lt_of_le_of_lt (Nat.log2_le_self _) (by omega)
    · obtain ⟨j, rfl⟩ : ∃ j : Nat, v = (j : Int) := ⟨v.toNat, by omega⟩
      have hv : j < xs.length := by omega
      exact ⟨b, xs, j, xs[j], rfl, rfl, Urn.seq ((hk b hne).trans hb), atI_nat (List.getElem?_eq_getElem hv), q j _ H' (List.getElem?_eq_getElem hv) hu' hk⟩
end

/-- a def's promise, kept where no repr is under way -/
structure FnG (P : Program) (w : World) (K : PySem.W.Frag) (mg : Str → Option Value) (base : Heap) (CX : CXT) (k : Nat) (f : Addr) (fd : FuncData) (ps : List Str) (sp : Sp) : Prop where
  size : ∀ vs H Q E, sp vs H Q E → vs.length = ps.length
  runs : ∀ (A : Around) (out : List Env) (s : Shared) (H : Hp) (ar : Args) (us : List Value) (vs : List V) (Q : VK) (E : XK), A.guards = some [] → Room k A → Env0 P w K mg base A out s H → BindsTo s fd ar (ps.zip us) → Vals vs us → sp vs H Q E →
    codeAny (model P w) A (.call (.ref f) ar) (CR CX out P w H s Q E) s
theorem deep_guards {A : Around} {env : Env} (h : A.guards = some []) : (A.deeper env).guards = some [] := by
  first | exact h | (simp [Around.deeper, h])
theorem FnG.of {P : Program} {w : World} {K : PySem.W.Frag} {mg : Str → Option Value} {base : Heap} {k : Nat} {x qual : Str} {st : Stmt} {f : Addr} {fd : FuncData} {N ps : List Str} {sp : Sp} (F : Fun K x qual st f fd) (S : FnScope N ps (defScope st))
    (size : ∀ vs H Q E, sp vs H Q E → vs.length = ps.length)
    (body : ∀ (cdv : Value) (A : Around) (out : List Env) (s : Shared) (H : Hp) (vs : List V) (Q : VK) (E : XK), (A.deeper (envOfC qual (defScope st) s.heap.objs.size f cdv)).guards = some [] → Room k (A.deeper (envOfC qual (defScope st) s.heap.objs.size f cdv)) → sp vs H Q E →
      ∃ t, PSs (cxOf CX0 P w K mg base N qual (defScope st) f cdv A out s H E).nox (defBody st) t ∧ t { nx := fun _ H' => Q .non H', rt := Q } (start N vs) H) :
    FnG P w K mg base CX0 (k + 1) f fd ps sp := by
  obtain ⟨oc, od, kV, doc, pm, an, cdv, ct, osl, rfl, lk, hcd⟩ := F.ex
  refine ⟨size, fun A out s H ar us vs Q E hg hr e0 hb r hs => ?_⟩
  have many := size _ _ _ _ hs
  have low : ∀ b o, base.get? b = some o → s.heap.get? b = some o := fun b o e => (e0.bs b o e).1
  refine Att.call_fn (e0.mod.kin.keeps low) (e0.mod.nolimit.keeps low) lk hcd hr.depth hb ?_ (fun s1 x => ?_) S.co S.gen S.kind
  · rw [List.all_eq_true]
    rintro ⟨n, v⟩ hy
    have z := S.par n (List.of_mem_zip hy).1
    rcases z with z | z <;> simp [z]
  · obtain ⟨t, ht, hq⟩ := body cdv A out s H vs Q E (deep_guards hg) (hr.deeper _) hs
    have I : Inv (cxOf CX0 P w K mg base N qual (defScope st) f cdv A out s H E) [] (start N vs) H s1 := inv_start S hr.hd e0 many r x
    refine wpAny_mono (ht.nox.run [] s1 (start N vs) H _ I hq) (fun fl s' ends => ?_) fun e s' z => z
    have fin : ∀ {σ : L2.St} {H' : Hp} {v : V} {u : Value}, Inv (cxOf CX0 P w K mg base N qual (defScope st) f cdv A out s H E) [] σ H' s' → RelV v u → Q v H' → CE out P w H s Q u s' := fun {_ H' v _} J rv q =>
      ⟨v, H', J.os, J.bare, J.base, J.hok, rv, q⟩
    cases fl with
    | ret u =>
      obtain ⟨v, σ, H', J, rv, q⟩ := ends
      exact fin J rv q
    | next =>
      obtain ⟨σ, H', J, q⟩ := ends
      exact fin (v := V.non) (u := Value.none) J rfl q
    | brk =>
      obtain ⟨_, _, _, no⟩ := ends
      exact False.elim no
    | cont =>
      obtain ⟨_, _, _, no⟩ := ends
      exact False.elim no
section
variable {X : Cx} {k : Nat} {f : Addr} {fd : FuncData} {ps : List Str} {sp : Sp} {x : Str} {p pos : Pos} {e : Expr} {es : List Expr} {t : TA}
/-- f(e, ..) where no repr is under way -/
theorem pe_callG (G : FnG X.prog X.w X.K X.mg X.base CX0 k f fd ps sp) (no : X.A.guards = some []) (hr : Room k X.A) (hg : Gl X x) (hm : X.mg x = some (.ref f)) (hk : PySem.W.keepIn X.K (.ref f) = true) (hb : Binds X.K fd ps [])
    (ha : PA X (e :: es) t) (hdb : (x == ("__debug__" : Str)) = false := by decide) (he : starEach (e :: es) X.env = (false, eval e X.env) :: starEach es X.env := by rfl) (hpl : (backTo pos (starEach es X.env)).any (·.1) = false := by rfl) :
    PE X (.Call (.Name x p) (e :: es) [] pos) (tCall sp [] E0 t) := by
  refine ⟨fun pins s σ H Q I h => wpAny_Call_Name_kw (ld_glob I hg hm ?_ hdb)⟩
  refine PySem.W.callWith_K (h₀ := X.base) I.ok.mod.kin hk (thn (ha.run pos pins s σ H _ I h) fun us s1 ⟨vs, H1, I1, r, q⟩ => ⟨I1.kIn, ?_⟩) he hpl
  have q1 : sp vs H1 Q E0 := by
    have q2 : sp (vs ++ []) H1 Q E0 := q
    rwa [List.append_nil] at q2
  have many : (us ++ []).length = ps.length := by
    rw [List.append_nil, ← r.length]
    exact G.size _ _ _ _ q1
  have bnd := hb s1 us I1.kIn many
  rw [List.append_nil] at bnd
  refine wpAny_call (codeAny_mono (G.runs X.A X.stack s1 H1 ⟨us, []⟩ us vs Q E0 no hr I1.env0 bnd r q1) fun res s' z => ?_)
  cases res with
  | error e => exact False.elim z
  | ok fl =>
    cases fl with
    | ret u => exact I1.after z
    | next => exact False.elim z
    | brk => exact False.elim z
    | cont => exact False.elim z
/-- repr of a list or tuple of data, where no repr is under way -/
theorem call_repr_D (no : X.A.guards = some []) (hu : X.A.units + 100 < cLine) : CallR X (.builtin "repr") (fun xs H Q => ∃ (a : Addr) (d : PyData), xs = [.ref a] ∧ (∀ (pins : List (Addr × Obj)) (σ : L2.St) (s : Shared), Inv X pins σ H s → ∃ as, Reads s.heap (.ref a) d as ∧ (d.hasDict = true → sysModules ∉ as)) ∧
    d.showable = true ∧ d.depth ≤ 90 ∧ d.shown.length ≤ sizeLine ∧ Q (.str d.shown) H) := by
  intro pins s σ H vs us Q I r h
  obtain ⟨a, d, rfl, rd, sh, dp, sz, q⟩ := h
  obtain ⟨as, hr, hs⟩ := rd pins σ s I
  cases r with
  | cons r1 r2 =>
    cases r2
    obtain rfl := (show _ = Value.ref a from r1)
    refine repr_of_reads' hr sh hs no (by omega) (fun b o e => e) (fun h' u tk k => ?_) sz
    exact ⟨.str d.shown, H, I.kept (h' := h') (t' := tk) k, ⟨_, rfl⟩, q⟩
end
/-! ### the root -/
/-- nothing is tracked, but the script where the module does not hold it -/
def onlyS (K : PySem.W.Frag) (a : Addr) (u : HO) : Hp := fun b => if b = a ∧ K.lookup a = none then some u else none
theorem onlyS_at {K : PySem.W.Frag} {a b : Addr} {u v : HO} (h : onlyS K a u b = some v) : b = a ∧ K.lookup a = none ∧ v = u := by
  unfold onlyS at h
  by_cases c : b = a ∧ K.lookup a = none
  · rw [if_pos c] at h
    exact ⟨c.1, c.2, (Option.some.inj h).symm⟩
  · rw [if_neg c] at h
    cases h
theorem onlyS_off {K : PySem.W.Frag} {a b : Addr} {u : HO} (h : b ≠ a) : onlyS K a u b = none := if_neg fun c => h c.1
theorem onlyS_none {K : PySem.W.Frag} {a b : Addr} {u : HO} {o : Obj} (h : K.lookup b = some o) : onlyS K a u b = none := if_neg fun c => by
  obtain ⟨rfl, c2⟩ := c
  rw [h] at c2
  cases c2
theorem root_of {P : Program} {w : World} {K : PySem.W.Frag} {mg mb : Str → Option Value} {k : Nat} {fa a : Addr} {fd : FuncData} {x : Str} {sp : Sp} {s1 : Shared} {us : List Value} {ns : List Int}
    (KX : K.In s1.heap) (main : s1.heap.Ns mainGlobals mg) (blt : s1.heap.Ns builtinsNs mb) (boot : ∀ y : Str, y ≠ "__name__" → mb y = bootBuiltins y) (lim : s1.heap.NoLimit) (gens : s1.gens = #[])
    (ha : s1.heap.get? a = some { cls := .type "list", data := .seq us.toArray }) (hi : IntsAre us ns) (hl : ns.length ≤ sizeLine) (hr : Room k callerA)
    (G : ∀ base : Heap, K.In base → base.Ns mainGlobals mg → FnG P w K mg base CX0 k fa fd [x] sp) (bnd : ∀ (s : Shared) (u : Value), BindsTo s fd ⟨[u], []⟩ [(x, u)])
    (hsp : ∀ H : Hp, SqL K H a (ns.map V.int) → sp [.ref a] H (fun v _ => v = .bl true) E0) :
    codeAny (model P w) callerA (.call (.ref fa) ⟨[.ref a], []⟩) (fun r s' => r = .ok (.ret (.bool true)) ∧ OldK s1.heap s'.heap ∧ s'.os = s1.os ∧ AllBare s'.gens) s1 := by
  have rv := vals_ints hi
  have sized : (ns.map V.int).length ≤ sizeLine := by rwa [List.length_map]
  generalize hu : HO.frz { cls := .type "list", data := .seq us.toArray } (.lst (ns.map V.int)) = u
  have far : ∀ {b : Addr} {o : Obj} {es : Array DictEntry} {ep : Nat}, s1.heap.get? b = some o → o.data = .dict es ep → b ≠ a := fun {b o es ep} e d z => by
    subst z
    rw [ha] at e
    cases e
    cases d
  have space : ∀ {b : Addr} {m : Str → Option Value}, s1.heap.Ns b m → (hidT s1.heap (onlyS K a u)).Ns b m := fun {b m} ⟨o, es, ep, e, d, r⟩ => ⟨o, es, ep, hidT_get e (onlyS_off (far e d)), d, r⟩
  have KB : K.In (hidT s1.heap (onlyS K a u)) := fun b o e => hidT_get (KX b o e) (onlyS_none e)
  have M : Mod K mg (hidT s1.heap (onlyS K a u)) := ⟨KB, space main, ⟨mb, space blt, boot⟩, let ⟨mc, h1, h2⟩ := lim; ⟨mc, space h1, h2⟩⟩
  have ok : HOk P w (onlyS K a u) s1.heap := fun b v e => by
    obtain ⟨rfl, _, rfl⟩ := onlyS_at e
    subst hu
    exact ⟨ha, sized, us, _, rv, ha⟩
  have list : SqL K (onlyS K a u) a (ns.map V.int) := by
    cases hk : K.lookup a with
    | none =>
      refine .inl (.inr ⟨{ cls := .type "list", data := .seq us.toArray }, ?_⟩)
      rw [hu]
      exact if_pos ⟨rfl, hk⟩
    | some o =>
      have e := KX a o hk
      rw [ha] at e
      cases e
      exact .inr ⟨_, us.toArray, _, hk, rfl, rfl, rfl, by rw [List.size_toArray, hi.length]; exact hl, by simpa using rv⟩
  have e0 : Env0 P w K mg (hidT s1.heap (onlyS K a u)) callerA [] s1 (onlyS K a u) :=
    ⟨rfl, M, fun b o e => of_hidT e, Nat.le_of_eq (hidT_size _ _), trivial, fun b hb => absurd (show b ∈ ([] : List Addr) from hb) (by simp), ok, .of_eq gens⟩
  refine codeAny_mono ((G _ KB (space main)).runs callerA [] s1 _ ⟨[.ref a], []⟩ [.ref a] [.ref a] _ _ rfl hr e0 (bnd s1 (.ref a)) (.cons rfl .nil) (hsp _ list)) fun r s' z => ?_
  cases r with
  | error e => exact False.elim z
  | ok fl =>
    cases fl with
    | next => exact False.elim z
    | brk => exact False.elim z
    | cont => exact False.elim z
    | ret out =>
      obtain ⟨v, H', os, bare, un, ok', r', q⟩ := z
      obtain rfl : v = .bl true := q
      obtain rfl : out = Value.bool true := r'
      refine ⟨rfl, OldK.of_keep fun b o e => ?_, os, bare⟩
      cases q : onlyS K a u b with
      | none => exact un.keep b o e q (fun y => absurd (show b ∈ ([] : List Addr) from y) (by simp)) (by simp)
      | some v =>
        obtain ⟨rfl, _, rfl⟩ := onlyS_at q
        subst hu
        rw [ha] at e
        cases e
        exact (ok' _ _ (un.frzs _ _ _ q)).1
theorem walk_ofG {l : PySem.W.OpenLaw} {n k : Nat} {q : Program} {loose : List Str} {XP : (Str → Option Value) → Heap → Prop} {YP : World → Heap → Prop} {d : DefRec} {K : Params → PySem.W.Frag} {sp : PySem.W.Frag → Sp} {x : Str}
    (most : l.most = some n) (fits : n ≤ sizeLine) (plain : d.params.defaults = []) (hr : Room k callerA) (hY : ∀ (w : World) (h : Heap), YP w h → (K w.params).In h)
    (F : ∀ (w : World) (mg : Str → Option Value) (fa : Addr) (h : Heap), (K w.params).In h → h.Ns mainGlobals mg → mg d.name = some (.ref fa) →
      ∃ fd : FuncData, (∀ (s : Shared) (u : Value), BindsTo s fd ⟨[u], []⟩ [(x, u)]) ∧ ∀ base : Heap, (K w.params).In base → base.Ns mainGlobals mg → FnG l.prog w (K w.params) mg base CX0 k fa fd [x] (sp (K w.params)))
    (hsp : ∀ (K : PySem.W.Frag) (H : Hp) (a : Addr) (ns : List Int), ns.length ≤ n → SqL K H a (ns.map V.int) → sp K [.ref a] H (fun v _ => v = .bl true) E0) :
    PySem.W.WalkO q loose XP YP l.row.toRowW d [] (fun f vs => PySem.call f vs) := by
  refine Att.attach_call most plain fun w s0 s1 mg mb fa o pm cd doc a vs ns G Y ho hd hcd hmg hobj hints hlen hg => ?_
  have KX := hY w _ Y
  obtain ⟨fd, hb, hF⟩ := F w mg fa _ KX G.T.g hmg
  exact root_of KX G.T.g G.T.b G.T.builtins G.T.nolimit hg hobj hints (Nat.le_trans hlen fits) hr hF hb fun H hS => hsp _ H a ns hlen hS

abbrev s_law_urn : Stmt := topS 20
theorem sc_law_urn : FnScope ["_law_script", "_law_at", "_law_mixed", "_law_cell", "_law_great"] ["_law_script", "_law_at"] (defScope s_law_urn) := ⟨rfl, rfl, rfl, by decide +kernel, rfl, by decide +kernel, by decide +kernel⟩

theorem cut_ints (ns : List Int) (lo hi : Option Int) : ∃ ms : List Int, cutV (ns.map V.int) lo hi = ms.map V.int := by
  refine ⟨(ns.drop (HT.sIx ns.length 0 lo)).take (HT.sIx ns.length ns.length hi - HT.sIx ns.length 0 lo), ?_⟩
  unfold cutV
  rw [List.length_map, List.map_take, List.map_drop]
theorem int_at {ns : List Int} {i : Nat} {x : V} (h : (ns.map V.int)[i]? = some x) : ∃ z : Int, ns[i]? = some z ∧ x = .int z := by
  rw [List.getElem?_map] at h
  cases e : ns[i]? with
  | none =>
    rw [e] at h
    cases h
  | some z =>
    rw [e] at h
    exact ⟨z, rfl, (Option.some.inj h).symm⟩
section
variable {P : Program} {w : World} {K : PySem.W.Frag} {mg : Str → Option Value} {base : Heap} {C fI : Addr}
/-- a new urn -/
def spUrn (K : PySem.W.Frag) : Sp := fun vs H Q _ => ∃ (a : Addr) (i : Nat) (ns : List Int), vs = [.ref a, .int i] ∧ SqL K H a (ns.map V.int) ∧ i ≤ 1000 ∧
  ∀ (H' : Hp) (p : Addr), Same H H' → H p = none → Urn H' p → Q (.ref p) H'
theorem ok_urn {f : Addr} {fd : FuncData} {k : Nat} (T : Txt mg) (d : D K mg "_law_urn" s_law_urn ["_law_script", "_law_at"] f fd) : FnOk P w K mg base CX0 (k + 1) f fd ["_law_script", "_law_at"] (spUrn K) := by
  refine d.F.ok sc_law_urn (fun vs H Q E h => ?_) (fun cdv A outer s H vs Q E hr h => ?_)
  · obtain ⟨a, i, ns, rfl, _⟩ := h
    rfl
  · obtain ⟨a, i, ns, rfl, hS, hi, q⟩ := h
    refine ⟨_, (pss_cons (ps_set (i := 2) sc_law_urn.nd rfl (.inl rfl) (pe_op op_add (pe_op op_mul pe_int (pv 1)) pe_int))
      (pss_cons (ps_for PassesOwn.never rfl (pi_list (pe_slice sl_list (pv 0) (po_some (pv 1)) po_none)) (pg_name (i := 3) sc_law_urn.nd rfl (.inl rfl))
        (pss_one (ps_set (i := 2) sc_law_urn.nd rfl (.inl rfl) (pe_op op_mod (pe_callTy call_int1 (by rfl) T.n_int (by decide +kernel) (pa_cons (pe_op op_add (pe_op op_add (pe_op op_mul (pv 2) pe_int) (pe_op op_mul (pe_op op_mod (pe_callTy call_int1 (by rfl) T.n_int (by decide +kernel) (pa_cons (pe_callB call_abs (by rfl) T.n_abs (by decide +kernel) (pa_cons (pv 3) pa_nil)) pa_nil)) (pe_op op_powW pe_int pe_int)) pe_int)) (pe_op op_mul (pe_callTy call_int1 (by rfl) T.n_int (by decide +kernel) (pa_cons (pe_cmpR op_gt (pv 3) pe_int (nomark _)) pa_nil)) pe_int)) pa_nil)) pe_int))))
      (pss_cons (ps_set (i := 4) sc_law_urn.nd rfl (.inl rfl) (pe_ifExp (pt_cmpR op_lt (pv 1) (pe_callB call_len_seq (by rfl) T.n_len PySem.boot_len (pa_cons (pv 0) pa_nil)) (nomark _)) (pe_op op_mod (pe_callTy call_int1 (by rfl) T.n_int (by decide +kernel) (pa_cons (pe_callB call_abs (by rfl) T.n_abs (by decide +kernel) (pa_cons (pe_ix ix_list (pv 0) (pv 1) (fun _ _ => rfl)) pa_nil)) pa_nil)) (pe_op op_powW (pe_op op_powW pe_int pe_int) pe_int)) pe_int))
      (pss_one (ps_ret (pe_lst (pa_cons (pe_callB (call_max2 rfl) (by rfl) T.n_max (by decide +kernel) (pa_cons pe_int (pa_cons (pe_op op_sub (pv 4) (pe_op op_powW pe_int pe_int)) pa_nil))) (pa_cons (pv 2) (pa_cons pe_int pa_nil))))))))), ?_⟩
    refine ⟨_, rfl, _, _, rfl, rfl, .inl (by decide), _, _, rfl, rfl, ?_⟩
    refine ⟨.ref a, rfl, _, rfl, _, rfl, a, _, rfl, hS, fun c nc => ?_⟩
    obtain ⟨ms, em⟩ := cut_ints ns (some (i : Int)) none
    have s1 : Same H (upd H c (.lst (cutV (ns.map V.int) (some (i : Int)) none))) := sub_same nc
    have hc : (upd H c (.lst (cutV (ns.map V.int) (some (i : Int)) none))) c = some (.lst (ms.map V.int)) := by rw [upd_same, em]
    revert s1 hc
    generalize upd H c (.lst (cutV (ns.map V.int) (some (i : Int)) none)) = H1
    intro s1 hc
    refine ⟨c, rfl, ⟨_, .inl (.inl hc)⟩, for_list (K := K) (a := c) (xs := ms.map V.int) (fun j σ H2 => (∃ (m : Int) (y : Option V), σ = [some (.ref a), some (.int i), some (.int m), y, none]) ∧ H2 = H1) ⟨⟨_, none, rfl⟩, rfl⟩ (fun j σ H2 _ z => by rw [z.2]; exact .inl (.inl hc)) ?_ ?_⟩
    · rintro j x σ H2 hj ⟨⟨m, y, rfl⟩, rfl⟩
      obtain ⟨z, _, rfl⟩ := int_at hj
      refine ⟨_, rfl, _, _, rfl, rfl, .inr (by decide), ?_⟩
      refine ⟨_, rfl, _, rfl, .inl ⟨_, rfl, _, _, rfl, rfl, ⟨by decide, by decide +kernel⟩, _, _, rfl, rfl, (by show (0 : Int) < _; decide), _, _, rfl, rfl, .inr (by decide), _, _, rfl, rfl, ?_⟩⟩
      refine ⟨_, rfl, _, _, rfl, rfl, .inr ⟨_, rfl, _, _, rfl, rfl, .inr (by decide), _, _, rfl, rfl, .inl ⟨_, rfl, _, _, rfl, rfl, (by show (0 : Int) < _; decide), ?_⟩⟩⟩
      exact ⟨⟨_, some (.int z), rfl⟩, rfl⟩
    · rintro σ H2 ⟨⟨m, y, rfl⟩, rfl⟩
      have rest : ∀ (g : Int), (fun (g : Int) => ∀ p, H2 p = none → Q (.ref p) (upd H2 p (.lst [.int g, .int m, .int 0]))) g := fun g p np => q _ p (s1.trans (sub_same np)) (s1.free np) ⟨_, _, _, upd_same⟩
      refine ⟨_, rfl, .ref a, rfl, a, _, rfl, .inl (s1.seq hS), _, _, rfl, rfl, _, rfl, ite2 (fun e => ?_) (fun e => ?_)⟩
      · have hlt : i < ns.length := by
          have z := of_decide_eq_true e
          rw [List.length_map] at z
          omega
        refine ⟨.ref a, rfl, _, rfl, a, _, _, .int ns[i], rfl, rfl, s1.seq hS, atI_nat (by rw [List.getElem?_map, List.getElem?_eq_getElem hlt]; rfl), ?_⟩
        refine ⟨_, rfl, .inl ⟨_, rfl, _, _, rfl, rfl, ⟨by decide, by decide +kernel⟩, _, _, rfl, rfl, ⟨by decide, by decide +kernel⟩, _, _, rfl, rfl, (by show (0 : Int) < _; decide), ?_⟩⟩
        refine ⟨_, rfl, _, _, rfl, rfl, ⟨by decide, by decide +kernel⟩, _, _, rfl, rfl, _, _, rfl, _, rfl, (by show 3 ≤ sizeLine; decide), fun p np => rest _ p np⟩
      · refine ⟨_, rfl, _, _, rfl, rfl, ⟨by decide, by decide +kernel⟩, _, _, rfl, rfl, _, _, rfl, _, rfl, (by show 3 ≤ sizeLine; decide), fun p np => rest _ p np⟩
/-- an int of at most fifty-nine digits and a one -/

theorem iteP {p A B : Prop} [Decidable p] (h : p) (a : A) : if decide p = true then A else B := by
  rw [if_pos (decide_eq_true h)]
  exact a
theorem iteQ {p A B : Prop} [Decidable p] (h : ¬ p) (b : B) : if decide p = true then A else B := by
  rw [if_neg (fun z => h (of_decide_eq_true z))]
  exact b
theorem ab_eq (z : Int) : (if z < 0 then -z else z) = ((z.natAbs : Nat) : Int) := by split <;> omega

end
end K03

/-! # texts of integers and of ratios, as lists of signs -/
namespace K03
open PySem PySem.Spec PyProof.Rows L2 TL NumText
/-- digits without a nought too many, at most sixty -/
def canon (cs : List Nat) : Bool := !cs.isEmpty && (decide (cs.length ≤ 60) && (cs.all (fun c => decide (48 ≤ c) && decide (c ≤ 57)) && (decide (cs.head? ≠ some 48) || decide (cs = [48]))))
theorem canon_iff {cs : List Nat} : canon cs = true ↔ cs ≠ [] ∧ cs.length ≤ 60 ∧ AllDigits cs ∧ (cs.head? = some 48 → cs = [48]) := by
  unfold canon AllDigits
  simp only [Bool.and_eq_true, Bool.not_eq_true', List.isEmpty_eq_false_iff, decide_eq_true_eq, List.all_eq_true, Bool.or_eq_true]
  constructor
  · rintro ⟨a, b, c, d⟩
    exact ⟨a, b, c, fun h => d.elim (fun z => absurd h z) id⟩
  · rintro ⟨a, b, c, d⟩
    refine ⟨a, b, c, ?_⟩
    by_cases h : cs.head? = some 48
    · exact .inr (d h)
    · exact .inl h
theorem val_lt : ∀ (cs : List Nat) (a : Nat), AllDigits cs → cs.foldl (fun acc c => acc * 10 + (c - 48)) a < (a + 1) * 10 ^ cs.length
  | [], a, _ => by simp
  | c :: cs, a, h => by
    have ih := val_lt cs (a * 10 + (c - 48)) h.tail
    have hc := h.head
    have e : (a * 10 + (c - 48) + 1) * 10 ^ cs.length ≤ (a + 1) * 10 ^ (c :: cs).length := by
      rw [List.length_cons, Nat.pow_succ, Nat.mul_comm (10 ^ cs.length) 10, ← Nat.mul_assoc]
      exact Nat.mul_le_mul_right _ (by omega)
    exact Nat.lt_of_lt_of_le ih e
theorem canon_num {cs : List Nat} (h : canon cs = true) : numL (digitsVal cs) = cs ∧ digitsVal cs < 10 ^ 60 := by
  obtain ⟨h1, h2, h3, h4⟩ := canon_iff.mp h
  have hb : digitsVal cs < 10 ^ 60 := by
    have z := val_lt cs 0 h3
    rw [Nat.zero_add, Nat.one_mul] at z
    exact Nat.lt_of_lt_of_le z (Nat.pow_le_pow_right (by decide) h2)
  refine ⟨?_, hb⟩
  cases cs with
  | nil => exact absurd rfl h1
  | cons c r =>
    by_cases e : c = 48
    · subst e
      have z := h4 rfl
      rw [z]
      decide
    · have hc := h3.head
      have t := toDigits_digitsVal r.length (c :: r) rfl h3 (.inr ⟨c, r, rfl, by omega⟩)
      unfold numL
      rw [t, List.map_map]
      have q : ∀ x ∈ c :: r, (Char.toNat ∘ Char.ofNat) x = x := fun x hx => by
        have b := h3 x hx
        have : ∀ d : Nat, d < 58 → (Char.ofNat d).toNat = d := by decide
        exact this x (by omega)
      rw [List.map_congr_left q, List.map_id']
theorem numL_head {n : Nat} (h : 0 < n) : (numL n).head? ≠ some 48 := by
  induction n using Nat.strongRecOn with
  | _ n ih =>
    by_cases hn : n < 10
    · rw [numL_lt hn]
      intro z
      have z' : 48 + n = 48 := Option.some.inj z
      omega
    · rw [numL_step (by omega)]
      have i := ih (n / 10) (by omega) (by omega)
      intro z
      cases e : numL (n / 10) with
      | nil => exact numL_ne _ e
      | cons c r =>
        rw [e] at z i
        exact i z
theorem num_canon {n : Nat} (h : n < 10 ^ 60) : canon (numL n) = true := by
  refine canon_iff.mpr ⟨numL_ne n, numL_len (by decide) h, numL_digits n, fun z => ?_⟩
  by_cases hn : 0 < n
  · exact absurd z (numL_head hn)
  · have e : n = 0 := by omega
    subst e
    exact numL_lt (by decide)
/-! ### integers -/
def intL (i : Int) : List Nat := if i < 0 then 45 :: numL i.natAbs else numL i.natAbs
def rd (cs : List Nat) : Option Int :=
  if cs.head? = some 45 then (if canon cs.tail = true ∧ cs.tail ≠ [48] then some (-((digitsVal cs.tail : Nat) : Int)) else none)
  else if canon cs = true then some ((digitsVal cs : Nat) : Int) else none
theorem intL_free {i : Int} {s : Nat} (h : s < 45 ∨ (45 < s ∧ s < 48) ∨ 57 < s) : s ∉ intL i := by
  unfold intL
  split
  · intro z
    rcases List.mem_cons.mp z with z | z
    · omega
    · exact numL_free (by omega) z
  · exact numL_free (by omega)
theorem head_num (n : Nat) : (numL n).head? ≠ some 45 := fun z => by
  cases e : numL n with
  | nil => exact numL_ne _ e
  | cons c r =>
    rw [e] at z
    have z' : c = 45 := Option.some.inj z
    have d := numL_digits n c (by rw [e]; exact List.mem_cons_self ..)
    omega
theorem rd_int {cs : List Nat} {i : Int} (h : rd cs = some i) : cs = intL i ∧ i.natAbs < 10 ^ 60 := by
  unfold rd at h
  split at h
  · rename_i hd
    split at h
    · rename_i hc
      obtain ⟨c1, c2⟩ := hc
      have e := Option.some.inj h
      obtain ⟨n1, n2⟩ := canon_num c1
      have pos : 0 < digitsVal cs.tail := by
        rcases Nat.eq_zero_or_pos (digitsVal cs.tail) with z | z
        · rw [z, numL_lt (by decide)] at n1
          exact absurd n1.symm c2
        · exact z
      have ei : i.natAbs = digitsVal cs.tail := by omega
      refine ⟨?_, by omega⟩
      unfold intL
      rw [if_pos (by omega), ei, n1]
      cases cs with
      | nil => cases hd
      | cons c r =>
        have z : c = 45 := Option.some.inj hd
        rw [z]
        rfl
    · cases h
  · split at h
    · rename_i hc
      have e := Option.some.inj h
      obtain ⟨n1, n2⟩ := canon_num hc
      have ei : i.natAbs = digitsVal cs := by omega
      refine ⟨?_, by omega⟩
      unfold intL
      rw [if_neg (by omega), ei, n1]
    · cases h
theorem int_rd {i : Int} (h : i.natAbs < 10 ^ 60) : rd (intL i) = some i := by
  unfold rd intL
  by_cases hi : i < 0
  · rw [if_pos hi, if_pos (by rfl)]
    show (if canon (numL i.natAbs) = true ∧ numL i.natAbs ≠ [48] then _ else _) = _
    have ne : numL i.natAbs ≠ [48] := fun z => by
      have q := congrArg digitsVal z
      rw [numL_val] at q
      have q2 : i.natAbs = 0 := q
      omega
    rw [if_pos ⟨num_canon h, ne⟩]
    show some (-((digitsVal (numL i.natAbs) : Nat) : Int)) = some i
    rw [numL_val]
    congr 1
    omega
  · rw [if_neg hi, if_neg (head_num _), if_pos (num_canon h), numL_val]
    congr 1
    omega
theorem intL_inj {i j : Int} (hi : i.natAbs < 10 ^ 60) (hj : j.natAbs < 10 ^ 60) (h : intL i = intL j) : i = j := by
  have a := int_rd hi
  rw [h, int_rd hj] at a
  exact (Option.some.inj a).symm
theorem rd_nat {cs : List Nat} {j : Int} (h : rd cs = some j) (h0 : 0 ≤ j) : canon cs = true ∧ j = ((digitsVal cs : Nat) : Int) := by
  obtain ⟨e, b⟩ := rd_int h
  have e2 : cs = numL j.natAbs := by rw [e]; unfold intL; rw [if_neg (by omega)]
  rw [e2]
  exact ⟨num_canon b, by rw [numL_val]; omega⟩
theorem canon_rd {cs : List Nat} (h : canon cs = true) : rd cs = some ((digitsVal cs : Nat) : Int) := by
  obtain ⟨n1, n2⟩ := canon_num h
  have z := int_rd (i := ((digitsVal cs : Nat) : Int)) (by omega)
  have e : intL ((digitsVal cs : Nat) : Int) = cs := by
    unfold intL
    rw [if_neg (by omega), Int.natAbs_natCast, n1]
  rw [e] at z
  exact z
/-! ### cut at the bar -/
def sp (cs : List Nat) : List (List Nat) := spl [47] 0 [] cs
theorem sp_acc : ∀ (cs acc : List Nat), 47 ∉ acc → joinL [47] (spl [47] 0 acc cs) = acc ++ cs ∧ (∀ p ∈ spl [47] 0 acc cs, 47 ∉ p) ∧ spl [47] 0 acc cs ≠ []
  | [], acc, h => by
    rw [spl_nil]
    exact ⟨by rw [List.append_nil]; rfl, fun p hp => by rw [List.mem_singleton.mp hp]; exact h, by simp⟩
  | c :: r, acc, h => by
    by_cases e : c = 47
    · subst e
      rw [spl_hit (S := [47]) (acc := acc) (r := r) (c := 47) (pre_self [47] r)]
      obtain ⟨i1, i2, i3⟩ := sp_acc r [] (by simp)
      show joinL [47] (acc :: spl [47] 0 [] r) = _ ∧ (∀ p ∈ acc :: spl [47] 0 [] r, 47 ∉ p) ∧ acc :: spl [47] 0 [] r ≠ []
      refine ⟨?_, fun p hp => ?_, by simp⟩
      · cases q : spl [47] 0 [] r with
        | nil => exact absurd q i3
        | cons x y =>
          rw [q] at i1
          show acc ++ ([47] ++ joinL [47] (x :: y)) = _
          rw [i1]
          rfl
      · rcases List.mem_cons.mp hp with z | z
        · rw [z]; exact h
        · exact i2 p z
    · rw [spl_miss (pre_of_head [] r e)]
      have i := sp_acc r (acc ++ [c]) (by simp [h, Ne.symm e])
      rw [List.append_assoc] at i
      exact i
theorem sp_join (cs : List Nat) : joinL [47] (sp cs) = cs := (sp_acc cs [] (by simp)).1
theorem sp_ne (cs : List Nat) : sp cs ≠ [] := (sp_acc cs [] (by simp)).2.2
theorem sp_of {ps : List (List Nat)} (h : ps ≠ []) (hp : ∀ p ∈ ps, 47 ∉ p) : sp (joinL [47] ps) = ps := spl_join h hp
/-! ### ratios -/
def ratL (p q : Int) : List Nat := if q = 1 then intL p else intL p ++ (47 :: intL q)
theorem sp_rat (p q : Int) : sp (ratL p q) = if q = 1 then [intL p] else [intL p, intL q] := by
  unfold ratL
  split
  · exact sp_of (ps := [intL p]) (by simp) fun z hz => by rw [List.mem_singleton.mp hz]; exact intL_free (by omega)
  · refine sp_of (ps := [intL p, intL q]) (by simp) fun z hz => ?_
    rcases List.mem_cons.mp hz with e | e
    · rw [e]; exact intL_free (by omega)
    · rw [List.mem_singleton.mp e]; exact intL_free (by omega)
/-- the sign's divisor -/
def dv (i j : Int) : Int := if j < 0 then -((Nat.gcd i.natAbs j.natAbs : Nat) : Int) else ((Nat.gcd i.natAbs j.natAbs : Nat) : Int)
theorem dv_ne {i j : Int} (h : j ≠ 0) : dv i j ≠ 0 := by
  have g : 0 < Nat.gcd i.natAbs j.natAbs := Nat.gcd_pos_of_pos_right _ (by omega)
  unfold dv
  split <;> omega
theorem gcd_i (i j : Int) : ((Nat.gcd i.natAbs j.natAbs : Nat) : Int) ∣ i := Int.ofNat_dvd_left.mpr (Nat.gcd_dvd_left _ _)
theorem gcd_j (i j : Int) : ((Nat.gcd i.natAbs j.natAbs : Nat) : Int) ∣ j := Int.ofNat_dvd_left.mpr (Nat.gcd_dvd_right _ _)
theorem dv_mul {i j : Int} (h : j ≠ 0) : i / dv i j * dv i j = i ∧ j / dv i j * dv i j = j := by
  unfold dv
  split
  · exact ⟨Int.ediv_mul_cancel ((Int.neg_dvd).mpr (gcd_i i j)), Int.ediv_mul_cancel ((Int.neg_dvd).mpr (gcd_j i j))⟩
  · exact ⟨Int.ediv_mul_cancel (gcd_i i j), Int.ediv_mul_cancel (gcd_j i j)⟩
theorem dv_pos {i j : Int} (h : j ≠ 0) : 0 < j / dv i j := by
  have m := (dv_mul (i := i) h).2
  have g : 0 < Nat.gcd i.natAbs j.natAbs := Nat.gcd_pos_of_pos_right _ (by omega)
  rcases Int.lt_trichotomy (j / dv i j) 0 with z | z | z
  · unfold dv at m z ⊢
    split at m
    · rename_i hj
      rw [if_pos hj] at z
      have := Int.mul_pos_of_neg_of_neg z (show -((Nat.gcd i.natAbs j.natAbs : Nat) : Int) < 0 by omega)
      omega
    · rename_i hj
      rw [if_neg hj] at z
      have := Int.mul_neg_of_neg_of_pos z (show (0 : Int) < ((Nat.gcd i.natAbs j.natAbs : Nat) : Int) by omega)
      omega
  · rw [z] at m
    omega
  · exact z
/-- what lets a text of two parts by -/
def lets2 (a b : List Nat) (i : Int) : Bool := canon b && (decide (b ≠ [48]) && (decide (b ≠ [49]) && decide (Nat.gcd i.natAbs (digitsVal b) = 1)))
theorem two_iff {cs a b : List Nat} {i j : Int} (hs : sp cs = [a, b]) (ha : rd a = some i) (hb : rd b = some j) (hj : j ≠ 0) :
    (ratL (i / dv i j) (j / dv i j) = cs ↔ lets2 a b i = true) ∧ (lets2 a b i = true → i / dv i j = i ∧ j / dv i j = j ∧ j = ((digitsVal b : Nat) : Int)) := by
  obtain ⟨ea, ba⟩ := rd_int ha
  obtain ⟨eb, bb⟩ := rd_int hb
  have hcs : cs = a ++ (47 :: b) := by
    have z := sp_join cs
    rw [hs] at z
    exact z.symm
  have one : lets2 a b i = true → i / dv i j = i ∧ j / dv i j = j ∧ j = ((digitsVal b : Nat) : Int) ∧ j ≠ 1 := by
    intro h
    unfold lets2 at h
    simp only [Bool.and_eq_true, decide_eq_true_eq] at h
    obtain ⟨c1, c2, c3, c4⟩ := h
    have cr := canon_rd c1
    rw [hb] at cr
    have ej : j = ((digitsVal b : Nat) : Int) := Option.some.inj cr
    have jn : j.natAbs = digitsVal b := by omega
    have dd : dv i j = 1 := by
      unfold dv
      rw [jn, c4, if_neg (by omega)]
      rfl
    refine ⟨by rw [dd, Int.ediv_one], by rw [dd, Int.ediv_one], ej, fun z => c3 ?_⟩
    rw [eb, z]
    decide
  refine ⟨⟨fun h => ?_, fun h => ?_⟩, fun h => ⟨(one h).1, (one h).2.1, (one h).2.2.1⟩⟩
  · have s2 := sp_rat (i / dv i j) (j / dv i j)
    rw [h, hs] at s2
    obtain ⟨m1, m2⟩ := dv_mul (i := i) hj
    have pos := dv_pos (i := i) hj
    have g : 0 < Nat.gcd i.natAbs j.natAbs := Nat.gcd_pos_of_pos_right _ (by omega)
    have d1 : 1 ≤ (dv i j).natAbs := by have := dv_ne (i := i) hj; omega
    have small : ∀ {x : Int}, x / dv i j * dv i j = x → x.natAbs < 10 ^ 60 → (x / dv i j).natAbs < 10 ^ 60 := fun {x} m bx => by
      have z := congrArg Int.natAbs m
      rw [Int.natAbs_mul] at z
      have : (x / dv i j).natAbs * 1 ≤ (x / dv i j).natAbs * (dv i j).natAbs := Nat.mul_le_mul_left _ d1
      omega
    by_cases hq : j / dv i j = 1
    · rw [if_pos hq] at s2
      exact absurd (congrArg List.length s2) (by simp)
    · rw [if_neg hq] at s2
      injection s2 with e1 e2
      injection e2 with e2 _
      have i1 : i = i / dv i j := intL_inj ba (small m1 ba) (ea.symm.trans e1)
      have j1 : j = j / dv i j := intL_inj bb (small m2 bb) (eb.symm.trans e2)
      have jp : 0 < j := by omega
      obtain ⟨cb, ej⟩ := rd_nat hb (by omega)
      have jn : j.natAbs = digitsVal b := by omega
      have dd : dv i j = 1 := by
        rw [← j1] at m2
        exact Int.eq_one_of_mul_eq_self_right hj m2
      unfold lets2
      simp only [Bool.and_eq_true, decide_eq_true_eq]
      refine ⟨cb, fun z => ?_, fun z => ?_, ?_⟩
      · rw [z] at ej
        exact hj ej
      · rw [z] at ej
        exact hq (j1.symm.trans ej)
      · rw [← jn]
        unfold dv at dd
        rw [if_neg (by omega)] at dd
        omega
  · obtain ⟨o1, o2, o3, o4⟩ := one h
    rw [o1, o2, hcs, ea, eb]
    unfold ratL
    rw [if_neg o4]
theorem tl_int (i : Int) : tl (Str.ofString (toString i)) = intL i := by
  unfold intL
  split
  · rename_i h
    obtain ⟨n, rfl⟩ : ∃ n : Nat, i = Int.negSucc n := ⟨i.natAbs - 1, by omega⟩
    rw [tl_ofString]
    show ("-" ++ Nat.repr (n + 1)).toList.map Char.toNat = 45 :: numL (n + 1)
    rw [String.toList_append, List.map_append, Nat.toList_repr]
    rfl
  · rename_i h
    obtain ⟨n, rfl⟩ : ∃ n : Nat, i = (n : Int) := ⟨i.natAbs, by omega⟩
    rw [tl_num, Int.natAbs_natCast]
end K03

/-! # the program's small functions -/
namespace K03
open PySem PySem.Spec PyProof.Rows L2 TL NumText
structure Nam (mg : Str → Option Value) : Prop where
  n_str : mg "str" = none
  n_all : mg "all" = none
  n_list : mg "list" = none
  m_gcd : mg "gcd" = some (.builtin "math.gcd")
  m_LIMIT : ∃ t, mg "_LIMIT" = some (.int (10 ^ 60) t)
  m_MAX : ∃ t, mg "MAX_DIGITS" = some (.int 60 t)
/-! ### texts -/
theorem cut_one (z : Str) : tl (cutS z none (some 1)) = (tl z).take 1 := by
  show ((z.cps.toList.drop (HT.sIx z.length 0 none)).take (HT.sIx z.length z.length (some ((1 : Nat) : Int)) - HT.sIx z.length 0 none)) = _
  rw [HT.sIx_none, HT.sIx_nat, List.drop_zero, Nat.sub_zero, len_tl z]
  cases h : tl z with
  | nil => simp
  | cons c r =>
    have e : min 1 (c :: r).length = 1 := by rw [List.length_cons]; omega
    have h' : z.cps.toList = c :: r := h
    rw [e, h']
theorem cut_rest (z : Str) : tl (cutS z (some 1) none) = (tl z).tail := by
  show ((z.cps.toList.drop (HT.sIx z.length 0 (some ((1 : Nat) : Int)))).take (HT.sIx z.length z.length none - HT.sIx z.length 0 (some ((1 : Nat) : Int)))) = _
  rw [HT.sIx_none, HT.sIx_nat, len_tl z]
  cases h : tl z with
  | nil => simp
  | cons c r =>
    have e : min 1 (c :: r).length = 1 := by rw [List.length_cons]; omega
    have h' : z.cps.toList = c :: r := h
    rw [e, h']
    show List.take _ r = r
    exact List.take_of_length_le (by rw [List.length_cons]; omega)
theorem str_eq {x y : Str} : (V.str x = V.str y) ↔ tl x = tl y := ⟨fun h => by rw [V.str.inj h], fun h => by rw [ext_tl h]⟩
/-- the digits of a text: without the sign -/
def dg (cs : List Nat) : List Nat := if cs.head? = some 45 then cs.tail else cs
theorem dg_len (cs : List Nat) : (dg cs).length ≤ cs.length := by
  unfold dg
  split
  · rw [List.length_tail]; omega
  · exact Nat.le_refl _
theorem dg_len1 (cs : List Nat) : cs.length ≤ (dg cs).length + 1 := by
  unfold dg
  split
  · have e : cs.tail.length = cs.length - 1 := List.length_tail
    omega
  · exact Nat.le_succ _
theorem take_one {cs : List Nat} {c : Nat} : cs.take 1 = [c] ↔ cs.head? = some c := by
  cases cs with
  | nil => simp
  | cons d r => simp
theorem rd_of {cs : List Nat} (h : canon (dg cs) = false) : rd cs = none := by
  unfold dg at h
  unfold rd
  split
  · rename_i c
    rw [if_pos c] at h
    rw [if_neg (by rw [h]; simp)]
  · rename_i c
    rw [if_neg c] at h
    rw [if_neg (by rw [h]; simp)]
theorem rd_A {cs : List Nat} (h : dg cs = [] ∨ 60 < (dg cs).length ∨ (dg cs).all (fun c => decide (48 ≤ c) && decide (c ≤ 57)) = false) : rd cs = none := by
  refine rd_of ?_
  unfold canon
  rcases h with h | h | h
  · rw [h]; rfl
  · rw [decide_eq_false (by omega : ¬ (dg cs).length ≤ 60)]; simp
  · rw [h]; simp
theorem rd_B {cs : List Nat} (h : (dg cs).head? = some 48) (h2 : cs ≠ [48]) : rd cs = none := by
  cases hc : canon (dg cs) with
  | false => exact rd_of hc
  | true =>
    have e := (canon_iff.mp hc).2.2.2 h
    unfold dg at e hc
    unfold rd
    split
    · rename_i c
      rw [if_pos c] at e
      rw [if_neg (fun z => z.2 e)]
    · rename_i c
      rw [if_neg c] at e
      exact absurd e h2
theorem rd_C {z : Str} (hz : z.length ≤ 1000) (h1 : dg (tl z) ≠ []) (h2 : (dg (tl z)).length ≤ 60) (h3 : (dg (tl z)).all (fun c => decide (48 ≤ c) && decide (c ≤ 57)) = true) (h4 : (dg (tl z)).head? = some 48 → tl z = [48]) :
    ∃ i, rd (tl z) = some i ∧ PySem.intText? z = some i := by
  have ad : AllDigits (dg (tl z)) := fun c hc => by
    have q := List.all_eq_true.mp h3 c hc
    simp only [Bool.and_eq_true, decide_eq_true_eq] at q
    exact q
  have zero : tl z = [48] → dg (tl z) = [48] := fun e => by rw [e]; rfl
  have cn : canon (dg (tl z)) = true := canon_iff.mpr ⟨h1, h2, ad, fun e => zero (h4 e)⟩
  by_cases c : (tl z).head? = some 45
  · have ed : dg (tl z) = (tl z).tail := by unfold dg; rw [if_pos c]
    rw [ed] at h1 ad cn
    have n48 : (tl z).tail ≠ [48] := fun e => by
      have q := h4 (by rw [ed, e]; rfl)
      rw [q] at c
      cases c
    have ez : tl z = 45 :: (tl z).tail := by
      cases hl : tl z with
      | nil => rw [hl] at c; cases c
      | cons x r =>
        rw [hl] at c
        have := Option.some.inj c
        rw [this]
        rfl
    refine ⟨_, ?_, intText_neg ez ad h1 (by omega)⟩
    unfold rd
    rw [if_pos c, if_pos ⟨cn, n48⟩]
  · have ed : dg (tl z) = tl z := by unfold dg; rw [if_neg c]
    rw [ed] at h1 ad cn
    refine ⟨_, ?_, intText_digits ad h1 (by omega)⟩
    unfold rd
    rw [if_neg c, if_pos cn]
section
variable {P : Program} {w : World} {K : PySem.W.Frag} {mg : Str → Option Value} {base : Heap}
abbrev s_is_whole : Stmt := topS 9
theorem sc_is_whole : FnScope ["value"] ["value"] (defScope s_is_whole) := ⟨rfl, rfl, rfl, by decide +kernel, rfl, by decide +kernel, by decide +kernel⟩
abbrev s_is_integer : Stmt := topS 10
theorem sc_is_integer : FnScope ["value"] ["value"] (defScope s_is_integer) := ⟨rfl, rfl, rfl, by decide +kernel, rfl, by decide +kernel, by decide +kernel⟩
abbrev s_read_integer : Stmt := topS 11
theorem sc_read_integer : FnScope ["text", "digits", "sign"] ["text"] (defScope s_read_integer) := ⟨rfl, rfl, rfl, by decide +kernel, rfl, by decide +kernel, by decide +kernel⟩
abbrev s_terms : Stmt := topS 15
theorem sc_terms : FnScope ["top", "bottom", "divisor"] ["top", "bottom"] (defScope s_terms) := ⟨rfl, rfl, rfl, by decide +kernel, rfl, by decide +kernel, by decide +kernel⟩
def spWhole : Sp := fun vs H Q _ => ∃ i, vs = [.int i] ∧ Q (.bl true) H
theorem ok_whole {f : Addr} {fd : FuncData} {k : Nat} (T : Txt mg) (d : D K mg "is_whole" s_is_whole ["value"] f fd) : FnOk P w K mg base CX0 (k + 1) f fd ["value"] spWhole := by
  refine d.F.ok sc_is_whole (fun vs H Q E h => ?_) (fun cdv A outer s H vs Q E hr h => ?_)
  · obtain ⟨i, rfl, _⟩ := h
    rfl
  · obtain ⟨i, rfl, q⟩ := h
    refine ⟨_, (pss_one (ps_ret (pe_and (pe_callB call_isi (by rfl) T.n_isinstance (by decide +kernel) (pa_cons (pv 0) (pa_cons (pe_bltn (v := .ty "int") (by rfl) T.n_int (by decide +kernel) rfl) pa_nil)))
      (pe_one (pe_not (pe_callB call_isi (by rfl) T.n_isinstance (by decide +kernel) (pa_cons (pv 0) (pa_cons (pe_bltn (v := .ty "bool") (by rfl) T.n_bool (by decide +kernel) rfl) pa_nil)))))))), ?_⟩
    refine ⟨_, rfl, _, _, .type "int", _, true, rfl, .ty _, .base (.int i), kit_ty (by decide +kernel), true, rfl, iteT ?_⟩
    exact ⟨_, rfl, _, _, .type "int", _, false, rfl, .ty _, .base (.int i), kit_ty (by decide +kernel), false, rfl, q⟩
def spInteger : Sp := fun vs H Q _ => ∃ i : Int, vs = [.int i] ∧ i.natAbs < 10 ^ 60 ∧ Q (.bl true) H
theorem ok_integer {f f1 : Addr} {fd fd1 : FuncData} {k : Nat} (T : Txt mg) (U : Nam mg) (d : D K mg "is_integer" s_is_integer ["value"] f fd) (d1 : D K mg "is_whole" s_is_whole ["value"] f1 fd1) :
    FnOk P w K mg base CX0 (k + 2) f fd ["value"] spInteger := by
  have G1 : FnOk P w K mg base CX0 (k + 1) f1 fd1 ["value"] spWhole := ok_whole T d1
  obtain ⟨tL, m_LIMIT⟩ := U.m_LIMIT
  refine d.F.ok sc_is_integer (fun vs H Q E h => ?_) (fun cdv A outer s H vs Q E hr h => ?_)
  · obtain ⟨i, rfl, _⟩ := h
    rfl
  · obtain ⟨i, rfl, hi, q⟩ := h
    refine ⟨_, (pss_one (ps_ret (pe_and (pe_call G1 hr (by rfl) d1.g d1.F.kp d1.b .nil pass0 (pa_cons (pv 0) pa_nil)) (pe_one (pe_cmpR op_lt (pe_callB call_abs (by rfl) T.n_abs (by decide +kernel) (pa_cons (pv 0) pa_nil)) (pe_glob (v := .int (10 ^ 60)) rfl m_LIMIT ⟨_, rfl⟩) (nomark _)))))), ?_⟩
    refine ⟨_, rfl, i, rfl, true, rfl, iteT ⟨_, rfl, i, rfl, _, _, rfl, rfl, ?_⟩⟩
    have e : decide ((if i < 0 then -i else i) < 10 ^ 60) = true := decide_eq_true (by split <;> omega)
    show Q (.bl (decide ((if i < 0 then -i else i) < 10 ^ 60))) H
    rw [e]
    exact q
def spTerms : Sp := fun vs H Q _ => ∃ i j : Int, vs = [.int i, .int j] ∧ Q (.int (dv i j)) H
theorem ok_terms {f : Addr} {fd : FuncData} {k : Nat} (U : Nam mg) (d : D K mg "divisor_of_terms" s_terms ["top", "bottom"] f fd) : FnOk P w K mg base CX0 (k + 1) f fd ["top", "bottom"] spTerms := by
  refine d.F.ok sc_terms (fun vs H Q E h => ?_) (fun cdv A outer s H vs Q E hr h => ?_)
  · obtain ⟨i, j, rfl, _⟩ := h
    rfl
  · obtain ⟨i, j, rfl, q⟩ := h
    refine ⟨_, (pss_cons (ps_set (i := 2) sc_terms.nd rfl (.inl rfl) (pe_callBfun cr_gcd (by rfl) U.m_gcd (pa_cons (pv 0) (pa_cons (pv 1) pa_nil))))
      (pss_one (ps_ret (pe_ifExp (pt_cmpR op_lt (pv 1) pe_int (nomark _)) (pe_un un_neg (pv 2)) (pv 2))))), ?_⟩
    refine ⟨_, rfl, _, rfl, i, j, rfl, _, rfl, _, _, rfl, rfl, _, rfl, ?_⟩
    unfold dv at q
    by_cases hj : j < 0
    · rw [if_pos hj] at q
      rw [decide_eq_true hj]
      exact ⟨_, rfl, _, rfl, q⟩
    · rw [if_neg hj] at q
      rw [decide_eq_false hj]
      exact ⟨_, rfl, q⟩
def ov (o : Option Int) : V := match o with
  | some i => .int i
  | none => .non
def spRead : Sp := fun vs H Q _ => ∃ z : Str, vs = [.str z] ∧ z.length ≤ 1000 ∧ ∀ H', Same H H' → Q (ov (rd (tl z))) H'
theorem all_num (cs : List Nat) : (cs.map fun c => decide (c ∈ tl ("0123456789" : Str))).all id = cs.all (fun c => decide (48 ≤ c) && decide (c ≤ 57)) := by
  rw [List.all_map]
  congr 1
  funext c
  show decide (c ∈ tl ("0123456789" : Str)) = _
  have e : tl ("0123456789" : Str) = [48, 49, 50, 51, 52, 53, 54, 55, 56, 57] := by decide +kernel
  rw [e, ← Bool.decide_and]
  apply decide_eq_decide.mpr
  constructor
  · intro h
    simp at h
    omega
  · intro h
    simp
    omega
theorem ok_read {f : Addr} {fd : FuncData} {k : Nat} (T : Txt mg) (U : Nam mg) (d : D K mg "read_integer" s_read_integer ["text"] f fd) : FnOk P w K mg base CX0 (k + 1) f fd ["text"] spRead := by
  obtain ⟨tM, m_MAX⟩ := U.m_MAX
  refine d.F.ok sc_read_integer (fun vs H Q E h => ?_) (fun cdv A outer s H vs Q E hr h => ?_)
  · obtain ⟨z, rfl, _⟩ := h
    rfl
  · obtain ⟨z, rfl, hz, q⟩ := h
    refine ⟨_, (pss_cons (ps_set (i := 1) sc_read_integer.nd rfl (.inl rfl) (pe_ifExp (pt_cmpR op_eq (pe_slice sl_str (pv 0) po_none (po_some pe_int)) pe_str (nomark _)) (pe_slice sl_str (pv 0) (po_some pe_int) po_none) (pv 0)))
      (pss_cons (ps_if (PW.pt (pw_or (pt_cmpR op_eq (pv 1) pe_str (nomark _)) (pw_or1 (pt_cmpR op_gt (pe_callB call_len_str (by rfl) T.n_len PySem.boot_len (pa_cons (pv 1) pa_nil)) (pe_glob (v := .int 60) rfl m_MAX ⟨_, rfl⟩) (nomark _))))) (pss_one (ps_ret pe_non)) pss_nil)
      (pss_cons (ps_if (pt_not (pt_val (pe_callB (cr_all rfl) (by rfl) U.n_all (by decide +kernel) (pa_cons (pe_lc (own := [("sign", 2)]) (g := gName 2) (tt := tYes) rfl sc_read_integer.nd (pi_str (pv 1)) (blkOk_by (own := [("sign", 2)]) (N := ["text", "digits", "sign"]) (sc := defScope s_read_integer) (by decide +kernel))
          (fun _ _ _ _ _ => pg_name (i := 2) sc_read_integer.nd rfl (Or.inl rfl)) (fun _ _ _ _ _ => pts_nil) (fun _ _ _ _ _ => pe_cmpR op_in_sign (pv 2) pe_str (by rfl))) pa_nil)))) (pss_one (ps_ret pe_non)) pss_nil)
      (pss_cons (ps_if (PW.pt (pw_and (pt_cmpR op_eq (pe_ix ix_str (pv 1) pe_int (fun _ _ => rfl)) pe_str (nomark _)) (pw_and1 (pt_cmpR op_ne (pv 0) pe_str (nomark _))))) (pss_one (ps_ret pe_non)) pss_nil)
      (pss_one (ps_ret (pe_callTy call_int_str (by rfl) T.n_int (by decide +kernel) (pa_cons (pv 0) pa_nil)))))))), ?_⟩
    have zl : (tl z).length ≤ 1000 := by rw [← len_tl z]; exact hz
    have sz : z.length ≤ sizeLine := Nat.le_of_lt (small1000 hz)
    have e45 : tl ("-" : Str) = [45] := by decide +kernel
    have e0 : tl ("" : Str) = [] := by decide +kernel
    have e48 : tl ("0" : Str) = [48] := by decide +kernel
    have no : rd (tl z) = none → ∀ H', Same H H' → Q .non H' := fun e H' hs => by
      have x := q H' hs
      rw [e] at x
      exact x
    have f0 : ∀ y : Str, decide (V.str y = V.str "") = decide (tl y = []) := fun y => decide_eq_decide.mpr (by rw [str_eq, e0])
    have f45 : decide (V.str (cutS z none (some 1)) = V.str "-") = decide ((tl z).head? = some 45) := decide_eq_decide.mpr (by rw [str_eq, e45, cut_one, take_one])
    refine ⟨.str z, rfl, 1, rfl, z, rfl, sz, rfl, _, rfl, ?_⟩
    show if decide (V.str (cutS z none (some 1)) = V.str "-") = true then _ else _
    rw [f45]
    refine ite2 (fun e => ?first) (fun e => ?second)
    case' first =>
      have c : (tl z).head? = some 45 := of_decide_eq_true e
      have hy : tl (cutS z (some 1) none) = dg (tl z) := by rw [cut_rest]; unfold dg; rw [if_pos c]
      refine ⟨.str z, rfl, 1, rfl, z, rfl, sz, ?_⟩
      revert hy
      generalize cutS z (some 1) none = y
      intro hy
    case' second =>
      have c : ¬ (tl z).head? = some 45 := fun q => e (decide_eq_true q)
      obtain ⟨y, ey⟩ : ∃ y, z = y := ⟨z, rfl⟩
      have hy : tl y = dg (tl z) := by unfold dg; rw [if_neg c, ey]
      refine ⟨_, rfl, ?_⟩
      refine Eq.mpr (congrArg (fun x => gName 1 x _ _ _) (congrArg V.str ey)) ?_
    all_goals
      refine ⟨_, rfl, rfl, _, rfl, ?_⟩
      show if decide (V.str y = V.str "") = true then _ else _
      rw [f0, hy]
      have yl : y.length = (dg (tl z)).length := by rw [len_tl y, hy]
      have ys : y.length ≤ sizeLine := Nat.le_of_lt (small1000 (by have := dg_len (tl z); omega))
      refine ite2 (fun e1 => ?_) (fun e1 => ?_)
      · exact no (rd_A (.inl (of_decide_eq_true e1))) H (Same.refl H)
      · have h1 : dg (tl z) ≠ [] := fun q => e1 (decide_eq_true q)
        refine ⟨_, rfl, _, rfl, ys, _, _, rfl, rfl, _, rfl, ?_⟩
        refine ite2 (fun e2 => ?_) (fun e2 => ?_)
        · have e2' := of_decide_eq_true e2
          exact no (rd_A (.inr (.inl (by omega)))) H (Same.refl H)
        · have l60 : (dg (tl z)).length ≤ 60 := by
            have e2' : ¬ (60 : Int) < (y.length : Int) := fun q => e2 (decide_eq_true q)
            omega
          refine ⟨_, rfl, y, rfl, fun L hL => ?_⟩
          refine lc_it walk_str (fun i H' => Same H H' ∧ H' L = some (.lst (((tl y).take i).map fun c => V.bl (decide (c ∈ tl ("0123456789" : Str)))))) ⟨sub_same hL, upd_same⟩ (fun _ _ _ _ => trivial) ?_ ?_
          · rintro i x H1 H2 hi ⟨s1, hD1⟩ ⟨rfl, c, hc, rfl⟩
            refine ⟨rfl, ?_⟩
            unfold tYes
            refine ite2 (fun _ => ?_) (fun q => absurd rfl q)
            refine ⟨_, rfl, c, _, rfl, rfl, _, hD1, ?_, ?_, ?_⟩
            · rw [List.length_map, List.length_take]
              exact small1000 (by have := dg_len (tl z); rw [hy]; omega)
            · intro b o hb
              rw [upd_ne (ne_of_none hb hL)]
              exact s1 b o hb
            · rw [upd_same]
              have hc' : (tl y)[i]? = some c := by rw [← hc]; exact Array.getElem?_toList
              rw [List.take_succ, hc', List.map_append]
              rfl
          · rintro H1 ⟨s1, hD1⟩
            have full : (tl y).take y.cps.size = tl y := List.take_of_length_le (by rw [← len_tl y]; exact Nat.le_refl _)
            rw [full] at hD1
            refine ⟨L, _, rfl, .inl (.inl (by rw [hD1]; exact congrArg some (congrArg HO.lst (List.map_map ..).symm))), _, rfl, ?_⟩
            rw [all_num, hy]
            refine ite2 (fun e3 => ?_) (fun e3 => ?_)
            · exact no (rd_A (.inr (.inr (by simpa using e3)))) H1 s1
            · have h3 : (dg (tl z)).all (fun c => decide (48 ≤ c) && decide (c ≤ 57)) = true := by simpa using e3
              have fin : ((dg (tl z)).head? = some 48 → tl z = [48]) → ∃ i, PySem.intText? z = some i ∧ Q (.int i) H1 := fun h4 => by
                obtain ⟨i, r1, r2⟩ := rd_C hz h1 l60 h3 h4
                have x := q H1 s1
                rw [r1] at x
                exact ⟨i, r2, x⟩
              have l640 : z.length ≤ 640 := by
                have := dg_len1 (tl z)
                rw [len_tl z]
                omega
              cases hd : dg (tl z) with
              | nil => exact absurd hd h1
              | cons c0 r0 =>
                rw [hd] at fin
                refine ⟨_, rfl, y, 0, c0, rfl, rfl, ys, atI_nat (j := 0) (by show (tl y)[0]? = _; rw [hy, hd]; rfl), rfl, _, rfl, ?_⟩
                have f48 : decide (V.str ⟨#[c0]⟩ = V.str "0") = decide (c0 = 48) := decide_eq_decide.mpr (by
                  rw [str_eq, e48]
                  show [c0] = [48] ↔ _
                  simp)
                show if decide (V.str ⟨#[c0]⟩ = V.str "0") = true then _ else _
                rw [f48]
                have fz : decide (V.str z = V.str "0") = decide (tl z = [48]) := decide_eq_decide.mpr (by rw [str_eq, e48])
                refine ite2 (fun e4 => ?_) (fun e4 => ?_)
                · refine ⟨_, rfl, rfl, _, rfl, ?_⟩
                  show if (!decide (V.str z = V.str "0")) = true then _ else _
                  rw [fz]
                  refine ite2 (fun e5 => ?_) (fun e5 => ?_)
                  · exact no (rd_B (by rw [hd]; exact congrArg some (of_decide_eq_true e4)) (by simpa using e5)) H1 s1
                  · obtain ⟨i, r2, x⟩ := fin fun _ => by simpa using e5
                    exact ⟨_, rfl, z, i, rfl, r2, l640, x⟩
                · obtain ⟨i, r2, x⟩ := fin fun q => absurd (decide_eq_true (Option.some.inj q)) e4
                  exact ⟨_, rfl, z, i, rfl, r2, l640, x⟩
end
end K03

/-! # ratios -/
namespace K03
open PySem PySem.Spec PyProof.Rows L2 TL NumText
/-- // of a divisor of either sign -/
theorem op_fdivE {X : Cx} : OpR X (binaryOp .FloorDiv) (rI (fun _ j => j ≠ 0 ∧ j.natAbs.log2 < 9000) fun i j => .int (i.fdiv j)) := opI fun i j _ _ _ _ _ hc q => floordiv_int hc.1 q (.inl (PyProof.noPylong_of_log2 hc.2))
theorem fdiv_dv {i j : Int} (h : j ≠ 0) : i.fdiv (dv i j) = i / dv i j ∧ j.fdiv (dv i j) = j / dv i j := by
  have a : dv i j ∣ i := ⟨i / dv i j, by rw [Int.mul_comm]; exact (dv_mul h).1.symm⟩
  have b : dv i j ∣ j := ⟨j / dv i j, by rw [Int.mul_comm]; exact (dv_mul h).2.symm⟩
  exact ⟨Int.fdiv_eq_ediv_of_dvd a, Int.fdiv_eq_ediv_of_dvd b⟩
theorem dv_small {i j : Int} (h : j ≠ 0) (hb : j.natAbs < 10 ^ 60) : (dv i j).natAbs.log2 < 9000 := by
  have g : Nat.gcd i.natAbs j.natAbs ≤ j.natAbs := Nat.gcd_le_right _ (by omega)
  have e : (dv i j).natAbs = Nat.gcd i.natAbs j.natAbs := by unfold dv; split <;> omega
  rw [e]
  have z : Nat.gcd i.natAbs j.natAbs < 2 ^ 200 := Nat.lt_of_lt_of_le (Nat.lt_of_le_of_lt g hb) (by decide)
  exact Nat.lt_of_lt_of_le (PySem.Flt.log2_lt_of (by decide) z) (by decide)
theorem dead {X : Cx} {b : List Stmt} : PSs X b (fun _ _ _ => False) := ⟨fun _ _ _ _ _ _ h => h.elim⟩
/-! ### the text by places -/
abbrev s_init : Stmt := inClass (topS 13) 0
theorem sc_init : FnScope ["self", "top", "bottom", "divisor"] ["self", "top", "bottom"] (defScope s_init) := ⟨rfl, rfl, rfl, by decide +kernel, rfl, by decide +kernel, by decide +kernel⟩
abbrev s_readm : Stmt := inClass (topS 13) 1
abbrev s_top : Stmt := inClass (topS 13) 2
theorem sc_top : FnScope ["self"] ["self"] (defScope s_top) := ⟨rfl, rfl, rfl, by decide +kernel, rfl, by decide +kernel, by decide +kernel⟩
abbrev s_bottom : Stmt := inClass (topS 13) 3
theorem sc_bottom : FnScope ["self"] ["self"] (defScope s_bottom) := ⟨rfl, rfl, rfl, by decide +kernel, rfl, by decide +kernel, by decide +kernel⟩
abbrev s_eq : Stmt := inClass (topS 13) 11
theorem sc_eq : FnScope ["self", "other"] ["self", "other"] (defScope s_eq) := ⟨rfl, rfl, rfl, by decide +kernel, rfl, by decide +kernel, by decide +kernel⟩
abbrev s_str : Stmt := inClass (topS 13) 13
theorem sc_str : FnScope ["self"] ["self"] (defScope s_str) := ⟨rfl, rfl, rfl, by decide +kernel, rfl, by decide +kernel, by decide +kernel⟩
/-! ### the fields -/
theorem tb_ : ¬ (("_top" : Str) = "_bottom") := by decide +kernel
def pf (p q : Int) : List (Str × V) := putF "_bottom" (.int q) (putF "_top" (.int p) [])
theorem pf_eq (p q : Int) : pf p q = [(("_top" : Str), V.int p), (("_bottom" : Str), V.int q)] := by
  show (if ("_top" : Str) = "_bottom" then [(("_top" : Str), V.int q)] else (("_top" : Str), V.int p) :: putF "_bottom" (V.int q) []) = _
  rw [if_neg tb_]
  rfl
theorem pf_top (p q : Int) : (pf p q).lookup ("_top" : Str) = some (.int p) := by
  unfold pf
  rw [lookup_putF, if_neg tb_, lookup_putF, if_pos rfl]
theorem pf_bottom (p q : Int) : (pf p q).lookup ("_bottom" : Str) = some (.int q) := by
  unfold pf
  rw [lookup_putF, if_pos rfl]
def Rat (H : Hp) (a C : Addr) (p q : Int) : Prop := ∃ dx, H a = some (.ins C dx (pf p q))
theorem Rat.ins {H : Hp} {a C : Addr} {p q : Int} (h : Rat H a C p q) : Ins H a C := let ⟨dx, e⟩ := h; ⟨dx, _, e⟩
structure RC (K : PySem.W.Frag) (mg : Str → Option Value) (C : Addr) : Prop where
  cl : Cls K C
  nT : NoAttr K C "_top"
  nB : NoAttr K C "_bottom"
  mC : mg "Ratio" = some (.ref C)
/-- a method of the class -/
structure M (K : PySem.W.Frag) (x q : Str) (st : Stmt) (ps : List Str) (f : Addr) (fd : FuncData) : Prop where
  F : Fun K x q st f fd
  b : Binds K fd ps []
section
variable {P : Program} {w : World} {K : PySem.W.Frag} {mg : Str → Option Value} {base : Heap} {C : Addr}
def spTop (C : Addr) : Sp := fun vs H Q _ => ∃ a p q, vs = [.ref a] ∧ Rat H a C p q ∧ Q (.int p) H
theorem ok_top {f : Addr} {fd : FuncData} {k : Nat} (R : RC K mg C) (d : M K "top" "Ratio.top" s_top ["self"] f fd) : FnOk P w K mg base CX0 (k + 1) f fd ["self"] (spTop C) := by
  refine d.F.ok sc_top (fun vs H Q E h => ?_) (fun cdv A outer s H vs Q E hr h => ?_)
  · obtain ⟨a, p, q, rfl, _⟩ := h
    rfl
  · obtain ⟨a, p, q, rfl, ⟨dx, ha⟩, g⟩ := h
    refine ⟨_, pss_one (ps_ret (pe_fld (pv 0) rfl)), ?_⟩
    exact ⟨_, rfl, a, C, dx, _, _, rfl, ha, R.cl, R.nT, pf_top p q, g⟩
def spBottom (C : Addr) : Sp := fun vs H Q _ => ∃ a p q, vs = [.ref a] ∧ Rat H a C p q ∧ Q (.int q) H
theorem ok_bottom {f : Addr} {fd : FuncData} {k : Nat} (R : RC K mg C) (d : M K "bottom" "Ratio.bottom" s_bottom ["self"] f fd) : FnOk P w K mg base CX0 (k + 1) f fd ["self"] (spBottom C) := by
  refine d.F.ok sc_bottom (fun vs H Q E h => ?_) (fun cdv A outer s H vs Q E hr h => ?_)
  · obtain ⟨a, p, q, rfl, _⟩ := h
    rfl
  · obtain ⟨a, p, q, rfl, ⟨dx, ha⟩, g⟩ := h
    refine ⟨_, pss_one (ps_ret (pe_fld (pv 0) rfl)), ?_⟩
    exact ⟨_, rfl, a, C, dx, _, _, rfl, ha, R.cl, R.nB, pf_bottom p q, g⟩
/-- == of two ratios -/
def spEq (C : Addr) : Sp := fun vs H Q _ => ∃ a b p q p' q', vs = [.ref a, .ref b] ∧ Rat H a C p q ∧ Rat H b C p' q' ∧ Q (.bl (decide (p = p') && decide (q = q'))) H
theorem ok_eq {f : Addr} {fd : FuncData} {k : Nat} (T : Txt mg) (R : RC K mg C) (IC : C8.InsC K C) (d : M K "__eq__" "Ratio.__eq__" s_eq ["self", "other"] f fd) : FnOk P w K mg base CX0 (k + 1) f fd ["self", "other"] (spEq C) := by
  refine d.F.ok sc_eq (fun vs H Q E h => ?_) (fun cdv A outer s H vs Q E hr h => ?_)
  · obtain ⟨a, b, p, q, p', q', rfl, _⟩ := h
    rfl
  · obtain ⟨a, b, p, q, p', q', rfl, ⟨dx, ha⟩, ⟨dy, hb⟩, g⟩ := h
    refine ⟨_, pss_one (ps_ret (pe_and (pe_callB (C8.call_isC IC) (by rfl) T.n_isinstance (by decide +kernel) (pa_cons (pv 1) (pa_cons (pe_glob (v := .ref C) rfl R.mC rfl) pa_nil)))
      (pe_and (pe_cmpR op_eq (pe_fld (pv 0) rfl) (pe_fld (pv 1) rfl) (nomark _)) (pe_one (pe_cmpR op_eq (pe_fld (pv 0) rfl) (pe_fld (pv 1) rfl) (nomark _)))))), ?_⟩
    refine ⟨_, rfl, b, dy, _, rfl, hb, true, rfl, iteT ?_⟩
    refine ⟨_, rfl, a, C, dx, _, _, rfl, ha, R.cl, R.nT, pf_top p q, _, rfl, b, C, dy, _, _, rfl, hb, R.cl, R.nT, pf_top p' q', rfl, _, rfl, ite2 (fun e => ?_) (fun e => ?_)⟩
    · have e1 : p = p' := V.int.inj (of_decide_eq_true e)
      refine ⟨_, rfl, a, C, dx, _, _, rfl, ha, R.cl, R.nB, pf_bottom p q, _, rfl, b, C, dy, _, _, rfl, hb, R.cl, R.nB, pf_bottom p' q', rfl, ?_⟩
      have e2 : decide (V.int q = V.int q') = (decide (p = p') && decide (q = q')) := by
        rw [decide_eq_true e1, Bool.true_and]
        exact decide_eq_decide.mpr ⟨fun z => V.int.inj z, fun z => congrArg V.int z⟩
      show Q (.bl (decide (V.int q = V.int q'))) H
      rw [e2]
      exact g
    · have e1 : ¬ p = p' := fun z => e (decide_eq_true (congrArg V.int z))
      rw [decide_eq_false e1, Bool.false_and] at g
      exact g
/-- str of a ratio -/
def spStr (C : Addr) : Sp := fun vs H Q _ => ∃ a p q, vs = [.ref a] ∧ Rat H a C p q ∧ p.natAbs < 10 ^ 60 ∧ q.natAbs < 10 ^ 60 ∧ ∀ z : Str, tl z = ratL p q → Q (.str z) H
theorem intL_len {i : Int} (h : i.natAbs < 10 ^ 60) : (intL i).length ≤ 61 := by
  have z := numL_len (n := i.natAbs) (k := 60) (by decide) h
  unfold intL
  split
  · rw [List.length_cons]; omega
  · omega
theorem ratL_len {p q : Int} (hp : p.natAbs < 10 ^ 60) (hq : q.natAbs < 10 ^ 60) : (ratL p q).length ≤ 123 := by
  have a := intL_len hp
  have b := intL_len hq
  unfold ratL
  split
  · omega
  · rw [List.length_append, List.length_cons]; omega
theorem log_small {i : Int} (h : i.natAbs < 10 ^ 60) : i.natAbs.log2 < 1920 := by
  have z : i.natAbs < 2 ^ 200 := Nat.lt_of_lt_of_le h (by decide)
  exact Nat.lt_of_lt_of_le (PySem.Flt.log2_lt_of (by decide) z) (by decide)
theorem ok_str {f : Addr} {fd : FuncData} {k : Nat} (N : Nam mg) (R : RC K mg C) (d : M K "__str__" "Ratio.__str__" s_str ["self"] f fd) : FnOk P w K mg base CX0 (k + 1) f fd ["self"] (spStr C) := by
  refine d.F.ok sc_str (fun vs H Q E h => ?_) (fun cdv A outer s H vs Q E hr h => ?_)
  · obtain ⟨a, p, q, rfl, _⟩ := h
    rfl
  · obtain ⟨a, p, q, rfl, ⟨dx, ha⟩, hp, hq, g⟩ := h
    refine ⟨_, (pss_cons (ps_if (pt_cmpR op_eq (pe_fld (pv 0) rfl) pe_int (nomark _)) (pss_one (ps_ret (pe_callTy call_str_int (by rfl) N.n_str (by decide +kernel) (pa_cons (pe_fld (pv 0) rfl) pa_nil)))) pss_nil)
      (pss_one (ps_ret (pe_joined (.cons (pe_fmt (pe_fld (pv 0) rfl)) (.cons pe_str (.cons (pe_fmt (pe_fld (pv 0) rfl)) .nil))))))), ?_⟩
    have lp := intL_len hp
    have lq := intL_len hq
    refine ⟨_, rfl, a, C, dx, _, _, rfl, ha, R.cl, R.nB, pf_bottom p q, rfl, _, rfl, ite2 (fun e => ?_) (fun e => ?_)⟩
    · have e1 : q = 1 := V.int.inj (of_decide_eq_true e)
      refine ⟨_, rfl, a, C, dx, _, _, rfl, ha, R.cl, R.nT, pf_top p q, p, rfl, log_small hp, g _ ?_⟩
      unfold ratL
      rw [if_pos e1]
      exact tl_int p
    · have e1 : ¬ q = 1 := fun z => e (decide_eq_true (congrArg V.int z))
      have b : tl ("/" : Str) = [47] := by decide +kernel
      have t1 : tl (Str.empty ++ Str.ofString (toString p)) = intL p := by rw [tl_append, tl_int]; rfl
      have t2 : tl (Str.empty ++ Str.ofString (toString p) ++ "/") = intL p ++ [47] := by rw [tl_append, t1, b]
      have t3 : tl (Str.empty ++ Str.ofString (toString p) ++ "/" ++ Str.ofString (toString q)) = intL p ++ [47] ++ intL q := by rw [tl_append, t2, tl_int]
      refine ⟨_, rfl, a, C, dx, _, _, rfl, ha, R.cl, R.nT, pf_top p q, .inr ⟨p, rfl, log_small hp, _, rfl, ?_, ?_⟩⟩
      · rw [len_tl, t1]
        exact Nat.le_of_lt (small1000 (by omega))
      · refine ⟨_, rfl, ?_, ?_⟩
        · rw [len_tl, t2, List.length_append]
          exact Nat.le_of_lt (small1000 (by show _ + 1 ≤ _; omega))
        · refine ⟨_, rfl, a, C, dx, _, _, rfl, ha, R.cl, R.nB, pf_bottom p q, .inr ⟨q, rfl, log_small hq, _, rfl, ?_, ?_⟩⟩
          · rw [len_tl, t3, List.length_append, List.length_append]
            exact Nat.le_of_lt (small1000 (by show _ + 1 + _ ≤ _; omega))
          · refine g _ ?_
            rw [t3]
            unfold ratL
            rw [if_neg e1, List.append_assoc]
            rfl
/-- a ratio is made -/
def spInit (C : Addr) : Sp := fun vs H Q _ => ∃ (a : Addr) (i j : Int) (dx : Addr), vs = [.ref a, .int i, .int j] ∧ i.natAbs < 10 ^ 60 ∧ j.natAbs < 10 ^ 60 ∧ j ≠ 0 ∧ H a = some (.ins C dx []) ∧
  ∀ H', But a H H' → Rat H' a C (i / dv i j) (j / dv i j) → Q .non H'
theorem ok_init {f f1 f2 f3 : Addr} {fd fd1 fd2 fd3 : FuncData} {k : Nat} (T : Txt mg) (N : Nam mg) (R : RC K mg C)
    (body : ∀ (sp : Sp) (j : Nat), (∀ vs H Q E, sp vs H Q E → vs.length = 3) →
      (∀ (cdv : Value) (A : Around) (outer : List Env) (s : Shared) (H : Hp) (vs : List V) (Q : VK) (E : XK), Room j (A.deeper (envOfC "Ratio.__init__" (defScope s_init) s.heap.objs.size f cdv)) → sp vs H Q E →
        ∃ t, PSs (cxOf CX0 P w K mg base ["self", "top", "bottom", "divisor"] "Ratio.__init__" (defScope s_init) f cdv A outer s H E).nox (defBody s_init) t ∧ t { nx := fun _ H' => Q .non H', rt := Q } (L2.start ["self", "top", "bottom", "divisor"] vs) H) →
      FnOk P w K mg base CX0 (j + 1) f fd ["self", "top", "bottom"] sp)
    (d1 : D K mg "is_whole" s_is_whole ["value"] f1 fd1) (d2 : D K mg "is_integer" s_is_integer ["value"] f2 fd2) (d3 : D K mg "divisor_of_terms" s_terms ["top", "bottom"] f3 fd3) :
    FnOk P w K mg base CX0 (k + 3) f fd ["self", "top", "bottom"] (spInit C) := by
  have G2 : FnOk P w K mg base CX0 (k + 2) f2 fd2 ["value"] spInteger := ok_integer T N d2 d1
  have G3 : FnOk P w K mg base CX0 (k + 2) f3 fd3 ["top", "bottom"] spTerms := ok_terms N d3
  refine body (spInit C) (k + 2) (fun vs H Q E h => ?_) (fun cdv A outer s H vs Q E hr h => ?_)
  · obtain ⟨a, i, j, dx, rfl, _⟩ := h
    rfl
  · obtain ⟨a, i, j, dx, rfl, hi, hj, j0, ha, g⟩ := h
    refine ⟨_, (pss_cons (ps_if (pt_not (pt_val (pe_call G2 hr (by rfl) d2.g d2.F.kp d2.b .nil pass0 (pa_cons (pv 1) pa_nil)))) dead pss_nil)
      (pss_cons (ps_if (PW.pt (pw_or (pt_not (pt_val (pe_call G2 hr (by rfl) d2.g d2.F.kp d2.b .nil pass0 (pa_cons (pv 2) pa_nil)))) (pw_or1 (pt_cmpR op_eq (pv 2) pe_int (nomark _))))) dead pss_nil)
      (pss_cons (ps_set (i := 3) sc_init.nd rfl (.inl rfl) (pe_call G3 hr (by rfl) d3.g d3.F.kp d3.b .nil pass0 (pa_cons (pv 1) (pa_cons (pv 2) pa_nil))))
      (pss_cons (ps_fld (pv 0) (pe_op op_fdivE (pv 1) (pv 3)) rfl)
      (pss_one (ps_fld (pv 0) (pe_op op_fdivE (pv 2) (pv 3)) rfl)))))), ?_⟩
    refine ⟨_, rfl, i, rfl, hi, true, rfl, ?_⟩
    refine ite2 (fun z => absurd z (by decide)) (fun _ => ?_)
    refine ⟨_, rfl, j, rfl, hj, true, rfl, ?_⟩
    refine ite2 (fun z => absurd z (by decide)) (fun _ => ?_)
    refine ⟨_, rfl, rfl, _, rfl, ite2 (fun z => absurd (V.int.inj (of_decide_eq_true z)) j0) (fun _ => ?_)⟩
    refine ⟨_, rfl, _, rfl, i, j, rfl, ?_⟩
    obtain ⟨f1', f2'⟩ := fdiv_dv (i := i) j0
    refine ⟨_, rfl, _, rfl, i, dv i j, rfl, rfl, ⟨dv_ne j0, dv_small j0 hj⟩, ?_⟩
    refine ⟨_, rfl, a, C, dx, [], rfl, ha, R.cl, R.nT, (by show 0 < 1000; decide), ?_⟩
    refine ⟨_, rfl, _, rfl, j, dv i j, rfl, rfl, ⟨dv_ne j0, dv_small j0 hj⟩, ?_⟩
    refine ⟨_, rfl, a, C, dx, _, rfl, upd_same, R.cl, R.nB, (by show 1 < 1000; decide), ?_⟩
    refine g _ ((but_upd a H _).trans (but_upd a _ _)) ⟨dx, ?_⟩
    rw [upd_same, ← f1', ← f2']
    rfl
end
end K03

/-! # texts read as ratios -/
namespace K03
open PySem PySem.Spec PyProof.Rows L2 TL NumText
section
variable {X : Cx} {k i : Nat} {C f : Addr} {fd : FuncData} {ps : List Str} {sp : Sp} {x : Str} {p pos : Pos} {e : Expr} {es : List Expr} {t : TA}
/-- a class that a local name holds, called -/
theorem pe_makeL (M : Mk X.K C f) (F : FnOk X.prog X.w X.K X.mg X.base CX0 k f fd ps sp) (hr : Room (k + 1) X.A) (hN : X.N[i]? = some x) (hv : Vis X.env.scope x) (hb : Binds X.K fd ps []) (ha : PA X (e :: es) t)
    (hdb : (x == ("__debug__" : Str)) = false := by decide) (hcd : (x == ("__classdict__" : Str)) = false := by decide)
    (he : starEach (e :: es) X.env = (false, eval e X.env) :: starEach es X.env := by rfl) (hpl : (backTo pos (starEach es X.env)).any (·.1) = false := by rfl) :
    PE X (.Call (.Name x p) (e :: es) [] pos) (fun σ H Q => σ[i]? = some (some (.ref C)) ∧ tMake C sp [] E0 t σ H Q) := by
  refine ⟨fun pins s σ H Q I ⟨hs, h⟩ => ?_⟩
  refine wpAny_Call_Name_kw (thn ((pe_var (pos := p) hN hv hdb hcd).run pins s σ H (fun v G => v = .ref C ∧ G = H) I ⟨_, hs, rfl, rfl⟩) fun u s1 ⟨v, G, I1, r1, q1⟩ => ?_)
  obtain ⟨rfl, rfl⟩ := q1
  cases r1
  exact PySem.W.callWith_K (h₀ := X.base) I1.ok.mod.kin M.kp (thn (ha.run pos pins s1 σ G _ I1 h) fun us s2 ⟨vs, H1, I2, r, q⟩ => ⟨I2.kIn, run_make M F hr hb .nil pass0 I2 r q⟩) he hpl
end
abbrev s_pinit : Stmt := inClass (topS 4) 0
theorem sc_pinit : FnScope ["self", "spot"] ["self", "spot"] (defScope s_pinit) := ⟨rfl, rfl, rfl, by decide +kernel, rfl, by decide +kernel, by decide +kernel⟩
theorem sc_readm : FnScope ["cls", "text", "parts", "terms", "made", "part"] ["cls", "text"] (defScope s_readm) := ⟨rfl, rfl, rfl, by decide +kernel, rfl, by decide +kernel, by decide +kernel⟩
section
variable {P : Program} {w : World} {K : PySem.W.Frag} {mg : Str → Option Value} {base : Heap} {C CP : Addr}
def spPinit (CP : Addr) : Sp := fun vs H Q _ => ∃ (a : Addr) (v : V), vs = [.ref a, v] ∧ H a = some (exo a CP none) ∧ ∀ dx, H dx = none → dx ≠ a → Q .non (upd (upd H dx (exd dx [(("spot" : Str), v)])) a (exo a CP (some dx)))
theorem ok_pinit {f : Addr} {fd : FuncData} {k : Nat} (T : OexC K CP) (no : PySem.W.findIn K (.ref CP) "spot" = some none) (d : M K "__init__" "ParseError.__init__" s_pinit ["self", "spot"] f fd) : FnOk P w K mg base CX0 (k + 1) f fd ["self", "spot"] (spPinit CP) := by
  refine d.F.ok sc_pinit (fun vs H Q E h => ?_) (fun cdv A outer s H vs Q E hr h => ?_)
  · obtain ⟨a, v, rfl, _⟩ := h
    rfl
  · obtain ⟨a, v, rfl, ha, g⟩ := h
    refine ⟨_, pss_one (ps_ost (pv 0) (pv 1)), ?_⟩
    exact ⟨v, rfl, .ref a, rfl, a, CP, rfl, T, no, .inl ⟨ha, g⟩⟩
/-- an error that tells of the spot 0 -/
def Bad (CP : Addr) (H : Hp) (E : XK) : Prop := ∀ (d : Addr) (H' : Hp), Same H H' → H' d = some (.xd [(("spot" : Str), .int 0)]) → E (.ref CP) (some d) H'
theorem bad_raise {H0 H1 : Hp} {E : XK} {σ : L2.St} (b : Bad CP H0 E) (s : Same H0 H1) : tMkO CP (spPinit CP) [] (tCons (tC (.int 0)) tNil) σ H1 E := by
  refine ⟨by decide, fun a ha => ⟨a, .int 0, rfl, upd_same, fun dx hdx ne => ⟨rfl, dx, [(("spot" : Str), .int 0)], upd_same, (upd_ne ne).trans upd_same, ?_, b dx _ (fun c o h => ?_) upd_same⟩⟩⟩
  · rw [upd_ne ne] at hdx
    exact hdx
  · rw [upd_ne ne] at hdx
    have h1 := s c o h
    rw [upd_ne (ne_of_none h1 hdx), del_ne (ne_of_none h1 ha), upd_ne (ne_of_none h1 ha), upd_ne (ne_of_none h1 hdx), upd_ne (ne_of_none h1 ha)]
    exact h1
theorem quo_small {i j : Int} (hj : j ≠ 0) (bi : i.natAbs < 10 ^ 60) (bj : j.natAbs < 10 ^ 60) : (i / dv i j).natAbs < 10 ^ 60 ∧ (j / dv i j).natAbs < 10 ^ 60 := by
  have d1 : 1 ≤ (dv i j).natAbs := by have := dv_ne (i := i) hj; omega
  have small : ∀ {x : Int}, x / dv i j * dv i j = x → x.natAbs < 10 ^ 60 → (x / dv i j).natAbs < 10 ^ 60 := fun {x} m bx => by
    have z := congrArg Int.natAbs m
    rw [Int.natAbs_mul] at z
    have : (x / dv i j).natAbs * 1 ≤ (x / dv i j).natAbs * (dv i j).natAbs := Nat.mul_le_mul_left _ d1
    omega
  exact ⟨small (dv_mul hj).1 bi, small (dv_mul hj).2 bj⟩
theorem dv_one (i : Int) : i / dv i 1 = i ∧ (1 : Int) / dv i 1 = 1 := by
  have e : dv i 1 = 1 := by
    unfold dv
    rw [if_neg (by decide)]
    show ((Nat.gcd i.natAbs 1 : Nat) : Int) = 1
    rw [Nat.gcd_one_right]
    rfl
  rw [e]
  exact ⟨Int.ediv_one i, rfl⟩
theorem made_same {H G H6 : Hp} {a dx : Addr} {o u : HO} (s : Same H G) (ha : G a = none) (hd : G dx = none) (but : But a (upd (upd G dx o) a u) H6) : Same H H6 ∧ H a = none :=
  ⟨fun c x h => by
    have h1 := s c x h
    have na : c ≠ a := ne_of_none h1 ha
    rw [but c na, upd_ne na, upd_ne (ne_of_none h1 hd)]
    exact h1, s.free ha⟩
theorem join_len (S : List Nat) : ∀ {ps : List (List Nat)} {p : List Nat}, p ∈ ps → p.length ≤ (joinL S ps).length
  | [], _, h => by cases h
  | [q], p, h => by rw [List.mem_singleton.mp h]; exact Nat.le_refl _
  | q :: r :: t, p, h => by
    show p.length ≤ (q ++ (S ++ joinL S (r :: t))).length
    rw [List.length_append, List.length_append]
    rcases List.mem_cons.mp h with e | e
    · rw [e]; omega
    · have := join_len S e
      omega
def lookL : List (List Nat) → Option (Int × Int)
  | [a] => (rd a).map fun i => (i, 1)
  | [a, b] => match rd a, rd b with
    | some i, some j => if j ≠ 0 ∧ lets2 a b i = true then some (i, j) else none
    | _, _ => none
  | _ => none
def look (cs : List Nat) : Option (Int × Int) := lookL (sp cs)
def spReadm (K : PySem.W.Frag) (C CP : Addr) : Sp := fun vs H Q E => ∃ x : V, vs = [.ref C, x] ∧
  ((∃ z : Str, x = .str z ∧ z.length ≤ 900 ∧ (look (tl z) = none → Bad CP H E) ∧ ∀ i j, look (tl z) = some (i, j) → ∀ H' a, Same H H' → H a = none → Rat H' a C i j → Q (.ref a) H') ∨
   (∃ t, TyX K H x (.type t) ∧ kitB t "str" = some false ∧ Bad CP H E))
structure RD (K : PySem.W.Frag) (mg : Str → Option Value) (CP fP : Addr) (fdP : FuncData) : Prop where
  T : OexC K CP
  no : PySem.W.findIn K (.ref CP) "spot" = some none
  iC : PySem.W.findIn K (.ref CP) "__init__" = some (some (.ref fP))
  tI : PySem.W.typeIn K (.ref fP) = some (.type "function")
  g : mg "ParseError" = some (.ref CP)
  m : M K "__init__" "ParseError.__init__" s_pinit ["self", "spot"] fP fdP
theorem ok_readm {f fI fS fR fP : Addr} {fd fdI fdS fdR fdP : FuncData} {k : Nat} (T : Txt mg) (N : Nam mg) (R : RC K mg C) (mk : Mk K C fI) (GI : FnOk P w K mg base CX0 (k + 3) fI fdI ["self", "top", "bottom"] (spInit C)) (bI : Binds K fdI ["self", "top", "bottom"] [])
    (hS : PySem.W.findIn K (.ref C) "__str__" = some (some (.ref fS))) (iS : PySem.W.isFn K (.ref fS) = true) (dS : M K "__str__" "Ratio.__str__" s_str ["self"] fS fdS) (dR : D K mg "read_integer" s_read_integer ["text"] fR fdR) (dP : RD K mg CP fP fdP)
    (d : M K "read" "Ratio.read" s_readm ["cls", "text"] f fd) : FnOk P w K mg base (L2.CX P w) (k + 5) f fd ["cls", "text"] (spReadm K C CP) := by
  have GS : FnOk P w K mg base CX0 (k + 2) fS fdS ["self"] (spStr C) := ok_str N R dS
  have GR : FnOk P w K mg base CX0 (k + 2) fR fdR ["text"] spRead := ok_read T N dR
  have GP : FnOk P w K mg base CX0 (k + 2) fP fdP ["self", "spot"] (spPinit CP) := ok_pinit dP.T dP.no dP.m
  refine d.F.okX sc_readm (fun vs H Q E h => ?_) (fun cdv A outer s H vs Q E hr h => ?_)
  · obtain ⟨x, rfl, _⟩ := h
    rfl
  · obtain ⟨x, rfl, h⟩ := h
    have hr2 : Room (k + 2) _ := hr.mono (by omega)
    refine ⟨_, (pss_cons (ps_set (i := 2) sc_readm.nd rfl (.inl rfl) (pe_ifExp (pt_val (pe_callB call_isi (by rfl) T.n_isinstance (by decide +kernel) (pa_cons (pv 1) (pa_cons (pe_bltn (v := .ty "str") (by rfl) N.n_str (by decide +kernel) rfl) pa_nil)))) (pe_split (pv 1) pe_str) (pe_lst pa_nil)))
      (pss_cons (ps_setLc (i := 3) (own := [("part", 5)]) (g := gName 5) (by rfl) sc_readm.nd rfl rfl (sw_true rfl rfl rfl (by decide +kernel)) (pi_list (pv 2)) (blkOk_by (own := [("part", 5)]) (N := ["cls", "text", "parts", "terms", "made", "part"]) (sc := defScope s_readm) (by decide +kernel)) (fun _ _ _ _ _ => pg_name (i := 5) sc_readm.nd rfl (Or.inl rfl)) (fun _ _ _ _ _ => pts_nil)
        (fun _ _ _ _ _ => pe_call GR (hr.mono (by omega)) (by rfl) dR.g dR.F.kp dR.b .nil pass0 (pa_cons (pv 5) pa_nil)))
      (pss_cons (ps_if (PW.pt (pw_or (pt_cmpR op_notIn_seq (pe_callB call_len_seq (by rfl) T.n_len PySem.boot_len (pa_cons (pv 3) pa_nil)) (pe_tup (pa_cons pe_int (pa_cons pe_int pa_nil))) (by rfl)) (pw_or (pt_cmpR op_in_seq pe_non (pv 3) (by rfl)) (pw_or1 (pt_cmpR op_in_seq pe_int (pe_slice sl_list (pv 3) (po_some pe_int) po_none) (by rfl))))))
        (pss_one (ps_raise rfl (takes_of rfl rfl rfl rfl) (pmk_oex dP.T dP.iC dP.tI GP (hr.mono (by omega)) dP.m.b .nil pass0 (by rfl) dP.g (pa_cons pe_int pa_nil)))) pss_nil)
      (pss_cons (ps_set (i := 4) sc_readm.nd rfl (.inl rfl) (pe_makeL (i := 0) mk GI (hr.mono (by omega)) rfl (.inl rfl) bI (pa_cons (pe_ix ix_list (pv 3) pe_int (fun _ _ => rfl)) (pa_cons (pe_ifExp (pt_cmpR op_eq (pe_callB call_len_seq (by rfl) T.n_len PySem.boot_len (pa_cons (pv 3) pa_nil)) pe_int (nomark _)) pe_int (pe_ix ix_list (pv 3) pe_int (fun _ _ => rfl))) pa_nil))))
      (pss_cons (ps_if (pt_cmpR op_ne (pe_callTy (call_strMine hS iS GS (hr.mono (by omega)) dS.b) (by rfl) N.n_str (by decide +kernel) (pa_cons (pv 4) pa_nil)) (pv 1) (nomark _))
        (pss_one (ps_raise rfl (takes_of rfl rfl rfl rfl) (pmk_oex dP.T dP.iC dP.tI GP (hr.mono (by omega)) dP.m.b .nil pass0 (by rfl) dP.g (pa_cons pe_int pa_nil)))) pss_nil)
      (pss_one (ps_ret (pv 4)))))))), ?_⟩
    have bar : tl ("/" : Str) = [47] := by decide +kernel
    have spl_eq : ∀ z : Str, (Txt.split z "/").map tl = sp (tl z) := fun z => by
      have e := split_spl z "/" (by rw [bar]; simp) (kind_ok (by decide +kernel))
      rw [bar] at e
      exact e
    rcases h with ⟨z, ex, hz, hbad, hgood⟩ | ⟨t, ty, kb, hbad⟩
    case' inl =>
      refine ⟨_, rfl, _, _, .type "str", _, true, rfl, .ty _, (by rw [ex]; exact .base (.str z)), kit_ty (by decide +kernel), true, rfl, ?_⟩
      refine ⟨_, rfl, ⟨z, ex⟩, z, "/", ex, rfl, by decide +kernel, Nat.le_of_lt (small1000 (n := z.length + 2) (by omega)), fun p np => ?_⟩
      have se := spl_eq z
      have hys : ∀ y ∈ Txt.split z "/", y.length ≤ 1000 := fun y hy => by
        have m : tl y ∈ sp (tl z) := by rw [← se]; exact List.mem_map_of_mem hy
        have l := join_len [47] m
        rw [sp_join, ← len_tl z, ← len_tl y] at l
        omega
      have yl : (Txt.split z "/").length ≤ 1000 := by
        have l := PyProof.Rows.split_le z "/"
        omega
      have F1 : lookL ((Txt.split z "/").map tl) = none → Bad CP H E := fun h => hbad (by unfold look; rw [← se]; exact h)
      have F2 : ∀ i j, lookL ((Txt.split z "/").map tl) = some (i, j) → ∀ H' a, Same H H' → H a = none → Rat H' a C i j → Q (.ref a) H' := fun i j h => hgood i j (by unfold look; rw [← se]; exact h)
      have F3 : Txt.split z "/" ≠ [] → ∃ z, x = .str z ∧ z.length ≤ 900 ∧ sp (tl z) = (Txt.split z "/").map tl := fun _ => ⟨z, ex, hz, se.symm⟩
      have F4 : Txt.split z "/" ≠ [] → ∃ z', x = .str z' ∧ sp (tl z') = (Txt.split z "/").map tl := fun _ => ⟨z, ex, se.symm⟩
      clear hbad hgood se F3
      revert hys yl F1 F2 F4
      generalize Txt.split z "/" = ys
      intro hys yl F1 F2 F4
    case' inr =>
      refine ⟨_, rfl, _, _, .type t, _, false, rfl, .ty _, ty, kit_ty kb, false, rfl, ?_⟩
      refine ⟨Nat.zero_le _, fun p np => ?_⟩
      obtain ⟨ys, ey⟩ : ∃ ys : List Str, ys = [] := ⟨[], rfl⟩
      have hys : ∀ y ∈ ys, y.length ≤ 1000 := fun y hy => by rw [ey] at hy; cases hy
      have yl : ys.length ≤ 1000 := by rw [ey]; exact Nat.zero_le _
      have F1 : lookL (ys.map tl) = none → Bad CP H E := fun _ => hbad
      have F2 : ∀ i j, lookL (ys.map tl) = some (i, j) → ∀ H' a, Same H H' → H a = none → Rat H' a C i j → Q (.ref a) H' := fun i j h => by rw [ey] at h; cases h
      have F4 : ys ≠ [] → ∃ z', x = .str z' ∧ sp (tl z') = ys.map tl := fun h => absurd ey h
      refine Eq.mpr (congrArg (fun l => gName 2 (.ref p) _ (upd H p (.lst l)) _) (show ([] : List V) = ys.map V.str by rw [ey]; rfl)) ?_
    all_goals
      have s1 : Same H (upd H p (.lst (ys.map V.str))) := sub_same np
      refine ⟨_, rfl, p, rfl, ⟨_, .inl (.inl upd_same)⟩, fun D hD => ?_⟩
      refine lc_list (K := K) (a := p) (xs := ys.map V.str) (fun i H2 => Same (upd H p (.lst (ys.map V.str))) H2 ∧ H2 D = some (.lst ((ys.take i).map fun y => ov (rd (tl y))))) ⟨sub_same hD, upd_same⟩ (fun i H2 _ z => .inl (.inl (z.1 _ _ upd_same))) ?_ ?_
      · rintro i v H2 hv ⟨s2, hh⟩
        rw [List.getElem?_map] at hv
        cases e : ys[i]? with
        | none => rw [e] at hv; cases hv
        | some y =>
          rw [e] at hv
          obtain rfl : V.str y = v := Option.some.inj hv
          refine ⟨rfl, ?_⟩
          unfold tYes
          refine ite2 (fun _ => ?_) (fun q => absurd rfl q)
          refine ⟨_, rfl, y, rfl, hys y (List.mem_of_getElem? e), fun H3 s3 => ⟨_, s3 _ _ hh, ?_, ?_, ?_⟩⟩
          · rw [List.length_map, List.length_take]
            exact small1000 (by omega)
          · intro b o hb
            rw [upd_ne (ne_of_none hb hD)]
            exact s3 _ _ (s2 b o hb)
          · rw [upd_same, List.take_succ, e, List.map_append]
            rfl
      · rintro H2 ⟨s2, hh⟩
        rw [List.length_map, List.take_length] at hh
        have s3 : Same H H2 := s1.trans s2
        clear s2
        have n12 : ∀ n : Nat, inV (.int (n : Int)) [V.int 1, V.int 2] = (decide (n = 1) || decide (n = 2)) := fun n => by
          show ((1 : Int) == (n : Int) || ((2 : Int) == (n : Int) || false)) = _
          rw [Bool.or_false]
          congr 1 <;> exact decide_eq_decide.mpr (by omega)
        cases ys with
        | nil =>
          refine ⟨_, rfl, D, _, rfl, .inl (.inl (.inl hh)), ?_⟩
          refine ⟨by decide, fun q nq => ?_⟩
          refine ⟨q, _, rfl, .inr (.inl (.inl upd_same)), rfl, rfl, _, rfl, ite2 (fun _ => ?_) (fun z => absurd rfl z)⟩
          exact bad_raise (F1 rfl) (s3.trans (sub_same nq))
        | cons a r =>
          obtain ⟨z, ex', es⟩ := F4 (by simp)
          subst ex'
          cases r with
          | nil =>
            have ez : tl z = tl a := by
              have e := sp_join (tl z)
              rw [es] at e
              exact e.symm
            refine ⟨_, rfl, D, _, rfl, .inl (.inl (.inl hh)), by decide, fun q nq => ⟨q, _, rfl, .inr (.inl (.inl upd_same)), rfl, rfl, _, rfl, ite2 (fun z => Bool.noConfusion (show false = true from z)) (fun _ => ?_)⟩⟩
            have hq := sub_same (o := .tup [V.int 1, V.int 2]) nq _ _ hh
            have s4 := s3.trans (sub_same (o := .tup [V.int 1, V.int 2]) nq)
            cases e : rd (tl a) with
            | none =>
              have hq' : upd H2 q (.tup [V.int 1, V.int 2]) D = some (.lst [V.non]) := by rw [hq]; show some (HO.lst [ov (rd (tl a))]) = _; rw [e]; rfl
              refine ⟨_, rfl, D, _, rfl, .inl (.inl (.inl hq')), rfl, rfl, _, rfl, ite2 (fun _ => ?_) (fun z => absurd rfl z)⟩
              refine bad_raise (F1 ?_) s4
              show (rd (tl a)).map _ = none
              rw [e]
              rfl
            | some i =>
              have bi := (rd_int e).2
              have ea := (rd_int e).1
              have hq' : upd H2 q (.tup [V.int 1, V.int 2]) D = some (.lst [V.int i]) := by rw [hq]; show some (HO.lst [ov (rd (tl a))]) = _; rw [e]; rfl
              refine ⟨_, rfl, D, _, rfl, .inl (.inl (.inl hq')), rfl, rfl, _, rfl, ite2 (fun z => Bool.noConfusion (show false = true from z)) (fun _ => ?_)⟩
              refine ⟨_, rfl, 1, rfl, D, _, rfl, .inl (.inl hq'), fun p2 np2 => ⟨p2, _, rfl, .inl (.inl (.inl upd_same)), rfl, rfl, _, rfl, ite2 (fun z => Bool.noConfusion (show false = true from z)) (fun _ => ?_)⟩⟩
              have s5 := s4.trans (sub_same (o := .lst (cutV [V.int i] (some 1) none)) np2)
              have hq2 := sub_same (o := .lst (cutV [V.int i] (some 1) none)) np2 _ _ hq'
              refine ⟨rfl, .ref D, rfl, D, [V.int i], 0, V.int i, rfl, rfl, .inl (.inl hq2), rfl, ?_⟩
              refine ⟨_, rfl, D, _, rfl, .inl (.inl (.inl hq2)), rfl, _, rfl, ite2 (fun _ => ?_) (fun z => absurd rfl z)⟩
              intro a2 dx ha2 hdx hne
              have b1 : (1 : Int).natAbs < 10 ^ 60 := by decide
              refine ⟨a2, i, 1, dx, rfl, bi, b1, by decide, upd_same, fun H6 but rat => ⟨rfl, ?_⟩⟩
              obtain ⟨d1, d2⟩ := dv_one i
              rw [d1, d2] at rat
              refine ⟨_, rfl, a2, rfl, rat.ins, a2, i, 1, rfl, rat, bi, b1, fun z' hz' => ⟨z', rfl, ?_⟩⟩
              refine ⟨_, rfl, rfl, _, rfl, ite2 (fun e6 => ?_) (fun e6 => ?_)⟩
              · have e7 : V.str z' = V.str z := by
                  rw [str_eq, hz', ez, ea]
                  rfl
                rw [decide_eq_true e7] at e6
                exact Bool.noConfusion e6
              · refine ⟨_, rfl, ?_⟩
                refine F2 i 1 ?_ H6 a2 ?_ ?_ rat
                · show (rd (tl a)).map _ = _
                  rw [e]
                  rfl
                · exact (made_same s5 ha2 hdx but).1
                · exact (made_same s5 ha2 hdx but).2
          | cons b r =>
            cases r with
            | cons c r =>
              have n3 : ∀ n : Nat, (if true = true then !inV (V.int ((n + 3 : Nat) : Int)) [V.int 1, V.int 2] else inV (V.int ((n + 3 : Nat) : Int)) [V.int 1, V.int 2]) = true := fun n => by
                rw [if_pos rfl, n12, decide_eq_false (by omega), decide_eq_false (by omega)]
                rfl
              refine ⟨_, rfl, D, _, rfl, .inl (.inl (.inl hh)), by decide, fun q nq => ⟨q, _, rfl, .inr (.inl (.inl upd_same)), rfl, rfl, _, rfl, ite2 (fun _ => ?_) (fun z => absurd ?_ z)⟩⟩
              · exact bad_raise (F1 rfl) (s3.trans (sub_same nq))
              · have e := n3 (r.map fun y => ov (rd (tl y))).length
                exact e
            | nil =>
              refine ⟨_, rfl, D, _, rfl, .inl (.inl (.inl hh)), by decide, fun q nq => ⟨q, _, rfl, .inr (.inl (.inl upd_same)), rfl, rfl, _, rfl, ite2 (fun z => Bool.noConfusion (show false = true from z)) (fun _ => ?_)⟩⟩
              have hq : upd H2 q (.tup [V.int 1, V.int 2]) D = some (.lst [ov (rd (tl a)), ov (rd (tl b))]) := sub_same (o := .tup [V.int 1, V.int 2]) nq _ _ hh
              have s4 := s3.trans (sub_same (o := .tup [V.int 1, V.int 2]) nq)
              have LL : lookL [tl a, tl b] = match rd (tl a), rd (tl b) with
                | some i, some j => if j ≠ 0 ∧ lets2 (tl a) (tl b) i = true then some (i, j) else none
                | _, _ => none := rfl
              cases e : rd (tl a) with
              | none =>
                rw [e] at hq LL
                have fl : ([ov none, ov (rd (tl b))] : List V).all flatV = true := by cases rd (tl b) <;> rfl
                refine ⟨_, rfl, D, _, rfl, .inl (.inl (.inl hq)), rfl, fl, _, rfl, ite2 (fun _ => ?_) (fun z => absurd rfl z)⟩
                exact bad_raise (F1 LL) s4
              | some i =>
                have bi := (rd_int e).2
                have ea := (rd_int e).1
                rw [e] at hq LL
                cases e' : rd (tl b) with
                | none =>
                  rw [e'] at hq LL
                  refine ⟨_, rfl, D, _, rfl, .inl (.inl (.inl hq)), rfl, rfl, _, rfl, ite2 (fun _ => ?_) (fun z => absurd rfl z)⟩
                  exact bad_raise (F1 LL) s4
                | some j =>
                  have bj := (rd_int e').2
                  rw [e'] at hq LL
                  refine ⟨_, rfl, D, _, rfl, .inl (.inl (.inl hq)), rfl, rfl, _, rfl, ite2 (fun z => Bool.noConfusion (show false = true from z)) (fun _ => ?_)⟩
                  have iv : inV (V.int 0) (cutV [V.int i, V.int j] (some 1) none) = decide (j = 0) := by
                    show ((j == (0 : Int)) || false) = _
                    rw [Bool.or_false]
                    rfl
                  refine ⟨_, rfl, 1, rfl, D, _, rfl, .inl (.inl hq), fun p2 np2 => ⟨p2, _, rfl, .inl (.inl (.inl upd_same)), rfl, rfl, _, rfl, ?_⟩⟩
                  have s5 := s4.trans (sub_same (o := .lst (cutV [V.int i, V.int j] (some 1) none)) np2)
                  have hq2 := sub_same (o := .lst (cutV [V.int i, V.int j] (some 1) none)) np2 _ _ hq
                  by_cases j0 : j = 0
                  · have t1 : (if false = true then !inV (V.int 0) (cutV [V.int i, V.int j] (some 1) none) else inV (V.int 0) (cutV [V.int i, V.int j] (some 1) none)) = true := by
                      rw [if_neg Bool.false_ne_true, iv, decide_eq_true j0]
                    refine ite2 (fun _ => ?_) (fun z => absurd t1 z)
                    refine bad_raise (F1 ?_) s5
                    refine LL.trans ?_
                    show (if j ≠ 0 ∧ lets2 (tl a) (tl b) i = true then some (i, j) else none) = none
                    rw [if_neg (fun z => z.1 j0)]
                  · have t1 : ¬ (if false = true then !inV (V.int 0) (cutV [V.int i, V.int j] (some 1) none) else inV (V.int 0) (cutV [V.int i, V.int j] (some 1) none)) = true := by
                      rw [if_neg Bool.false_ne_true, iv, decide_eq_false j0]
                      exact Bool.false_ne_true
                    refine ite2 (fun z => absurd z t1) (fun _ => ?_)
                    refine ⟨rfl, .ref D, rfl, D, [V.int i, V.int j], 0, V.int i, rfl, rfl, .inl (.inl hq2), rfl, ?_⟩
                    refine ⟨_, rfl, D, _, rfl, .inl (.inl (.inl hq2)), rfl, _, rfl, ite2 (fun z => absurd (V.int.inj (of_decide_eq_true z)) (fun y : (2 : Int) = 1 => absurd y (by decide))) (fun _ => ?_)⟩
                    refine ⟨.ref D, rfl, D, [V.int i, V.int j], 1, V.int j, rfl, rfl, .inl (.inl hq2), rfl, ?_⟩
                    intro a2 dx ha2 hdx hne
                    refine ⟨a2, i, j, dx, rfl, bi, bj, j0, upd_same, fun H6 but rat => ⟨rfl, ?_⟩⟩
                    obtain ⟨q1, q2⟩ := quo_small j0 bi bj
                    obtain ⟨t2, t3⟩ := two_iff es e e' j0
                    have ms := made_same s5 ha2 hdx but
                    refine ⟨_, rfl, a2, rfl, rat.ins, a2, _, _, rfl, rat, q1, q2, fun z' hz' => ⟨z', rfl, ?_⟩⟩
                    refine ⟨_, rfl, rfl, _, rfl, ite2 (fun e6 => ?_) (fun e6 => ?_)⟩
                    · have e7 : ¬ V.str z' = V.str z := fun y => by
                        rw [decide_eq_true y] at e6
                        exact Bool.noConfusion e6
                      rw [str_eq, hz', t2] at e7
                      refine bad_raise (F1 ?_) ms.1
                      refine LL.trans ?_
                      show (if j ≠ 0 ∧ lets2 (tl a) (tl b) i = true then some (i, j) else none) = none
                      rw [if_neg (fun z => e7 z.2)]
                    · have e7 : V.str z' = V.str z := by
                        rcases Decidable.em (V.str z' = V.str z) with y | y
                        · exact y
                        · rw [decide_eq_false y] at e6
                          exact absurd rfl e6
                      rw [str_eq, hz', t2] at e7
                      obtain ⟨u1, u2, u3⟩ := t3 e7
                      rw [u1, u2] at rat
                      refine ⟨_, rfl, ?_⟩
                      refine F2 i j ?_ H6 a2 ms.1 ms.2 rat
                      refine LL.trans ?_
                      show (if j ≠ 0 ∧ lets2 (tl a) (tl b) i = true then some (i, j) else none) = _
                      rw [if_pos ⟨j0, e7⟩]
end
end K03

/-! # the law's look at a text -/
namespace K03
open PySem PySem.Spec PyProof.Rows L2 TL NumText
section
variable {P : Program} {w : World} {K : PySem.W.Frag} {mg : Str → Option Value} {base : Heap}
abbrev s_law_shared : Stmt := topS 23
theorem sc_law_shared : FnScope ["_law_one", "_law_other"] ["_law_one", "_law_other"] (defScope s_law_shared) := ⟨rfl, rfl, rfl, by decide +kernel, rfl, by decide +kernel, by decide +kernel⟩
abbrev s_law_is_number : Stmt := topS 24
theorem sc_law_is_number : FnScope ["_law_text_here", "_law_sign"] ["_law_text_here"] (defScope s_law_is_number) := ⟨rfl, rfl, rfl, by decide +kernel, rfl, by decide +kernel, by decide +kernel⟩
abbrev s_law_lets : Stmt := topS 25
theorem sc_law_lets : FnScope ["_law_value", "_law_parts", "_law_head"] ["_law_value"] (defScope s_law_lets) := ⟨rfl, rfl, rfl, by decide +kernel, rfl, by decide +kernel, by decide +kernel⟩
def spShared : Sp := fun vs H Q _ => ∃ (n m : Nat), vs = [.int (n : Int), .int (m : Int)] ∧ Q (.int ((Nat.gcd n m : Nat) : Int)) H
theorem ok_shared {f : Addr} {fd : FuncData} {k : Nat} (T : Txt mg) (d : D K mg "_law_shared" s_law_shared ["_law_one", "_law_other"] f fd) : FnOk P w K mg base CX0 (k + 1) f fd ["_law_one", "_law_other"] spShared := by
  refine d.F.ok sc_law_shared (fun vs H Q E h => ?_) (fun cdv A outer s H vs Q E hr h => ?_)
  · obtain ⟨n, m, rfl, _⟩ := h
    rfl
  · obtain ⟨n, m, rfl, q⟩ := h
    refine ⟨_, (pss_cons (ps_while PassesOwn.never (pt_cmpR op_gt (pv 1) pe_int (nomark _))
        (pss_one (ps_par (i := 0) (j := 1) rfl sc_law_shared.nd rfl rfl (by decide) rfl rfl (pa_cons (pv 1) (pa_cons (pe_op op_mod (pe_callTy call_int1 (by rfl) T.n_int (by decide +kernel) (pa_cons (pv 0) pa_nil)) (pv 1)) pa_nil)) (by rfl))))
      (pss_one (ps_ret (pv 0)))), ?_⟩
    refine ⟨fun t σ H' => ∃ a b : Nat, t = b ∧ σ = [some (.int a), some (.int b)] ∧ Nat.gcd a b = Nat.gcd n m ∧ H' = H, ⟨m, n, m, rfl, rfl, rfl, rfl⟩, ?_⟩
    rintro b σ H' ⟨a, b', eb, rfl, hg, rfl⟩
    subst eb
    refine ⟨_, rfl, (b : Int), 0, rfl, rfl, _, rfl, ite2 (fun e => ?_) (fun e => ?_)⟩
    · have b0 : 0 < b := by
        have z := of_decide_eq_true e
        omega
      refine ⟨fun σ' H2 => σ' = [some (.int b), some (.int ((a % b : Nat) : Int))] ∧ H2 = H', fun σ' H2 z => ⟨a % b, Nat.mod_lt _ b0, b, a % b, rfl, z.1, ?_, z.2⟩, ?_⟩
      · rw [← hg, Nat.gcd_comm b, ← Nat.gcd_rec, Nat.gcd_comm]
      · refine ⟨_, rfl, _, rfl, .inl ⟨_, rfl, _, rfl, _, _, rfl, rfl, (by show (0 : Int) < _; omega), _, _, rfl, rfl, rfl⟩⟩
    · have b0 : b = 0 := by
        have z : ¬ (0 : Int) < b := fun z => e (decide_eq_true z)
        omega
      subst b0
      rw [Nat.gcd_zero_right] at hg
      refine ⟨_, rfl, ?_⟩
      rw [hg]
      exact q
/-- plain signs -/
def Asc (z : Str) : Prop := ∀ c ∈ tl z, c < 128
def spNum : Sp := fun vs H Q _ => ∃ z : Str, vs = [.str z] ∧ z.length ≤ 1000 ∧ Asc z ∧ ∀ H', Same H H' → Q (.bl (canon (tl z))) H'
theorem dp_signs (H : Hp) : ∀ cs : List Nat, DpAll K H (cs.map fun c => V.str ⟨#[c]⟩) (cs.map fun c => PyData.str ⟨#[c]⟩)
  | [] => .nil
  | c :: cs => .cons (.str _) (dp_signs H cs)
theorem sh_signs : ∀ {cs : List Nat}, (∀ c ∈ cs, c < 128) → PyData.canLayAll0 (cs.map fun c => PyData.str ⟨#[c]⟩) = true ∧ PyData.depthAll (cs.map fun c => PyData.str ⟨#[c]⟩) = 0
  | [], _ => ⟨rfl, rfl⟩
  | c :: cs, h => by
    obtain ⟨a, b⟩ := sh_signs fun d hd => h d (List.mem_cons_of_mem _ hd)
    have hc := h c (List.mem_cons_self ..)
    constructor
    · show (PyData.strOk ⟨#[c]⟩ && PyData.canLayAll0 (cs.map fun c => PyData.str ⟨#[c]⟩)) = true
      rw [a, Bool.and_true]
      have q : ∀ d : Nat, d < 128 → PyData.strOk ⟨#[d]⟩ = true := by decide +kernel
      exact q c hc
    · show max 0 (PyData.depthAll (cs.map fun c => PyData.str ⟨#[c]⟩)) = 0
      rw [b]
      rfl
theorem shaped_signs {cs : List Nat} (h : ∀ c ∈ cs, c < 128) : SeqAt.shaped (.list (cs.map fun c => PyData.str ⟨#[c]⟩)) = true := by
  obtain ⟨a, b⟩ := sh_signs h
  show (PyData.canLayAll0 (cs.map fun c => PyData.str ⟨#[c]⟩) && decide (PyData.depthAll (cs.map fun c => PyData.str ⟨#[c]⟩) + 1 ≤ 64)) = true
  rw [a, b]
  rfl
theorem canon_A {cs : List Nat} (h : cs = [] ∨ 60 < cs.length ∨ (cs.filter fun c => !decide (c ∈ tl ("0123456789" : Str))) ≠ []) : canon cs = false := by
  cases hc : canon cs with
  | false => rfl
  | true =>
    obtain ⟨h1, h2, h3, _⟩ := canon_iff.mp hc
    rcases h with h | h | h
    · exact absurd h h1
    · omega
    · refine absurd ?_ h
      refine List.filter_eq_nil_iff.mpr fun c hc' => ?_
      have e := all_num [c]
      have b := h3 c hc'
      have e2 : decide (c ∈ tl ("0123456789" : Str)) = true := by
        have x : ((decide (48 ≤ c) && decide (c ≤ 57)) && true) = true := by rw [decide_eq_true b.1, decide_eq_true b.2]; rfl
        have y : (decide (c ∈ tl ("0123456789" : Str)) && true) = ((decide (48 ≤ c) && decide (c ≤ 57)) && true) := e
        rw [x, Bool.and_true] at y
        exact y
      rw [e2]
      exact Bool.false_ne_true
theorem canon_B {cs : List Nat} {c : Nat} {r : List Nat} (he : cs = c :: r) (h2 : cs.length ≤ 60) (h3 : (cs.filter fun c => !decide (c ∈ tl ("0123456789" : Str))) = []) : canon cs = (decide (cs = [48]) || !decide (c = 48)) := by
  have ad : AllDigits cs := fun d hd => by
    have z := List.filter_eq_nil_iff.mp h3 d hd
    have e : (decide (d ∈ tl ("0123456789" : Str)) && true) = ((decide (48 ≤ d) && decide (d ≤ 57)) && true) := all_num [d]
    have y : decide (d ∈ tl ("0123456789" : Str)) = true := by
      cases q : decide (d ∈ tl ("0123456789" : Str)) with
      | true => rfl
      | false => rw [q] at z; exact absurd rfl z
    rw [y, Bool.and_true, Bool.and_true] at e
    simp only [Bool.true_eq, Bool.and_eq_true, decide_eq_true_eq] at e
    exact e
  cases hc : canon cs with
  | true =>
    have w := (canon_iff.mp hc).2.2.2
    by_cases e : c = 48
    · have v := w (by rw [he, e]; rfl)
      rw [decide_eq_true v]
      rfl
    · rw [decide_eq_false e]
      simp
  | false =>
    by_cases e1 : cs = [48]
    · rw [e1] at hc
      exact absurd hc (by decide)
    · by_cases e2 : c = 48
      · rw [decide_eq_false e1, decide_eq_true e2]
        rfl
      · have q : canon cs = true := canon_iff.mpr ⟨by rw [he]; simp, h2, ad, fun z => by rw [he] at z; exact absurd (Option.some.inj z) e2⟩
        rw [q] at hc
        cases hc
theorem ok_num {f : Addr} {fd : FuncData} {k : Nat} (T : Txt mg) (d : D K mg "_law_is_number" s_law_is_number ["_law_text_here"] f fd) : FnOk P w K mg base CX0 (k + 1) f fd ["_law_text_here"] spNum := by
  refine d.F.ok sc_law_is_number (fun vs H Q E h => ?_) (fun cdv A outer s H vs Q E hr h => ?_)
  · obtain ⟨z, rfl, _⟩ := h
    rfl
  · obtain ⟨z, rfl, hz, za, q⟩ := h
    have hu : (A.deeper (envOfC "_law_is_number" (defScope s_law_is_number) s.heap.objs.size f cdv)).units + 64 < cLine := hr.units
    refine ⟨_, (pss_cons (ps_if (PW.pt (pw_or (pt_cmpR op_eq (pv 0) pe_str (nomark _)) (pw_or (pt_cmpR op_gt (pe_callB call_len_str (by rfl) T.n_len PySem.boot_len (pa_cons (pv 0) pa_nil)) pe_int (nomark _))
        (pw_or1 (pt_cmpR (op_neD hu) (pe_lc (own := [("_law_sign", 1)]) (g := gName 1) rfl sc_law_is_number.nd (pi_str (pv 0)) (blkOk_by (own := [("_law_sign", 1)]) (N := ["_law_text_here", "_law_sign"]) (sc := defScope s_law_is_number) (by decide +kernel))
          (fun _ _ _ _ _ => pg_name (i := 1) sc_law_is_number.nd rfl (Or.inl rfl)) (fun _ _ _ _ _ => pts_one (pt_cmpR op_notIn_sign (pv 1) pe_str (by rfl))) (fun _ _ _ _ _ => pv 1)) (pe_lst pa_nil) (nomark _)))))) (pss_one (ps_ret pe_bl)) pss_nil)
      (pss_one (ps_ret (pe_or (pe_cmpR op_eq (pv 0) pe_str (nomark _)) (pe_one (pe_cmpR op_ne (pe_ix ix_str (pv 0) pe_int (fun _ _ => rfl)) pe_str (nomark _))))))), ?_⟩
    have e0 : tl ("" : Str) = [] := by decide +kernel
    have e48 : tl ("0" : Str) = [48] := by decide +kernel
    have f0 : decide (V.str z = V.str "") = decide (tl z = []) := decide_eq_decide.mpr (by rw [str_eq, e0])
    have no : canon (tl z) = false → ∀ H', Same H H' → Q (.bl false) H' := fun e H' hs => by
      have x := q H' hs
      rw [e] at x
      exact x
    have sz : z.length ≤ sizeLine := Nat.le_of_lt (small1000 hz)
    have zl := len_tl z
    refine ⟨_, rfl, rfl, _, rfl, ?_⟩
    show if decide (V.str z = V.str "") = true then _ else _
    rw [f0]
    refine ite2 (fun e1 => no (canon_A (.inl (of_decide_eq_true e1))) H (Same.refl H)) (fun e1 => ?_)
    refine ⟨_, rfl, z, rfl, sz, _, _, rfl, rfl, _, rfl, ite2 (fun e2 => ?_) (fun e2 => ?_)⟩
    · have e2' := of_decide_eq_true e2
      exact no (canon_A (.inr (.inl (by omega)))) H (Same.refl H)
    · have l60 : (tl z).length ≤ 60 := by
        have e2' : ¬ (60 : Int) < (z.length : Int) := fun y => e2 (decide_eq_true y)
        omega
      refine ⟨_, rfl, z, rfl, fun L hL => ?_⟩
      refine lc_it walk_str (fun i H' => Same H H' ∧ H' L = some (.lst ((((tl z).take i).filter fun c => !decide (c ∈ tl ("0123456789" : Str))).map fun c => V.str ⟨#[c]⟩))) ⟨sub_same hL, upd_same⟩ (fun _ _ _ _ => trivial) ?_ ?_
      · rintro i x H1 H2 hi ⟨s1, hD1⟩ ⟨rfl, c, hc, rfl⟩
        have hc' : (tl z)[i]? = some c := by rw [← hc]; exact Array.getElem?_toList
        refine ⟨rfl, ?_⟩
        refine ⟨_, rfl, c, _, rfl, rfl, _, rfl, ite2 (fun e3 => ?_) (fun e3 => ?_)⟩
        · refine ⟨_, rfl, _, hD1, ?_, ?_, ?_⟩
          · rw [List.length_map]
            refine small1000 (Nat.le_trans (List.length_filter_le _ _) ?_)
            rw [List.length_take]
            omega
          · intro b o hb
            rw [upd_ne (ne_of_none hb hL)]
            exact s1 b o hb
          · rw [upd_same, List.take_succ, hc', List.filter_append, List.map_append]
            have q3 : (!decide (c ∈ tl ("0123456789" : Str))) = true := e3
            show some (HO.lst _) = some (HO.lst (_ ++ List.map _ (List.filter _ [c])))
            rw [List.filter_cons, q3]
            rfl
        · refine ⟨s1, ?_⟩
          have q3 : (!decide (c ∈ tl ("0123456789" : Str))) = false := by
            cases y : !decide (c ∈ tl ("0123456789" : Str)) with
            | false => rfl
            | true => exact absurd y e3
          rw [hD1, List.take_succ, hc', List.filter_append, List.map_append]
          show some (HO.lst _) = some (HO.lst (_ ++ List.map _ (List.filter _ [c])))
          rw [List.filter_cons, q3]
          simp
      · rintro H1 ⟨s1, hD1⟩
        have full : (tl z).take z.cps.size = tl z := List.take_of_length_le (by rw [← len_tl z]; exact Nat.le_refl _)
        rw [full] at hD1
        refine ⟨Nat.zero_le _, fun L2 hL2 => ?_⟩
        have s2 := s1.trans (sub_same (o := .lst []) hL2)
        have sg := shaped_signs (cs := (tl z).filter fun c => !decide (c ∈ tl ("0123456789" : Str))) fun c hc => za c (List.mem_filter.mp hc).1
        refine ⟨_, _, .lst (.inl (.inl (sub_same (o := .lst []) hL2 _ _ hD1))) (dp_signs _ _), .lst (.inl (.inl upd_same)) .nil, sg, rfl, _, rfl, ?_⟩
        cases hf : (tl z).filter fun c => !decide (c ∈ tl ("0123456789" : Str)) with
        | cons c r =>
          refine ite2 (fun _ => ?_) (fun y => absurd ?_ y)
          · exact no (canon_A (.inr (.inr (by rw [hf]; simp)))) _ s2
          · show (!PyData.eqvAll (PyData.str ⟨#[c]⟩ :: r.map fun c => PyData.str ⟨#[c]⟩) []) = true
            simp [PyData.eqvAll]
        | nil =>
          refine ite2 (fun y => absurd y ?_) (fun _ => ?_)
          · show ¬ (!PyData.eqvAll [] []) = true
            simp [PyData.eqvAll]
          · have fz : decide (V.str z = V.str "0") = decide (tl z = [48]) := decide_eq_decide.mpr (by rw [str_eq, e48])
            cases hz' : tl z with
            | nil => exact absurd hz' (fun y => e1 (decide_eq_true y))
            | cons c r =>
              have cb := canon_B hz' l60 hf
              refine ⟨_, rfl, rfl, _, rfl, ?_⟩
              show if decide (V.str z = V.str "0") = true then _ else _
              rw [fz]
              refine ite2 (fun e4 => ?_) (fun e4 => ?_)
              · have x := q _ s2
                rw [cb, e4, Bool.true_or] at x
                exact x
              · refine ⟨_, rfl, z, 0, c, rfl, rfl, sz, atI_nat (j := 0) (by show (tl z)[0]? = _; rw [hz']; rfl), rfl, ?_⟩
                have f48 : decide (V.str ⟨#[c]⟩ = V.str "0") = decide (c = 48) := decide_eq_decide.mpr (by
                  rw [str_eq, e48]
                  show [c] = [48] ↔ _
                  simp)
                show Q (.bl (!decide (V.str ⟨#[c]⟩ = V.str "0"))) _
                rw [f48]
                have x := q _ s2
                have e5 : decide (tl z = [48]) = false := by
                  cases y : decide (tl z = [48]) with
                  | false => rfl
                  | true => exact absurd y e4
                rw [cb, e5, Bool.false_or] at x
                exact x
end
end K03

/-! # what the law lets by -/
namespace K03
open PySem PySem.Spec PyProof.Rows L2 TL NumText
theorem rd_some {a : List Nat} (h : canon (dg a) = true) (h2 : ¬ (dg a = [48] ∧ a ≠ [48])) : ∃ i, rd a = some i ∧ i.natAbs = digitsVal (dg a) := by
  unfold dg at h h2 ⊢
  unfold rd
  split
  · rename_i c
    rw [if_pos c] at h h2
    have ne : a.tail ≠ [48] := fun z => h2 ⟨z, fun y => by rw [y] at c; cases c⟩
    rw [if_pos ⟨h, ne⟩]
    exact ⟨_, rfl, by omega⟩
  · rename_i c
    rw [if_neg c] at h h2
    rw [if_pos h]
    exact ⟨_, rfl, by omega⟩
theorem look1 {cs a : List Nat} (h : sp cs = [a]) : look cs = (rd a).map fun i => (i, 1) := by unfold look; rw [h]; rfl
theorem look3 {cs a b c : List Nat} {r : List (List Nat)} (h : sp cs = a :: b :: c :: r) : look cs = none := by unfold look; rw [h]; rfl
theorem look2 {cs a b : List Nat} {i : Int} (h : sp cs = [a, b]) (e : rd a = some i) : (look cs).isSome = lets2 a b i := by
  have L : look cs = lookL [a, b] := by unfold look; rw [h]
  have L2 : lookL [a, b] = match rd a, rd b with
    | some i, some j => if j ≠ 0 ∧ lets2 a b i = true then some (i, j) else none
    | _, _ => none := rfl
  rw [L, L2, e]
  cases hb : canon b with
  | true =>
    have n := (canon_num hb).1
    rw [canon_rd hb]
    show (if ((digitsVal b : Nat) : Int) ≠ 0 ∧ lets2 a b i = true then some (i, ((digitsVal b : Nat) : Int)) else none).isSome = _
    cases hl : lets2 a b i with
    | false => rw [if_neg (fun z => Bool.noConfusion z.2)]; rfl
    | true =>
      have b0 : ((digitsVal b : Nat) : Int) ≠ 0 := fun z => by
        have z' : digitsVal b = 0 := by omega
        rw [z', numL_lt (by decide)] at n
        unfold lets2 at hl
        rw [← n] at hl
        exact absurd hl (by simp)
      rw [if_pos ⟨b0, rfl⟩]
      rfl
  | false =>
    have hl : lets2 a b i = false := by unfold lets2; rw [hb]; rfl
    rw [hl]
    cases rd b with
    | none => rfl
    | some j =>
      show (if j ≠ 0 ∧ lets2 a b i = true then some (i, j) else none).isSome = _
      rw [if_neg (fun z => by rw [hl] at z; exact Bool.noConfusion z.2)]
      rfl
theorem look2n {cs a b : List Nat} (h : sp cs = [a, b]) (e : rd a = none) : look cs = none := by
  have L : look cs = lookL [a, b] := by unfold look; rw [h]
  have L2 : lookL [a, b] = match rd a, rd b with
    | some i, some j => if j ≠ 0 ∧ lets2 a b i = true then some (i, j) else none
    | _, _ => none := rfl
  rw [L, L2, e]
theorem text_of_canon {z : Str} (h : canon (tl z) = true) : PySem.intText? z = some ((digitsVal (tl z) : Nat) : Int) ∧ z.length ≤ 60 := by
  obtain ⟨h1, h2, h3, _⟩ := canon_iff.mp h
  have l : z.length ≤ 60 := by rw [len_tl z]; exact h2
  exact ⟨intText_digits h3 h1 (by omega), l⟩
theorem dg_sub {cs : List Nat} {c : Nat} (h : c ∈ dg cs) : c ∈ cs := by
  unfold dg at h
  by_cases e : cs.head? = some 45
  · rw [if_pos e] at h
    exact List.mem_of_mem_tail h
  · rw [if_neg e] at h
    exact h
theorem join_mem {S : List Nat} : ∀ {ps : List (List Nat)} {p : List Nat} {c : Nat}, p ∈ ps → c ∈ p → c ∈ joinL S ps
  | [], _, _, h, _ => by cases h
  | [q], p, c, h, hc => by rw [List.mem_singleton.mp h] at hc; exact hc
  | q :: r :: t, p, c, h, hc => by
    show c ∈ q ++ (S ++ joinL S (r :: t))
    rcases List.mem_cons.mp h with e | e
    · rw [e] at hc
      exact List.mem_append_left _ hc
    · exact List.mem_append_right _ (List.mem_append_right _ (join_mem e hc))
section
variable {P : Program} {w : World} {K : PySem.W.Frag} {mg : Str → Option Value} {base : Heap}
def spLets (K : PySem.W.Frag) : Sp := fun vs H Q _ => ∃ x : V, vs = [x] ∧ ((∃ z : Str, x = .str z ∧ z.length ≤ 900 ∧ Asc z ∧ ∀ H', Same H H' → Q (.bl (look (tl z)).isSome) H') ∨ (∃ t, TyX K H x (.type t) ∧ kitB t "str" = some false ∧ Q (.bl false) H))
theorem ok_lets {f f1 f2 : Addr} {fd fd1 fd2 : FuncData} {k : Nat} (T : Txt mg) (N : Nam mg) (d : D K mg "_law_lets" s_law_lets ["_law_value"] f fd) (d1 : D K mg "_law_is_number" s_law_is_number ["_law_text_here"] f1 fd1) (d2 : D K mg "_law_shared" s_law_shared ["_law_one", "_law_other"] f2 fd2) :
    FnOk P w K mg base CX0 (k + 2) f fd ["_law_value"] (spLets K) := by
  have G1 : FnOk P w K mg base CX0 (k + 1) f1 fd1 ["_law_text_here"] spNum := ok_num T d1
  have G2 : FnOk P w K mg base CX0 (k + 1) f2 fd2 ["_law_one", "_law_other"] spShared := ok_shared T d2
  refine d.F.ok sc_law_lets (fun vs H Q E h => ?_) (fun cdv A outer s H vs Q E hr h => ?_)
  · obtain ⟨x, rfl, _⟩ := h
    rfl
  · obtain ⟨x, rfl, h⟩ := h
    refine ⟨_, (pss_cons (ps_if (pt_not (pt_val (pe_callB call_isi (by rfl) T.n_isinstance (by decide +kernel) (pa_cons (pv 0) (pa_cons (pe_bltn (v := .ty "str") (by rfl) N.n_str (by decide +kernel) rfl) pa_nil))))) (pss_one (ps_ret pe_bl)) pss_nil)
      (pss_cons (ps_set (i := 1) sc_law_lets.nd rfl (.inl rfl) (pe_split (pv 0) pe_str))
      (pss_cons (ps_set (i := 2) sc_law_lets.nd rfl (.inl rfl) (pe_ifExp (pt_cmpR op_eq (pe_slice sl_str (pe_ix ix_list (pv 1) pe_int (fun _ _ => rfl)) po_none (po_some pe_int)) pe_str (nomark _)) (pe_slice sl_str (pe_ix ix_list (pv 1) pe_int (fun _ _ => rfl)) (po_some pe_int) po_none) (pe_ix ix_list (pv 1) pe_int (fun _ _ => rfl))))
      (pss_cons (ps_if (PW.pt (pw_or (pt_cmpR op_gt (pe_callB call_len_seq (by rfl) T.n_len PySem.boot_len (pa_cons (pv 1) pa_nil)) pe_int (nomark _)) (pw_or (pt_not (pt_val (pe_call G1 hr (by rfl) d1.g d1.F.kp d1.b .nil pass0 (pa_cons (pv 2) pa_nil))))
        (pw_or1 (PW.pt (pw_and (pt_cmpR op_eq (pv 2) pe_str (nomark _)) (pw_and1 (pt_cmpR op_ne (pe_ix ix_list (pv 1) pe_int (fun _ _ => rfl)) pe_str (nomark _))))))))) (pss_one (ps_ret pe_bl)) pss_nil)
      (pss_cons (ps_if (pt_cmpR op_eq (pe_callB call_len_seq (by rfl) T.n_len PySem.boot_len (pa_cons (pv 1) pa_nil)) pe_int (nomark _)) (pss_one (ps_ret pe_bl)) pss_nil)
      (pss_cons (ps_if (PW.pt (pw_or (pt_not (pt_val (pe_call G1 hr (by rfl) d1.g d1.F.kp d1.b .nil pass0 (pa_cons (pe_ix ix_list (pv 1) pe_int (fun _ _ => rfl)) pa_nil)))) (pw_or1 (pt_cmpR op_in_seq (pe_ix ix_list (pv 1) pe_int (fun _ _ => rfl)) (pe_tup (pa_cons pe_str (pa_cons pe_str pa_nil))) (by rfl))))) (pss_one (ps_ret pe_bl)) pss_nil)
      (pss_one (ps_ret (pe_cmpR op_eq (pe_call G2 hr (by rfl) d2.g d2.F.kp d2.b .nil pass0 (pa_cons (pe_callTy call_int_str (by rfl) T.n_int (by decide +kernel) (pa_cons (pv 2) pa_nil)) (pa_cons (pe_callTy call_int_str (by rfl) T.n_int (by decide +kernel) (pa_cons (pe_ix ix_list (pv 1) pe_int (fun _ _ => rfl)) pa_nil)) pa_nil))) pe_int (nomark _)))))))))), ?_⟩
    have bar : tl ("/" : Str) = [47] := by decide +kernel
    have spl_eq : ∀ z : Str, (Txt.split z "/").map tl = sp (tl z) := fun z => by
      have e := split_spl z "/" (by rw [bar]; simp) (kind_ok (by decide +kernel))
      rw [bar] at e
      exact e
    have e45 : tl ("-" : Str) = [45] := by decide +kernel
    have e48 : tl ("0" : Str) = [48] := by decide +kernel
    have e49 : tl ("1" : Str) = [49] := by decide +kernel
    rcases h with ⟨z, rfl, hz, za, q⟩ | ⟨t, ty, kb, q⟩
    · refine ⟨_, rfl, _, _, .type "str", _, true, rfl, .ty _, .base (.str z), kit_ty (by decide +kernel), true, rfl, ?_⟩
      refine ite2 (fun y => Bool.noConfusion (show false = true from y)) (fun _ => ?_)
      refine ⟨_, rfl, ⟨z, rfl⟩, z, "/", rfl, rfl, by decide +kernel, Nat.le_of_lt (small1000 (n := z.length + 2) (by omega)), fun p np => ?_⟩
      have se := spl_eq z
      have mem : ∀ y ∈ Txt.split z "/", tl y ∈ sp (tl z) := fun y hy => by rw [← se]; exact List.mem_map_of_mem hy
      have hys : ∀ y ∈ Txt.split z "/", y.length ≤ 1000 := fun y hy => by
        have l := join_len [47] (mem y hy)
        rw [sp_join, ← len_tl z, ← len_tl y] at l
        omega
      have hya : ∀ y ∈ Txt.split z "/", Asc y := fun y hy c hc => za c (by
        have j := sp_join (tl z)
        rw [← j]
        exact join_mem (mem y hy) hc)
      have ne : Txt.split z "/" ≠ [] := fun y => sp_ne (tl z) (by rw [← se, y]; rfl)
      clear mem
      revert hys hya ne se
      generalize Txt.split z "/" = ys
      intro se hys hya ne
      cases ys with
      | nil => exact absurd rfl ne
      | cons a r =>
        have s1 : Same H (upd H p (.lst ((a :: r).map V.str))) := sub_same np
        have hp1 : upd H p (.lst ((a :: r).map V.str)) p = some (.lst (V.str a :: r.map V.str)) := upd_same
        revert s1 hp1
        generalize upd H p (.lst ((a :: r).map V.str)) = H1
        intro s1 hp1
        have al := hys a (List.mem_cons_self ..)
        have aa := hya a (List.mem_cons_self ..)
        have asz : a.length ≤ sizeLine := Nat.le_of_lt (small1000 al)
        have f45 : decide (V.str (cutS a none (some 1)) = V.str "-") = decide ((tl a).head? = some 45) := decide_eq_decide.mpr (by rw [str_eq, e45, cut_one, take_one])
        refine ⟨.ref p, rfl, p, _, 0, V.str a, rfl, rfl, .inl (.inl hp1), atI_nat (j := 0) rfl, 1, rfl, a, rfl, asz, rfl, _, rfl, ?_⟩
        show if decide (V.str (cutS a none (some 1)) = V.str "-") = true then _ else _
        rw [f45]
        refine ite2 (fun e => ?first) (fun e => ?second)
        case' first =>
          have c : (tl a).head? = some 45 := of_decide_eq_true e
          have hy : tl (cutS a (some 1) none) = dg (tl a) := by rw [cut_rest]; unfold dg; rw [if_pos c]
          refine ⟨.ref p, rfl, p, _, 0, V.str a, rfl, rfl, .inl (.inl hp1), atI_nat (j := 0) rfl, 1, rfl, a, rfl, asz, ?_⟩
          revert hy
          generalize cutS a (some 1) none = y
          intro hy
        case' second =>
          have c : ¬ (tl a).head? = some 45 := fun y => e (decide_eq_true y)
          obtain ⟨y, ey⟩ : ∃ y, a = y := ⟨a, rfl⟩
          have hy : tl y = dg (tl a) := by unfold dg; rw [if_neg c, ey]
          refine ⟨.ref p, rfl, p, _, 0, V.str a, rfl, rfl, .inl (.inl hp1), atI_nat (j := 0) rfl, ?_⟩
          refine Eq.mpr (congrArg (fun x => gName 2 x _ _ _) (congrArg V.str ey)) ?_
        all_goals
          have ya : Asc y := fun d hd => by
            rw [hy] at hd
            exact aa d (dg_sub hd)
          have yl : y.length ≤ 1000 := by
            rw [len_tl y, hy]
            have := dg_len (tl a)
            have := len_tl a
            omega
          have fy : decide (V.str y = V.str "0") = decide (dg (tl a) = [48]) := decide_eq_decide.mpr (by rw [str_eq, hy, e48])
          have fa : decide (V.str a = V.str "0") = decide (tl a = [48]) := decide_eq_decide.mpr (by rw [str_eq, e48])
          have no : look (tl z) = none → ∀ H', Same H H' → Q (.bl false) H' := fun e H' hs => by
            have x := q H' hs
            rw [e] at x
            exact x
          refine ⟨_, rfl, p, _, rfl, .inl (.inl (.inl hp1)), _, _, rfl, rfl, _, rfl, ite2 (fun e1 => ?_) (fun e1 => ?_)⟩
          · have e1' := of_decide_eq_true e1
            cases r with
            | nil => exact absurd e1' (by show ¬ (2 : Int) < 1; decide)
            | cons b r =>
              cases r with
              | nil => exact absurd e1' (by show ¬ (2 : Int) < 2; decide)
              | cons c r => exact no (look3 se.symm) _ s1
          · have r1 : r.length ≤ 1 := by
              have e1' : ¬ (2 : Int) < (((V.str a :: r.map V.str).length : Nat) : Int) := fun y => e1 (decide_eq_true y)
              rw [List.length_cons, List.length_map] at e1'
              omega
            refine ⟨_, rfl, y, rfl, yl, ya, fun H2 s2 => ⟨_, rfl, ?_⟩⟩
            rw [hy]
            have s3 := s1.trans s2
            have hp2 := s2 _ _ hp1
            cases cn : canon (dg (tl a)) with
            | false =>
              refine ite2 (fun _ => ?_) (fun y => absurd rfl y)
              have rn : rd (tl a) = none := rd_of cn
              cases r with
              | nil =>
                refine no ?_ _ s3
                rw [look1 se.symm, rn]
                rfl
              | cons b r =>
                cases r with
                | nil => exact no (look2n se.symm rn) _ s3
                | cons c r => exact absurd r1 (by rw [List.length_cons, List.length_cons]; omega)
            | true =>
              refine ite2 (fun y => Bool.noConfusion (show false = true from y)) (fun _ => ?_)
              refine ⟨_, rfl, rfl, _, rfl, ?_⟩
              show if decide (V.str y = V.str "0") = true then _ else _
              rw [fy]
              by_cases bad : dg (tl a) = [48] ∧ tl a ≠ [48]
              · have rn : rd (tl a) = none := rd_B (by rw [bad.1]; rfl) bad.2
                refine ite2 (fun _ => ?_) (fun y => absurd (decide_eq_true bad.1) y)
                refine ⟨.ref p, rfl, p, _, 0, V.str a, rfl, rfl, .inl (.inl hp2), atI_nat (j := 0) rfl, rfl, _, rfl, ?_⟩
                show if (!decide (V.str a = V.str "0")) = true then _ else _
                rw [fa, decide_eq_false bad.2]
                refine ite2 (fun _ => ?_) (fun y => absurd rfl y)
                cases r with
                | nil =>
                  refine no ?_ _ s3
                  rw [look1 se.symm, rn]
                  rfl
                | cons b r =>
                  cases r with
                  | nil => exact no (look2n se.symm rn) _ s3
                  | cons c r => exact absurd r1 (by rw [List.length_cons, List.length_cons]; omega)
              · obtain ⟨i, ri, ni⟩ := rd_some cn bad
                refine ite2 (fun e4 => ?_) (fun e4 => ?_)
                all_goals try (refine ⟨.ref p, rfl, p, _, 0, V.str a, rfl, rfl, .inl (.inl hp2), atI_nat (j := 0) rfl, rfl, _, rfl, ?_⟩; show if (!decide (V.str a = V.str "0")) = true then _ else _; rw [fa]; refine ite2 (fun e5 => absurd ⟨of_decide_eq_true e4, by simpa using e5⟩ bad) (fun _ => ?_))
                all_goals
                  refine ⟨_, rfl, p, _, rfl, .inl (.inl (.inl hp2)), rfl, _, rfl, ?_⟩
                  cases r with
                  | nil =>
                    refine ite2 (fun _ => ?_) (fun y => absurd rfl y)
                    have x := q _ s3
                    rw [look1 se.symm, ri] at x
                    exact x
                  | cons b r =>
                    cases r with
                    | cons c r => exact absurd r1 (by rw [List.length_cons, List.length_cons]; omega)
                    | nil =>
                      refine ite2 (fun y => absurd (V.int.inj (of_decide_eq_true y)) (fun y : (2 : Int) = 1 => absurd y (by decide))) (fun _ => ?_)
                      have l2 := look2 se.symm ri
                      have bl := hys b (List.mem_cons_of_mem _ (List.mem_cons_self ..))
                      have ba := hya b (List.mem_cons_of_mem _ (List.mem_cons_self ..))
                      have end_ : ∀ v, lets2 (tl a) (tl b) i = v → ∀ H', Same H H' → Q (.bl v) H' := fun v hv H' hs => by
                        have x := q H' hs
                        rw [l2, hv] at x
                        exact x
                      refine ⟨.ref p, rfl, p, _, 1, V.str b, rfl, rfl, .inl (.inl hp2), atI_nat (j := 1) rfl, b, rfl, bl, ba, fun H3 s4 => ⟨_, rfl, ?_⟩⟩
                      have s5 := s3.trans s4
                      have hp3 := s4 _ _ hp2
                      cases cb : canon (tl b) with
                      | false =>
                        refine ite2 (fun _ => ?_) (fun y => absurd rfl y)
                        exact end_ false (by unfold lets2; rw [cb]; rfl) _ s5
                      | true =>
                        refine ite2 (fun y => Bool.noConfusion (show false = true from y)) (fun _ => ?_)
                        refine ⟨.ref p, rfl, p, _, 1, V.str b, rfl, rfl, .inl (.inl hp3), atI_nat (j := 1) rfl, by decide, fun q2 nq => ⟨q2, _, rfl, .inr (.inl (.inl upd_same)), rfl, rfl, _, rfl, ?_⟩⟩
                        have s6 := s5.trans (sub_same (o := .tup [V.str "0", V.str "1"]) nq)
                        have hp4 := sub_same (o := .tup [V.str "0", V.str "1"]) nq _ _ hp3
                        have iv : (if false = true then !inV (V.str b) [V.str "0", V.str "1"] else inV (V.str b) [V.str "0", V.str "1"]) = (decide (tl b = [48]) || decide (tl b = [49])) := by
                          rw [if_neg Bool.false_ne_true]
                          show (((("0" : Str) == b) || ((("1" : Str) == b) || false)) = _)
                          rw [Bool.or_false]
                          have g1 : (("0" : Str) == b) = decide (tl b = [48]) := by
                            rw [← e48]
                            exact (Bool.beq_eq_decide_eq ..).trans (decide_eq_decide.mpr ⟨fun y => by rw [y], fun y => (ext_tl y).symm⟩)
                          have g2 : (("1" : Str) == b) = decide (tl b = [49]) := by
                            rw [← e49]
                            exact (Bool.beq_eq_decide_eq ..).trans (decide_eq_decide.mpr ⟨fun y => by rw [y], fun y => (ext_tl y).symm⟩)
                          rw [g1, g2]
                        rw [iv]
                        obtain ⟨tb, lb⟩ := text_of_canon cb
                        obtain ⟨ty', ly⟩ := text_of_canon (z := y) (by rw [hy]; exact cn)
                        rw [hy] at ty'
                        refine ite2 (fun e6 => ?_) (fun e6 => ?_)
                        · refine end_ false ?_ _ s6
                          unfold lets2
                          rcases Bool.or_eq_true_iff.mp e6 with y6 | y6
                          · rw [decide_eq_false (fun g => g (of_decide_eq_true y6))]; simp
                          · rw [decide_eq_false (p := tl b ≠ [49]) (fun g => g (of_decide_eq_true y6))]; simp
                        · have n0 : tl b ≠ [48] := fun g => e6 (by rw [decide_eq_true g]; rfl)
                          have n1 : tl b ≠ [49] := fun g => e6 (by rw [decide_eq_true g]; simp)
                          refine ⟨_, rfl, y, _, rfl, ty', by omega, .ref p, rfl, p, _, 1, V.str b, rfl, rfl, .inl (.inl hp4), atI_nat (j := 1) rfl, b, _, rfl, tb, by omega, _, _, rfl, rfl, ?_⟩
                          refine end_ _ ?_ _ s6
                          unfold lets2
                          rw [cb, decide_eq_true n0, decide_eq_true n1, ni, Bool.true_and, Bool.true_and, Bool.true_and]
                          exact decide_eq_decide.mpr ⟨fun g => by rw [g]; rfl, fun g => by have := V.int.inj g; omega⟩
    · refine ⟨_, rfl, _, _, .type t, _, false, rfl, .ty _, ty, kit_ty kb, false, rfl, ?_⟩
      refine ite2 (fun _ => q) (fun y => absurd rfl y)
end
end K03

/-! # what is told of a value, by the program and by the law -/
namespace K03
open PySem PySem.Spec PyProof.Rows L2 TL NumText
section
variable {X : Cx} {CX : CXT} {k : Nat} {C p g : Addr} {fd : FuncData} {ps : List Str} {mc : Value} {sp : Sp} {E : L2.St → XK} {o e : Expr} {es : List Expr} {m : Str} {pos apos : Pos} {ta : TE} {t : TA} {pl : Sem Bool}
theorem pe_cmethS (he : PE X o ta) (r : ClX.CRead X.K C mc) (c : ClX.CMet X.K C mc m p g) (F : FnOk X.prog X.w X.K X.mg X.base CX k g fd ps sp) (hr : Room k X.A) (hb : Binds X.K fd ps []) (hx : ∀ σ, PassesAt CX X σ (E σ)) (ha : PA X (e :: es) t)
    (hst : starEach (e :: es) X.env = (false, eval e X.env) :: starEach es X.env := by rfl) (hpl : (backTo pos (starEach es X.env)).any (·.1) = false := by rfl)
    (ht : eval (.Call (.Attribute o m apos) (e :: es) [] pos) X.env = (do
      let ov ← eval o X.env
      standAt apos.atName
      let (f, first) ← holding [ov] (getMethod ov m pl)
      callWith pos f first (backTo pos (starEach (e :: es) X.env)) (backToKw pos (keywordEach [] X.env))) := by rfl) :
    PE X (.Call (.Attribute o m apos) (e :: es) [] pos) (fun σ H Q => ta σ H fun x H1 => x = .ref C ∧ t σ H1 fun vs H2 => sp (.ref C :: vs) H2 Q (E σ)) := by
  refine ⟨fun pins s σ H Q I h => PySem.W.methodCall_KW (pl := pl) (thn (he.run pins s σ H _ I h) fun u s1 ⟨x, H1, I1, rx, ex, q⟩ => ?_) ht⟩
  subst ex
  obtain rfl : u = Value.ref C := rx
  refine ClX.getmethcm_ok I1 r c fun s2 I2 => ClX.callwith_cm I2 (ClX.base_none I1 (Nat.le_refl _)) c.fi (thn (ha.run pos _ s2 σ H1 _ I2 q) fun us s3 ⟨vs, H2, I3, rv, q2⟩ => ⟨⟨ClX.pin_at I3, I3.kIn⟩, ?_⟩) hst hpl
  have r2 : Vals (.ref C :: vs) (Value.ref C :: us) := .cons rfl rv
  have hl : ((Value.ref C :: us) ++ []).length = ps.length := by
    rw [List.append_nil, ← r2.length]
    exact F.len _ _ _ _ q2
  have b := hb s3 (.ref C :: us) I3.kIn hl
  rw [List.append_nil] at b
  have cd : codeAny (model X.prog X.w) X.A (.call (.ref g) ⟨.ref C :: us, []⟩) (fun r s' => match r with | .ok (.ret v) => EP X ((s1.heap.objs.size, PySem.W.methodObj (.ref g) (.ref C)) :: pins) σ Q v s' | .ok _ => False | .error e => X.xe e s') s3 := by
    refine codeAny_mono (F.run X.A X.stack s3 H2 ⟨.ref C :: us, []⟩ (.ref C :: us) (.ref C :: vs) Q (E σ) hr I3.env0 b r2 q2) fun res s' hq => ?_
    cases res with
    | error er => exact hx σ _ H2 s3 er s' I3 hq
    | ok fl =>
      cases fl with
      | ret u => exact I3.after hq
      | next => exact False.elim hq
      | brk => exact False.elim hq
      | cont => exact False.elim hq
  exact thn (wpAny_call (PySem.W.method_call (ClX.pin_at I3) cd)) fun _ _ y => ClX.unpinE y
end
theorem look_rat {cs : List Nat} {i j : Int} (h : look cs = some (i, j)) : ratL i j = cs ∧ i.natAbs < 10 ^ 60 ∧ j.natAbs < 10 ^ 60 := by
  unfold look at h
  cases hs : sp cs with
  | nil => exact absurd hs (sp_ne cs)
  | cons a r =>
    rw [hs] at h
    cases r with
    | nil =>
      cases e : rd a with
      | none =>
        have h' : (rd a).map (fun i => (i, (1 : Int))) = some (i, j) := h
        rw [e] at h'
        cases h'
      | some n =>
        have h' : (rd a).map (fun i => (i, (1 : Int))) = some (i, j) := h
        rw [e] at h'
        have h2 := Option.some.inj h'
        obtain ⟨ea, ba⟩ := rd_int e
        have e1 : n = i := congrArg Prod.fst h2
        have e2 : (1 : Int) = j := congrArg Prod.snd h2
        subst e1
        subst e2
        refine ⟨?_, ba, by decide⟩
        have ez := sp_join cs
        rw [hs] at ez
        have ez' : a = cs := ez
        rw [← ez', ea]
        rfl
    | cons b r =>
      cases r with
      | cons c r => cases h
      | nil =>
        have h' : (match rd a, rd b with
          | some i, some j => if j ≠ 0 ∧ lets2 a b i = true then some (i, j) else none
          | _, _ => none) = some (i, j) := h
        cases e : rd a with
        | none => rw [e] at h'; cases h'
        | some n =>
          cases e' : rd b with
          | none => rw [e, e'] at h'; cases h'
          | some l =>
            rw [e, e'] at h'
            have h3 : (if l ≠ 0 ∧ lets2 a b n = true then some (n, l) else none) = some (i, j) := h'
            by_cases hc : l ≠ 0 ∧ lets2 a b n = true
            · rw [if_pos hc] at h3
              have h4 := Option.some.inj h3
              have e1 : n = i := congrArg Prod.fst h4
              have e2 : l = j := congrArg Prod.snd h4
              subst e1
              subst e2
              obtain ⟨t1, t2⟩ := two_iff hs e e' hc.1
              obtain ⟨u1, u2, _⟩ := t2 hc.2
              have g := t1.mpr hc.2
              rw [u1, u2] at g
              exact ⟨g, (rd_int e).2, (rd_int e').2⟩
            · rw [if_neg hc] at h3
              cases h3
section
variable {P : Program} {w : World} {K : PySem.W.Frag} {mg : Str → Option Value} {base : Heap} {C CP : Addr}
/-- what a value is: a text that is read as a ratio, or none -/
def Kd (K : PySem.W.Frag) (H : Hp) (x : V) (o : Option (Str × Int × Int)) : Prop :=
  (∃ z, x = .str z ∧ z.length ≤ 900 ∧ Asc z ∧ o = (look (tl z)).map fun ij => (z, ij.1, ij.2)) ∨ (o = none ∧ ∃ t, TyX K H x (.type t) ∧ kitB t "str" = some false)
def tupD : Option (Str × Int × Int) → List V
  | none => [.str "wrong", .int 0]
  | some (z, i, j) => [.str "read", .str z, .int i, .int j]
def spTold (K : PySem.W.Frag) : Sp := fun vs H Q _ => ∃ x o, vs = [x] ∧ Kd K H x o ∧ ∀ H' a, Same H H' → H a = none → H' a = some (.tup (tupD o)) → Q (.ref a) H'
abbrev s_law_read : Stmt := topS 26
theorem sc_law_read : FnScope ["_law_value", "_law_found", "error"] ["_law_value"] (defScope s_law_read) := ⟨rfl, rfl, rfl, by decide +kernel, rfl, by decide +kernel, by decide +kernel⟩
abbrev s_law_due : Stmt := topS 27
theorem sc_law_due : FnScope ["_law_value", "_law_parts"] ["_law_value"] (defScope s_law_due) := ⟨rfl, rfl, rfl, by decide +kernel, rfl, by decide +kernel, by decide +kernel⟩
structure RM (K : PySem.W.Frag) (C : Addr) (mc : Value) (pR gR pT gT pB gB fS : Addr) (fdR fdT fdB fdS : FuncData) : Prop where
  rd : ClX.CRead K C mc
  cm : ClX.CMet K C mc "read" pR gR
  mR : M K "read" "Ratio.read" s_readm ["cls", "text"] gR fdR
  pT : PropOf K C "top" pT gT
  mT : M K "top" "Ratio.top" s_top ["self"] gT fdT
  pB : PropOf K C "bottom" pB gB
  mB : M K "bottom" "Ratio.bottom" s_bottom ["self"] gB fdB
  hS : PySem.W.findIn K (.ref C) "__str__" = some (some (.ref fS))
  iS : PySem.W.isFn K (.ref fS) = true
  mS : M K "__str__" "Ratio.__str__" s_str ["self"] fS fdS
theorem ok_lread {f fP pR gR pT gT pB gB fS : Addr} {fd fdP fdR fdT fdB fdS : FuncData} {mc : Value} {k : Nat} (T : Txt mg) (N : Nam mg) (R : RC K mg C) (Z : RM K C mc pR gR pT gT pB gB fS fdR fdT fdB fdS) (dP : RD K mg CP fP fdP) (xf : XfC K CP) (te : PySem.W.exmOne K (.ref CP) (.ref CP) = some true)
    (GR : FnOk P w K mg base (L2.CX P w) (k + 5) gR fdR ["cls", "text"] (spReadm K C CP)) (d : D K mg "_law_read" s_law_read ["_law_value"] f fd) : FnOk P w K mg base CX0 (k + 6) f fd ["_law_value"] (spTold K) := by
  have GT : FnOk P w K mg base CX0 (k + 1) gT fdT ["self"] (spTop C) := ok_top R Z.mT
  have GB : FnOk P w K mg base CX0 (k + 1) gB fdB ["self"] (spBottom C) := ok_bottom R Z.mB
  have GS : FnOk P w K mg base CX0 (k + 1) fS fdS ["self"] (spStr C) := ok_str N R Z.mS
  refine d.F.ok sc_law_read (fun vs H Q E h => ?_) (fun cdv A outer s H vs Q E hr h => ?_)
  · obtain ⟨x, o, rfl, _⟩ := h
    rfl
  · obtain ⟨x, o, rfl, kd, q⟩ := h
    refine ⟨_, (pss_one (ps_try_as (i := 2) (Wout := fun _ _ _ _ => False) rfl rfl sc_law_read.nd rfl rfl ⟨rfl, by decide, Or.inl dP.g⟩ takes0
        (fun W pn xe tk _ => pss_cons (ps_set (i := 1) sc_law_read.nd rfl (.inl rfl) (by exact (pe_cmethS (E := WE W) (pe_glob (v := .ref C) rfl R.mC rfl) Z.rd Z.cm GR hr Z.mR.b (fun σ => passAt tk σ) (pa_cons (pv 0) pa_nil))))
          (pss_one (ps_ret (by exact (pe_tup (pa_cons pe_str (pa_cons (pe_callTy (call_strMine Z.hS Z.iS GS (hr.mono (by omega)) Z.mS.b) (by rfl) N.n_str (by decide +kernel) (pa_cons (pv 1) pa_nil)) (pa_cons (pe_prop (pv 1) R.cl Z.pT GT (hr.mono (by omega)) Z.mT.b .nil pass0 (by rfl)) (pa_cons (pe_prop (pv 1) R.cl Z.pB GB (hr.mono (by omega)) Z.mB.b .nil pass0 (by rfl)) pa_nil)))))))))
        (fun a oe cls d pn hz hf => pss_one (ps_ret (pe_tup (pa_cons pe_str (pa_cons (pe_xf (C := CP) xf dP.no hz hf (pv 2)) pa_nil))))))), ?_⟩
    have bad : ∀ (dd : Addr) (H' : Hp), o = none → Same H H' → H' dd = some (.xd [(("spot" : Str), .int 0)]) → ∀ q, H' q = none → Q (.ref q) (upd H' q (.tup [.str "wrong", .int 0])) := fun dd H' ho s1 hd q' nq =>
      q _ q' (s1.trans (sub_same nq)) (s1.free nq) (by rw [ho]; exact upd_same)
    have lk : List.lookup ("spot" : Str) [(("spot" : Str), V.int 0)] = some (.int 0) := by simp [List.lookup]
    refine ⟨rfl, x, rfl, x, rfl, ?_⟩
    rcases kd with ⟨z, rfl, hz, za, ho⟩ | ⟨ho, t, ty, kb⟩
    · refine .inl ⟨z, rfl, hz, fun ln => ?_, fun i j ls => ?_⟩
      · rw [ln] at ho
        intro dd H' s1 hd
        exact ⟨true, te, fun _ a0 _ => ⟨_, rfl, rfl, rfl, dd, _, .int 0, rfl, hd, lk, by decide, fun q' nq => bad dd H' ho s1 hd q' nq⟩, fun q => Bool.noConfusion q⟩
      · rw [ls] at ho
        obtain ⟨g, bi, bj⟩ := look_rat ls
        intro H' a s1 na rat
        obtain ⟨dx, ea⟩ := id rat
        refine ⟨_, rfl, a, rfl, rat.ins, a, i, j, rfl, rat, bi, bj, fun z' hz' => ⟨z', rfl, ?_⟩⟩
        have ez : z' = z := ext_tl (hz'.trans g)
        subst ez
        refine ⟨_, rfl, a, dx, _, rfl, ea, a, i, j, rfl, rat, _, rfl, a, dx, _, rfl, ea, a, i, j, rfl, rat, (by show 4 ≤ sizeLine; decide), fun q' nq => ?_⟩
        exact q _ q' (s1.trans (sub_same nq)) (s1.free nq) (by rw [ho]; exact upd_same)
    · refine .inr ⟨t, ty, kb, ?_⟩
      intro dd H' s1 hd
      exact ⟨true, te, fun _ a0 _ => ⟨_, rfl, rfl, rfl, dd, _, .int 0, rfl, hd, lk, by decide, fun q' nq => bad dd H' ho s1 hd q' nq⟩, fun q => Bool.noConfusion q⟩
/-- int of a text that is read as an integer -/
theorem int_of_rd {z : Str} {i : Int} (h : rd (tl z) = some i) : PySem.intText? z = some i ∧ z.length ≤ 61 := by
  obtain ⟨e, b⟩ := rd_int h
  have l : z.length ≤ 61 := by rw [len_tl z, e]; exact intL_len b
  refine ⟨?_, l⟩
  unfold intL at e
  by_cases hi : i < 0
  · rw [if_pos hi] at e
    rw [intText_neg e (numL_digits _) (numL_ne _) (by omega), numL_val]
    congr 1
    omega
  · rw [if_neg hi] at e
    have e' : z.cps.toList = numL i.natAbs := e
    rw [intText_digits (by rw [e']; exact numL_digits _) (by rw [e']; exact numL_ne _) (by omega), e', numL_val]
    congr 1
    omega
theorem look_parts {cs : List Nat} {i j : Int} (h : look cs = some (i, j)) : (∃ a, sp cs = [a] ∧ rd a = some i ∧ j = 1) ∨ (∃ a b, sp cs = [a, b] ∧ rd a = some i ∧ rd b = some j) := by
  unfold look at h
  cases hs : sp cs with
  | nil => exact absurd hs (sp_ne cs)
  | cons a r =>
    rw [hs] at h
    cases r with
    | nil =>
      have h' : (rd a).map (fun i => (i, (1 : Int))) = some (i, j) := h
      cases e : rd a with
      | none => rw [e] at h'; cases h'
      | some n =>
        rw [e] at h'
        have h2 := Option.some.inj h'
        exact .inl ⟨a, rfl, by rw [e]; exact congrArg some (congrArg Prod.fst h2), (congrArg Prod.snd h2).symm⟩
    | cons b r =>
      cases r with
      | cons c r => cases h
      | nil =>
        have h' : (match rd a, rd b with
          | some i, some j => if j ≠ 0 ∧ lets2 a b i = true then some (i, j) else none
          | _, _ => none) = some (i, j) := h
        cases e : rd a with
        | none => rw [e] at h'; cases h'
        | some n =>
          cases e' : rd b with
          | none => rw [e, e'] at h'; cases h'
          | some l =>
            rw [e, e'] at h'
            have h3 : (if l ≠ 0 ∧ lets2 a b n = true then some (n, l) else none) = some (i, j) := h'
            by_cases hc : l ≠ 0 ∧ lets2 a b n = true
            · rw [if_pos hc] at h3
              have h4 := Option.some.inj h3
              exact .inr ⟨a, b, rfl, by rw [e]; exact congrArg some (congrArg Prod.fst h4), by rw [e']; exact congrArg some (congrArg Prod.snd h4)⟩
            · rw [if_neg hc] at h3
              cases h3
theorem ok_due {f f1 : Addr} {fd fd1 : FuncData} {k : Nat} (T : Txt mg) (d : D K mg "_law_due" s_law_due ["_law_value"] f fd) (d1 : D K mg "_law_lets" s_law_lets ["_law_value"] f1 fd1) (G1 : FnOk P w K mg base CX0 (k + 2) f1 fd1 ["_law_value"] (spLets K)) :
    FnOk P w K mg base CX0 (k + 3) f fd ["_law_value"] (spTold K) := by
  refine d.F.ok sc_law_due (fun vs H Q E h => ?_) (fun cdv A outer s H vs Q E hr h => ?_)
  · obtain ⟨x, o, rfl, _⟩ := h
    rfl
  · obtain ⟨x, o, rfl, kd, q⟩ := h
    refine ⟨_, (pss_cons (ps_if (pt_not (pt_val (pe_call G1 hr (by rfl) d1.g d1.F.kp d1.b .nil pass0 (pa_cons (pv 0) pa_nil)))) (pss_one (ps_ret (pe_tup (pa_cons pe_str (pa_cons pe_int pa_nil))))) pss_nil)
      (pss_cons (ps_set (i := 1) sc_law_due.nd rfl (.inl rfl) (pe_split (pv 0) pe_str))
      (pss_one (ps_ret (pe_tup (pa_cons pe_str (pa_cons (pv 0) (pa_cons (pe_callTy call_int_str (by rfl) T.n_int (by decide +kernel) (pa_cons (pe_ix ix_list (pv 1) pe_int (fun _ _ => rfl)) pa_nil))
        (pa_cons (pe_ifExp (pt_cmpR op_gt (pe_callB call_len_seq (by rfl) T.n_len PySem.boot_len (pa_cons (pv 1) pa_nil)) pe_int (nomark _)) (pe_callTy call_int_str (by rfl) T.n_int (by decide +kernel) (pa_cons (pe_ix ix_list (pv 1) pe_int (fun _ _ => rfl)) pa_nil)) pe_int) pa_nil))))))))), ?_⟩
    refine ⟨x, rfl, x, rfl, ?_⟩
    have bad : ∀ (H' : Hp), o = none → Same H H' → ∀ q, H' q = none → Q (.ref q) (upd H' q (.tup [.str "wrong", .int 0])) := fun H' ho s1 q' nq => q _ q' (s1.trans (sub_same nq)) (s1.free nq) (by rw [ho]; exact upd_same)
    rcases kd with ⟨z, rfl, hz, za, ho⟩ | ⟨ho, t, ty, kb⟩
    · refine .inl ⟨z, rfl, hz, za, fun H1 s1 => ⟨_, rfl, ?_⟩⟩
      cases ls : look (tl z) with
      | none =>
        rw [ls] at ho
        refine ite2 (fun _ => ?_) (fun y => absurd rfl y)
        exact ⟨by decide, fun q' nq => bad _ ho s1 q' nq⟩
      | some ij =>
        obtain ⟨i, j⟩ := ij
        rw [ls] at ho
        refine ite2 (fun y => Bool.noConfusion (show false = true from y)) (fun _ => ?_)
        refine ⟨_, rfl, ⟨z, rfl⟩, z, "/", rfl, rfl, by decide +kernel, Nat.le_of_lt (small1000 (n := z.length + 2) (by omega)), fun p np => ?_⟩
        have bar : tl ("/" : Str) = [47] := by decide +kernel
        have se : (Txt.split z "/").map tl = sp (tl z) := by
          have e := split_spl z "/" (by rw [bar]; simp) (kind_ok (by decide +kernel))
          rw [bar] at e
          exact e
        revert np se
        generalize Txt.split z "/" = ys
        intro np se
        have s2 := s1.trans (sub_same (o := .lst (ys.map V.str)) np)
        have hp : upd H1 p (.lst (ys.map V.str)) p = some (.lst (ys.map V.str)) := upd_same
        have fin : ∀ q', upd H1 p (.lst (ys.map V.str)) q' = none → Q (.ref q') (upd (upd H1 p (.lst (ys.map V.str))) q' (.tup [.str "read", .str z, .int i, .int j])) := fun q' nq =>
          q _ q' (s2.trans (sub_same nq)) (s2.free nq) (by rw [ho]; exact upd_same)
        rcases look_parts ls with ⟨a, h1, h2, h3⟩ | ⟨a, b, h1, h2, h3⟩
        · rw [h1] at se
          cases ys with
          | nil => cases se
          | cons y r =>
            cases r with
            | cons u r => cases se
            | nil =>
              have ey : tl y = a := (List.cons.inj se).1
              rw [← ey] at h2
              obtain ⟨t1, t2⟩ := int_of_rd h2
              refine ⟨_, rfl, .ref p, rfl, p, _, 0, V.str y, rfl, rfl, .inl (.inl hp), rfl, y, i, rfl, t1, by omega, ?_⟩
              refine ⟨_, rfl, p, _, rfl, .inl (.inl (.inl hp)), _, _, rfl, rfl, _, rfl, ite2 (fun y => absurd (of_decide_eq_true y) (show ¬ (1 : Int) < 1 by decide)) (fun _ => ?_)⟩
              rw [h3] at fin
              exact ⟨by show 4 ≤ sizeLine; decide, fin⟩
        · rw [h1] at se
          cases ys with
          | nil => cases se
          | cons y r =>
            cases r with
            | nil => cases se
            | cons u r =>
              cases r with
              | cons v r => cases se
              | nil =>
                have ey : tl y = a := (List.cons.inj se).1
                have eu : tl u = b := (List.cons.inj (List.cons.inj se).2).1
                rw [← ey] at h2
                rw [← eu] at h3
                obtain ⟨t1, t2⟩ := int_of_rd h2
                obtain ⟨t3, t4⟩ := int_of_rd h3
                refine ⟨_, rfl, .ref p, rfl, p, _, 0, V.str y, rfl, rfl, .inl (.inl hp), rfl, y, i, rfl, t1, by omega, ?_⟩
                refine ⟨_, rfl, p, _, rfl, .inl (.inl (.inl hp)), _, _, rfl, rfl, _, rfl, ite2 (fun _ => ?_) (fun y => absurd (decide_eq_true (show (1 : Int) < 2 by decide)) y)⟩
                exact ⟨.ref p, rfl, p, _, 1, V.str u, rfl, rfl, .inl (.inl hp), rfl, u, j, rfl, t3, by omega, by show 4 ≤ sizeLine; decide, fin⟩
    · refine .inr ⟨t, ty, kb, _, rfl, ?_⟩
      refine ite2 (fun _ => ?_) (fun y => absurd rfl y)
      exact ⟨by decide, fun q' nq => bad _ ho (Same.refl H) q' nq⟩
end
end K03

/-! # drawn texts -/
namespace K03
open PySem PySem.Spec PyProof.Rows L2 TL NumText
/-- what was tracked is as before, but for one address -/
def Old (a : Addr) (H H' : Hp) : Prop := ∀ b o, b ≠ a → H b = some o → H' b = some o
theorem Old.of_same {a : Addr} {H H' : Hp} (s : Same H H') : Old a H H' := fun b o _ h => s b o h
theorem Old.of_but {a : Addr} {H H' : Hp} (s : But a H H') : Old a H H' := fun b o n h => (s b n).trans h
theorem Old.trans {a : Addr} {H H1 H2 : Hp} (x : Old a H H1) (y : Old a H1 H2) : Old a H H2 := fun b o n h => y b o n (x b o n h)
theorem Urn.same {H H' : Hp} {a : Addr} (u : Urn H a) (s : Same H H') : Urn H' a := let ⟨g, m, c, h⟩ := u; ⟨g, m, c, s _ _ h⟩
section
variable {P : Program} {w : World} {K : PySem.W.Frag} {mg : Str → Option Value} {base : Heap}
abbrev s_law_text : Stmt := topS 28
theorem sc_law_text : FnScope ["_law_urn_here", "_law_bounds", "_law_top", "_law_bottom", "_law_share", "_law_found"] ["_law_urn_here"] (defScope s_law_text) := ⟨rfl, rfl, rfl, by decide +kernel, rfl, by decide +kernel, by decide +kernel⟩
def spText : Sp := fun vs H Q _ => ∃ a, vs = [.ref a] ∧ Urn H a ∧ ∀ (z : Str) (H' : Hp), z.length ≤ 200 → Asc z → Urn H' a → Old a H H' → Q (.str z) H'
theorem asc_int (i : Int) : ∀ c ∈ intL i, c < 128 := fun c hc => by
  unfold intL at hc
  split at hc
  · rcases List.mem_cons.mp hc with e | e
    · omega
    · have := numL_digits _ c e
      omega
  · have := numL_digits _ c hc
    omega
theorem intL_len' {i : Int} (h : i.natAbs ≤ 10 ^ 60) : (intL i).length ≤ 62 := by
  have z := numL_len (n := i.natAbs) (k := 61) (by decide) (Nat.lt_of_le_of_lt h (by decide))
  unfold intL
  split
  · rw [List.length_cons]; omega
  · omega
theorem log_60 {i : Int} (h : i.natAbs ≤ 10 ^ 60) : i.natAbs.log2 < 1920 := by
  have z : i.natAbs < 2 ^ 200 := Nat.lt_of_le_of_lt h (by decide)
  exact Nat.lt_of_lt_of_le (PySem.Flt.log2_lt_of (by decide) z) (by decide)
theorem log_60' {i : Int} (h : i.natAbs ≤ 10 ^ 60) : i.natAbs.log2 < 9000 := Nat.lt_of_lt_of_le (log_60 h) (by decide)
theorem div_le {t s : Int} (h0 : 0 ≤ t) (hs : 0 < s) (hb : t ≤ 10 ^ 60) : (t / s).natAbs ≤ 10 ^ 60 := by
  have a := Int.ediv_nonneg h0 (Int.le_of_lt hs)
  have b := Int.ediv_le_self s h0
  omega
theorem ok_text {f f1 f2 f3 : Addr} {fd fd1 fd2 fd3 : FuncData} {k : Nat} (T : Txt mg) (N : Nam mg) (d : D K mg "_law_text" s_law_text ["_law_urn_here"] f fd) (d1 : D K mg "_law_take" s_law_take ["_law_urn_here", "_law_total"] f1 fd1) (d2 : D K mg "_law_some" s_law_some ["_law_urn_here", "_law_items"] f2 fd2)
    (d3 : D K mg "_law_shared" s_law_shared ["_law_one", "_law_other"] f3 fd3) : FnOk P w K mg base CX0 (k + 3) f fd ["_law_urn_here"] spText := by
  have G1 : FnOk P w K mg base CX0 (k + 1) f1 fd1 ["_law_urn_here", "_law_total"] spTake := ok_take T d1
  have G2 : FnOk P w K mg base CX0 (k + 2) f2 fd2 ["_law_urn_here", "_law_items"] spSome := ok_some T d2 d1
  have G3 : FnOk P w K mg base CX0 (k + 1) f3 fd3 ["_law_one", "_law_other"] spShared := ok_shared T d3
  refine d.F.ok sc_law_text (fun vs H Q E h => ?_) (fun cdv A outer s H vs Q E hr h => ?_)
  · obtain ⟨a, rfl, _⟩ := h
    rfl
  · obtain ⟨a, rfl, hu, q⟩ := h
    have hr1 := hr.mono (show k + 1 ≤ k + 2 by omega)
    refine ⟨_, (pss_cons (ps_set (i := 1) sc_law_text.nd rfl (.inl rfl) (pe_lst (pa_cons pe_int (pa_cons pe_int (pa_cons pe_int (pa_cons pe_int (pa_cons (pe_op op_powW pe_int pe_int) (pa_cons (pe_op op_powW pe_int pe_int) (pa_cons (pe_op op_powW pe_int pe_int) pa_nil)))))))))
      (pss_cons (ps_par (i := 2) (j := 3) rfl sc_law_text.nd rfl rfl (by decide) rfl rfl
        (pa_cons (pe_call G1 hr1 (by rfl) d1.g d1.F.kp d1.b .nil pass0 (pa_cons (pv 0) (pa_cons (pe_call G2 hr (by rfl) d2.g d2.F.kp d2.b .nil pass0 (pa_cons (pv 0) (pa_cons (pv 1) pa_nil))) pa_nil)))
        (pa_cons (pe_op op_add pe_int (pe_call G1 hr1 (by rfl) d1.g d1.F.kp d1.b .nil pass0 (pa_cons (pv 0) (pa_cons (pe_call G2 hr (by rfl) d2.g d2.F.kp d2.b .nil pass0 (pa_cons (pv 0) (pa_cons (pv 1) pa_nil))) pa_nil)))) pa_nil)) (by rfl))
      (pss_cons (ps_set (i := 4) sc_law_text.nd rfl (.inl rfl) (pe_ifExp (pt_cmpR op_gt (pe_call G1 hr1 (by rfl) d1.g d1.F.kp d1.b .nil pass0 (pa_cons (pv 0) (pa_cons pe_int pa_nil))) pe_int (nomark _)) (pe_call G3 hr1 (by rfl) d3.g d3.F.kp d3.b .nil pass0 (pa_cons (pv 2) (pa_cons (pv 3) pa_nil))) pe_int))
      (pss_cons (ps_set (i := 5) sc_law_text.nd rfl (.inl rfl) (pe_op op_add_str (pe_callTy call_str_int (by rfl) N.n_str (by decide +kernel) (pa_cons (pe_op op_fdivW (pv 2) (pv 4)) pa_nil))
        (pe_ifExp (pt_cmpR op_gt (pv 3) (pv 4) (nomark _)) (pe_op op_add_str pe_str (pe_callTy call_str_int (by rfl) N.n_str (by decide +kernel) (pa_cons (pe_op op_fdivW (pv 3) (pv 4)) pa_nil))) pe_str)))
      (pss_one (ps_ret (pe_ifExp (PW.pt (pw_and (pt_cmpR op_gt (pv 2) pe_int (nomark _)) (pw_and1 (pt_cmpR op_eq (pe_call G1 hr1 (by rfl) d1.g d1.F.kp d1.b .nil pass0 (pa_cons (pv 0) (pa_cons pe_int pa_nil))) pe_int (nomark _))))) (pe_op op_add_str pe_str (pv 5)) (pv 5)))))))), ?_⟩
    have pw6 : CPowW 10 6 := ⟨by decide, by decide +kernel⟩
    have pw30 : CPowW 10 30 := ⟨by decide, by decide +kernel⟩
    have pw60 : CPowW 10 60 := ⟨by decide, by decide +kernel⟩
    refine ⟨_, _, rfl, rfl, pw6, _, _, rfl, rfl, pw30, _, _, rfl, rfl, pw60, by decide, fun b nb => ?_⟩
    have bds : ∀ x ∈ [V.int 2, V.int 10, V.int 13, V.int 40, V.int (10 ^ Int.toNat 6), V.int (10 ^ Int.toNat 30), V.int (10 ^ Int.toNat 60)], ∃ t : Int, x = .int t ∧ 0 < t ∧ t ≤ 10 ^ 60 := by
      intro x hx
      simp only [List.mem_cons, List.not_mem_nil, or_false] at hx
      rcases hx with rfl | rfl | rfl | rfl | rfl | rfl | rfl <;> exact ⟨_, rfl, by decide, by decide⟩
    have b0 : [V.int 2, V.int 10, V.int 13, V.int 40, V.int (10 ^ Int.toNat 6), V.int (10 ^ Int.toNat 30), V.int (10 ^ Int.toNat 60)] ≠ [] := by simp
    have b1 : [V.int 2, V.int 10, V.int 13, V.int 40, V.int (10 ^ Int.toNat 6), V.int (10 ^ Int.toNat 30), V.int (10 ^ Int.toNat 60)].length ≤ 1000 := by decide
    show gName 1 (.ref b) _ (upd H b (.lst [V.int 2, V.int 10, V.int 13, V.int 40, V.int (10 ^ Int.toNat 6), V.int (10 ^ Int.toNat 30), V.int (10 ^ Int.toNat 60)])) _
    revert bds b0 b1
    generalize [V.int 2, V.int 10, V.int 13, V.int 40, V.int (10 ^ Int.toNat 6), V.int (10 ^ Int.toNat 30), V.int (10 ^ Int.toNat 60)] = xs
    intro bds b0 b1
    have s1 : Same H (upd H b (.lst xs)) := sub_same nb
    have hb1 : upd H b (.lst xs) b = some (.lst xs) := upd_same
    have hu1 := hu.same s1
    have ne : b ≠ a := by
      intro z
      obtain ⟨g, m, c, h⟩ := hu
      rw [z, h] at nb
      cases nb
    have o1 : Old a H (upd H b (.lst xs)) := .of_same s1
    revert hb1 hu1 o1
    clear s1
    generalize upd H b (.lst xs) = H1
    intro hb1 hu1 o1
    refine ⟨_, rfl, _, rfl, _, rfl, a, b, xs, rfl, hu1, hb1, ne, b0, b1, fun i x H2 hx hu2 k2 => ?_⟩
    obtain ⟨t, rfl, t0, t1⟩ := bds x (List.mem_of_getElem? hx)
    have hb2 := (k2 b ne).trans hb1
    refine ⟨a, t, rfl, hu2, t0, log_60' (by omega), fun v H3 v0 v1 hu3 k3 => ?_⟩
    have hb3 := (k3 b ne).trans hb2
    refine ⟨_, rfl, _, rfl, _, rfl, a, b, xs, rfl, hu3, hb3, ne, b0, b1, fun i' x' H4 hx' hu4 k4 => ?_⟩
    obtain ⟨t', rfl, t0', t1'⟩ := bds x' (List.mem_of_getElem? hx')
    refine ⟨a, t', rfl, hu4, t0', log_60' (by omega), fun v' H5 v0' v1' hu5 k5 => ?_⟩
    refine ⟨_, _, rfl, rfl, ?_⟩
    have o5 : Old a H H5 := (((o1.trans (.of_but k2)).trans (.of_but k3)).trans (.of_but k4)).trans (.of_but k5)
    have vb : v ≤ 10 ^ 60 := by omega
    have wb : 1 + v' ≤ 10 ^ 60 := by omega
    obtain ⟨n, en⟩ : ∃ n : Nat, v = (n : Int) := ⟨v.toNat, by omega⟩
    obtain ⟨m, em⟩ : ∃ m : Nat, 1 + v' = (m : Int) := ⟨(1 + v').toNat, by omega⟩
    refine ⟨_, _, rfl, ?_⟩
    refine ⟨_, rfl, a, 8, rfl, hu5, by decide, log_60' (by decide), fun c H6 c0 c1 hu6 k6 => ⟨_, _, rfl, rfl, _, rfl, ?_⟩⟩
    have o6 := o5.trans (.of_but k6)
    refine ite2 (fun e => ?first) (fun e => ?second)
    case' first =>
      refine ⟨_, rfl, _, rfl, n, m, (show [V.int v, V.int (1 + v')] = [V.int (n : Int), V.int (m : Int)] by rw [en, em]), ?_⟩
      have g0 : 0 < Nat.gcd n m := Nat.gcd_pos_of_pos_right _ (by omega)
      have g1 : Nat.gcd n m ≤ m := Nat.gcd_le_right _ (by omega)
      obtain ⟨sh, hsh⟩ : ∃ sh : Int, ((Nat.gcd n m : Nat) : Int) = sh := ⟨_, rfl⟩
      have sh0 : 0 < sh := by omega
      have sh1 : sh ≤ 10 ^ 60 := by omega
    case' second =>
      obtain ⟨sh, hsh⟩ : ∃ sh : Int, (1 : Int) = sh := ⟨_, rfl⟩
      have sh0 : 0 < sh := by omega
      have sh1 : sh ≤ 10 ^ 60 := by omega
    all_goals
      refine Eq.mpr (congrArg (fun x => gName 4 (V.int x) _ _ _) hsh) ?_
      have lsh : CDivW v sh := ⟨sh0, log_60' (by omega)⟩
      have lsh' : CDivW (1 + v') sh := ⟨sh0, log_60' (by omega)⟩
      have d1 := div_le v0 sh0 vb
      have d2 := div_le (show 0 ≤ 1 + v' by omega) sh0 wb
      have t1 := tl_int (v / sh)
      have t2 := tl_int ((1 + v') / sh)
      have l1 := intL_len' d1
      have l2 := intL_len' d2
      have bar : tl ("/" : Str) = [47] := by decide +kernel
      have e0 : tl ("" : Str) = [] := by decide +kernel
      have e45 : tl ("-" : Str) = [45] := by decide +kernel
      have y1l : (Str.ofString (toString (v / sh))).length ≤ 62 := by rw [len_tl, t1]; exact l1
      have y1a : Asc (Str.ofString (toString (v / sh))) := fun d hd => asc_int (v / sh) d (by rw [← t1]; exact hd)
      have bl : (("/" : Str) ++ Str.ofString (toString ((1 + v') / sh))).length ≤ 63 := by rw [len_tl, tl_append, bar, t2, List.length_append]; show 1 + _ ≤ 63; omega
      have ba : Asc (("/" : Str) ++ Str.ofString (toString ((1 + v') / sh))) := fun d hd => by
        rw [tl_append, bar, t2] at hd
        rcases List.mem_append.mp hd with z | z
        · rw [List.mem_singleton.mp z]; decide
        · exact asc_int _ d z
      have fin : ∀ z : Str, z.length ≤ 130 → Asc z → ∀ H', Urn H' a → Old a H6 H' → Q (.str z) H' := fun z zl za H' hu' o' => q z H' (by omega) za hu' (o6.trans o')
      have cat_len : ∀ x y : Str, (x ++ y).length = x.length + y.length := fun x y => by rw [len_tl, tl_append, List.length_append, ← len_tl, ← len_tl]
      have cat_asc : ∀ {x y : Str}, Asc x → Asc y → Asc (x ++ y) := fun {x y} hx hy d hd => by
        rw [tl_append] at hd
        rcases List.mem_append.mp hd with z | z
        · exact hx d z
        · exact hy d z
      have big : ∀ {n : Nat}, n ≤ 1000 → n ≤ sizeLine := fun h => Nat.le_of_lt (small1000 h)
      refine ⟨_, rfl, _, rfl, v, sh, rfl, rfl, lsh, _, rfl, log_60 d1, _, rfl, _, rfl, _, _, rfl, rfl, _, rfl, ?_⟩
      have dash : (("-" : Str)).length = 1 := by decide +kernel
      have asc_dash : Asc ("-" : Str) := fun d hd => by
        rw [e45] at hd
        rw [List.mem_singleton.mp hd]
        decide
      refine ite2 (fun e1 => ?_) (fun e1 => ?_)
      · refine ⟨_, rfl, _, rfl, 1 + v', sh, rfl, rfl, lsh', _, rfl, log_60 d2, "/", _, rfl, rfl, (by rw [← cat_len]; exact big (by omega)), ?_⟩
        refine ⟨_, _, rfl, rfl, (big (by omega)), ?_⟩
        have fl := cat_len (Str.ofString (toString (v / sh))) (("/" : Str) ++ Str.ofString (toString ((1 + v') / sh)))
        have fa := cat_asc y1a ba
        refine ⟨_, rfl, _, _, rfl, rfl, _, rfl, ite2 (fun e7 => ?_) (fun e7 => ?_)⟩
        · refine ⟨_, rfl, a, 2, rfl, hu6, by decide, log_60' (by decide), fun c' H7 c0' c1' hu7 k7 => ⟨rfl, _, rfl, ite2 (fun e8 => ?_) (fun e8 => ?_)⟩⟩
          · refine ⟨_, rfl, _, _, rfl, rfl, ?_, fin _ ?_ ?_ _ hu7 (.of_but k7)⟩
            · rw [← cat_len, cat_len, dash]
              exact big (by omega)
            · rw [cat_len, dash]
              omega
            · exact cat_asc asc_dash fa
          · exact ⟨_, rfl, fin _ (by omega) fa _ hu7 (.of_but k7)⟩
        · exact ⟨_, rfl, fin _ (by omega) fa _ hu6 (.of_same (Same.refl _))⟩
      · refine ⟨_, _, rfl, rfl, (big (by rw [show (("" : Str)).length = 0 from by decide +kernel]; omega)), ?_⟩
        have fl := cat_len (Str.ofString (toString (v / sh))) ("" : Str)
        have f00 : (("" : Str)).length = 0 := by decide +kernel
        have fa := cat_asc y1a (show Asc ("" : Str) from fun d hd => by rw [e0] at hd; cases hd)
        refine ⟨_, rfl, _, _, rfl, rfl, _, rfl, ite2 (fun e7 => ?_) (fun e7 => ?_)⟩
        · refine ⟨_, rfl, a, 2, rfl, hu6, by decide, log_60' (by decide), fun c' H7 c0' c1' hu7 k7 => ⟨rfl, _, rfl, ite2 (fun e8 => ?_) (fun e8 => ?_)⟩⟩
          · refine ⟨_, rfl, _, _, rfl, rfl, ?_, fin _ ?_ ?_ _ hu7 (.of_but k7)⟩
            · rw [← cat_len, cat_len, dash]
              exact big (by omega)
            · rw [cat_len, dash]
              omega
            · exact cat_asc asc_dash fa
          · exact ⟨_, rfl, fin _ (by omega) fa _ hu7 (.of_but k7)⟩
        · exact ⟨_, rfl, fin _ (by omega) fa _ hu6 (.of_same (Same.refl _))⟩
end
end K03

/-! # list(text), text * number -/
namespace K03
open PySem PySem.Spec PyProof.Rows L2 TL NumText
theorem vals_each : ∀ {vs : List V} {us : List Value}, vs.length = us.length → (∀ (i : Nat) v u, vs[i]? = some v → us[i]? = some u → RelV v u) → Vals vs us
  | [], [], _, _ => .nil
  | [], _ :: _, h, _ => by cases h
  | _ :: _, [], h, _ => by cases h
  | v :: vs, u :: us, h, k => .cons (k 0 v u rfl rfl) (vals_each (Nat.succ.inj h) fun i v u a b => k (i + 1) v u a b)
section
variable {X : Cx}
/-- list(x), x a text: its signs -/
theorem call_listS (hc : X.calm = true) : CallR X (.type "list") (fun xs H Q => ∃ x : Str, xs = [.str x] ∧ x.length ≤ 1000 ∧ ∀ p, H p = none → Q (.ref p) (upd H p (.lst ((tl x).map fun c => V.str ⟨#[c]⟩)))) := by
  intro pins s σ H xs us Q I r h
  obtain ⟨x, rfl, hx, q⟩ := h
  obtain ⟨u, rfl, t, rfl⟩ := vals1 r
  have sz : x.cps.size ≤ sizeLine := Nat.le_of_lt (small1000 hx)
  refine PySem.call_list_str (I.ok.hd hc) x t (fun h' tk acc c' k hS it => ?_) sz
  have hl : ((tl x).map fun c => V.str ⟨#[c]⟩).length = x.cps.size := by rw [List.length_map]; exact Array.length_toList
  have rel : Vals ((tl x).map fun c => V.str ⟨#[c]⟩) acc.toList := by
    refine vals_each (by rw [hl, Array.length_toList]; exact it.1.symm) fun i v u hv hu => ?_
    rw [List.getElem?_map] at hv
    obtain ⟨c, t', hc', e⟩ := it.2 i u (by rw [← hu]; exact (Array.getElem?_toList).symm)
    have hc2 : (tl x)[i]? = some c := by rw [← hc']; exact Array.getElem?_toList
    rw [hc2] at hv
    obtain rfl : V.str ⟨#[c]⟩ = v := Option.some.inj hv
    exact ⟨t', e⟩
  refine ⟨.ref s.heap.objs.size, upd H s.heap.objs.size (.lst ((tl x).map fun c => V.str ⟨#[c]⟩)), I.laid (t' := tk) k (Nat.le_refl _) ⟨by rw [hl]; exact sz, acc.toList, c', rel, hS⟩, rfl, q _ (I.hok.fresh (Nat.le_refl _))⟩
theorem fold_cat (x : Str) : ∀ (n : Nat) (a : Array Nat), ((List.replicate n x.cps).foldl (· ++ ·) a).toList = a.toList ++ (List.replicate n (tl x)).flatten
  | 0, a => by simp
  | n + 1, a => by
    rw [List.replicate_succ, List.foldl_cons, fold_cat x n, Array.toList_append, List.replicate_succ, List.flatten_cons, List.append_assoc]
/-- text * number -/
theorem op_mulS : OpR X (binaryOp .Mult) (fun x y H Q => ∃ (z : Str) (n : Nat), x = .str z ∧ y = .int (n : Int) ∧ 1 < n ∧ n ≤ 1000 ∧ z.length ≠ 0 ∧ z.length ≤ 1000 ∧ ∀ z' : Str, tl z' = (List.replicate n (tl z)).flatten → Q (.str z') H) := by
  intro pins s σ H x y v u Q I rx ry h
  obtain ⟨z, n, rfl, rfl, n1, n2, z1, z2, q⟩ := h
  obtain ⟨t, rfl⟩ := (show ∃ t, v = Value.str z t from rx)
  obtain ⟨t', rfl⟩ := (show ∃ t, u = Value.int (n : Int) t from ry)
  have prod : z.length * n ≤ 1000 * 1000 := Nat.mul_le_mul z2 n2
  have hne : ((n : Int) == 1 || z.length == 0) = false := by
    rw [Bool.or_eq_false_iff]
    exact ⟨beq_false_of_ne (by omega), beq_false_of_ne z1⟩
  refine PySem.P.mul_str ?_ (fun _ _ => ?_) (fun _ _ => ?_) ?_
  · rw [decide_eq_false (by omega), decide_eq_false (by omega)]
    rfl
  · have e : (1000 : Int) ≤ (2 ^ 63 - 1) / (n : Int) := by
      rw [Int.le_ediv_iff_mul_le (by omega)]
      omega
    omega
  · exact decide_eq_false (by rw [sizeLine_eq, Int.toNat_natCast]; omega)
  · rw [if_neg (by omega), if_neg (by rw [hne]; exact Bool.false_ne_true)]
    refine ⟨?_, .str _, H, I.tok _, ⟨_, rfl⟩, q _ ?_⟩
    · have e : ((List.replicate (n : Int).toNat z.cps).foldl (· ++ ·) #[]).toList.length = n * z.length := by
        rw [fold_cat, Int.toNat_natCast]
        show ([] ++ (List.replicate n (tl z)).flatten).length = _
        rw [List.nil_append, List.length_flatten, List.map_replicate, List.sum_replicate_nat, ← len_tl z]
      show ((List.replicate (n : Int).toNat z.cps).foldl (· ++ ·) #[]).size ≤ sizeLine
      rw [← Array.length_toList, e, sizeLine_eq, Nat.mul_comm]
      omega
    · show ((List.replicate (n : Int).toNat z.cps).foldl (· ++ ·) #[]).toList = _
      rw [fold_cat, Int.toNat_natCast]
      rfl
end
end K03

/-! # texts near by, and other values -/
namespace K03
open PySem PySem.Spec PyProof.Rows L2 TL NumText
/-- a value that is no text -/
inductive Odd (a : Addr) (H : Hp) : V → Prop
  | non : Odd a H .non
  | int (i : Int) : Odd a H (.int i)
  | bl (b : Bool) : Odd a H (.bl b)
  | lst {b : Addr} {xs : List V} (n : b ≠ a) (e : H b = some (.lst xs)) : Odd a H (.ref b)
  | tup {b : Addr} {xs : List V} (n : b ≠ a) (e : H b = some (.tup xs)) : Odd a H (.ref b)
  | dic {b : Addr} {kvs : List (Key × V)} (n : b ≠ a) (e : H b = some (.dK kvs)) : Odd a H (.ref b)
theorem Odd.old {a : Addr} {H H' : Hp} {x : V} (h : Odd a H x) (o : Old a H H') : Odd a H' x := by
  cases h with
  | non => exact .non
  | int i => exact .int i
  | bl b => exact .bl b
  | lst n e => exact .lst n (o _ _ n e)
  | tup n e => exact .tup n (o _ _ n e)
  | dic n e => exact .dic n (o _ _ n e)
theorem Odd.kd {K : PySem.W.Frag} {a : Addr} {H : Hp} {x : V} (h : Odd a H x) : ∃ t, TyX K H x (.type t) ∧ kitB t "str" = some false := by
  cases h with
  | non => exact ⟨"NoneType", .base .non, by decide +kernel⟩
  | int i => exact ⟨"int", .base (.int i), by decide +kernel⟩
  | bl b => exact ⟨"bool", .base (.bl b), by decide +kernel⟩
  | lst n e => exact ⟨"list", .base (.lst e), by decide +kernel⟩
  | tup n e => exact ⟨"tuple", .base (.tup e), by decide +kernel⟩
  | dic n e => exact ⟨"dict", .base (.dK e), by decide +kernel⟩
/-- a drawn value: a text, or none -/
def Any (a : Addr) (H : Hp) (x : V) : Prop := (∃ y, x = .str y ∧ y.length ≤ 900 ∧ Asc y) ∨ Odd a H x
theorem Any.old {a : Addr} {H H' : Hp} {x : V} (h : Any a H x) (o : Old a H H') : Any a H' x := h.elim .inl fun z => .inr (z.old o)
theorem Any.kd {K : PySem.W.Frag} {a : Addr} {H : Hp} {x : V} (h : Any a H x) : ∃ o, Kd K H x o := by
  rcases h with ⟨y, e, l, s⟩ | h
  · exact ⟨_, .inl ⟨y, e, l, s, rfl⟩⟩
  · exact ⟨none, .inr ⟨rfl, h.kd⟩⟩
theorem cut_len (z : Str) (lo hi : Option Int) : (cutS z lo hi).length ≤ z.length := by
  rw [len_tl, len_tl z]
  show ((z.cps.toList.drop _).take _).length ≤ _
  rw [List.length_take, List.length_drop]
  have e : (tl z).length = z.cps.toList.length := rfl
  omega
/-- a short text of plain signs, by its signs -/
theorem asc_of {y : Str} {cs : List Nat} (h : tl y = cs) (k : cs.all (fun c => decide (c < 128)) = true) : Asc y := fun c hc => by
  rw [h] at hc
  exact of_decide_eq_true (List.all_eq_true.mp k c hc)
theorem rep_ok {x z' : Str} {n : Nat} (h : tl z' = (List.replicate n (tl x)).flatten) (ax : Asc x) : z'.length = n * x.length ∧ Asc z' := by
  constructor
  · rw [len_tl, h, List.length_flatten, List.map_replicate, List.sum_replicate_nat, ← len_tl x]
  · intro c hc
    rw [h] at hc
    obtain ⟨l, hl, hcl⟩ := List.mem_flatten.mp hc
    rw [(List.mem_replicate.mp hl).2] at hcl
    exact ax c hcl
theorem urn_ne {H : Hp} {a p : Addr} (u : Urn H a) (h : H p = none) : p ≠ a := fun e => by
  obtain ⟨g, m, c, q⟩ := u
  rw [e, q] at h
  cases h
/-- the signs that are drawn -/
theorem sign_ok {x : V} (h : x ∈ ((tl ("0123456789/-" : Str)).map fun c => V.str ⟨#[c]⟩) ++ [V.str "+", V.str " ", V.str ".", V.str "x", V.str "//"]) : ∃ y : Str, x = .str y ∧ y.length ≤ 2 ∧ Asc y := by
  rcases List.mem_append.mp h with h | h
  · obtain ⟨c, hc, rfl⟩ := List.mem_map.mp h
    refine ⟨_, rfl, (by show 1 ≤ 2; decide), fun d hd => ?_⟩
    have e : (tl ("0123456789/-" : Str)).all (fun c => decide (c < 128)) = true := by decide +kernel
    have z := of_decide_eq_true (List.all_eq_true.mp e c hc)
    have q : d = c := List.mem_singleton.mp hd
    rw [q]
    exact z
  · simp only [List.mem_cons, List.not_mem_nil, or_false] at h
    rcases h with rfl | rfl | rfl | rfl | rfl
    · exact ⟨_, rfl, by decide +kernel, asc_of rfl (by decide +kernel)⟩
    · exact ⟨_, rfl, by decide +kernel, asc_of rfl (by decide +kernel)⟩
    · exact ⟨_, rfl, by decide +kernel, asc_of rfl (by decide +kernel)⟩
    · exact ⟨_, rfl, by decide +kernel, asc_of rfl (by decide +kernel)⟩
    · exact ⟨_, rfl, by decide +kernel, asc_of rfl (by decide +kernel)⟩
theorem cut_asc {z : Str} (h : Asc z) (lo hi : Option Int) : Asc (cutS z lo hi) := fun c hc => h c (List.mem_of_mem_drop (List.mem_of_mem_take hc))
theorem cat_len (x y : Str) : (x ++ y).length = x.length + y.length := by rw [len_tl, tl_append, List.length_append, ← len_tl, ← len_tl]
theorem cat_asc {x y : Str} (hx : Asc x) (hy : Asc y) : Asc (x ++ y) := fun d hd => by
  rw [tl_append] at hd
  rcases List.mem_append.mp hd with z | z
  · exact hx d z
  · exact hy d z
theorem big {n : Nat} (h : n ≤ 1000) : n ≤ sizeLine := Nat.le_of_lt (small1000 h)
section
variable {P : Program} {w : World} {K : PySem.W.Frag} {mg : Str → Option Value} {base : Heap}
abbrev s_law_near : Stmt := topS 29
theorem sc_law_near : FnScope ["_law_urn_here", "_law_text_here", "_law_at", "_law_sign", "_law_way", "_law_some_here"] ["_law_urn_here", "_law_text_here"] (defScope s_law_near) := ⟨rfl, rfl, rfl, by decide +kernel, rfl, by decide +kernel, by decide +kernel⟩
def spNear : Sp := fun vs H Q _ => ∃ a z, vs = [.ref a, .str z] ∧ z.length ≤ 201 ∧ Asc z ∧ Urn H a ∧ ∀ x H', Any a H' x → Urn H' a → Old a H H' → Q x H'
theorem ok_near {f f1 f2 : Addr} {fd fd1 fd2 : FuncData} {k : Nat} (T : Txt mg) (N : Nam mg) (d : D K mg "_law_near" s_law_near ["_law_urn_here", "_law_text_here"] f fd) (d1 : D K mg "_law_take" s_law_take ["_law_urn_here", "_law_total"] f1 fd1) (d2 : D K mg "_law_some" s_law_some ["_law_urn_here", "_law_items"] f2 fd2) :
    FnOk P w K mg base CX0 (k + 3) f fd ["_law_urn_here", "_law_text_here"] spNear := by
  have G1 : FnOk P w K mg base CX0 (k + 1) f1 fd1 ["_law_urn_here", "_law_total"] spTake := ok_take T d1
  have G2 : FnOk P w K mg base CX0 (k + 2) f2 fd2 ["_law_urn_here", "_law_items"] spSome := ok_some T d2 d1
  refine d.F.ok sc_law_near (fun vs H Q E h => ?_) (fun cdv A outer s H vs Q E hr h => ?_)
  · obtain ⟨a, z, rfl, _⟩ := h
    rfl
  · obtain ⟨a, z, rfl, zl, za, hu, q⟩ := h
    have hr1 := hr.mono (show k + 1 ≤ k + 2 by omega)
    refine ⟨_, (pss_cons (ps_par (i := 2) (j := 3) rfl sc_law_near.nd rfl rfl (by decide) rfl rfl
        (pa_cons (pe_call G1 hr1 (by rfl) d1.g d1.F.kp d1.b .nil pass0 (pa_cons (pv 0) (pa_cons (pe_op op_add (pe_callB call_len_str (by rfl) T.n_len PySem.boot_len (pa_cons (pv 1) pa_nil)) pe_int) pa_nil)))
        (pa_cons (pe_call G2 hr (by rfl) d2.g d2.F.kp d2.b .nil pass0 (pa_cons (pv 0) (pa_cons (pe_op op_cat (pe_callTy (call_listS rfl) (by rfl) N.n_list (by decide +kernel) (pa_cons pe_str pa_nil)) (pe_lst (pa_cons pe_str (pa_cons pe_str (pa_cons pe_str (pa_cons pe_str (pa_cons pe_str pa_nil))))))) pa_nil))) pa_nil)) (by rfl))
      (pss_cons (ps_set (i := 4) sc_law_near.nd rfl (.inl rfl) (pe_call G1 hr1 (by rfl) d1.g d1.F.kp d1.b .nil pass0 (pa_cons (pv 0) (pa_cons pe_int pa_nil))))
      (pss_cons (ps_if (pt_cmpR op_eq (pv 4) pe_int (nomark _)) (pss_one (ps_ret (pe_op op_add_str (pe_op op_add_str (pe_slice sl_str (pv 1) po_none (po_some (pv 2))) (pv 3)) (pe_slice sl_str (pv 1) (po_some (pv 2)) po_none)))) pss_nil)
      (pss_cons (ps_if (pt_cmpR op_eq (pv 4) pe_int (nomark _)) (pss_one (ps_ret (pe_op op_add_str (pe_slice sl_str (pv 1) po_none (po_some (pv 2))) (pe_slice sl_str (pv 1) (po_some (pe_op op_add (pv 2) pe_int)) po_none)))) pss_nil)
      (pss_cons (ps_if (pt_cmpR op_eq (pv 4) pe_int (nomark _)) (pss_one (ps_ret (pe_op op_add_str (pe_op op_add_str (pe_slice sl_str (pv 1) po_none (po_some (pv 2))) (pv 3)) (pe_slice sl_str (pv 1) (po_some (pe_op op_add (pv 2) pe_int)) po_none)))) pss_nil)
      (pss_cons (ps_if (pt_cmpR op_eq (pv 4) pe_int (nomark _)) (pss_one (ps_ret (pe_call G2 hr (by rfl) d2.g d2.F.kp d2.b .nil pass0 (pa_cons (pv 0) (pa_cons (pe_lst (pa_cons (pe_op op_add_str (pv 1) pe_str) (pa_cons (pe_op op_add_str pe_str (pv 1)) (pa_cons (pe_op op_add_str pe_str (pv 1)) (pa_cons (pe_op op_add_str (pv 1) pe_str) (pa_cons (pe_op op_add_str pe_str (pv 1)) (pa_cons (pe_op op_add_str pe_str (pv 1)) (pa_cons (pe_op op_add_str (pv 1) pe_str) pa_nil)))))))) pa_nil))))) pss_nil)
      (pss_cons (ps_if (pt_cmpR op_eq (pv 4) pe_int (nomark _)) (pss_cons (ps_set (i := 5) sc_law_near.nd rfl (.inl rfl) (pe_lst (pa_cons pe_str (pa_cons pe_str (pa_cons pe_str (pa_cons pe_str (pa_cons pe_str (pa_cons pe_str (pa_cons pe_str (pa_cons pe_str (pa_cons pe_str (pa_cons pe_str (pa_cons pe_str (pa_cons pe_str (pa_cons pe_str (pa_cons pe_str (pa_cons pe_str (pa_cons pe_str pa_nil))))))))))))))))))
          (pss_one (ps_ret (pe_call G2 hr (by rfl) d2.g d2.F.kp d2.b .nil pass0 (pa_cons (pv 0) (pa_cons (pv 5) pa_nil)))))) pss_nil)
      (pss_cons (ps_if (pt_cmpR op_eq (pv 4) pe_int (nomark _)) (pss_cons (ps_set (i := 5) sc_law_near.nd rfl (.inl rfl) (pe_lst (pa_cons (pe_op op_mulS pe_str pe_int) (pa_cons (pe_op op_mulS pe_str pe_int) (pa_cons (pe_op op_add_str pe_str (pe_op op_mulS pe_str pe_int)) (pa_cons (pe_op op_add_str pe_str (pe_op op_mulS pe_str pe_int)) (pa_cons (pe_op op_add_str pe_str (pe_op op_mulS pe_str pe_int)) (pa_cons (pe_op op_mulS pe_str pe_int) (pa_cons (pe_op op_add_str pe_str (pe_op op_mulS pe_str pe_int)) pa_nil)))))))))
          (pss_one (ps_ret (pe_call G2 hr (by rfl) d2.g d2.F.kp d2.b .nil pass0 (pa_cons (pv 0) (pa_cons (pv 5) pa_nil)))))) pss_nil)
      (pss_one (ps_ret (pe_call G2 hr (by rfl) d2.g d2.F.kp d2.b .nil pass0 (pa_cons (pv 0) (pa_cons (pe_lst (pa_cons pe_non (pa_cons pe_int (pa_cons pe_bl (pa_cons (pe_tup (pa_cons (pv 1) pa_nil)) (pa_cons (pe_lst (pa_cons (pv 1) pa_nil)) (pa_cons (pe_disp (pps_cons (pv 1) pe_int pps_nil) rfl rfl (by simp) (by decide)) (pa_cons (pe_op op_powW pe_int pe_int) (pa_cons (pe_tup pa_nil) pa_nil))))))))) pa_nil))))))))))))), ?_⟩
    have sz : z.length ≤ sizeLine := big (by omega)
    have one : ∀ y : Str, y.length ≤ 3 → Asc y → V.str y = V.str y := fun _ _ _ => rfl
    refine ⟨_, rfl, _, rfl, z, rfl, sz, _, _, rfl, rfl, a, (z.length : Int) + 1, rfl, hu, by omega, log_60' (by omega), fun at_ H1 a0 a1 hu1 k1 => ?_⟩
    refine ⟨_, rfl, "0123456789/-", rfl, by decide +kernel, fun p1 n1 => ⟨by decide, fun p2 n2 => ?_⟩⟩
    have ne12 : p1 ≠ p2 := fun e => by rw [e, upd_same] at n2; cases n2
    refine ⟨p1, p2, _, _, rfl, rfl, (upd_ne ne12).trans upd_same, upd_same, ?_, fun p3 n3 => ?_⟩
    · rw [List.length_map]
      exact big (by decide +kernel)
    have s3 : Same H1 _ := (sub_same (o := .lst ((tl ("0123456789/-" : Str)).map fun c => V.str ⟨#[c]⟩)) n1).trans ((sub_same (o := .lst [V.str "+", V.str " ", V.str ".", V.str "x", V.str "//"]) n2).trans (sub_same (o := .lst (((tl ("0123456789/-" : Str)).map fun c => V.str ⟨#[c]⟩) ++ [V.str "+", V.str " ", V.str ".", V.str "x", V.str "//"])) n3))
    have p3a : p3 ≠ a := urn_ne (hu1.same ((sub_same n1).trans (sub_same n2))) n3
    refine ⟨a, p3, _, rfl, hu1.same s3, upd_same, p3a, by simp, ?_, fun i x H2 hx hu2 k2 => ⟨_, _, rfl, ?_⟩⟩
    · rw [List.length_append, List.length_map]
      decide +kernel
    obtain ⟨y, rfl, y2, ya⟩ := sign_ok (List.mem_of_getElem? hx)
    have o2 : Old a H H2 := ((Old.of_but k1).trans (.of_same s3)).trans (.of_but k2)
    refine ⟨_, rfl, a, 7, rfl, hu2, by decide, log_60' (by decide), fun wy H3 w0 w1 hu3 k3 => ?_⟩
    have o3 : Old a H H3 := o2.trans (.of_but k3)
    have fin : ∀ y : Str, y.length ≤ 900 → Asc y → Q (.str y) H3 := fun y l s => q _ H3 (.inl ⟨y, rfl, l, s⟩) hu3 o3
    have ends : ∀ (b : Addr) (xs : List V), True := fun _ _ => trivial
    refine ⟨_, rfl, rfl, _, rfl, ite2 (fun e => ?_) (fun e => ?_)⟩
    · have c1 := cut_len z none (some at_)
      have c2 := cut_len z (some at_) none
      refine ⟨_, rfl, _, rfl, at_, rfl, z, rfl, sz, _, rfl, _, _, rfl, rfl, big (by omega), _, rfl, _, rfl, at_, rfl, z, rfl, sz, _, _, rfl, rfl, ?_, fin _ ?_ (cat_asc (cat_asc (cut_asc za _ _) ya) (cut_asc za _ _))⟩
      · rw [cat_len]; exact big (by omega)
      · rw [cat_len, cat_len]; omega
    clear e
    have old : ∀ {p : Addr} {o : HO}, H3 p = none → Old a H3 (upd H3 p o) := fun n => .of_same (sub_same n)
    have pick : ∀ (p : Addr) (xs : List V) (G : Hp), G p = some (.lst xs) → p ≠ a → Urn G a → Old a H3 G → xs ≠ [] → xs.length ≤ 1000 → (∀ x ∈ xs, ∀ H4, Old a G H4 → Any a H4 x) → spSome [.ref a, .ref p] G Q E0 := fun p xs G hp pa hu' o' ne ln all_ =>
      ⟨a, p, xs, rfl, hu', hp, pa, ne, ln, fun i x H4 hx hu4 k4 => q x H4 (all_ x (List.mem_of_getElem? hx) H4 (.of_but k4)) hu4 ((o3.trans o').trans (.of_but k4))⟩
    refine ⟨_, rfl, rfl, _, rfl, ite2 (fun e => ?_) (fun e => ?_)⟩
    · have c1 := cut_len z none (some at_)
      have c2 := cut_len z (some (at_ + 1)) none
      refine ⟨_, rfl, _, rfl, at_, rfl, z, rfl, sz, _, rfl, _, rfl, _, _, rfl, rfl, at_ + 1, rfl, z, rfl, sz, _, _, rfl, rfl, big (by omega), fin _ ?_ (cat_asc (cut_asc za _ _) (cut_asc za _ _))⟩
      rw [cat_len]; omega
    clear e
    refine ⟨_, rfl, rfl, _, rfl, ite2 (fun e => ?_) (fun e => ?_)⟩
    · have c1 := cut_len z none (some at_)
      have c2 := cut_len z (some (at_ + 1)) none
      refine ⟨_, rfl, _, rfl, at_, rfl, z, rfl, sz, _, rfl, _, _, rfl, rfl, big (by omega), _, rfl, _, rfl, _, _, rfl, rfl, at_ + 1, rfl, z, rfl, sz, _, _, rfl, rfl, ?_, fin _ ?_ (cat_asc (cat_asc (cut_asc za _ _) ya) (cut_asc za _ _))⟩
      · rw [cat_len]; exact big (by omega)
      · rw [cat_len, cat_len]; omega
    clear e
    have ls : ∀ y : Str, y.length ≤ 3 → z.length + y.length ≤ sizeLine := fun y h => big (by omega)
    have sl : ∀ y : Str, y.length ≤ 3 → y.length + z.length ≤ sizeLine := fun y h => big (by omega)
    have a1 : ∀ y : Str, y.length ≤ 3 → Asc y → ∀ H4, Any a H4 (.str (z ++ y)) := fun y l s _ => .inl ⟨_, rfl, by rw [cat_len]; omega, cat_asc za s⟩
    have a2 : ∀ y : Str, y.length ≤ 3 → Asc y → ∀ H4, Any a H4 (.str (y ++ z)) := fun y l s _ => .inl ⟨_, rfl, by rw [cat_len]; omega, cat_asc s za⟩
    refine ⟨_, rfl, rfl, _, rfl, ite2 (fun e => ?_) (fun e => ?_)⟩
    · refine ⟨_, rfl, _, rfl, _, _, rfl, rfl, ls _ (by decide +kernel), _, rfl, _, _, rfl, rfl, sl _ (by decide +kernel), _, rfl, _, _, rfl, rfl, sl _ (by decide +kernel), _, rfl, _, _, rfl, rfl, ls _ (by decide +kernel), _, rfl, _, _, rfl, rfl, sl _ (by decide +kernel), _, rfl, _, _, rfl, rfl, sl _ (by decide +kernel), _, rfl, _, _, rfl, rfl, ls _ (by decide +kernel), (by show 7 ≤ sizeLine; decide), fun p np => ?_⟩
      refine pick p _ _ upd_same (urn_ne hu3 np) (hu3.same (sub_same np)) (old np) (by simp) (by show 7 ≤ 1000; decide) fun x hx H4 _ => ?_
      simp only [List.mem_cons, List.not_mem_nil, or_false] at hx
      rcases hx with rfl | rfl | rfl | rfl | rfl | rfl | rfl
      · exact a1 _ (by decide +kernel) (asc_of rfl (by decide +kernel)) _
      · exact a2 _ (by decide +kernel) (asc_of rfl (by decide +kernel)) _
      · exact a2 _ (by decide +kernel) (asc_of rfl (by decide +kernel)) _
      · exact a1 _ (by decide +kernel) (asc_of rfl (by decide +kernel)) _
      · exact a2 _ (by decide +kernel) (asc_of rfl (by decide +kernel)) _
      · exact a2 _ (by decide +kernel) (asc_of rfl (by decide +kernel)) _
      · exact a1 _ (by decide +kernel) (asc_of rfl (by decide +kernel)) _
    clear e
    have lit : ∀ y : Str, y.length ≤ 900 → Asc y → ∀ H4, Any a H4 (.str y) := fun y l s _ => .inl ⟨_, rfl, l, s⟩
    refine ⟨_, rfl, rfl, _, rfl, ite2 (fun e => ?_) (fun e => ?_)⟩
    · refine ⟨by decide, fun p np => ?_⟩
      refine ⟨_, rfl, _, rfl, ?_⟩
      refine pick p _ _ upd_same (urn_ne hu3 np) (hu3.same (sub_same np)) (old np) (by simp) (by decide) fun x hx H4 _ => ?_
      simp only [List.mem_cons, List.not_mem_nil, or_false] at hx
      rcases hx with rfl | rfl | rfl | rfl | rfl | rfl | rfl | rfl | rfl | rfl | rfl | rfl | rfl | rfl | rfl | rfl <;> exact lit _ (by decide +kernel) (asc_of rfl (by decide +kernel)) _
    clear e
    refine ⟨_, rfl, rfl, _, rfl, ite2 (fun e => ?_) (fun e => ?_)⟩
    · have l9 : ("9" : Str).length = 1 := by decide +kernel
      have l7 : ("7" : Str).length = 1 := by decide +kernel
      have l0 : ("0" : Str).length = 1 := by decide +kernel
      have g9 : Asc ("9" : Str) := asc_of rfl (by decide +kernel)
      have g7 : Asc ("7" : Str) := asc_of rfl (by decide +kernel)
      have g0 : Asc ("0" : Str) := asc_of rfl (by decide +kernel)
      refine ⟨"9", 60, rfl, rfl, by decide, by decide, by rw [l9]; decide, by rw [l9]; decide, fun z1 h1 => ?_⟩
      obtain ⟨m1, b1⟩ := rep_ok h1 g9
      refine ⟨"9", 61, rfl, rfl, by decide, by decide, by rw [l9]; decide, by rw [l9]; decide, fun z2 h2 => ?_⟩
      obtain ⟨m2, b2⟩ := rep_ok h2 g9
      refine ⟨"9", 60, rfl, rfl, by decide, by decide, by rw [l9]; decide, by rw [l9]; decide, fun z3 h3 => ?_⟩
      obtain ⟨m3, b3⟩ := rep_ok h3 g9
      have d1 : ("-" : Str).length = 1 := by decide +kernel
      have d2 : ("1/" : Str).length = 2 := by decide +kernel
      have d3 : ("-1" : Str).length = 2 := by decide +kernel
      have s1 : Asc ("-" : Str) := asc_of rfl (by decide +kernel)
      have s2 : Asc ("1/" : Str) := asc_of rfl (by decide +kernel)
      have s3 : Asc ("-1" : Str) := asc_of rfl (by decide +kernel)
      rw [l9] at m1 m2 m3
      refine ⟨_, _, rfl, rfl, big (by omega), ?_⟩
      refine ⟨"9", 61, rfl, rfl, by decide, by decide, by rw [l9]; decide, by rw [l9]; decide, fun z4 h4 => ?_⟩
      obtain ⟨m4, b4⟩ := rep_ok h4 g9
      rw [l9] at m4
      refine ⟨_, _, rfl, rfl, big (by omega), ?_⟩
      refine ⟨"7", 60, rfl, rfl, by decide, by decide, by rw [l7]; decide, by rw [l7]; decide, fun z5 h5 => ?_⟩
      obtain ⟨m5, b5⟩ := rep_ok h5 g7
      rw [l7] at m5
      refine ⟨_, _, rfl, rfl, big (by omega), ?_⟩
      refine ⟨"0", 60, rfl, rfl, by decide, by decide, by rw [l0]; decide, by rw [l0]; decide, fun z6 h6 => ?_⟩
      obtain ⟨m6, b6⟩ := rep_ok h6 g0
      rw [l0] at m6
      refine ⟨"0", 60, rfl, rfl, by decide, by decide, by rw [l0]; decide, by rw [l0]; decide, fun z7 h7 => ?_⟩
      obtain ⟨m7, b7⟩ := rep_ok h7 g0
      rw [l0] at m7
      refine ⟨_, _, rfl, rfl, big (by omega), (by show 7 ≤ sizeLine; decide), fun p np => ?_⟩
      refine ⟨_, rfl, _, rfl, ?_⟩
      refine pick p _ _ upd_same (urn_ne hu3 np) (hu3.same (sub_same np)) (old np) (by simp) (by show 7 ≤ 1000; decide) fun x hx H4 _ => ?_
      simp only [List.mem_cons, List.not_mem_nil, or_false] at hx
      rcases hx with rfl | rfl | rfl | rfl | rfl | rfl | rfl
      · exact lit _ (by omega) b1 _
      · exact lit _ (by omega) b2 _
      · exact lit _ (by rw [cat_len]; omega) (cat_asc s1 b3) _
      · exact lit _ (by rw [cat_len]; omega) (cat_asc s2 b4) _
      · exact lit _ (by rw [cat_len]; omega) (cat_asc s2 b5) _
      · exact lit _ (by omega) b6 _
      · exact lit _ (by rw [cat_len]; omega) (cat_asc s3 b7) _
    clear e
    have pw60 : CPowW 10 60 := ⟨by decide, by decide +kernel⟩
    refine ⟨_, rfl, _, rfl, (by show 1 ≤ sizeLine; decide), fun q1 n1 => ⟨_, rfl, (by show 1 ≤ sizeLine; decide), fun q2 n2 => ?_⟩⟩
    intro q3 n3'
    refine ⟨_, rfl, upd_same, [(.inr z, .int 1)], rfl, (by show 1 ≤ 15; decide), ?_⟩
    refine ⟨_, _, rfl, rfl, pw60, by decide, fun q5 n5 => ⟨(by show 8 ≤ sizeLine; decide), fun p np => ?_⟩⟩
    rw [L2.upd_upd] at n5 np ⊢
    have u1 : Same H3 (upd H3 q1 (.tup [V.str z])) := sub_same n1
    have u2 : Same (upd H3 q1 (.tup [V.str z])) (upd (upd H3 q1 (.tup [V.str z])) q2 (.lst [V.str z])) := sub_same n2
    have u3 := sub_same (o := .dK (mergeK [] [(.inr z, .int 1)])) n3'
    have u5 := sub_same (o := .tup []) n5
    have u6 := sub_same (o := .lst [V.non, V.int 3, V.bl true, V.ref q1, V.ref q2, V.ref q3, V.int (10 ^ Int.toNat 60), V.ref q5]) np
    have a1' := urn_ne hu3 n1
    have a2' := urn_ne (hu3.same u1) n2
    have a3' := urn_ne (hu3.same (u1.trans u2)) n3'
    have a5' := urn_ne (hu3.same ((u1.trans u2).trans u3)) n5
    have a6' := urn_ne (hu3.same (((u1.trans u2).trans u3).trans u5)) np
    have all6 := (((u1.trans u2).trans u3).trans u5).trans u6
    have v1 := u6 _ _ (u5 _ _ (u3 _ _ (u2 q1 _ upd_same)))
    have v2 := u6 _ _ (u5 _ _ (u3 q2 _ upd_same))
    have v3 := u6 _ _ (u5 q3 _ upd_same)
    have v5 := u6 q5 _ upd_same
    refine pick p [V.non, V.int 3, V.bl true, V.ref q1, V.ref q2, V.ref q3, V.int (10 ^ Int.toNat 60), V.ref q5] _ upd_same a6' (hu3.same all6) (.of_same all6) (by simp) (by show 8 ≤ 1000; decide) fun x hx H4 o4 => ?_
    simp only [List.mem_cons, List.not_mem_nil, or_false] at hx
    rcases hx with rfl | rfl | rfl | rfl | rfl | rfl | rfl | rfl
    · exact .inr .non
    · exact .inr (.int _)
    · exact .inr (.bl _)
    · exact .inr (.tup a1' (o4 _ _ a1' v1))
    · exact .inr (.lst a2' (o4 _ _ a2' v2))
    · exact .inr (.dic a3' (o4 _ _ a3' v3))
    · exact .inr (.int _)
    · exact .inr (.tup a5' (o4 _ _ a5' v5))
end
end K03

/-! # the law -/
namespace K03
open PySem PySem.Spec PyProof.Rows L2 TL NumText
theorem passN {X : Cx} {σ : L2.St} : PassesAt (L2.CX X.prog X.w) X σ E0 := fun _ _ _ _ _ _ c => by
  obtain ⟨_, _, _, _, _, _, _, _, _, _, _, _, _, _, _, _, w⟩ := c
/-- the data of what is told -/
def datL : Option (Str × Int × Int) → List PyData
  | none => [.str "wrong", .int 0]
  | some (z, i, j) => [.str "read", .str z, .int i, .int j]
theorem dp_told (K : PySem.W.Frag) (H : Hp) (o : Option (Str × Int × Int)) : DpAll K H (tupD o) (datL o) := by
  cases o with
  | none => exact .cons (.str _) (.cons (.int _) .nil)
  | some t => exact .cons (.str _) (.cons (.str _) (.cons (.int _) (.cons (.int _) .nil)))
/-- told of a value -/
structure Fit (o : Option (Str × Int × Int)) : Prop where
  z : ∀ z i j, o = some (z, i, j) → z.length ≤ 900 ∧ Asc z ∧ i.natAbs < 10 ^ 60 ∧ j.natAbs < 10 ^ 60
theorem Kd.fit {K : PySem.W.Frag} {H : Hp} {x : V} {o : Option (Str × Int × Int)} (h : Kd K H x o) : Fit o := by
  refine ⟨fun z i j e => ?_⟩
  rcases h with ⟨y, _, l, a, e2⟩ | ⟨e2, _⟩
  · rw [e] at e2
    cases q : look (tl y) with
    | none => rw [q] at e2; cases e2
    | some ij =>
      rw [q] at e2
      have e3 := Option.some.inj e2
      have e4 : z = y := congrArg Prod.fst e3
      have e5 : i = ij.1 := congrArg (fun t => t.2.1) e3
      have e6 : j = ij.2 := congrArg (fun t => t.2.2) e3
      obtain ⟨_, b1, b2⟩ := look_rat (i := ij.1) (j := ij.2) q
      rw [e4, e5, e6]
      exact ⟨l, a, b1, b2⟩
  · rw [e] at e2
    cases e2
theorem Fit.show {o : Option (Str × Int × Int)} (f : Fit o) : (PyData.tuple (datL o)).showable = true ∧ (PyData.tuple (datL o)).depth ≤ 90 ∧ (PyData.tuple (datL o)).hasDict = false ∧ (PyData.tuple (datL o)).shown.length ≤ sizeLine := by
  cases o with
  | none => exact ⟨by decide +kernel, by decide +kernel, by decide +kernel, by decide +kernel⟩
  | some t =>
    obtain ⟨z, i, j⟩ := t
    obtain ⟨l, a, b1, b2⟩ := f.z z i j rfl
    refine ⟨?_, by show max 0 (max 0 (max 0 (max 0 0))) + 1 ≤ 90; decide, rfl, ?_⟩
    · show (true && (true && (decide (i.natAbs.log2 < 1920) && (decide (j.natAbs.log2 < 1920) && true)))) = true
      rw [decide_eq_true (log_small b1), decide_eq_true (log_small b2)]
      rfl
    · have r1 := PySem.StrLaws.reprText_len z (fun c hc => Nat.lt_trans (a c hc) (by decide))
      have r0 := PySem.StrLaws.reprText_len ("read" : Str) (by decide +kernel)
      have t1 := tl_int i
      have t2 := tl_int j
      have l1 := intL_len b1
      have l2 := intL_len b2
      have m1 : (Str.ofString (toString i)).length ≤ 61 := by rw [len_tl, t1]; exact l1
      have m2 : (Str.ofString (toString j)).length ≤ 61 := by rw [len_tl, t2]; exact l2
      have c1 : (", " : Str).length = 2 := by decide +kernel
      have c2 : ("(" : Str).length = 1 := by decide +kernel
      have c3 : (")" : Str).length = 1 := by decide +kernel
      have c4 : ("read" : Str).length = 4 := by decide +kernel
      show (("(" : Str) ++ (reprText "read" ++ ", " ++ (reprText z ++ ", " ++ (Str.ofString (toString i) ++ ", " ++ Str.ofString (toString j)))) ++ (")" : Str)).length ≤ sizeLine
      simp only [cat_len, c1, c2, c3]
      rw [sizeLine_eq]
      omega
theorem Any.put {u D : Addr} {H : Hp} {x : V} {xs ys : List V} (h : Any u H x) (hd : H D = some (.lst xs)) (n : D ≠ u) : Any u (upd H D (.lst ys)) x := by
  rcases h with h | h
  · exact .inl h
  · refine .inr ?_
    cases h with
    | non => exact .non
    | int i => exact .int i
    | bl b => exact .bl b
    | @lst b l nb e =>
      by_cases q : b = D
      · rw [q]
        exact .lst n upd_same
      · exact .lst nb ((upd_ne q).trans e)
    | @tup b l nb e =>
      have q : b ≠ D := fun z => by rw [z, hd] at e; cases e
      exact .tup nb ((upd_ne q).trans e)
    | @dic b l nb e =>
      have q : b ≠ D := fun z => by rw [z, hd] at e; cases e
      exact .dic nb ((upd_ne q).trans e)
end K03

/-! # the text of a ratio in lowest terms is read as this ratio -/
namespace K03
open PySem PySem.Spec PyProof.Rows L2 TL NumText
theorem low {i j : Int} (hj : j ≠ 0) : Nat.gcd (i / dv i j).natAbs (j / dv i j).natAbs = 1 := by
  have g0 : 0 < Nat.gcd i.natAbs j.natAbs := Nat.gcd_pos_of_pos_right _ (by omega)
  obtain ⟨m1, m2⟩ := dv_mul (i := i) hj
  have dn : (dv i j).natAbs = Nat.gcd i.natAbs j.natAbs := by unfold dv; split <;> omega
  have n1 := congrArg Int.natAbs m1
  have n2 := congrArg Int.natAbs m2
  rw [Int.natAbs_mul, dn] at n1 n2
  have e := Nat.gcd_mul_right (i / dv i j).natAbs (Nat.gcd i.natAbs j.natAbs) (j / dv i j).natAbs
  rw [n1, n2] at e
  have e2 : 1 * Nat.gcd i.natAbs j.natAbs = Nat.gcd (i / dv i j).natAbs (j / dv i j).natAbs * Nat.gcd i.natAbs j.natAbs := by rw [Nat.one_mul]; exact e
  exact (Nat.eq_of_mul_eq_mul_right g0 e2).symm
theorem look_low {p q : Int} (hp : p.natAbs < 10 ^ 60) (hq : q.natAbs < 10 ^ 60) (q0 : 0 < q) (g : Nat.gcd p.natAbs q.natAbs = 1) : look (ratL p q) = some (p, q) := by
  have s := sp_rat p q
  by_cases q1 : q = 1
  · rw [if_pos q1] at s
    rw [look1 s, int_rd hp, q1]
    rfl
  · rw [if_neg q1] at s
    have L : look (ratL p q) = lookL [intL p, intL q] := by unfold look; rw [s]
    have L2 : lookL [intL p, intL q] = match rd (intL p), rd (intL q) with
      | some i, some j => if j ≠ 0 ∧ lets2 (intL p) (intL q) i = true then some (i, j) else none
      | _, _ => none := rfl
    rw [L, L2, int_rd hp, int_rd hq]
    have eq : intL q = numL q.natAbs := by unfold intL; rw [if_neg (by omega)]
    have val : digitsVal (intL q) = q.natAbs := by rw [eq, numL_val]
    have le : lets2 (intL p) (intL q) p = true := by
      unfold lets2
      rw [val]
      have c : canon (intL q) = true := by rw [eq]; exact num_canon hq
      have n0 : intL q ≠ [48] := fun z => by
        have v := val
        rw [z] at v
        have v' : q.natAbs = 0 := v.symm
        omega
      have n1 : intL q ≠ [49] := fun z => by
        have v := val
        rw [z] at v
        have v' : q.natAbs = 1 := v.symm
        omega
      rw [c, decide_eq_true n0, decide_eq_true n1, decide_eq_true g]
      rfl
    show (if q ≠ 0 ∧ lets2 (intL p) (intL q) p = true then some (p, q) else none) = _
    rw [if_pos ⟨by omega, le⟩]
theorem asc_rat (p q : Int) : ∀ c ∈ ratL p q, c < 128 := fun c hc => by
  unfold ratL at hc
  split at hc
  · exact asc_int p c hc
  · rcases List.mem_append.mp hc with z | z
    · exact asc_int p c z
    · rcases List.mem_cons.mp z with z | z
      · omega
      · exact asc_int q c z
end K03

/-! # the law -/
namespace K03
open PySem PySem.Spec PyProof.Rows L2 TL NumText
def told : V → Option (Str × Int × Int)
  | .str y => (look (tl y)).map fun ij => (y, ij.1, ij.2)
  | _ => none
theorem Any.told {K : PySem.W.Frag} {a : Addr} {H : Hp} {x : V} (h : Any a H x) : Kd K H x (told x) := by
  rcases h with ⟨y, rfl, l, s⟩ | h
  · exact .inl ⟨y, rfl, l, s, rfl⟩
  · refine .inr ⟨?_, h.kd⟩
    cases h <;> rfl
/-- four told things in a list -/
theorem lst4 {K : PySem.W.Frag} {H : Hp} {l a1 a2 a3 a4 : Addr} {o1 o2 o3 o4 : Option (Str × Int × Int)} (hl : H l = some (.lst [.ref a1, .ref a2, .ref a3, .ref a4])) (h1 : H a1 = some (.tup (tupD o1))) (h2 : H a2 = some (.tup (tupD o2))) (h3 : H a3 = some (.tup (tupD o3))) (h4 : H a4 = some (.tup (tupD o4))) :
    Dp K H (.ref l) (.list [.tuple (datL o1), .tuple (datL o2), .tuple (datL o3), .tuple (datL o4)]) :=
  .lst (.inl (.inl hl)) (.cons (.tup (.inl (.inl h1)) (dp_told K H o1)) (.cons (.tup (.inl (.inl h2)) (dp_told K H o2)) (.cons (.tup (.inl (.inl h3)) (dp_told K H o3)) (.cons (.tup (.inl (.inl h4)) (dp_told K H o4)) .nil))))
theorem shaped4 {z : Str} (h : Asc z) (n : Int) : SeqAt.shaped (.list [.tuple (datL (some (z, n, n + 1))), .tuple (datL none), .tuple (datL (some ("-1/2", -1, 2))), .tuple (datL none)]) = true := by
  have a : PyData.strOk z = true := by
    unfold PyData.strOk
    rw [← Array.all_toList]
    exact List.all_eq_true.mpr fun c hc => decide_eq_true (Nat.lt_trans (h c hc) (by decide))
  have r : PyData.strOk "read" = true := by decide +kernel
  have w : PyData.strOk "wrong" = true := by decide +kernel
  have m : PyData.strOk "-1/2" = true := by decide +kernel
  simp [SeqAt.shaped, datL, PyData.canLay0, PyData.canLayAll0, PyData.depth, PyData.depthAll, a, r, w, m]
section
variable {P : Program} {w : World} {K : PySem.W.Frag} {mg : Str → Option Value} {base : Heap} {C CP : Addr}
abbrev s_law : Stmt := topS 30
theorem sc_law : FnScope ["_law_script", "_law_at", "_law_urn_here", "_law_text_here", "_law_values", "_law_value", "_law_top", "_law_bottom", "_law_ratio", "_law_one", "_law_written", "_law_due_here", "_law_turn"] ["_law_script"] (defScope s_law) := ⟨rfl, rfl, rfl, by decide +kernel, rfl, by decide +kernel, by decide +kernel⟩
def spLaw (K : PySem.W.Frag) : Sp := fun vs H Q _ => ∃ (a : Addr) (ns : List Int), vs = [.ref a] ∧ SqL K H a (ns.map V.int) ∧ ns.length ≤ 63 ∧ ∀ H', Q (.bl true) H'
theorem turns (z : Int) : -(2 ^ 62) ≤ (if (if z < 4 then z else 4) > 1 then (if z < 4 then z else 4) else 1) ∧ (if (if z < 4 then z else 4) > 1 then (if z < 4 then z else 4) else 1) < 2 ^ 62 ∧ (if (if z < 4 then z else 4) > 1 then (if z < 4 then z else 4) else 1) ≤ 4 := by
  split <;> split <;> omega
theorem ok_law {f fu ft fn fr fd' fk fl fI fE pR gR pT gT pB gB fS : Addr} {fd fdu fdt fdn fdr fdd fdk fdl fdI fdE fdR fdT fdB fdS : FuncData} {mc : Value} (T : Txt mg) (N : Nam mg) (R : RC K mg C) (Z : RM K C mc pR gR pT gT pB gB fS fdR fdT fdB fdS)
    (d : D K mg "law" s_law ["_law_script"] f fd) (d_urn : D K mg "_law_urn" s_law_urn ["_law_script", "_law_at"] fu fdu) (d_text : D K mg "_law_text" s_law_text ["_law_urn_here"] ft fdt) (d_near : D K mg "_law_near" s_law_near ["_law_urn_here", "_law_text_here"] fn fdn)
    (d_read : D K mg "_law_read" s_law_read ["_law_value"] fr fdr) (d_due : D K mg "_law_due" s_law_due ["_law_value"] fd' fdd) (d_take : D K mg "_law_take" s_law_take ["_law_urn_here", "_law_total"] fk fdk) (d_lets : D K mg "_law_lets" s_law_lets ["_law_value"] fl fdl)
    (IC : C8.InsC K C) (nf : PySem.W.notFirst K C (.ref C) = true) (mk : Mk K C fI) (bI : Binds K fdI ["self", "top", "bottom"] []) (hE : PySem.W.findIn K (.ref C) "__eq__" = some (some (.ref fE))) (iE : PySem.W.isFn K (.ref fE) = true) (mE : M K "__eq__" "Ratio.__eq__" s_eq ["self", "other"] fE fdE)
    (G_urn : FnOk P w K mg base CX0 1 fu fdu ["_law_script", "_law_at"] (spUrn K)) (G_text : FnOk P w K mg base CX0 3 ft fdt ["_law_urn_here"] spText) (G_near : FnOk P w K mg base CX0 3 fn fdn ["_law_urn_here", "_law_text_here"] spNear)
    (G_read : FnOk P w K mg base CX0 6 fr fdr ["_law_value"] (spTold K)) (G_due : FnOk P w K mg base CX0 6 fd' fdd ["_law_value"] (spTold K)) (G_take : FnOk P w K mg base CX0 1 fk fdk ["_law_urn_here", "_law_total"] spTake) (G_lets : FnOk P w K mg base CX0 3 fl fdl ["_law_value"] (spLets K))
    (GI : FnOk P w K mg base CX0 3 fI fdI ["self", "top", "bottom"] (spInit C)) (GE : FnOk P w K mg base CX0 1 fE fdE ["self", "other"] (spEq C)) (GS : FnOk P w K mg base CX0 1 fS fdS ["self"] (spStr C)) (GR : FnOk P w K mg base (L2.CX P w) 5 gR fdR ["cls", "text"] (spReadm K C CP)) :
    FnG P w K mg base CX0 8 f fd ["_law_script"] (spLaw K) := by
  refine FnG.of d.F sc_law (fun vs H Q E h => ?_) (fun cdv A outer s H vs Q E hn hr h => ?_)
  · obtain ⟨a, ns, rfl, _⟩ := h
    rfl
  · obtain ⟨a, ns, rfl, hS, hl, q⟩ := h
    have un : (A.deeper (envOfC "law" (defScope s_law) s.heap.objs.size f cdv)).units + 100 < cLine := by have := hr.un; omega
    refine ⟨_, (pss_cons (ps_for PassesOwn.never rfl (pi_range1 rfl T.n_range (pa_cons (pe_callB (call_max2 rfl) (by rfl) T.n_max (by decide +kernel) (pa_cons pe_int (pa_cons (pe_callB (call_min2 rfl) (by rfl) T.n_min (by decide +kernel) (pa_cons pe_int (pa_cons (pe_callB call_len_seq (by rfl) T.n_len PySem.boot_len (pa_cons (pv 0) pa_nil)) pa_nil))) pa_nil))) pa_nil)) (pg_name (i := 1) sc_law.nd rfl (.inl rfl))
        (pss_cons (ps_set (i := 2) sc_law.nd rfl (.inr rfl) (pe_call G_urn (hr.mono (by decide)) (by rfl) d_urn.g d_urn.F.kp d_urn.b .nil pass0 (pa_cons (pv 0) (pa_cons (pv 1) pa_nil))))
        (pss_cons (ps_set (i := 3) sc_law.nd rfl (.inr rfl) (pe_call G_text (hr.mono (by decide)) (by rfl) d_text.g d_text.F.kp d_text.b .nil pass0 (pa_cons (pv 2) pa_nil)))
        (pss_cons (ps_set (i := 4) sc_law.nd rfl (.inl rfl) (pe_op op_cat (pe_lst (pa_cons (pv 3) (pa_cons (pe_op op_add_str pe_str (pv 3)) pa_nil)))
          (pe_lc (own := [("_law_turn", 12)]) (g := gName 12) (tt := tYes) rfl sc_law.nd (pi_range1 (by rfl) T.n_range (pa_cons pe_int pa_nil)) (blkOk_by (own := [("_law_turn", 12)]) (N := ["_law_script", "_law_at", "_law_urn_here", "_law_text_here", "_law_values", "_law_value", "_law_top", "_law_bottom", "_law_ratio", "_law_one", "_law_written", "_law_due_here", "_law_turn"]) (sc := defScope s_law) (by decide +kernel))
            (fun _ _ _ _ _ => pg_name (i := 12) sc_law.nd rfl (Or.inl rfl)) (fun _ _ _ _ _ => pts_nil) (fun _ _ _ _ _ => pe_call G_near (hr.mono (by decide)) (by rfl) d_near.g d_near.F.kp d_near.b .nil pass0 (pa_cons (pv 2) (pa_cons (pv 3) pa_nil))))))
        (pss_cons (ps_for PassesOwn.never rfl (pi_list (pv 4)) (pg_name (i := 5) sc_law.nd rfl (.inl rfl))
          (pss_one (ps_if (pt_cmpR op_ne (pe_callB (call_repr_D hn un) (by rfl) T.n_repr (by decide +kernel) (pa_cons (pe_call G_read (hr.mono (by decide)) (by rfl) d_read.g d_read.F.kp d_read.b .nil pass0 (pa_cons (pv 5) pa_nil)) pa_nil)) (pe_callB (call_repr_D hn un) (by rfl) T.n_repr (by decide +kernel) (pa_cons (pe_call G_due (hr.mono (by decide)) (by rfl) d_due.g d_due.F.kp d_due.b .nil pass0 (pa_cons (pv 5) pa_nil)) pa_nil)) (nomark _)) (pss_one (ps_ret pe_bl)) pss_nil)))
        (pss_cons (ps_par (i := 6) (j := 7) rfl sc_law.nd rfl rfl (by decide) rfl rfl (pa_cons (pe_op op_sub (pe_call G_take (hr.mono (by decide)) (by rfl) d_take.g d_take.F.kp d_take.b .nil pass0 (pa_cons (pv 2) (pa_cons (pe_op op_powW pe_int pe_int) pa_nil))) (pe_call G_take (hr.mono (by decide)) (by rfl) d_take.g d_take.F.kp d_take.b .nil pass0 (pa_cons (pv 2) (pa_cons (pe_op op_powW pe_int pe_int) pa_nil))))
          (pa_cons (pe_op op_add pe_int (pe_call G_take (hr.mono (by decide)) (by rfl) d_take.g d_take.F.kp d_take.b .nil pass0 (pa_cons (pv 2) (pa_cons (pe_op op_powW pe_int pe_int) pa_nil)))) pa_nil)) (by rfl))
        (pss_cons (ps_set (i := 8) sc_law.nd rfl (.inl rfl) (pe_make mk GI (hr.mono (by decide)) (by rfl) R.mC bI .nil pass0 (pa_cons (pv 6) (pa_cons (pv 7) pa_nil))))
        (pss_one (ps_if (PW.pt (pw_or (pt_not (pt_cmpR (op_eqMine hE iE GE (hr.mono (by decide)) mE.b) (pe_cmethS (E := fun _ => E0) (pe_glob (v := .ref C) rfl R.mC rfl) Z.rd Z.cm GR (hr.mono (by decide)) Z.mR.b (fun σ => passN) (pa_cons (pe_callTy (call_strMine Z.hS Z.iS GS (hr.mono (by decide)) Z.mS.b) (by rfl) N.n_str (by decide +kernel) (pa_cons (pv 8) pa_nil)) pa_nil)) (pv 8) (nomark _)))
          (pw_or1 (pt_not (pt_val (pe_call G_lets (hr.mono (by decide)) (by rfl) d_lets.g d_lets.F.kp d_lets.b .nil pass0 (pa_cons (pe_callTy (call_strMine Z.hS Z.iS GS (hr.mono (by decide)) Z.mS.b) (by rfl) N.n_str (by decide +kernel) (pa_cons (pv 8) pa_nil)) pa_nil))))))) (pss_one (ps_ret pe_bl)) pss_nil)))))))))
      (pss_cons (ps_set (i := 9) sc_law.nd rfl (.inl rfl) (pe_op op_add (pe_op op_mulW (pe_op op_powW pe_int pe_int) pe_int) pe_int))
      (pss_cons (ps_set (i := 10) sc_law.nd rfl (.inl rfl) (pe_lst (pa_cons (pe_call G_read (hr.mono (by decide)) (by rfl) d_read.g d_read.F.kp d_read.b .nil pass0 (pa_cons (pe_op op_add_str (pe_op op_add_str (pe_callTy call_str_int (by rfl) N.n_str (by decide +kernel) (pa_cons (pv 9) pa_nil)) pe_str) (pe_callTy call_str_int (by rfl) N.n_str (by decide +kernel) (pa_cons (pe_op op_add (pv 9) pe_int) pa_nil))) pa_nil))
        (pa_cons (pe_call G_read (hr.mono (by decide)) (by rfl) d_read.g d_read.F.kp d_read.b .nil pass0 (pa_cons (pe_callTy call_str_int (by rfl) N.n_str (by decide +kernel) (pa_cons (pe_op op_mulW (pv 9) pe_int) pa_nil)) pa_nil))
        (pa_cons (pe_call G_read (hr.mono (by decide)) (by rfl) d_read.g d_read.F.kp d_read.b .nil pass0 (pa_cons pe_str pa_nil)) (pa_cons (pe_call G_read (hr.mono (by decide)) (by rfl) d_read.g d_read.F.kp d_read.b .nil pass0 (pa_cons pe_str pa_nil)) pa_nil))))))
      (pss_cons (ps_set (i := 11) sc_law.nd rfl (.inl rfl) (pe_lst (pa_cons (pe_tup (pa_cons pe_str (pa_cons (pe_op op_add_str (pe_op op_add_str (pe_callTy call_str_int (by rfl) N.n_str (by decide +kernel) (pa_cons (pv 9) pa_nil)) pe_str) (pe_callTy call_str_int (by rfl) N.n_str (by decide +kernel) (pa_cons (pe_op op_add (pv 9) pe_int) pa_nil))) (pa_cons (pv 9) (pa_cons (pe_op op_add (pv 9) pe_int) pa_nil)))))
        (pa_cons (pe_tup (pa_cons pe_str (pa_cons pe_int pa_nil))) (pa_cons (pe_tup (pa_cons pe_str (pa_cons pe_str (pa_cons (pe_un un_neg pe_int) (pa_cons pe_int pa_nil))))) (pa_cons (pe_tup (pa_cons pe_str (pa_cons pe_int pa_nil))) pa_nil))))))
      (pss_one (ps_ret (pe_cmpR (op_eqD hr.units) (pv 10) (pv 11) (nomark _)))))))), ?_⟩
    obtain ⟨j0, j1, j2⟩ := turns (((ns.map V.int).length : Nat) : Int)
    refine ⟨.ref a, rfl, a, _, rfl, .inl hS, _, _, rfl, _, _, rfl, _, rfl, j0, j1, ?_⟩
    refine for_range (fun i σ H' => (∃ y1 y2 y3 y4 y5 y6 y7 y8, σ = [some (.ref a), y1, y2, y3, y4, y5, y6, y7, y8, none, none, none, none]) ∧ Same H H') ⟨⟨_, _, _, _, _, _, _, _, rfl⟩, Same.refl H⟩ ?_ ?_
    · rintro i σ H' hi ⟨⟨y1, y2, y3, y4, y5, y6, y7, y8, rfl⟩, sm⟩
      refine ⟨.ref a, rfl, _, rfl, a, i, ns, (by simp), sm.seq hS, by omega, fun H1 u s1 n1 u1 => ?_⟩
      refine ⟨.ref u, rfl, u, rfl, u1, fun z H2 zl za u2 o2 => ?_⟩
      have d1 : ("-" : Str).length = 1 := by decide +kernel
      have dasc : Asc ("-" : Str) := asc_of rfl (by decide +kernel)
      refine ⟨_, rfl, _, rfl, _, _, rfl, rfl, big (by omega), (by show 2 ≤ sizeLine; decide), fun p1 np1 => ?_⟩
      have h3 : upd H2 p1 (.lst [V.str z, V.str ("-" ++ z)]) p1 = some (.lst [V.str z, V.str ("-" ++ z)]) := upd_same
      have s3 : Same H2 (upd H2 p1 (.lst [V.str z, V.str ("-" ++ z)])) := sub_same np1
      have p1u : p1 ≠ u := urn_ne u2 np1
      have u3 := u2.same s3
      have o3 := o2.trans (.of_same s3)
      revert h3 u3 o3
      clear s3
      generalize upd H2 p1 (.lst [V.str z, V.str ("-" ++ z)]) = H3
      intro h3 u3 o3
      refine ⟨9, rfl, by decide, by decide, fun D hD => ?_⟩
      have Du : D ≠ u := urn_ne u3 hD
      refine lc_range (n := 9) (fun i H' => Urn H' u ∧ Old u H3 H' ∧ ∃ vs, H' D = some (.lst vs) ∧ vs.length = i ∧ ∀ x ∈ vs, Any u H' x) ⟨u3.same (sub_same hD), .of_same (sub_same hD), [], upd_same, rfl, fun x h => by cases h⟩ ?_ ?_
      · rintro i H' hi ⟨uu, oo, vs, hv, lv, av⟩
        refine ⟨rfl, ?_⟩
        unfold tYes
        refine ite2 (fun _ => ?_) (fun q => absurd rfl q)
        refine ⟨_, rfl, _, rfl, u, z, rfl, by omega, za, uu, fun x H4 ax u4 o4 => ?_⟩
        have h4 := o4 D _ Du hv
        refine ⟨vs, h4, small1000 (by omega), ?_, ?_, vs ++ [x], upd_same, by rw [List.length_append]; exact congrArg (· + 1) lv, fun y hy => ?_⟩
        · obtain ⟨g, m, c, e⟩ := u4
          exact ⟨g, m, c, (upd_ne (Ne.symm Du)).trans e⟩
        · intro b o nb hb
          have nbD : b ≠ D := ne_of_none hb hD
          rw [upd_ne nbD]
          exact o4 b o nb (oo b o nb hb)
        · rcases List.mem_append.mp hy with h | h
          · exact ((av y h).old o4).put h4 Du
          · rw [List.mem_singleton.mp h]
            exact ax.put h4 Du
      · rintro H4 ⟨u4, o4, vs, hv, lv, av⟩
        refine ⟨p1, D, _, _, rfl, rfl, o4 p1 _ p1u h3, hv, by rw [lv]; exact big (by show 2 + 9 ≤ 1000; decide), fun p3 np3 => ?_⟩
        have s5 : Same H4 (upd H4 p3 (.lst ([V.str z, V.str ("-" ++ z)] ++ vs))) := sub_same np3
        have h5 : upd H4 p3 (.lst ([V.str z, V.str ("-" ++ z)] ++ vs)) p3 = some (.lst ([V.str z, V.str ("-" ++ z)] ++ vs)) := upd_same
        have all5 : ∀ x ∈ [V.str z, V.str ("-" ++ z)] ++ vs, Any u (upd H4 p3 (.lst ([V.str z, V.str ("-" ++ z)] ++ vs))) x := fun x hx => by
          rcases List.mem_append.mp hx with h | h
          · simp only [List.mem_cons, List.not_mem_nil, or_false] at h
            rcases h with rfl | rfl
            · exact .inl ⟨_, rfl, by omega, za⟩
            · exact .inl ⟨_, rfl, by rw [cat_len]; omega, cat_asc dasc za⟩
          · exact (av x h).old (.of_same s5)
        have u5 := u4.same s5
        have o5 := (o3.trans o4).trans (.of_same s5)
        have ln : ([V.str z, V.str ("-" ++ z)] ++ vs).length ≤ 20 := by rw [List.length_append, lv]; show 2 + 9 ≤ 20; decide
        revert h5 all5 u5 o5 ln
        clear s5
        generalize upd H4 p3 (.lst ([V.str z, V.str ("-" ++ z)] ++ vs)) = H5
        generalize [V.str z, V.str ("-" ++ z)] ++ vs = xs
        intro h5 all5 u5 o5 ln
        refine ⟨_, rfl, p3, rfl, ⟨_, .inl (.inl h5)⟩, for_list (K := K) (a := p3) (xs := xs) (fun i σ H' => (∃ y1 y5 y6 y7 y8, σ = [some (.ref a), y1, some (.ref u), some (.str z), some (.ref p3), y5, y6, y7, y8, none, none, none, none]) ∧ Same H5 H') ⟨⟨_, _, _, _, _, rfl⟩, Same.refl H5⟩ (fun i σ H' _ ⟨_, s'⟩ => .inl (.inl (s' _ _ h5))) ?_ ?_⟩
        · rintro i x σ H' hx ⟨⟨y1, y5, y6, y7, y8, rfl⟩, s'⟩
          have any := all5 x (List.mem_of_getElem? hx)
          have kd : Kd K H' x (told x) := (any.old (.of_same s')).told
          obtain ⟨w1, w2, w3, w4⟩ := kd.fit.show
          refine ⟨_, rfl, x, told x, rfl, kd, fun H6 a6 s6 n6 h6 => ?_⟩
          refine ⟨a6, .tuple (datL (told x)), rfl, fun pins σ s I => ?_, w1, w2, w4, ?_⟩
          · obtain ⟨as, rd⟩ := Dp.reads I _ _ _ (.tup (.inl (.inl h6)) (dp_told K H6 (told x))) rfl
            exact ⟨as, rd, fun y => by rw [w3] at y; cases y⟩
          have kd2 : Kd K H6 x (told x) := (any.old (.of_same (s'.trans s6))).told
          refine ⟨_, rfl, x, told x, rfl, kd2, fun H7 a7 s7 n7 h7 => ?_⟩
          refine ⟨a7, .tuple (datL (told x)), rfl, fun pins σ s I => ?_, w1, w2, w4, ?_⟩
          · obtain ⟨as, rd⟩ := Dp.reads I _ _ _ (.tup (.inl (.inl h7)) (dp_told K H7 (told x))) rfl
            exact ⟨as, rd, fun y => by rw [w3] at y; cases y⟩
          refine ⟨rfl, _, rfl, ?_⟩
          rw [decide_eq_true (rfl : V.str (PyData.tuple (datL (told x))).shown = V.str (PyData.tuple (datL (told x))).shown)]
          exact ⟨⟨_, _, _, _, _, rfl⟩, (s'.trans s6).trans s7⟩
        · rintro σ H6 ⟨⟨y1, y5, y6, y7, y8, rfl⟩, s6⟩
          have u6 := u5.same s6
          have o6 := o5.trans (.of_same s6)
          have pw30 : CPowW 10 30 := ⟨by decide, by decide +kernel⟩
          have pw20 : CPowW 10 20 := ⟨by decide, by decide +kernel⟩
          refine ⟨_, rfl, _, _, rfl, rfl, pw30, u, _, rfl, u6, by decide, log_60' (by decide), fun v1 H7 a1 b1 u7 k7 => ?_⟩
          refine ⟨_, rfl, _, _, rfl, rfl, pw30, u, _, rfl, u7, by decide, log_60' (by decide), fun v2 H8 a2 b2 u8 k8 => ?_⟩
          refine ⟨_, _, rfl, rfl, ?_⟩
          refine ⟨_, rfl, _, _, rfl, rfl, pw20, u, _, rfl, u8, by decide, log_60' (by decide), fun v3 H9 a3 b3 u9 k9 => ?_⟩
          refine ⟨_, _, rfl, rfl, _, _, rfl, ?_⟩
          have o9 : Old u H6 H9 := ((Old.of_but k7).trans (.of_but k8)).trans (.of_but k9)
          have p30 : (10 : Int) ^ Int.toNat 30 = 10 ^ 30 := rfl
          have p20 : (10 : Int) ^ Int.toNat 20 = 10 ^ 20 := rfl
          rw [p30] at b1 b2
          rw [p20] at b3
          have ti : (v1 - v2).natAbs < 10 ^ 60 := by omega
          have tj : (1 + v3).natAbs < 10 ^ 60 := by omega
          have tz : 1 + v3 ≠ 0 := by omega
          have tp : 0 < 1 + v3 := by omega
          refine ⟨_, rfl, _, rfl, ?_⟩
          intro r dx hr0 hdx hne
          refine ⟨r, v1 - v2, 1 + v3, dx, rfl, ti, tj, tz, upd_same, fun H10 but rat => ⟨rfl, ?_⟩⟩
          obtain ⟨s10, nr⟩ := made_same (Same.refl H9) hr0 hdx but
          obtain ⟨q1, q2⟩ := quo_small tz ti tj
          have qp := dv_pos (i := v1 - v2) tz
          have lw := low (i := v1 - v2) tz
          generalize (v1 - v2) / dv (v1 - v2) (1 + v3) = p at rat q1 lw
          generalize (1 + v3) / dv (v1 - v2) (1 + v3) = q' at rat q2 qp lw
          have lk := look_low q1 q2 qp lw
          refine ⟨rfl, _, rfl, r, rfl, rat.ins, r, p, q', rfl, rat, q1, q2, fun z' hz' => ⟨z', rfl, ?_⟩⟩
          have zl' : z'.length ≤ 123 := by rw [len_tl, hz']; exact ratL_len q1 q2
          have za' : Asc z' := fun c hc => asc_rat p q' c (by rw [← hz']; exact hc)
          refine ⟨.str z', rfl, .inl ⟨z', rfl, by omega, fun n => ?_, fun i' j' lk' H11 b' s11 n11 rat' => ?_⟩⟩
          · rw [hz', lk] at n
            cases n
          rw [hz', lk] at lk'
          have e3 := Option.some.inj lk'
          have e4 : p = i' := congrArg Prod.fst e3
          have e5 : q' = j' := congrArg Prod.snd e3
          subst e4
          subst e5
          obtain ⟨dr, er⟩ := id rat
          have rat2 : Rat H11 r C p q' := ⟨dr, s11 _ _ er⟩
          refine ⟨_, rfl, b', .ref C, rfl, rat'.ins, .base (.ins (s11 _ _ er) IC.cl IC.ha IC.hn IC.htk IC.hm), nf, b', r, p, q', p, q', rfl, rat', rat2, _, rfl, ?_⟩
          rw [decide_eq_true (rfl : p = p), decide_eq_true (rfl : q' = q')]
          refine ite2 (fun y => Bool.noConfusion (show false = true from y)) (fun _ => ?_)
          refine ⟨_, rfl, r, rfl, rat2.ins, r, p, q', rfl, rat2, q1, q2, fun z2 hz2 => ⟨z2, rfl, ?_⟩⟩
          have zl2 : z2.length ≤ 123 := by rw [len_tl, hz2]; exact ratL_len q1 q2
          have za2 : Asc z2 := fun c hc => asc_rat p q' c (by rw [← hz2]; exact hc)
          refine ⟨.str z2, rfl, .inl ⟨z2, rfl, by omega, za2, fun H12 s12 => ⟨_, rfl, ?_⟩⟩⟩
          rw [hz2, lk]
          refine ite2 (fun y => Bool.noConfusion (show false = true from y)) (fun _ => ?_)
          refine ⟨⟨_, _, _, _, _, _, _, _, rfl⟩, fun b o hb => ?_⟩
          have hb' := sm b o hb
          have nb := ne_of_none hb' n1
          exact s12 _ _ (s11 _ _ (s10 _ _ (o9 b o nb (o6 b o nb (s1 b o hb')))))
    · rintro σ H' ⟨⟨y1, y2, y3, y4, y5, y6, y7, y8, rfl⟩, sm⟩
      have pw59 : CPowW 10 59 := ⟨by decide, by decide +kernel⟩
      refine ⟨_, _, rfl, rfl, pw59, _, _, rfl, rfl, wide_mul (a := 200) (b := 4) (by decide) (by decide) (by decide) (by decide) (by decide), _, _, rfl, rfl, ?_⟩
      have e1 : (10 : Int) ^ Int.toNat 59 * 9 + 7 = 900000000000000000000000000000000000000000000000000000000007 := by decide
      show gName 9 (.int ((10 : Int) ^ Int.toNat 59 * 9 + 7)) _ _ _
      rw [e1]
      have b1 : (900000000000000000000000000000000000000000000000000000000007 : Int).natAbs < 10 ^ 60 := by decide
      have b2 : ((900000000000000000000000000000000000000000000000000000000007 : Int) + 1).natAbs < 10 ^ 60 := by decide
      have g1 : Nat.gcd (900000000000000000000000000000000000000000000000000000000007 : Int).natAbs ((900000000000000000000000000000000000000000000000000000000007 : Int) + 1).natAbs = 1 := by decide +kernel
      have n1 : ¬ ((900000000000000000000000000000000000000000000000000000000007 : Int) * 10).natAbs < 10 ^ 60 := by decide
      have n2 : ((900000000000000000000000000000000000000000000000000000000007 : Int) * 10).natAbs < 10 ^ 61 := by decide
      have p0 : (0 : Int) < 900000000000000000000000000000000000000000000000000000000007 := by decide
      revert b1 b2 g1 n1 n2 p0
      clear e1
      generalize (900000000000000000000000000000000000000000000000000000000007 : Int) = one
      intro b1 b2 g1 n1 n2 p0
      have l1 := intL_len b1
      have l2 := intL_len b2
      have t1 := tl_int one
      have t2 := tl_int (one + 1)
      have m1 : (Str.ofString (toString one)).length ≤ 61 := by rw [len_tl, t1]; exact l1
      have m2 : (Str.ofString (toString (one + 1))).length ≤ 61 := by rw [len_tl, t2]; exact l2
      have d1 : ("/" : Str).length = 1 := by decide +kernel
      have c2 : (Str.ofString (toString one) ++ "/").length ≤ 62 := by rw [cat_len]; omega
      refine ⟨_, rfl, one, rfl, log_small b1, _, _, rfl, rfl, big (by omega), ?_⟩
      refine ⟨_, rfl, _, _, rfl, rfl, one + 1, rfl, log_small b2, _, _, rfl, rfl, big (by omega), ?_⟩
      have bar : tl ("/" : Str) = [47] := by decide +kernel
      have tz1 : tl (Str.ofString (toString one) ++ "/" ++ Str.ofString (toString (one + 1))) = ratL one (one + 1) := by
        rw [tl_append, tl_append, t1, t2, bar]
        unfold ratL
        rw [if_neg (by omega), List.append_assoc]
        rfl
      have zl1 : (Str.ofString (toString one) ++ "/" ++ Str.ofString (toString (one + 1))).length ≤ 123 := by rw [cat_len]; omega
      have za1 : Asc (Str.ofString (toString one) ++ "/" ++ Str.ofString (toString (one + 1))) := fun c hc => asc_rat one (one + 1) c (by rw [← tz1]; exact hc)
      have lk1 := look_low b1 b2 (by omega) g1
      rw [← tz1] at lk1
      revert tz1 zl1 za1 lk1
      generalize hz1 : Str.ofString (toString one) ++ "/" ++ Str.ofString (toString (one + 1)) = z1
      intro tz1 zl1 za1 lk1
      refine ⟨.str z1, some (z1, one, one + 1), rfl, .inl ⟨z1, rfl, by omega, za1, by rw [lk1]; rfl⟩, fun H1 a1 s1 k1 h1 => ?_⟩
      have lg : (one * 10).natAbs.log2 < 1920 := Nat.lt_of_lt_of_le (PySem.Flt.log2_lt_of (k := 210) (by decide) (Nat.lt_of_lt_of_le n2 (by decide))) (by decide)
      have t3 := tl_int (one * 10)
      have i3 : intL (one * 10) = numL (one * 10).natAbs := by unfold intL; rw [if_neg (by omega)]
      have lk2 : look (intL (one * 10)) = none := by
        have s : sp (intL (one * 10)) = [intL (one * 10)] := sp_of (ps := [intL (one * 10)]) (by simp) fun z hz => by rw [List.mem_singleton.mp hz]; exact intL_free (by omega)
        rw [look1 s]
        cases r : rd (intL (one * 10)) with
        | none => rfl
        | some i =>
          obtain ⟨e, b⟩ := rd_int r
          rw [i3] at e
          unfold intL at e
          by_cases hi : i < 0
          · rw [if_pos hi] at e
            exact absurd (by rw [e]; rfl) (head_num (one * 10).natAbs)
          · rw [if_neg hi] at e
            have := numL_inj e
            exact absurd (by rw [this]; exact b) n1
      rw [← t3] at lk2
      have zl2 : (Str.ofString (toString (one * 10))).length ≤ 61 := by rw [len_tl, t3, i3]; exact numL_len (by decide) n2
      have za2 : Asc (Str.ofString (toString (one * 10))) := fun c hc => asc_int _ c (by rw [← t3]; exact hc)
      refine ⟨_, rfl, _, _, rfl, rfl, wide_mul (a := 200) (b := 4) (Nat.lt_of_lt_of_le b1 (by decide)) (by decide) (by decide) (by decide) (by decide), one * 10, rfl, lg, ?_⟩
      refine ⟨.str _, none, rfl, .inl ⟨_, rfl, by omega, za2, by rw [lk2]; rfl⟩, fun H2 a2 s2 k2 h2 => ?_⟩
      have q3 : tl ("-1/2" : Str) = ratL (-1) 2 := by decide +kernel
      have lk3 := look_low (p := -1) (q := 2) (by decide) (by decide) (by decide) (by decide)
      rw [← q3] at lk3
      refine ⟨.str "-1/2", some ("-1/2", -1, 2), rfl, .inl ⟨_, rfl, by decide +kernel, asc_of rfl (by decide +kernel), by rw [lk3]; rfl⟩, fun H3 a3 s3 k3 h3 => ?_⟩
      have lk4 : look (tl ("2/4" : Str)) = none := by decide +kernel
      refine ⟨.str "2/4", none, rfl, .inl ⟨_, rfl, by decide +kernel, asc_of rfl (by decide +kernel), by rw [lk4]; rfl⟩, fun H4 a4 s4 k4 h4 => ?_⟩
      refine ⟨(by show 4 ≤ sizeLine; decide), fun L1 nL1 => ?_⟩
      refine ⟨_, rfl, one, rfl, log_small b1, _, _, rfl, rfl, big (by omega), ?_⟩
      refine ⟨_, rfl, _, _, rfl, rfl, one + 1, rfl, log_small b2, _, _, rfl, rfl, big (by omega), ?_⟩
      rw [hz1]
      refine ⟨_, rfl, _, rfl, _, _, rfl, rfl, (by show 4 ≤ sizeLine; decide), fun c1 m1' => ⟨by decide, fun c2' m2' => ?_⟩⟩
      refine ⟨_, rfl, (by show 4 ≤ sizeLine; decide), fun c3 m3' => ⟨by decide, fun c4 m4' => ⟨(by show 4 ≤ sizeLine; decide), fun L2 nL2 => ?_⟩⟩⟩
      have sk : SeqAt.shaped (.list [.tuple (datL (some (z1, one, one + 1))), .tuple (datL none), .tuple (datL (some ("-1/2", -1, 2))), .tuple (datL none)]) = true := shaped4 za1 one
      have g1 := sub_same (o := .lst [V.ref a1, V.ref a2, V.ref a3, V.ref a4]) nL1
      have g2 := sub_same (o := .tup [V.str "read", V.str z1, V.int one, V.int (one + 1)]) m1'
      have g3 := sub_same (o := .tup [V.str "wrong", V.int 0]) m2'
      have g4 := sub_same (o := .tup [V.str "read", V.str "-1/2", V.int (-1), V.int 2]) m3'
      have g5 := sub_same (o := .tup [V.str "wrong", V.int 0]) m4'
      have g6 := sub_same (o := .lst [V.ref c1, V.ref c2', V.ref c3, V.ref c4]) nL2
      have t6 := g6
      have t5 := g5.trans t6
      have t4 := g4.trans t5
      have t3 := g3.trans t4
      have t2 := g2.trans t3
      have t1' := g1.trans t2
      refine ⟨_, rfl, _, rfl, _, _, lst4 (K := K) (o1 := some (z1, one, one + 1)) (o2 := none) (o3 := some ("-1/2", -1, 2)) (o4 := none) (t2 _ _ upd_same) (t1' _ _ (s4 _ _ (s3 _ _ (s2 _ _ h1)))) (t1' _ _ (s4 _ _ (s3 _ _ h2))) (t1' _ _ (s4 _ _ h3)) (t1' _ _ h4),
        lst4 (K := K) (o1 := some (z1, one, one + 1)) (o2 := none) (o3 := some ("-1/2", -1, 2)) (o4 := none) upd_same (t3 _ _ upd_same) (t4 _ _ upd_same) (t5 _ _ upd_same) (t6 _ _ upd_same), sk, sk, ?_⟩
      rw [SeqAt.eqv_refl _ (SeqAt.canLay_of_shaped sk)]
      exact q _
end
end K03

namespace K03
open PySem PySem.Spec PyProof.Rows L2
/-- an error of the class at S is what «except S» names -/
theorem exm_own {K : PySem.W.Frag} {S : Addr} (h1 : PySem.W.subIn K (.ref S) (.type "BaseException") = some true) (h2 : PySem.W.isClsIn K S = true) (h3 : PySem.W.typeIn K (.ref S) = some (.type "type")) (h4 : PySem.W.subIn K (.ref S) (.ref S) = some true) :
    PySem.W.exmOne K (.ref S) (.ref S) = some true := by
  have e1 : (PySem.W.subIn K (.ref S) (.type "BaseException") == some true) = true := by rw [h1] <;> rfl
  have e2 : ((PySem.W.clsIn K S).isSome && PySem.W.typeIn K (.ref S) == some (.type "type")) = true := by
    have h2' : (PySem.W.clsIn K S).isSome = true := h2
    rw [h2', h3] <;> rfl
  show (if (PySem.W.subIn K (.ref S) (.type "BaseException") == some true) = true then (if ((PySem.W.clsIn K S).isSome && PySem.W.typeIn K (.ref S) == some (.type "type")) = true then PySem.W.subIn K (.ref S) (.ref S) else none) else none) = some true
  rw [if_pos e1, if_pos e2]
  exact h4
theorem kit_self {K : PySem.W.Frag} (t : Value) : PySem.W.kitOne K t t = some true := by
  unfold PySem.W.kitOne
  rw [if_pos (beq_self_eq_true t)]
theorem all_of {l : PySem.W.OpenLaw} {w : World} {K : PySem.W.Frag} {h : Heap} {mg : Str → Option Value} {fa : Addr} (X : K.In h) (G : h.Ns mainGlobals mg) (hfa : mg "law" = some (.ref fa))
    {C fI fE fS pR gR pT gT pB gB TD : Addr} {rR rT rB : List Value}
    (aC : PySem.W.nsIn K mainGlobals "Ratio" = some (some (.ref C)))
    (pg : PySem.W.plainGet K C Str.empty = true) (hd : PySem.W.hasDictIn K C = true) (po : PySem.W.plainOver K C = true) (sa : PySem.W.findIn K (.ref C) "__setattr__" = some (some (.builtin "object.__setattr__")))
    (nT : PySem.W.findIn K (.ref C) "_top" = some none) (nB : PySem.W.findIn K (.ref C) "_bottom" = some none)
    (ha : PySem.W.findIn K (.ref C) "__class__" = some (some (.builtin "object.__class__"))) (hn : PySem.W.specialIn K (.builtin "object.__class__") "__get__" = some (some (.builtin "getset_descriptor.__get__"))) (htk : PySem.W.takesIn K (.builtin "object.__class__") = some true) (hm : PySem.W.mroIn K C (.type "object") = some true)
    (nf : PySem.W.notFirst K C (.ref C) = true) (mks : PySem.W.makesIn K C = true) (ini : PySem.W.findIn K (.ref C) "__init__" = some (some (.ref fI))) (ifn : PySem.W.isFn K (.ref fI) = true) (kpC : PySem.W.keepIn K (.ref C) = true)
    (eE : PySem.W.findIn K (.ref C) "__eq__" = some (some (.ref fE))) (iE : PySem.W.isFn K (.ref fE) = true) (eS : PySem.W.findIn K (.ref C) "__str__" = some (some (.ref fS))) (iS : PySem.W.isFn K (.ref fS) = true)
    (rd : PySem.W.readsIn K C (.type "type") = true) (rga : PySem.W.specialIn K (.ref C) "__getattribute__" = some (some (.builtin "type.__getattribute__")))
    (cmA : PySem.W.findCls K (.ref C) (.type "type") "read" = some (.get (.builtin "classmethod.__get__") (.ref pR) .none (.ref C))) (cmR : PySem.W.recIn K pR "classmethod" = some (.ref gR :: rR)) (cmF : PySem.W.fnIn K gR = true)
    (pTa : PySem.W.findIn K (.ref C) "top" = some (some (.ref pT))) (pTg : PySem.W.specialIn K (.ref pT) "__get__" = some (some (.builtin "property.__get__"))) (pTt : PySem.W.takesIn K (.ref pT) = some true) (pTr : PySem.W.recIn K pT "property" = some (.ref gT :: rT))
    (pBa : PySem.W.findIn K (.ref C) "bottom" = some (some (.ref pB))) (pBg : PySem.W.specialIn K (.ref pB) "__get__" = some (some (.builtin "property.__get__"))) (pBt : PySem.W.takesIn K (.ref pB) = some true) (pBr : PySem.W.recIn K pB "property" = some (.ref gB :: rB))
    {CP fP N0 : Addr} {nm qn : Str} {bs : List Value} {bm : List Value} {sn : List Str} {sub : List Value} {ab : Bool} {col : Option Bool} {dd : Option Addr} {m0 m1 m2 m3 m5 : Option Value}
    (aP : PySem.W.nsIn K mainGlobals "ParseError" = some (some (.ref CP))) (xP : K.lookup CP = some (excClassObj nm qn CP N0 bs bm true sn sub ab col dd m0 m1 m2 m3 m5 "ValueError.__new__")) (rP : PySem.HandSPX.refsVE bm = true)
    (saP : PySem.W.findIn K (.ref CP) "__setattr__" = some (some (.builtin "object.__setattr__"))) (exP : PySem.W.subIn K (.ref CP) (.type "BaseException") = some true) (tyP : PySem.W.typeIn K (.ref CP) = some (.type "type")) (kPc : PySem.W.keepIn K (.ref CP) = true) (noP : PySem.W.findIn K (.ref CP) "spot" = some none) (iP : PySem.W.findIn K (.ref CP) "__init__" = some (some (.ref fP))) (tP : PySem.W.typeIn K (.ref fP) = some (.type "function")) (gaP : PySem.W.findIn K (.ref CP) "__getattribute__" = some (some (.builtin "BaseException.__getattribute__"))) (ggP : PySem.W.findIn K (.ref CP) "__getattr__" = some none) (hdP : PySem.W.hasDictIn K CP = true) (icP : PySem.W.isClsIn K CP = true) (sbP : PySem.W.subIn K (.ref CP) (.ref CP) = some true)
    {t1 t2 : Tok} (g1 : PySem.W.nsIn K mainGlobals "_LIMIT" = some (some (.int (10 ^ 60) t1))) (g2 : PySem.W.nsIn K mainGlobals "MAX_DIGITS" = some (some (.int 60 t2))) (g3 : PySem.W.nsIn K mainGlobals "gcd" = some (some (.builtin "math.gcd")))
    (n_len : PySem.W.nsIn K mainGlobals "len" = some none)
    (n_abs : PySem.W.nsIn K mainGlobals "abs" = some none)
    (n_int : PySem.W.nsIn K mainGlobals "int" = some none)
    (n_bool : PySem.W.nsIn K mainGlobals "bool" = some none)
    (n_max : PySem.W.nsIn K mainGlobals "max" = some none)
    (n_min : PySem.W.nsIn K mainGlobals "min" = some none)
    (n_sum : PySem.W.nsIn K mainGlobals "sum" = some none)
    (n_tuple : PySem.W.nsIn K mainGlobals "tuple" = some none)
    (n_range : PySem.W.nsIn K mainGlobals "range" = some none)
    (n_repr : PySem.W.nsIn K mainGlobals "repr" = some none)
    (n_isinstance : PySem.W.nsIn K mainGlobals "isinstance" = some none)
    (n_reversed : PySem.W.nsIn K mainGlobals "reversed" = some none)
    (n_str : PySem.W.nsIn K mainGlobals "str" = some none)
    (n_all : PySem.W.nsIn K mainGlobals "all" = some none)
    (n_list : PySem.W.nsIn K mainGlobals "list" = some none)
    {odR anR : Option Addr} {slR : Array (Option Value)} {ocR kVR dcR pmR cdR ctR : Value} (lR : K.lookup gR = some ⟨ocR, odR, .func (PySem.W.fnOf "read" "Ratio.read" (defArgs s_readm) (defBody s_readm) (defScope s_readm) .none kVR dcR pmR anR cdR ctR), slR⟩) (cR : PySem.W.codeIn K cdR "Ratio.read" = true) (kR : PySem.W.keepIn K (.ref gR) = true)
    {odT anT : Option Addr} {slT : Array (Option Value)} {ocT kVT dcT pmT cdT ctT : Value} (lT : K.lookup gT = some ⟨ocT, odT, .func (PySem.W.fnOf "top" "Ratio.top" (defArgs s_top) (defBody s_top) (defScope s_top) .none kVT dcT pmT anT cdT ctT), slT⟩) (cT : PySem.W.codeIn K cdT "Ratio.top" = true) (kT : PySem.W.keepIn K (.ref gT) = true)
    {odB anB : Option Addr} {slB : Array (Option Value)} {ocB kVB dcB pmB cdB ctB : Value} (lB : K.lookup gB = some ⟨ocB, odB, .func (PySem.W.fnOf "bottom" "Ratio.bottom" (defArgs s_bottom) (defBody s_bottom) (defScope s_bottom) .none kVB dcB pmB anB cdB ctB), slB⟩) (cB : PySem.W.codeIn K cdB "Ratio.bottom" = true) (kB : PySem.W.keepIn K (.ref gB) = true)
    {odE anE : Option Addr} {slE : Array (Option Value)} {ocE kVE dcE pmE cdE ctE : Value} (lE : K.lookup fE = some ⟨ocE, odE, .func (PySem.W.fnOf "__eq__" "Ratio.__eq__" (defArgs s_eq) (defBody s_eq) (defScope s_eq) .none kVE dcE pmE anE cdE ctE), slE⟩) (cE : PySem.W.codeIn K cdE "Ratio.__eq__" = true) (kE : PySem.W.keepIn K (.ref fE) = true)
    {odS anS : Option Addr} {slS : Array (Option Value)} {ocS kVS dcS pmS cdS ctS : Value} (lS : K.lookup fS = some ⟨ocS, odS, .func (PySem.W.fnOf "__str__" "Ratio.__str__" (defArgs s_str) (defBody s_str) (defScope s_str) .none kVS dcS pmS anS cdS ctS), slS⟩) (cS : PySem.W.codeIn K cdS "Ratio.__str__" = true) (kS : PySem.W.keepIn K (.ref fS) = true)
    {odP anP : Option Addr} {slP : Array (Option Value)} {ocP kVP dcP pmP cdP ctP : Value} (lP : K.lookup fP = some ⟨ocP, odP, .func (PySem.W.fnOf "__init__" "ParseError.__init__" (defArgs s_pinit) (defBody s_pinit) (defScope s_pinit) .none kVP dcP pmP anP cdP ctP), slP⟩) (cP : PySem.W.codeIn K cdP "ParseError.__init__" = true) (kP : PySem.W.keepIn K (.ref fP) = true)
    {odI anI odD : Option Addr} {slI slD : Array (Option Value)} {ocI kVI dcI pmI cdI ctI ocD : Value} {tD : Tok} {nD : Nat} (lI : K.lookup fI = some ⟨ocI, odI, .func (PySem.W.fnOf "__init__" "Ratio.__init__" (defArgs s_init) (defBody s_init) (defScope s_init) (.ref TD) kVI dcI pmI anI cdI ctI), slI⟩) (cI : PySem.W.codeIn K cdI "Ratio.__init__" = true) (kI : PySem.W.keepIn K (.ref fI) = true) (lD : K.lookup TD = some ⟨ocD, odD, .seq #[.int 1 tD] nD, slD⟩)
    {f0 : Addr} {od0 an0 : Option Addr} {sl0 : Array (Option Value)} {oc0 kV0 dc0 pm0 cd0 ct0 : Value} (a0 : PySem.W.nsIn K mainGlobals "is_whole" = some (some (.ref f0))) (l0 : K.lookup f0 = some ⟨oc0, od0, .func (PySem.W.fnOf "is_whole" "is_whole" (defArgs s_is_whole) (defBody s_is_whole) (defScope s_is_whole) .none kV0 dc0 pm0 an0 cd0 ct0), sl0⟩) (c0 : PySem.W.codeIn K cd0 "is_whole" = true) (k0 : PySem.W.keepIn K (.ref f0) = true)
    {f1 : Addr} {od1 an1 : Option Addr} {sl1 : Array (Option Value)} {oc1 kV1 dc1 pm1 cd1 ct1 : Value} (a1 : PySem.W.nsIn K mainGlobals "is_integer" = some (some (.ref f1))) (l1 : K.lookup f1 = some ⟨oc1, od1, .func (PySem.W.fnOf "is_integer" "is_integer" (defArgs s_is_integer) (defBody s_is_integer) (defScope s_is_integer) .none kV1 dc1 pm1 an1 cd1 ct1), sl1⟩) (c1 : PySem.W.codeIn K cd1 "is_integer" = true) (k1 : PySem.W.keepIn K (.ref f1) = true)
    {f2 : Addr} {od2 an2 : Option Addr} {sl2 : Array (Option Value)} {oc2 kV2 dc2 pm2 cd2 ct2 : Value} (a2 : PySem.W.nsIn K mainGlobals "read_integer" = some (some (.ref f2))) (l2 : K.lookup f2 = some ⟨oc2, od2, .func (PySem.W.fnOf "read_integer" "read_integer" (defArgs s_read_integer) (defBody s_read_integer) (defScope s_read_integer) .none kV2 dc2 pm2 an2 cd2 ct2), sl2⟩) (c2 : PySem.W.codeIn K cd2 "read_integer" = true) (k2 : PySem.W.keepIn K (.ref f2) = true)
    {f3 : Addr} {od3 an3 : Option Addr} {sl3 : Array (Option Value)} {oc3 kV3 dc3 pm3 cd3 ct3 : Value} (a3 : PySem.W.nsIn K mainGlobals "divisor_of_terms" = some (some (.ref f3))) (l3 : K.lookup f3 = some ⟨oc3, od3, .func (PySem.W.fnOf "divisor_of_terms" "divisor_of_terms" (defArgs s_terms) (defBody s_terms) (defScope s_terms) .none kV3 dc3 pm3 an3 cd3 ct3), sl3⟩) (c3 : PySem.W.codeIn K cd3 "divisor_of_terms" = true) (k3 : PySem.W.keepIn K (.ref f3) = true)
    {f4 : Addr} {od4 an4 : Option Addr} {sl4 : Array (Option Value)} {oc4 kV4 dc4 pm4 cd4 ct4 : Value} (a4 : PySem.W.nsIn K mainGlobals "_law_urn" = some (some (.ref f4))) (l4 : K.lookup f4 = some ⟨oc4, od4, .func (PySem.W.fnOf "_law_urn" "_law_urn" (defArgs s_law_urn) (defBody s_law_urn) (defScope s_law_urn) .none kV4 dc4 pm4 an4 cd4 ct4), sl4⟩) (c4 : PySem.W.codeIn K cd4 "_law_urn" = true) (k4 : PySem.W.keepIn K (.ref f4) = true)
    {f5 : Addr} {od5 an5 : Option Addr} {sl5 : Array (Option Value)} {oc5 kV5 dc5 pm5 cd5 ct5 : Value} (a5 : PySem.W.nsIn K mainGlobals "_law_take" = some (some (.ref f5))) (l5 : K.lookup f5 = some ⟨oc5, od5, .func (PySem.W.fnOf "_law_take" "_law_take" (defArgs s_law_take) (defBody s_law_take) (defScope s_law_take) .none kV5 dc5 pm5 an5 cd5 ct5), sl5⟩) (c5 : PySem.W.codeIn K cd5 "_law_take" = true) (k5 : PySem.W.keepIn K (.ref f5) = true)
    {f6 : Addr} {od6 an6 : Option Addr} {sl6 : Array (Option Value)} {oc6 kV6 dc6 pm6 cd6 ct6 : Value} (a6 : PySem.W.nsIn K mainGlobals "_law_some" = some (some (.ref f6))) (l6 : K.lookup f6 = some ⟨oc6, od6, .func (PySem.W.fnOf "_law_some" "_law_some" (defArgs s_law_some) (defBody s_law_some) (defScope s_law_some) .none kV6 dc6 pm6 an6 cd6 ct6), sl6⟩) (c6 : PySem.W.codeIn K cd6 "_law_some" = true) (k6 : PySem.W.keepIn K (.ref f6) = true)
    {f7 : Addr} {od7 an7 : Option Addr} {sl7 : Array (Option Value)} {oc7 kV7 dc7 pm7 cd7 ct7 : Value} (a7 : PySem.W.nsIn K mainGlobals "_law_shared" = some (some (.ref f7))) (l7 : K.lookup f7 = some ⟨oc7, od7, .func (PySem.W.fnOf "_law_shared" "_law_shared" (defArgs s_law_shared) (defBody s_law_shared) (defScope s_law_shared) .none kV7 dc7 pm7 an7 cd7 ct7), sl7⟩) (c7 : PySem.W.codeIn K cd7 "_law_shared" = true) (k7 : PySem.W.keepIn K (.ref f7) = true)
    {f8 : Addr} {od8 an8 : Option Addr} {sl8 : Array (Option Value)} {oc8 kV8 dc8 pm8 cd8 ct8 : Value} (a8 : PySem.W.nsIn K mainGlobals "_law_is_number" = some (some (.ref f8))) (l8 : K.lookup f8 = some ⟨oc8, od8, .func (PySem.W.fnOf "_law_is_number" "_law_is_number" (defArgs s_law_is_number) (defBody s_law_is_number) (defScope s_law_is_number) .none kV8 dc8 pm8 an8 cd8 ct8), sl8⟩) (c8 : PySem.W.codeIn K cd8 "_law_is_number" = true) (k8 : PySem.W.keepIn K (.ref f8) = true)
    {f9 : Addr} {od9 an9 : Option Addr} {sl9 : Array (Option Value)} {oc9 kV9 dc9 pm9 cd9 ct9 : Value} (a9 : PySem.W.nsIn K mainGlobals "_law_lets" = some (some (.ref f9))) (l9 : K.lookup f9 = some ⟨oc9, od9, .func (PySem.W.fnOf "_law_lets" "_law_lets" (defArgs s_law_lets) (defBody s_law_lets) (defScope s_law_lets) .none kV9 dc9 pm9 an9 cd9 ct9), sl9⟩) (c9 : PySem.W.codeIn K cd9 "_law_lets" = true) (k9 : PySem.W.keepIn K (.ref f9) = true)
    {f10 : Addr} {od10 an10 : Option Addr} {sl10 : Array (Option Value)} {oc10 kV10 dc10 pm10 cd10 ct10 : Value} (a10 : PySem.W.nsIn K mainGlobals "_law_read" = some (some (.ref f10))) (l10 : K.lookup f10 = some ⟨oc10, od10, .func (PySem.W.fnOf "_law_read" "_law_read" (defArgs s_law_read) (defBody s_law_read) (defScope s_law_read) .none kV10 dc10 pm10 an10 cd10 ct10), sl10⟩) (c10 : PySem.W.codeIn K cd10 "_law_read" = true) (k10 : PySem.W.keepIn K (.ref f10) = true)
    {f11 : Addr} {od11 an11 : Option Addr} {sl11 : Array (Option Value)} {oc11 kV11 dc11 pm11 cd11 ct11 : Value} (a11 : PySem.W.nsIn K mainGlobals "_law_due" = some (some (.ref f11))) (l11 : K.lookup f11 = some ⟨oc11, od11, .func (PySem.W.fnOf "_law_due" "_law_due" (defArgs s_law_due) (defBody s_law_due) (defScope s_law_due) .none kV11 dc11 pm11 an11 cd11 ct11), sl11⟩) (c11 : PySem.W.codeIn K cd11 "_law_due" = true) (k11 : PySem.W.keepIn K (.ref f11) = true)
    {f12 : Addr} {od12 an12 : Option Addr} {sl12 : Array (Option Value)} {oc12 kV12 dc12 pm12 cd12 ct12 : Value} (a12 : PySem.W.nsIn K mainGlobals "_law_text" = some (some (.ref f12))) (l12 : K.lookup f12 = some ⟨oc12, od12, .func (PySem.W.fnOf "_law_text" "_law_text" (defArgs s_law_text) (defBody s_law_text) (defScope s_law_text) .none kV12 dc12 pm12 an12 cd12 ct12), sl12⟩) (c12 : PySem.W.codeIn K cd12 "_law_text" = true) (k12 : PySem.W.keepIn K (.ref f12) = true)
    {f13 : Addr} {od13 an13 : Option Addr} {sl13 : Array (Option Value)} {oc13 kV13 dc13 pm13 cd13 ct13 : Value} (a13 : PySem.W.nsIn K mainGlobals "_law_near" = some (some (.ref f13))) (l13 : K.lookup f13 = some ⟨oc13, od13, .func (PySem.W.fnOf "_law_near" "_law_near" (defArgs s_law_near) (defBody s_law_near) (defScope s_law_near) .none kV13 dc13 pm13 an13 cd13 ct13), sl13⟩) (c13 : PySem.W.codeIn K cd13 "_law_near" = true) (k13 : PySem.W.keepIn K (.ref f13) = true)
    {f14 : Addr} {od14 an14 : Option Addr} {sl14 : Array (Option Value)} {oc14 kV14 dc14 pm14 cd14 ct14 : Value} (a14 : PySem.W.nsIn K mainGlobals "law" = some (some (.ref f14))) (l14 : K.lookup f14 = some ⟨oc14, od14, .func (PySem.W.fnOf "law" "law" (defArgs s_law) (defBody s_law) (defScope s_law) .none kV14 dc14 pm14 an14 cd14 ct14), sl14⟩) (c14 : PySem.W.codeIn K cd14 "law" = true) (k14 : PySem.W.keepIn K (.ref f14) = true) :
    ∃ fd : FuncData, (∀ (s : Shared) (u : Value), BindsTo s fd ⟨[u], []⟩ [("_law_script", u)]) ∧ ∀ base : Heap, K.In base → base.Ns mainGlobals mg → FnG l.prog w K mg base CX0 8 fa fd ["_law_script"] (spLaw K) := by
  have e := hfa.symm.trans (PySem.W.mg_of X G a14)
  cases e
  have cls : Cls K C := ⟨pg, hd, po, sa⟩
  have R : RC K mg C := ⟨cls, nT, nB, PySem.W.mg_of X G aC⟩
  have IC : C8.InsC K C := ⟨cls, ha, hn, htk, hm, kit_self _⟩
  have mk : Mk K C fI := ⟨mks, ini, ifn, kpC⟩
  have xf : XfC K CP := ⟨gaP, ggP, exP, hdP⟩
  have te := exm_own exP icP tyP sbP
  have T : Txt mg := ⟨PySem.W.mg_none_of X G n_len, PySem.W.mg_none_of X G n_abs, PySem.W.mg_none_of X G n_int, PySem.W.mg_none_of X G n_bool, PySem.W.mg_none_of X G n_max, PySem.W.mg_none_of X G n_min, PySem.W.mg_none_of X G n_sum, PySem.W.mg_none_of X G n_tuple, PySem.W.mg_none_of X G n_range, PySem.W.mg_none_of X G n_repr, PySem.W.mg_none_of X G n_isinstance, PySem.W.mg_none_of X G n_reversed⟩
  have N : Nam mg := ⟨PySem.W.mg_none_of X G n_str, PySem.W.mg_none_of X G n_all, PySem.W.mg_none_of X G n_list, PySem.W.mg_of X G g3, ⟨_, PySem.W.mg_of X G g1⟩, ⟨_, PySem.W.mg_of X G g2⟩⟩
  have FR := fun_mk (st := s_readm) lR cR kR
  have MR : M K "read" "Ratio.read" s_readm ["cls", "text"] gR _ := ⟨FR, FR.binds (ps := ["cls", "text"]) fun _ _ _ _ _ _ us hl => match us, hl with | [_, _], _ => rfl⟩
  have FT := fun_mk (st := s_top) lT cT kT
  have MT : M K "top" "Ratio.top" s_top ["self"] gT _ := ⟨FT, FT.binds (ps := ["self"]) fun _ _ _ _ _ _ us hl => match us, hl with | [_], _ => rfl⟩
  have FB := fun_mk (st := s_bottom) lB cB kB
  have MB : M K "bottom" "Ratio.bottom" s_bottom ["self"] gB _ := ⟨FB, FB.binds (ps := ["self"]) fun _ _ _ _ _ _ us hl => match us, hl with | [_], _ => rfl⟩
  have FE := fun_mk (st := s_eq) lE cE kE
  have ME : M K "__eq__" "Ratio.__eq__" s_eq ["self", "other"] fE _ := ⟨FE, FE.binds (ps := ["self", "other"]) fun _ _ _ _ _ _ us hl => match us, hl with | [_, _], _ => rfl⟩
  have FS := fun_mk (st := s_str) lS cS kS
  have MS : M K "__str__" "Ratio.__str__" s_str ["self"] fS _ := ⟨FS, FS.binds (ps := ["self"]) fun _ _ _ _ _ _ us hl => match us, hl with | [_], _ => rfl⟩
  have FP := fun_mk (st := s_pinit) lP cP kP
  have MP : M K "__init__" "ParseError.__init__" s_pinit ["self", "spot"] fP _ := ⟨FP, FP.binds (ps := ["self", "spot"]) fun _ _ _ _ _ _ us hl => match us, hl with | [_, _], _ => rfl⟩
  have F0 := fun_mk (st := s_is_whole) l0 c0 k0
  have d_is_whole : D K mg "is_whole" s_is_whole ["value"] _ _ := ⟨F0, PySem.W.mg_of X G a0, F0.binds (ps := ["value"]) fun _ _ _ _ _ _ us hl => match us, hl with | [_], _ => rfl⟩
  have F1 := fun_mk (st := s_is_integer) l1 c1 k1
  have d_is_integer : D K mg "is_integer" s_is_integer ["value"] _ _ := ⟨F1, PySem.W.mg_of X G a1, F1.binds (ps := ["value"]) fun _ _ _ _ _ _ us hl => match us, hl with | [_], _ => rfl⟩
  have F2 := fun_mk (st := s_read_integer) l2 c2 k2
  have d_read_integer : D K mg "read_integer" s_read_integer ["text"] _ _ := ⟨F2, PySem.W.mg_of X G a2, F2.binds (ps := ["text"]) fun _ _ _ _ _ _ us hl => match us, hl with | [_], _ => rfl⟩
  have F3 := fun_mk (st := s_terms) l3 c3 k3
  have d_divisor_of_terms : D K mg "divisor_of_terms" s_terms ["top", "bottom"] _ _ := ⟨F3, PySem.W.mg_of X G a3, F3.binds (ps := ["top", "bottom"]) fun _ _ _ _ _ _ us hl => match us, hl with | [_, _], _ => rfl⟩
  have F4 := fun_mk (st := s_law_urn) l4 c4 k4
  have d_law_urn : D K mg "_law_urn" s_law_urn ["_law_script", "_law_at"] _ _ := ⟨F4, PySem.W.mg_of X G a4, F4.binds (ps := ["_law_script", "_law_at"]) fun _ _ _ _ _ _ us hl => match us, hl with | [_, _], _ => rfl⟩
  have F5 := fun_mk (st := s_law_take) l5 c5 k5
  have d_law_take : D K mg "_law_take" s_law_take ["_law_urn_here", "_law_total"] _ _ := ⟨F5, PySem.W.mg_of X G a5, F5.binds (ps := ["_law_urn_here", "_law_total"]) fun _ _ _ _ _ _ us hl => match us, hl with | [_, _], _ => rfl⟩
  have F6 := fun_mk (st := s_law_some) l6 c6 k6
  have d_law_some : D K mg "_law_some" s_law_some ["_law_urn_here", "_law_items"] _ _ := ⟨F6, PySem.W.mg_of X G a6, F6.binds (ps := ["_law_urn_here", "_law_items"]) fun _ _ _ _ _ _ us hl => match us, hl with | [_, _], _ => rfl⟩
  have F7 := fun_mk (st := s_law_shared) l7 c7 k7
  have d_law_shared : D K mg "_law_shared" s_law_shared ["_law_one", "_law_other"] _ _ := ⟨F7, PySem.W.mg_of X G a7, F7.binds (ps := ["_law_one", "_law_other"]) fun _ _ _ _ _ _ us hl => match us, hl with | [_, _], _ => rfl⟩
  have F8 := fun_mk (st := s_law_is_number) l8 c8 k8
  have d_law_is_number : D K mg "_law_is_number" s_law_is_number ["_law_text_here"] _ _ := ⟨F8, PySem.W.mg_of X G a8, F8.binds (ps := ["_law_text_here"]) fun _ _ _ _ _ _ us hl => match us, hl with | [_], _ => rfl⟩
  have F9 := fun_mk (st := s_law_lets) l9 c9 k9
  have d_law_lets : D K mg "_law_lets" s_law_lets ["_law_value"] _ _ := ⟨F9, PySem.W.mg_of X G a9, F9.binds (ps := ["_law_value"]) fun _ _ _ _ _ _ us hl => match us, hl with | [_], _ => rfl⟩
  have F10 := fun_mk (st := s_law_read) l10 c10 k10
  have d_law_read : D K mg "_law_read" s_law_read ["_law_value"] _ _ := ⟨F10, PySem.W.mg_of X G a10, F10.binds (ps := ["_law_value"]) fun _ _ _ _ _ _ us hl => match us, hl with | [_], _ => rfl⟩
  have F11 := fun_mk (st := s_law_due) l11 c11 k11
  have d_law_due : D K mg "_law_due" s_law_due ["_law_value"] _ _ := ⟨F11, PySem.W.mg_of X G a11, F11.binds (ps := ["_law_value"]) fun _ _ _ _ _ _ us hl => match us, hl with | [_], _ => rfl⟩
  have F12 := fun_mk (st := s_law_text) l12 c12 k12
  have d_law_text : D K mg "_law_text" s_law_text ["_law_urn_here"] _ _ := ⟨F12, PySem.W.mg_of X G a12, F12.binds (ps := ["_law_urn_here"]) fun _ _ _ _ _ _ us hl => match us, hl with | [_], _ => rfl⟩
  have F13 := fun_mk (st := s_law_near) l13 c13 k13
  have d_law_near : D K mg "_law_near" s_law_near ["_law_urn_here", "_law_text_here"] _ _ := ⟨F13, PySem.W.mg_of X G a13, F13.binds (ps := ["_law_urn_here", "_law_text_here"]) fun _ _ _ _ _ _ us hl => match us, hl with | [_, _], _ => rfl⟩
  have F14 := fun_mk (st := s_law) l14 c14 k14
  have d_law : D K mg "law" s_law ["_law_script"] _ _ := ⟨F14, PySem.W.mg_of X G a14, F14.binds (ps := ["_law_script"]) fun _ _ _ _ _ _ us hl => match us, hl with | [_], _ => rfl⟩
  have FI : FunD K "__init__" "Ratio.__init__" (defArgs s_init) (defBody s_init) (defScope s_init) [.int 1] [] fI (PySem.W.fnOf "__init__" "Ratio.__init__" (defArgs s_init) (defBody s_init) (defScope s_init) (.ref TD) kVI dcI pmI anI cdI ctI) :=
    ⟨⟨_, _, _, _, _, _, _, _, _, _, rfl, lI, cI, .inr ⟨List.cons_ne_nil _ _, TD, _, [.int 1 tD], nD, rfl, lD, rfl, .cons ⟨tD, rfl⟩ .nil⟩, .inl rfl⟩, kI⟩
  have bI : Binds K (PySem.W.fnOf "__init__" "Ratio.__init__" (defArgs s_init) (defBody s_init) (defScope s_init) (.ref TD) kVI dcI pmI anI cdI ctI) ["self", "top", "bottom"] [] := by
    obtain ⟨ds, r, b⟩ := FI.binds1 (ps := ["self", "top", "bottom"]) 3 1 (List.cons_ne_nil _ _) rfl fun T kV doc pm an cdv ct us its hl hi => match us, its, hl, hi with | [_, _, _], [_], _, _ => ⟨_, rfl, rfl⟩
    cases r
    exact b
  have dP : RD K mg CP fP _ := ⟨⟨⟨nm, qn, N0, bs, bm, sn, sub, ab, col, dd, m0, m1, m2, m3, m5, xP, rP⟩, saP, exP, tyP, kPc⟩, noP, iP, tP, PySem.W.mg_of X G aP, MP⟩
  have Z : RM K C (.type "type") pR gR pT gT pB gB fS _ _ _ _ := ⟨⟨rd, rga⟩, ⟨cmA, ⟨_, cmR⟩, cmF⟩, MR, ⟨pTa, pTg, pTt, ⟨_, pTr⟩⟩, MT, ⟨pBa, pBg, pBt, ⟨_, pBr⟩⟩, MB, eS, iS, MS⟩
  refine ⟨PySem.W.fnOf "law" "law" (defArgs s_law) (defBody s_law) (defScope s_law) .none kV14 dc14 pm14 an14 cd14 ct14, fun s u => .of_eq rfl, fun base _ _ => ?_⟩
  have GI : ∀ k : Nat, FnOk l.prog w K mg base CX0 (k + 3) fI (PySem.W.fnOf "__init__" "Ratio.__init__" (defArgs s_init) (defBody s_init) (defScope s_init) (.ref TD) kVI dcI pmI anI cdI ctI) ["self", "top", "bottom"] (spInit C) := fun k =>
    ok_init T N R (fun sp j len hb => FI.ok sc_init len fun cdv A outer s H vs Q E hr h => by obtain ⟨t, h1, h2⟩ := hb cdv A outer s H vs Q E hr h; exact ⟨t, h1.nox, h2⟩) d_is_whole d_is_integer d_divisor_of_terms
  have GR : FnOk l.prog w K mg base (L2.CX l.prog w) 5 gR _ ["cls", "text"] (spReadm K C CP) := ok_readm (k := 0) T N R mk (GI 0) bI eS iS MS d_read_integer dP MR
  exact ok_law (C := C) (CP := CP) T N R Z d_law d_law_urn d_law_text d_law_near d_law_read d_law_due d_law_take d_law_lets IC nf mk bI eE iE ME
    (ok_urn (k := 0) T d_law_urn) (ok_text (k := 0) T N d_law_text d_law_take d_law_some d_law_shared) (ok_near (k := 0) T N d_law_near d_law_take d_law_some)
    (ok_lread (k := 0) T N R Z dP xf te GR d_law_read) (ok_due (k := 3) T d_law_due d_law_lets (ok_lets T N d_law_lets d_law_is_number d_law_shared)) (ok_take (k := 0) T d_law_take) (ok_lets (k := 1) T N d_law_lets d_law_is_number d_law_shared)
    (GI 0) (ok_eq (k := 0) T R IC ME) (ok_str (k := 0) N R MS) GR
end K03

open PySem PySem.W PyProof.Rows
set_option maxRecDepth 100000 in
set_option maxHeartbeats 0 in
theorem PySem.Challenge.cw_stairlots_k03_whole_texts_of_ratios_holds : PySem.Challenge.rw_stairlots_k03_whole_texts_of_ratios.Holds := by
  w_on; o_law; k_head; (case hw => w_witness2)
  k_fill
  refine K03.walk_ofG (l := PySem.Challenge.rw_stairlots_k03_whole_texts_of_ratios) (n := 63) (k := 8) (x := "_law_script") (sp := K03.spLaw) rfl (by decide) rfl ⟨rfl, by decide, by decide⟩ (fun w h Y => PySem.W.kIn_of Y) ?F (fun _ _ a ns hl hS => ⟨a, ns, rfl, hS, hl, fun _ => rfl⟩)
  case F =>
    intro w mg fa h KX G hmg
    refine' K03.all_of KX G hmg ?aC ?pg ?hd ?po ?sa ?nT ?nB ?ha ?hn ?htk ?hm ?nf ?mks ?ini ?ifn ?kpC ?eE ?iE ?eS ?iS ?rd ?rga ?cmA ?cmR ?cmF ?pTa ?pTg ?pTt ?pTr ?pBa ?pBg ?pBt ?pBr ?aP ?xP ?rP ?saP ?exP ?tyP ?kPc ?noP ?iP ?tP ?gaP ?ggP ?hdP ?icP ?sbP ?g1 ?g2 ?g3 ?n_len ?n_abs ?n_int ?n_bool ?n_max ?n_min ?n_sum ?n_tuple ?n_range ?n_repr ?n_isinstance ?n_reversed ?n_str ?n_all ?n_list ?lR ?cR ?kR ?lT ?cT ?kT ?lB ?cB ?kB ?lE ?cE ?kE ?lS ?cS ?kS ?lP ?cP ?kP ?lI ?cI ?kI ?lD ?a0 ?l0 ?c0 ?k0 ?a1 ?l1 ?c1 ?k1 ?a2 ?l2 ?c2 ?k2 ?a3 ?l3 ?c3 ?k3 ?a4 ?l4 ?c4 ?k4 ?a5 ?l5 ?c5 ?k5 ?a6 ?l6 ?c6 ?k6 ?a7 ?l7 ?c7 ?k7 ?a8 ?l8 ?c8 ?k8 ?a9 ?l9 ?c9 ?k9 ?a10 ?l10 ?c10 ?k10 ?a11 ?l11 ?c11 ?k11 ?a12 ?l12 ?c12 ?k12 ?a13 ?l13 ?c13 ?k13 ?a14 ?l14 ?c14 ?k14
    (case aC => k_is)
    (case pg => k_is)
    (case hd => k_is)
    (case po => k_is)
    (case sa => k_is)
    (case nT => k_is)
    (case nB => k_is)
    (case ha => k_is)
    (case hn => k_is)
    (case htk => k_is)
    (case hm => k_is)
    (case nf => k_is)
    (case mks => k_is)
    (case ini => k_is)
    (case ifn => k_is)
    (case kpC => k_is)
    (case eE => k_is)
    (case iE => k_is)
    (case eS => k_is)
    (case iS => k_is)
    (case rd => k_is)
    (case rga => k_is)
    (case cmA => k_is)
    (case cmR => k_is)
    (case cmF => k_is)
    (case pTa => k_is)
    (case pTg => k_is)
    (case pTt => k_is)
    (case pTr => k_is)
    (case pBa => k_is)
    (case pBg => k_is)
    (case pBt => k_is)
    (case pBr => k_is)
    (case aP => k_is)
    (case xP => k_is)
    (case rP => first | decide +kernel | k_is)
    (case saP => k_is)
    (case exP => k_is)
    (case tyP => k_is)
    (case kPc => k_is)
    (case noP => k_is)
    (case iP => k_is)
    (case tP => k_is)
    (case gaP => k_is)
    (case ggP => k_is)
    (case hdP => k_is)
    (case icP => k_is)
    (case sbP => first | rfl | k_is)
    (case g1 => k_is)
    (case g2 => k_is)
    (case g3 => k_is)
    (case n_len => k_is)
    (case n_abs => k_is)
    (case n_int => k_is)
    (case n_bool => k_is)
    (case n_max => k_is)
    (case n_min => k_is)
    (case n_sum => k_is)
    (case n_tuple => k_is)
    (case n_range => k_is)
    (case n_repr => k_is)
    (case n_isinstance => k_is)
    (case n_reversed => k_is)
    (case n_str => k_is)
    (case n_all => k_is)
    (case n_list => k_is)
    (case lR => k_is)
    (case cR => k_is)
    (case kR => k_is)
    (case lT => k_is)
    (case cT => k_is)
    (case kT => k_is)
    (case lB => k_is)
    (case cB => k_is)
    (case kB => k_is)
    (case lE => k_is)
    (case cE => k_is)
    (case kE => k_is)
    (case lS => k_is)
    (case cS => k_is)
    (case kS => k_is)
    (case lP => k_is)
    (case cP => k_is)
    (case kP => k_is)
    (case lI => k_is)
    (case cI => k_is)
    (case kI => k_is)
    (case lD => k_is)
    (case a0 => k_is)
    (case l0 => k_is)
    (case c0 => k_is)
    (case k0 => k_is)
    (case a1 => k_is)
    (case l1 => k_is)
    (case c1 => k_is)
    (case k1 => k_is)
    (case a2 => k_is)
    (case l2 => k_is)
    (case c2 => k_is)
    (case k2 => k_is)
    (case a3 => k_is)
    (case l3 => k_is)
    (case c3 => k_is)
    (case k3 => k_is)
    (case a4 => k_is)
    (case l4 => k_is)
    (case c4 => k_is)
    (case k4 => k_is)
    (case a5 => k_is)
    (case l5 => k_is)
    (case c5 => k_is)
    (case k5 => k_is)
    (case a6 => k_is)
    (case l6 => k_is)
    (case c6 => k_is)
    (case k6 => k_is)
    (case a7 => k_is)
    (case l7 => k_is)
    (case c7 => k_is)
    (case k7 => k_is)
    (case a8 => k_is)
    (case l8 => k_is)
    (case c8 => k_is)
    (case k8 => k_is)
    (case a9 => k_is)
    (case l9 => k_is)
    (case c9 => k_is)
    (case k9 => k_is)
    (case a10 => k_is)
    (case l10 => k_is)
    (case c10 => k_is)
    (case k10 => k_is)
    (case a11 => k_is)
    (case l11 => k_is)
    (case c11 => k_is)
    (case k11 => k_is)
    (case a12 => k_is)
    (case l12 => k_is)
    (case c12 => k_is)
    (case k12 => k_is)
    (case a13 => k_is)
    (case l13 => k_is)
    (case c13 => k_is)
    (case k13 => k_is)
    (case a14 => k_is)
    (case l14 => k_is)
    (case c14 => k_is)
    (case k14 => k_is)

