import PyProof.Rows.All
import Wide.All
import OpenK.AllK
import Wide.FinOn
import HandS.Base
import HandS.Call
import HandS.List
import HandS.Comp
import HandS.Ends
import HandS.Words
import HandS.WordsList
import HandS.OwnEq
import PyProof.InstNe
import HandS.SetKeys
import PyProof.StrWalks
import PyProof.EnumMake
import HandS.Iter
import HandS.Text
import PyProof.ListStr
import PyProof.Draws
import PyProof.WalksEnum
import HandS.ForMost
import HandS.Property
import HandS.IsInst
import HandS.Codes
import HandS.ClsMeth
import HandS.Replace
import HandS.Flow
import HandS.Evl
import HandS.ForExc
import HandS.ExcInit
import HandS.ExcField
import HandS.ExcIs
import HandS.ExcValue
import HandS.MakeKw
import PySem.Challenge.RW_linestrikes_k99_errors_and_causes
set_option Elab.async false
set_option linter.all false
set_option maxRecDepth 100000
set_option maxHeartbeats 4000000
namespace PySem.W
open PySem PySem.Calls PyProof.Rows Builtin
section
variable {prog : Program} {w : World} {A : Around} {E : Value → Shared → Prop} {s : Shared} {K : Frag} {x C L f : Addr} {h₀ : Heap} {m : Str → Option Value} {ox : Obj} {od : Option Obj}
theorem slotBound_K {M : Model} {name : Str} {id : String} {args : List Value} {Q : Option Value → Shared → Prop} (X : K.In s.heap) (I : InstAt s.heap x ox C od) (hs : findIn K (.ref C) name = some (some (.builtin id)))
    (hb : ∀ v, bindSpecial (.builtin id) v = pure (.builtin id, [v]))
    (h : wpAny M A (call (.builtin id) (.ref x :: args)) (fun v => Q (some v)) E s) : wpAny M A (callSpecialIfBound? (.ref x) name args) Q E s := by
  simp only [callSpecialIfBound?, bindSpecialIfBound?]
  refine wpAny_holding (wpAny_bind (wpAny_bind (wpAny_bind (I.type.here ((looks_findIn X hs).here ?_)))))
  simp only [hb]
  refine wpAny_bind (wpAny_askSetting (wpAny_ite ?_))
  have fin : wpAny M A (call (.builtin id) ([.ref x] ++ args) >>= fun v => pure (some v)) Q E s := wpAny_bind (wpAny_mono h (fun v s' h' => wpAny_pure h') fun _ _ h' => h')
  split
  · exact wpAny_bind (wpAny_pure (wpAny_pure fin))
  · exact wpAny_tryCatch (wpAny_bind (wpAny_pure (wpAny_pure fin)))
theorem objNe_K {b : Value} {Q : Fin → Shared → Prop} (X : K.In s.heap) (I : InstAt s.heap x ox C od) (hu : A.units < cLine) (hs : findIn K (.ref C) "__eq__" = some (some (.ref f))) (hf : isFn K (.ref f) = true)
    (hcall : wpAny (model prog w) A (call (.ref f) [.ref x, b]) (fun v s' => ∃ k, v = .bool k ∧ Q (.done (.ret (.bool (!k)))) s') E s) :
    wpAny (model prog w) A (Builtin.«object.__ne__» ⟨[.ref x, b], []⟩) Q E s := by
  unfold Builtin.«object.__ne__»
  have hc : wpAny (model prog w) A (callSpecialIfBound? (.ref x) (Str.ofString "__eq__") [b]) (fun r s' => ∃ k, r = some (.bool k) ∧ Q (.done (.ret (.bool (!k)))) s') E s :=
    ifBound_K X I hs hf (wpAny_mono hcall (fun v s' hv => by obtain ⟨k, rfl, q⟩ := hv; exact ⟨k, rfl, q⟩) fun _ _ e => e)
  repeat (first
    | with_reducible refine wpAny_cRoomFor hu ?_
    | (refine wpAny_bind (m := callSpecialIfBound? (.ref x) (Str.ofString "__eq__") [b]) (wpAny_mono hc (fun r s' hr => by
          obtain ⟨k, rfl, hq⟩ := hr
          repeat (first | exact hq | exact wpAny_pure hq | exact wpAny_truthy_bool hq | (refine wpAny_bind (m := truthy (.bool _)) (wpAny_truthy_bool ?_)) | wp_step)) fun _ _ e => e))
    | wp_step)
theorem ne_K {b : Value} {tb : Value} {Q : Value → Shared → Prop} (hu : A.units + 1 < cLine) (F : Fr h₀ L s.heap m) (X₀ : K.In h₀) (I : InstAt s.heap x ox C od) (hb : Looks (model prog w) s.heap (typeOf b) tb) (hn : notFirst K C tb = true)
    (hne : findIn K (.ref C) "__ne__" = some (some (.builtin "object.__ne__"))) (ho : subIn K (.ref C) (.type "object") = some true)
    (hs : findIn K (.ref C) "__eq__" = some (some (.ref f))) (hf : isFn K (.ref f) = true)
    (h : wpAny (model prog w) A.in1 (call (.ref f) [.ref x, b]) (fun v s' => ∃ k, v = .bool k ∧ Q (.bool (!k)) s') E s) : wpAny (model prog w) A (richCompare .NotEq (.ref x) b) Q E s := by
  have X := X₀.keeps F.keep
  have one : wpAny (model prog w) A (tryCompare (.ref x) "__ne__" b) (fun r s' => ∃ v, r = some v ∧ Q v s') E s := by
    unfold tryCompare
    refine wpAny_bind (slotBound_K X I hne PySem.F.cmp_object.ne.bind (wpAny_call (codeAny_call_builtin PySem.F.cmp_object.ne.plain PySem.F.cmpEntry_ne ?_)))
    simp only [checkBuiltinCall, PySem.F.cmpKind_ne, PySem.F.cmpSplit_ne]
    refine wpAny_bind ?_
    unfold isInstance
    refine wpAny_bind (I.type.here ((looks_subIn X ho).here ?_))
    have ha := PySem.F.cmpArgs_ne (.ref x) b
    rw [if_neg (by decide)]
    have fin : wpAny (model prog w) A.in1 (Builtin.«object.__ne__» ⟨[.ref x, b], []⟩) (fun fin s' => match fin with
          | Fin.done f => (match (Except.ok f : Except Value Flow) with
            | Except.ok (Flow.ret v) => wpAny (model prog w) A (match (some v : Option Value) with | some Value.notImplemented => pure none | none => pure none | some v => pure (some v)) (fun r s' => ∃ v, r = some v ∧ Q v s') E s'
            | Except.ok _ => False
            | Except.error e => E e s')
          | Fin.again c' => c'.quiet = true ∧ codeAny (model prog w) A c' (fun r s' => match r with
                  | Except.ok (Flow.ret v) => wpAny (model prog w) A (match (some v : Option Value) with | some Value.notImplemented => pure none | none => pure none | some v => pure (some v)) (fun r s' => ∃ v, r = some v ∧ Q v s') E s'
                  | Except.ok _ => False
                  | Except.error e => E e s') s') (fun e s' => E e s') s := by
      refine objNe_K X I hu hs hf (wpAny_mono h (fun v s' hv => ?_) fun _ _ e => e)
      obtain ⟨k, rfl, q⟩ := hv
      exact ⟨k, rfl, wpAny_pure ⟨_, rfl, q⟩⟩
    cases hsig : Manifest.signature? "object.__ne__" with
    | none => exact wpAny_pure fin
    | some sig =>
      simp only [argsOk, hsig] at ha
      have h2 : Bind.checkArgs "object.__ne__" sig ⟨[.ref x, b], []⟩ = pure () := ha
      show wpAny _ _ (Bind.checkArgs "object.__ne__" sig ⟨[.ref x, b], []⟩) _ _ _
      rw [h2]; exact wpAny_pure fin
  unfold richCompare
  simp only [oneThing_ref]
  refine wpAny_holding (wpAny_bind (wpAny_cRoomFor (Nat.lt_of_succ_lt hu) ?_))
  refine wpAny_bind (I.type.here (wpAny_bind (hb.here ?_)))
  split
  · rename_i q
    have e : subIn K tb (.ref C) = some false := by
      rcases Bool.or_eq_true_iff.mp hn with e | e
      · rw [beq_iff_eq.mp e] at q; simp at q
      · exact beq_iff_eq.mp e
    refine wpAny_bind ((looks_subIn X e).here ?_)
    simp only [Bool.false_eq_true, if_false]
    refine wpAny_bind (wpAny_mono one (fun r s' z => ?_) fun _ _ e => e)
    obtain ⟨v, rfl, hq⟩ := z
    exact wpAny_pure hq
  · refine wpAny_bind (wpAny_pure ?_)
    simp only [Bool.false_eq_true, if_false]
    refine wpAny_bind (wpAny_mono one (fun r s' z => ?_) fun _ _ e => e)
    obtain ⟨v, rfl, hq⟩ := z
    exact wpAny_pure hq
end
end PySem.W

namespace LB
open PySem L2 PyProof.Rows
section
variable {X : Cx} {CX : CXT} {k : Nat} {f C : Addr} {fd : FuncData} {ps : List Str} {sp : Sp} {E : XK}
theorem relV_ne {v : V} {u : Value} (r : RelV v u) : u ≠ .notImplemented := by
  intro e
  subst e
  cases v with
  | non => cases r
  | bl _ => cases r
  | int _ => obtain ⟨t, e⟩ := r; cases e
  | str _ => obtain ⟨t, e⟩ := r; cases e
  | byt _ => obtain ⟨t, e⟩ := r; cases e
  | flt _ => obtain ⟨t, e⟩ := r; cases e
  | ref _ => cases r
  | ty _ => cases r
theorem cmpBack_of {pins : List (Addr × Obj)} {σ : L2.St} {Q : VK} {u : Value} {s : Shared} (h : EP X pins σ Q u s) : PySem.W.CmpBack (EP X pins σ Q) u s := by
  have hn : u ≠ .notImplemented := by
    obtain ⟨v, H', I, r, q⟩ := h
    exact relV_ne r
  cases u <;> first | exact absurd rfl hn | exact h
/-- a def of the class under a special name -/
structure Own (K : PySem.W.Frag) (C f : Addr) (nm : Str) : Prop where
  at_ : PySem.W.findIn K (.ref C) nm = some (some (.ref f))
  fn : PySem.W.isFn K (.ref f) = true
/-- the callee runs, somewhere below -/
theorem run_in1 {pins : List (Addr × Obj)} {σ : L2.St} {H : Hp} {s : Shared} {Q : VK} {us : List Value} {vs : List V} (F : FnOk X.prog X.w X.K X.mg X.base CX k f fd ps sp) (hr : Room (k + 1) X.A) (hb : Binds X.K fd ps []) (hx : Passes CX X E)
    (I : Inv X pins σ H s) (r : Vals vs us) (h : sp vs H Q E) : wpAny (model X.prog X.w) X.A.in1 (call (.ref f) us) (EP X pins σ Q) X.xe s := by
  have hl : us.length = ps.length := by rw [← r.length]; exact F.len _ _ _ _ h
  have hb' := hb s us I.kIn (by rw [List.append_nil]; exact hl)
  rw [List.append_nil] at hb'
  refine wpAny_call (codeAny_mono (F.run X.A.in1 X.stack s H ⟨us, []⟩ us vs Q E hr.in1 I.env0.in1 hb' r h) fun r s' hq => ?_)
  cases r with
  | error e => exact hx pins σ H s e s' I hq
  | ok fl =>
    cases fl with
    | ret u => exact I.after hq
    | next => exact False.elim hq
    | brk => exact False.elim hq
    | cont => exact False.elim hq
theorem inst_of {pins : List (Addr × Obj)} {σ : L2.St} {H : Hp} {s : Shared} {a dx : Addr} {fs : List (Str × V)} (I : Inv X pins σ H s) (ha : H a = some (.ins C dx fs)) :
    ∃ od, PySem.W.InstAt s.heap a (PySem.W.instObj C dx) C (some od) := by
  obtain ⟨mA, J, _⟩ := ins_get I.hok ha
  obtain ⟨od, J, _⟩ := J.look
  exact ⟨od, J⟩
/-- what an own operator of two instances asks -/
def rOwn2 (C D : Addr) (sp : Sp) (E : XK) : R2 := fun x y H Q => ∃ a b dx dy fs gs, x = .ref a ∧ y = .ref b ∧ H a = some (.ins C dx fs) ∧ H b = some (.ins D dy gs) ∧ sp [x, y] H Q E
theorem op_bin {op : Operator} (F : FnOk X.prog X.w X.K X.mg X.base CX k f fd ps sp) (hr : Room k X.A) (hb : Binds X.K fd ps []) (hx : Passes CX X E) (hc : PySem.W.selfFirst X.K C = true)
    (ho : Own X.K C f (PySem.dunder op.info.2)) : OpR X (binaryOp op) (rOwn2 C C sp E) := by
  intro pins s σ H x y v u Q I rx ry hq
  obtain ⟨a, b, dx, dy, fs, gs, rfl, rfl, ha, hb', h⟩ := hq
  cases rx
  cases ry
  obtain ⟨od, J⟩ := inst_of I ha
  obtain ⟨od', J'⟩ := inst_of I hb'
  obtain ⟨m, hF⟩ := I.fr
  refine PySem.W.binop_K hF I.ok.mod.kin J J'.type hc ho.at_ ho.fn (thn ?_ fun _ _ z => cmpBack_of z)
  exact run_fn (us := [.ref a, .ref b]) (vs := [.ref a, .ref b]) (dvs := []) (ds := []) F hr hb .nil hx I (.cons rfl (.cons rfl .nil)) h
theorem op_eqOwn (F : FnOk X.prog X.w X.K X.mg X.base CX k f fd ps sp) (hr : Room k X.A) (hb : Binds X.K fd ps []) (hx : Passes CX X E) (ho : Own X.K C f "__eq__") : OpR X (compareOp .Eq) (rOwn2 C C sp E) := by
  intro pins s σ H x y v u Q I rx ry hq
  obtain ⟨a, b, dx, dy, fs, gs, rfl, rfl, ha, hb', h⟩ := hq
  cases rx
  cases ry
  obtain ⟨od, J⟩ := inst_of I ha
  obtain ⟨od', J'⟩ := inst_of I hb'
  obtain ⟨m, hF⟩ := I.fr
  show wpAny (model X.prog X.w) X.A (richCompare .Eq (.ref a) (.ref b)) (EP X pins σ Q) X.xe s
  refine PySem.W.cmp_K (op := .Eq) (tb := .ref C) hr.units0 hF I.ok.mod.kin J J'.type (by simp [PySem.W.notFirst]) ho.at_ ho.fn (thn ?_ fun _ _ z => cmpBack_of z)
  exact run_fn (us := [.ref a, .ref b]) (vs := [.ref a, .ref b]) (dvs := []) (ds := []) F hr hb .nil hx I (.cons rfl (.cons rfl .nil)) h
/-- what a class must have for != by its own == -/
structure NeOwn (K : PySem.W.Frag) (C : Addr) : Prop where
  ne : PySem.W.findIn K (.ref C) "__ne__" = some (some (.builtin "object.__ne__"))
  sub : PySem.W.subIn K (.ref C) (.type "object") = some true
theorem op_neOwn (F : FnOk X.prog X.w X.K X.mg X.base CX k f fd ps sp) (hr : Room (k + 1) X.A) (hb : Binds X.K fd ps []) (hx : Passes CX X E) (ho : Own X.K C f "__eq__") (hn : NeOwn X.K C) :
    OpR X (compareOp .NotEq) (fun x y H Q => ∃ a b dx dy fs gs, x = .ref a ∧ y = .ref b ∧ H a = some (.ins C dx fs) ∧ H b = some (.ins C dy gs) ∧ sp [x, y] H (fun z H' => ∃ c, z = .bl c ∧ Q (.bl (!c)) H') E) := by
  intro pins s σ H x y v u Q I rx ry hq
  obtain ⟨a, b, dx, dy, fs, gs, rfl, rfl, ha, hb', h⟩ := hq
  cases rx
  cases ry
  obtain ⟨od, J⟩ := inst_of I ha
  obtain ⟨od', J'⟩ := inst_of I hb'
  obtain ⟨m, hF⟩ := I.fr
  show wpAny (model X.prog X.w) X.A (richCompare .NotEq (.ref a) (.ref b)) (EP X pins σ Q) X.xe s
  refine PySem.W.ne_K (tb := .ref C) (Nat.lt_of_le_of_lt (Nat.add_le_add_left (by decide : 1 ≤ 64) _) hr.units) hF I.ok.mod.kin J J'.type (by simp [PySem.W.notFirst]) hn.ne hn.sub ho.at_ ho.fn
    (thn (run_in1 (us := [.ref a, .ref b]) (vs := [.ref a, .ref b]) F hr hb hx I (.cons rfl (.cons rfl .nil)) h) fun u s' z => ?_)
  obtain ⟨w, H', I', r, c, rfl, q⟩ := z
  cases r
  exact ⟨c, rfl, .bl (!c), H', I', rfl, q⟩
theorem un_own {op : UnaryOp} (F : FnOk X.prog X.w X.K X.mg X.base CX k f fd ps sp) (hr : Room k X.A) (hb : Binds X.K fd ps []) (hx : Passes CX X E) (ho : Own X.K C f "__invert__") :
    UnR X (unaryOp .Invert) (fun x H Q => ∃ a dx fs, x = .ref a ∧ H a = some (.ins C dx fs) ∧ sp [x] H Q E) := by
  intro pins s σ H x v Q I rx hq
  obtain ⟨a, dx, fs, rfl, ha, h⟩ := hq
  cases rx
  obtain ⟨od, J⟩ := inst_of I ha
  obtain ⟨m, hF⟩ := I.fr
  refine PySem.W.ksp_inv hF I.ok.mod.kin J ho.at_ ho.fn ?_
  exact run_fn (us := [.ref a]) (vs := [.ref a]) (dvs := []) (ds := []) F hr hb .nil hx I (.cons rfl .nil) h
theorem un_negOwn {op : UnaryOp} (F : FnOk X.prog X.w X.K X.mg X.base CX k f fd ps sp) (hr : Room k X.A) (hb : Binds X.K fd ps []) (hx : Passes CX X E) (ho : Own X.K C f "__neg__") :
    UnR X (unaryOp .USub) (fun x H Q => ∃ a dx fs, x = .ref a ∧ H a = some (.ins C dx fs) ∧ sp [x] H Q E) := by
  intro pins s σ H x v Q I rx hq
  obtain ⟨a, dx, fs, rfl, ha, h⟩ := hq
  cases rx
  obtain ⟨od, J⟩ := inst_of I ha
  obtain ⟨m, hF⟩ := I.fr
  refine PySem.W.ksp_neg hF I.ok.mod.kin J ho.at_ ho.fn ?_
  exact run_fn (us := [.ref a]) (vs := [.ref a]) (dvs := []) (ds := []) F hr hb .nil hx I (.cons rfl .nil) h
/-- e in o, o an instance with its own __contains__ -/
def rIn (C : Addr) (sp : Sp) (E : XK) (g : Bool → Bool) : R2 := fun x y H Q => ∃ b dy gs, y = .ref b ∧ H b = some (.ins C dy gs) ∧ sp [y, x] H (fun z H' => ∃ c, z = .bl c ∧ Q (.bl (g c)) H') E
theorem op_inOwn (F : FnOk X.prog X.w X.K X.mg X.base CX k f fd ps sp) (hr : Room k X.A) (hb : Binds X.K fd ps []) (hx : Passes CX X E) (ho : Own X.K C f "__contains__") : OpR X (compareOp .In) (rIn C sp E id) := by
  intro pins s σ H x y v u Q I rx ry hq
  obtain ⟨b, dy, gs, rfl, hb', h⟩ := hq
  cases ry
  obtain ⟨od', J'⟩ := inst_of I hb'
  obtain ⟨m, hF⟩ := I.fr
  refine PySem.W.in_K hF I.ok.mod.kin J' ho.at_ ho.fn (thn (run_fn (us := [.ref b, v]) (vs := [.ref b, x]) (dvs := []) (ds := []) F hr hb .nil hx I (.cons rfl (.cons rx .nil)) h) fun u s' z => ?_)
  obtain ⟨w, H', I', r, c, rfl, q⟩ := z
  cases r
  exact wpAny_truthy_bool ⟨.bl c, H', I', rfl, q⟩
theorem op_notInOwn (F : FnOk X.prog X.w X.K X.mg X.base CX k f fd ps sp) (hr : Room k X.A) (hb : Binds X.K fd ps []) (hx : Passes CX X E) (ho : Own X.K C f "__contains__") : OpR X (compareOp .NotIn) (rIn C sp E not) := by
  intro pins s σ H x y v u Q I rx ry hq
  obtain ⟨b, dy, gs, rfl, hb', h⟩ := hq
  cases ry
  obtain ⟨od', J'⟩ := inst_of I hb'
  obtain ⟨m, hF⟩ := I.fr
  refine PySem.W.notIn_K hF I.ok.mod.kin J' ho.at_ ho.fn (thn (run_fn (us := [.ref b, v]) (vs := [.ref b, x]) (dvs := []) (ds := []) F hr hb .nil hx I (.cons rfl (.cons rx .nil)) h) fun u s' z => ?_)
  obtain ⟨w, H', I', r, c, rfl, q⟩ := z
  cases r
  exact wpAny_truthy_bool ⟨.bl (!c), H', I', rfl, q⟩
theorem call_lenOwn (F : FnOk X.prog X.w X.K X.mg X.base CX k f fd ps sp) (hr : Room (k + 1) X.A) (hb : Binds X.K fd ps []) (hx : Passes CX X E) (ho : Own X.K C f "__len__") :
    CallR X (.builtin "len") (fun xs H Q => ∃ a dx fs, xs = [.ref a] ∧ H a = some (.ins C dx fs) ∧ sp xs H (fun z H' => ∃ n : Int, z = .int n ∧ 0 ≤ n ∧ n < 2 ^ 63 ∧ Q (.int n) H') E) := by
  intro pins s σ H xs us Q I rx hq
  obtain ⟨a, dx, fs, rfl, ha, h⟩ := hq
  obtain ⟨u, rfl, ru⟩ := vals1 rx
  cases ru
  obtain ⟨od, J⟩ := inst_of I ha
  obtain ⟨m, hF⟩ := I.fr
  refine PySem.W.len_K hF I.ok.mod.kin J ho.at_ ho.fn (thn (run_in1 (us := [.ref a]) (vs := [.ref a]) F hr hb hx I (.cons rfl .nil) h) fun u s' z => ?_)
  obtain ⟨w, H', I', r, n, rfl, h0, h1, q⟩ := z
  obtain ⟨t, rfl⟩ := r
  exact ⟨⟨h0, h1⟩, .int n, H', I'.tok _, ⟨_, rfl⟩, q⟩
/-- the truth of an instance with its own __bool__ -/
def rTruOwn (C : Addr) (sp : Sp) (E : XK) : V → Hp → (Bool → Hp → Prop) → Prop := fun x H Q => ∃ a dx fs, x = .ref a ∧ H a = some (.ins C dx fs) ∧ sp [x] H (fun z H' => ∃ c, z = .bl c ∧ Q c H') E
theorem tru_own (F : FnOk X.prog X.w X.K X.mg X.base CX k f fd ps sp) (hr : Room k X.A) (hb : Binds X.K fd ps []) (hx : Passes CX X E) (ho : Own X.K C f "__bool__") : TruR X (rTruOwn C sp E) := by
  intro pins s σ H x v Q I rx hq
  obtain ⟨a, dx, fs, rfl, ha, h⟩ := hq
  cases rx
  obtain ⟨od, J⟩ := inst_of I ha
  obtain ⟨m, hF⟩ := I.fr
  refine PySem.W.truthy_K hF I.ok.mod.kin J ho.at_ ho.fn (thn (run_fn (us := [.ref a]) (vs := [.ref a]) (dvs := []) (ds := []) F hr hb .nil hx I (.cons rfl .nil) h) fun u s' z => ?_)
  obtain ⟨w, H', I', r, c, rfl, q⟩ := z
  cases r
  exact ⟨H', I', q⟩
/-- a test by a value's truth, whatever rule says it -/
theorem pt_tru {a : Expr} {ta : TE} {r : V → Hp → (Bool → Hp → Prop) → Prop} (hT : TruR X r) (ha : PE X a ta) (he : ∀ whole, isTrue a X.env whole = (do let v ← whole; standAt a.pos; holding [v] (truthy v)) := by intro _; rfl) :
    PT X a (fun σ H Q => ta σ H fun x H1 => r x H1 Q) := by
  refine ⟨fun pins s σ H Q I hw => ?_⟩
  refine isTrue_plain (thn (ha.run pins s σ H _ I hw) fun v s1 ⟨x, H1, I1, r1, q1⟩ => ?_) (he _)
  exact hT pins s1 σ H1 x v Q I1 r1 q1
/-- not e as a value, by e's truth -/
theorem pe_notTru {a : Expr} {ta : TE} {pos : Pos} {r : V → Hp → (Bool → Hp → Prop) → Prop} (hT : TruR X r) (ha : PE X a ta) : PE X (.UnaryOp .Not a pos) (fun σ H Q => ta σ H fun x H1 => r x H1 fun c H2 => Q (.bl (!c)) H2) := by
  refine ⟨fun pins s σ H Q I h => ?_⟩
  refine UnaryOp_ (thn (ha.run pins s σ H _ I h) fun v s1 ⟨x, H1, I1, r1, q1⟩ => ?_)
  exact not_of (thn (hT pins s1 σ H1 x v _ I1 r1 q1) fun c s2 ⟨H2, I2, q2⟩ => ⟨.bl (!c), H2, I2, rfl, q2⟩)
end
end LB

namespace LB
open PySem PyProof.Rows
/-! ### what of a list is met first -/
section
variable {K : Type} [DecidableEq K]
def ddStep (acc : List K) (x : K) : List K := if x ∈ acc then acc else acc ++ [x]
def dd (l : List K) : List K := l.foldl ddStep []
theorem dd_snoc (l : List K) (x : K) : dd (l ++ [x]) = ddStep (dd l) x := by
  unfold dd
  rw [List.foldl_append]
  rfl
theorem dd_mem (l : List K) (k : K) : k ∈ dd l ↔ k ∈ l := by
  suffices h : ∀ (r acc : List K), k ∈ r.foldl ddStep acc ↔ k ∈ acc ∨ k ∈ r by
    have := h l []
    simpa [dd] using this
  intro r
  induction r with
  | nil => intro acc; simp
  | cons a t ih =>
    intro acc
    rw [List.foldl_cons, ih]
    unfold ddStep
    split
    · rename_i h
      constructor
      · rintro (h1 | h1)
        · exact .inl h1
        · exact .inr (List.mem_cons_of_mem _ h1)
      · rintro (h1 | h1)
        · exact .inl h1
        · rcases List.mem_cons.mp h1 with e | h2
          · subst e; exact .inl h
          · exact .inr h2
    · simp only [List.mem_append, List.mem_cons, List.not_mem_nil, or_false, or_assoc]
theorem dd_len_le (l : List K) : (dd l).length ≤ l.length := by
  suffices h : ∀ (r acc : List K), (r.foldl ddStep acc).length ≤ acc.length + r.length by
    simpa [dd] using h l []
  intro r
  induction r with
  | nil => intro acc; simp
  | cons a t ih =>
    intro acc
    rw [List.foldl_cons]
    refine Nat.le_trans (ih _) ?_
    unfold ddStep
    split
    · simp only [List.length_cons]; omega
    · simp only [List.length_append, List.length_cons, List.length_nil]; omega
theorem dd_nodup {l : List K} (h : l.Nodup) : dd l = l := by
  suffices hh : ∀ (r acc : List K), (acc ++ r).Nodup → r.foldl ddStep acc = acc ++ r by
    simpa [dd] using hh l [] (by simpa using h)
  intro r
  induction r with
  | nil => intro acc _; simp
  | cons a t ih =>
    intro acc hn
    rw [List.foldl_cons]
    have ha : a ∉ acc := fun hm => by
      have := List.nodup_append.mp hn
      exact this.2.2 a hm a List.mem_cons_self rfl
    have e : ddStep acc a = acc ++ [a] := if_neg ha
    rw [e, ih _ (by simpa using hn)]
    simp
theorem dd_len_lt {l : List K} (h : ¬ l.Nodup) : (dd l).length < l.length := by
  suffices hh : ∀ (r acc : List K), acc.Nodup → ¬ (acc ++ r).Nodup → (r.foldl ddStep acc).length < acc.length + r.length by
    have := hh l [] (by simp) (by simpa using h)
    simpa [dd] using this
  intro r
  induction r with
  | nil => intro acc h1 h2; simp at h2; exact absurd h1 h2
  | cons a t ih =>
    intro acc h1 h2
    rw [List.foldl_cons]
    by_cases ha : a ∈ acc
    · have e : ddStep acc a = acc := if_pos ha
      rw [e]
      have := (show ∀ (r acc : List K), (r.foldl ddStep acc).length ≤ acc.length + r.length from by
        intro r
        induction r with
        | nil => intro acc; simp
        | cons a t ih =>
          intro acc
          rw [List.foldl_cons]
          refine Nat.le_trans (ih _) ?_
          unfold ddStep
          split
          · simp only [List.length_cons]; omega
          · simp only [List.length_append, List.length_cons, List.length_nil]; omega) t acc
      simp only [List.length_cons]
      omega
    · have e : ddStep acc a = acc ++ [a] := if_neg ha
      rw [e]
      have := ih (acc ++ [a]) (by
        refine List.nodup_append.mpr ⟨h1, by simp, ?_⟩
        intro x hx y hy q
        simp at hy
        subst hy; subst q
        exact ha hx) (by simpa using h2)
      simp only [List.length_append, List.length_cons, List.length_nil] at this ⊢
      omega
theorem dd_any [BEq K] [LawfulBEq K] (l : List K) (k v : K) : (ddStep l v).any (· == k) = (l.any (· == k) || decide (k = v)) := by
  unfold ddStep
  split
  · rename_i h
    by_cases e : k = v
    · subst e
      simp only [decide_true, Bool.or_true]
      exact List.any_eq_true.mpr ⟨k, h, by simp⟩
    · simp [e]
  · rw [List.any_append]
    congr 1
    by_cases e : k = v
    · subst e; simp
    · have e' : (v == k) = false := by simpa using fun q => e q.symm
      simp [e, e']
theorem dd_len [BEq K] [LawfulBEq K] (l : List K) (v : K) : (ddStep l v).length = if l.any (· == v) = true then l.length else l.length + 1 := by
  unfold ddStep
  by_cases h : v ∈ l
  · rw [if_pos h, if_pos (List.any_eq_true.mpr ⟨v, h, by simp⟩)]
  · rw [if_neg h, if_neg (fun q => by obtain ⟨x, hx, e⟩ := List.any_eq_true.mp q; exact h (by rw [← eq_of_beq e]; exact hx))]
    simp
end
section
variable {prog : Program} {w : World} {A : Around} {R : Result → Shared → Prop} {I : Addr} {fp wr : List Addr} {G : Array GenState → Array GenState → Prop} {n : Nat} {P : Nat → Value → Prop} {St : Nat → Shared → Prop}
theorem set_loop (W : WalksS prog w A.in1 I fp wr G n P St) (S : Addr) (hSf : S ∉ fp)
    (vals : List Str) (hval : ∀ i v, P i v → ∃ k t, vals[i]? = some k ∧ v = .str k t) (hvn : vals.length = n) (hb : n + 1 < scanBound) :
    ∀ (k i : Nat) (s : Shared), n - i = k → i ≤ n → St i s →
      s.heap.SetOf (strKind prog w) S (fun k' => (dd (vals.take i)).any (· == k')) (dd (vals.take i)).length →
      (∀ s', Moved (S :: wr) G s s' → s'.heap.SetOf (strKind prog w) S (fun k' => (dd vals).any (· == k')) (dd vals).length → R (.ok (.ret .none)) s') →
      codeAny (model prog w) A (.builtin "set.update.loop" ⟨[.ref S, .ref I], []⟩) R s := by
  have hSw : S ∉ wr := fun h => hSf (W.sub _ h)
  have hsub : ∀ b ∈ wr, b ∈ S :: wr := fun b hb => List.mem_cons_of_mem _ hb
  intro k
  induction k with
  | zero =>
    intro i s hk hi hst hS hR
    have hin : i = n := by omega
    subst hin
    refine codeAny_builtin PyProof.Rows.F.entry_set_update_loop ?_
    rw [Around.under_plainId PyProof.Rows.F.plain_set_update_loop _]
    show wpAny _ A.in1 (pyNext (.ref I) >>= _) _ _ s
    refine wpAny_bind (W.done s _ _ hst fun s' hm => ?_)
    show wpAny _ A.in1 (ret Value.none) _ _ s'
    exact wpAny_pure (hR s' (hm.mono hsub) (by
      rw [← hvn, List.take_length] at hS
      obtain ⟨o, es, ep, t, ho, rest⟩ := hS
      exact ⟨o, es, ep, t, hm.heap S _ hSw ho, rest⟩))
  | succ k ih =>
    intro i s hk hi hst hS hR
    have hlt : i < n := by omega
    refine codeAny_builtin PyProof.Rows.F.entry_set_update_loop ?_
    rw [Around.under_plainId PyProof.Rows.F.plain_set_update_loop _]
    show wpAny _ A.in1 (pyNext (.ref I) >>= _) _ _ s
    refine wpAny_bind (W.item i s _ _ hlt hst fun v s' hP hst' hm => ?_)
    obtain ⟨y, t, hy, rfl⟩ := hval i v hP
    have hS' : s'.heap.SetOf (strKind prog w) S (fun k' => (dd (vals.take i)).any (· == k')) (dd (vals.take i)).length := by
      obtain ⟨o, es, ep, tb, ho, rest⟩ := hS
      exact ⟨o, es, ep, tb, hm.heap S _ hSw ho, rest⟩
    show wpAny _ A.in1 (holding [Value.str y t] (setAdd S (.str y t)) >>= _) _ _ s'
    refine wpAny_bind (wpAny_holding ?_)
    unfold setAdd
    refine wpAny_holding ?_
    refine wpAny_bind ((strKind prog w).pyHash (k := y) (by simp [PySem.strKind, Value.isStrOf]) ?_)
    have hroom : (dd (vals.take i)).length + 1 < scanBound := by have := dd_len_le (vals.take i); have := List.length_take_le i vals; omega
    refine wpAny_setAddHashed_of (knd := strKind prog w) (s := { s' with toks := s'.toks + 1 }) (by simp [PySem.strKind, Value.isStrOf]) rfl hS' hroom fun h' hsb hS2 => ?_
    have hstep : vals.take (i + 1) = vals.take i ++ [y] := by
      have hi' := List.getElem?_eq_some_iff.mp hy
      obtain ⟨h1, e1⟩ := hi'
      rw [List.take_succ_eq_append_getElem h1, e1]
    have hSi : h'.SetOf (strKind prog w) S (fun k' => (dd (vals.take (i + 1))).any (· == k')) (dd (vals.take (i + 1))).length :=
      PyProof.Rows.SetOf_congr hS2 (fun k' => by rw [hstep, dd_snoc, dd_any]) (by rw [hstep, dd_snoc, dd_len])
    refine wpAny_pure ⟨plainId_quiet PyProof.Rows.F.plain_set_update_loop _, ih (i + 1) _ (by omega) hlt (W.frame _ s' _ _ hst' (Nat.le_succ _) fun b hb o e => ?_) hSi fun s'' hm'' hS'' => ?_⟩
    · rw [hsb.2 b (fun h : b = S => hSf (by rw [← h]; exact hb))]; exact e
    · refine hR s'' (Moved.trans W.gtrans ((hm.mono hsub).then_heap (Nat.le_succ _) fun b o hb e => ?_) hm'') hS''
      rw [hsb.2 b (fun h : b = S => hb (by rw [h]; exact List.mem_cons_self))]; exact e
end

theorem str_not_set : isSubtype (.type "str") (.type "set") = pure false := by rw [isSubtype_type]; kernel_rfl
theorem str_not_frozenset : isSubtype (.type "str") (.type "frozenset") = pure false := by rw [isSubtype_type]; kernel_rfl
def signs (x : Str) : List Str := x.cps.toList.map fun c => (⟨#[c]⟩ : Str)
theorem signs_len (x : Str) : (signs x).length = x.cps.size := by simp [signs]
theorem signs_at {x : Str} {i : Nat} {c : Nat} (h : x.cps[i]? = some c) : (signs x)[i]? = some ⟨#[c]⟩ := by
  unfold signs
  rw [List.getElem?_map, Array.getElem?_toList, h]
  rfl
section
variable {prog : Program} {w : World} {A : Around} {E : Value → Shared → Prop} {s : Shared}
/-- set(x), x any thing that is walked as texts -/
theorem call_set_gen {v : Value} {vals : List Str} {Q : Value → Shared → Prop} (hh : A.handled = none) (hb : vals.length + 1 < scanBound)
    (hinit : ∀ (led : Bool) (R : Result → Shared → Prop), 
      (∀ s', (∀ b o, b < s.heap.objs.size → s.heap.get? b = some o → s'.heap.get? b = some o) → s'.gens = s.gens → s'.drawn = s.drawn → s'.os = s.os →
        s'.heap.SetOf (PySem.strKind prog w) s.heap.objs.size (fun k' => (dd vals).any (· == k')) (dd vals).length → R (.ok (.ret .none)) s') →
      (∀ e s', R (.error e) s' = E e s') →
      wpAny (model prog w) A.in1.in1 (Builtin.«set.__init__» ⟨[.ref s.heap.objs.size, v], []⟩) (fun fin s' => match fin with
        | .done f => R (.ok f) s' | .again c' => c'.quiet = true ∧ codeAny (model prog w) A.in1 c' R s') (fun e s' => R (.error e) s') 
        { s with heap := s.heap.push { cls := .type "set", dict := none, data := .set #[] 0 (.fresh 0 0 led) } })
    (h : ∀ (h' : Heap) (tk : Nat), h'.SetOf (PySem.strKind prog w) s.heap.objs.size (fun k' => (dd vals).any (· == k')) (dd vals).length →
      (∀ b o, b < s.heap.objs.size → s.heap.get? b = some o → h'.get? b = some o) → Q (.ref s.heap.objs.size) { s with heap := h', toks := tk }) :
    wpAny (model prog w) A (call (.type "set") [v]) Q E s := by
  obtain ⟨c, tl, hmro⟩ := PySem.F.called_set.mro
  have hmade := PySem.F.called_set.made
  have hsub := PySem.F.called_set.sub
  refine wpAny_call (codeAny_of_tree ?_)
  show wpAny _ _ (callAny (.type "set") _) _ _ _
  refine wpAny_pure ⟨Code.quiet_builtin _ (by decide +kernel), codeAny_builtin PySem.F.entry_type_call ?_⟩
  rw [Around.under_plain (weight_type_call_type "set" [v] []) rfl]
  have h1 := PySem.F.called_set.notType
  have h2 := PySem.F.called_set.canCreate
  have hct := PySem.F.typeCall_set_1 v
  repeat (any_goals (first | assumption | wp_step))

  refine codeAny_mono (code_set_new_1 v (E := E) (Q₁ := fun obj s₁ => ∃ led : Bool, obj = .ref s.heap.objs.size ∧ s₁ = { s with heap := s.heap.push { cls := .type "set", dict := none, data := .set #[] 0 (.fresh 0 0 led) } }) fun led => ⟨led, rfl, rfl⟩) fun r s₁ hr => ?_
  cases r with
  | error e => exact hr
  | ok fl =>
    cases fl with
    | ret obj =>
      obtain ⟨led, rfl, rfl⟩ := hr
      have hS : (s.heap.push { cls := .type "set", dict := none, data := .set #[] 0 (.fresh 0 0 led) }).get? s.heap.objs.size = some { cls := .type "set", dict := none, data := .set #[] 0 (.fresh 0 0 led) } := Heap.get?_push_size _ rfl
      have hT : Shared.TypeIs { s with heap := s.heap.push { cls := .type "set", dict := none, data := .set #[] 0 (.fresh 0 0 led) } } (.ref s.heap.objs.size) "set" := ⟨_, hS, rfl⟩
      have hli := PySem.F.called_set.init.lookup
      have hbi := PySem.F.called_set.init.bind (.ref s.heap.objs.size)
      repeat (any_goals (first | assumption | wp_step))

      refine codeAny_mono (codeAny_call_builtin (R := wants (fun r s₂ => r = .none ∧ (∀ b o, b < s.heap.objs.size → s.heap.get? b = some o → s₂.heap.get? b = some o) ∧ s₂.gens = s.gens ∧ s₂.drawn = s.drawn ∧ s₂.os = s.os ∧
          s₂.heap.SetOf (PySem.strKind prog w) s.heap.objs.size (fun k' => (dd vals).any (· == k')) (dd vals).length) E) PySem.F.called_set.init.plain PySem.F.entry_set_init (check_set_init_1 hT ?_)) fun r₂ s₂ hr₂ => ?_
      · exact hinit led _ (fun s' k g d o S => ⟨rfl, k, g, d, o, S⟩) fun _ _ => rfl
      · cases r₂ with
        | error e => exact hr₂
        | ok fl₂ =>
          cases fl₂ with
          | ret r =>
            obtain ⟨rfl, hk', g1, d1, o1, hS'⟩ := hr₂
            obtain ⟨h', g', d', tk', os'⟩ := s₂
            have eg : g' = s.gens := g1
            have ed : d' = s.drawn := d1
            have eo : os' = s.os := o1
            subst eg; subst ed; subst eo
            repeat (any_goals (first | assumption | wp_step))
            exact h _ _ hS' hk'
          | _ => exact hr₂.elim
    | _ => exact hr.elim
theorem call_set_text {x : Str} {u : Tok} {Q : Value → Shared → Prop} (hh : A.handled = none) (hb : x.cps.size + 1 < scanBound)
    (h : ∀ (h' : Heap) (tk : Nat), h'.SetOf (PySem.strKind prog w) s.heap.objs.size (fun k' => (dd (signs x)).any (· == k')) (dd (signs x)).length →
      (∀ b o, b < s.heap.objs.size → s.heap.get? b = some o → h'.get? b = some o) → Q (.ref s.heap.objs.size) { s with heap := h', toks := tk }) :
    wpAny (model prog w) A (call (.type "set") [.str x u]) Q E s := by
  refine call_set_gen hh (by rw [signs_len]; exact hb) (fun led R hR he => ?_) h
  have hsls := str_not_set
  have hslf := str_not_frozenset
  have hne : (Value.type "str" == Value.type "dict") = false := by decide
  have hS : (s.heap.push { cls := .type "set", dict := none, data := .set #[] 0 (.fresh 0 0 led) }).get? s.heap.objs.size = some { cls := .type "set", dict := none, data := .set #[] 0 (.fresh 0 0 led) } := Heap.get?_push_size _ rfl
  unfold Builtin.«set.__init__» noKeywords Builtin.Frozenset.updateFrom
  generalize hPI : pyIter = PI
  wp_walk
  subst hPI
  have hget : ∀ T : String, ((s.heap.push { cls := .type "set", dict := none, data := .set #[] 0 (.fresh 0 0 led) }).push { cls := .type T, data := .fields #[.str x u, .int 0 0] }).get? s.heap.objs.size
      = some { cls := .type "set", dict := none, data := .set #[] 0 (.fresh 0 0 led) } := fun T => Heap.get?_push_of_some _ hS
  have hsz1 : (s.heap.push { cls := .type "set", dict := none, data := .set #[] 0 (.fresh 0 0 led) }).objs.size = s.heap.objs.size + 1 := Heap.size_push _ _
  have hh3 : A.in1.in1.in1.handled = none := by simp [hh]
  have hSf : s.heap.objs.size ∉ [(s.heap.push { cls := .type "set", dict := none, data := .set #[] 0 (.fresh 0 0 led) }).objs.size] := by
    rw [hsz1]; simp
  have hval : ∀ (i : Nat) (v : Value), SignAt x i v → ∃ k t, (signs x)[i]? = some k ∧ v = .str k t := fun i v ⟨c, u, h1, h2⟩ => ⟨_, u, signs_at h1, h2⟩
  have fin : ∀ (T : String) (s' : Shared), Moved [s.heap.objs.size, (s.heap.push { cls := .type "set", dict := none, data := .set #[] 0 (.fresh 0 0 led) }).objs.size] (fun a b => b = a) { s with heap := (s.heap.push { cls := .type "set", dict := none, data := .set #[] 0 (.fresh 0 0 led) }).push { cls := .type T, data := .fields #[.str x u, .int 0 0] } } s' →
      s'.heap.SetOf (PySem.strKind prog w) s.heap.objs.size (fun k' => (dd (signs x)).any (· == k')) (dd (signs x)).length →
      wpAny (model prog w) A.in1.in1 (pure ()) (fun a s' => wpAny (model prog w) A.in1.in1 ((fun _ => ret Value.none) a) (fun fin s' => match fin with
              | Fin.done f => R (Except.ok f) s'
              | Fin.again c' => c'.quiet = true ∧ codeAny (model prog w) A.in1 c' R s') (fun e s' => R (Except.error e) s') s') (fun e s' => R (Except.error e) s') s' := fun T s' hm hS' => by
    refine wpAny_pure ?_
    show wpAny _ _ (ret Value.none) _ _ _
    refine wpAny_pure (hR s' (fun b o hb e => ?_) hm.gens hm.drawn hm.os hS')
    have hb1 : b ≠ s.heap.objs.size := Nat.ne_of_lt hb
    have hb2 : b ≠ (s.heap.push { cls := .type "set", dict := none, data := .set #[] 0 (.fresh 0 0 led) }).objs.size := by rw [hsz1]; exact Nat.ne_of_lt (Nat.lt_succ_of_lt hb)
    exact hm.heap b o (by simp only [List.mem_cons, List.not_mem_nil, or_false, not_or]; exact ⟨hb1, hb2⟩) (Heap.get?_push_of_some _ (Heap.get?_push_of_some _ e))
  have hS0 : ∀ T : String, ((s.heap.push { cls := .type "set", dict := none, data := .set #[] 0 (.fresh 0 0 led) }).push { cls := .type T, data := .fields #[.str x u, .int 0 0] }).SetOf (PySem.strKind prog w) s.heap.objs.size (fun k' => (dd ((signs x).take 0)).any (· == k')) (dd ((signs x).take 0)).length := fun T =>
    PyProof.Rows.SetOf_congr ((PyProof.Rows.setObjOf_fresh (knd := PySem.strKind prog w) led).setOf (hget T) (by unfold scanBound; omega)) (fun _ => rfl) rfl
  refine wpAny_pyIter_strU ?_
  refine wpAny_bind (wpAny_runValue ?_)
  cases ha : x.cps.all (· < 128)
  · have e : strIterType x = "str_iterator" := by simp [strIterType, ha]
    rw [e]
    exact set_loop ((Walks.strWide hh3 _ x u).toS) s.heap.objs.size hSf (signs x) hval (signs_len x) hb (x.cps.size - 0) 0 _ (by omega) (Nat.zero_le _) ⟨_, Heap.get?_push_size _ rfl, rfl, rfl⟩ (hS0 _) (fun s' hm hS' => fin "str_iterator" s' hm hS')
  · have e : strIterType x = "str_ascii_iterator" := by simp [strIterType, ha]
    rw [e]
    exact set_loop ((Walks.strAscii hh3 _ x u).toS) s.heap.objs.size hSf (signs x) hval (signs_len x) hb (x.cps.size - 0) 0 _ (by omega) (Nat.zero_le _) ⟨_, Heap.get?_push_size _ rfl, rfl, rfl⟩ (hS0 _) (fun s' hm hS' => fin "str_ascii_iterator" s' hm hS')
theorem strs_at2 : ∀ {us : List Value} {xs : List Str}, L2.Vals (xs.map L2.V.str) us → ∀ (i : Nat) (v : Value), us[i]? = some v → ∃ k t, xs[i]? = some k ∧ v = .str k t := fun {us xs} r i v hv => by
  have hl := r.length
  have hi : i < us.length := (List.getElem?_eq_some_iff.mp hv).1
  have hx : i < xs.length := by rw [List.length_map] at hl; omega
  obtain ⟨u, hu, t, e⟩ := r.get (i := i) (x := L2.V.str xs[i]) (by rw [List.getElem?_map, List.getElem?_eq_getElem hx] <;> rfl)
  rw [hv] at hu
  cases hu
  exact ⟨xs[i], t, List.getElem?_eq_getElem hx, e⟩
theorem call_set_listT {l : Addr} {items : Array Value} {xs : List Str} {Q : Value → Shared → Prop} (hh : A.handled = none) (hl : s.heap.IsList l items) (hi : L2.Vals (xs.map L2.V.str) items.toList) (hb : xs.length + 1 < scanBound)
    (h : ∀ (h' : Heap) (tk : Nat), h'.SetOf (PySem.strKind prog w) s.heap.objs.size (fun k' => (dd xs).any (· == k')) (dd xs).length →
      (∀ b o, b < s.heap.objs.size → s.heap.get? b = some o → h'.get? b = some o) → Q (.ref s.heap.objs.size) { s with heap := h', toks := tk }) :
    wpAny (model prog w) A (call (.type "set") [.ref l]) Q E s := by
  refine call_set_gen hh hb (fun led R hR he => ?_) h
  obtain ⟨ol, hol, hcl, nl, hdl⟩ := hl
  obtain ⟨ocls, odict, odata, oslots⟩ := ol
  simp only at hcl hdl
  subst hcl; subst hdl
  have hol' : (s.heap.push { cls := .type "set", dict := none, data := .set #[] 0 (.fresh 0 0 led) }).get? l = some { cls := .type "list", dict := odict, data := .seq items nl, slots := oslots } := Heap.get?_push_of_some _ hol
  have hsls := PySem.F.sub_list_set
  have hslf := PySem.F.sub_list_frozenset
  have hne : (Value.type "list" == Value.type "dict") = false := by decide
  have hl1 : (s.heap.push { cls := .type "set", dict := none, data := .set #[] 0 (.fresh 0 0 led) }).IsList l items := ⟨_, hol', rfl, nl, rfl⟩
  have hS : (s.heap.push { cls := .type "set", dict := none, data := .set #[] 0 (.fresh 0 0 led) }).get? s.heap.objs.size = some { cls := .type "set", dict := none, data := .set #[] 0 (.fresh 0 0 led) } := Heap.get?_push_size _ rfl
  unfold Builtin.«set.__init__» noKeywords Builtin.Frozenset.updateFrom
  generalize hPI : pyIter = PI
  wp_walk
  subst hPI
  refine wpAny_pyIter_list hl1 ?_
  refine wpAny_bind (wpAny_runValue ?_)
  have hlS : l < s.heap.objs.size := Heap.lt_size hol
  have hh3 : A.in1.in1.in1.handled = none := by simp [hh]
  have hsz1 : (s.heap.push { cls := .type "set", dict := none, data := .set #[] 0 (.fresh 0 0 led) }).objs.size = s.heap.objs.size + 1 := Heap.size_push _ _
  have hneI : l ≠ (s.heap.push { cls := .type "set", dict := none, data := .set #[] 0 (.fresh 0 0 led) }).objs.size := by
    rw [hsz1]; exact Nat.ne_of_lt (Nat.lt_succ_of_lt hlS)
  have hSf : s.heap.objs.size ∉ [(s.heap.push { cls := .type "set", dict := none, data := .set #[] 0 (.fresh 0 0 led) }).objs.size, l] := by
    rw [hsz1]; simp only [List.mem_cons, List.not_mem_nil, or_false, not_or]
    exact ⟨Nat.ne_of_lt (Nat.lt_succ_self _), Nat.ne_of_gt hlS⟩
  have hsz : xs.length = items.size := by have := hi.length; rw [List.length_map] at this; simpa using this
  have hget : ((s.heap.push { cls := .type "set", dict := none, data := .set #[] 0 (.fresh 0 0 led) }).push { cls := .type "list_iterator", data := .fields #[.ref l, .int 0 0] }).get? s.heap.objs.size
      = some { cls := .type "set", dict := none, data := .set #[] 0 (.fresh 0 0 led) } := Heap.get?_push_of_some _ hS
  refine set_loop ((Walks.list hh3 _ l hneI items).toS) s.heap.objs.size hSf xs (fun i v hv => strs_at2 hi i v (by rw [Array.getElem?_toList]; exact hv)) hsz (by rw [← hsz]; exact hb) (items.size - 0) 0 _ (by omega) (Nat.zero_le _)
    ⟨⟨_, Heap.get?_push_size _ rfl, rfl, rfl⟩, (hl1.push _)⟩ ?hS0 ?hR
  case hS0 => exact PyProof.Rows.SetOf_congr ((PyProof.Rows.setObjOf_fresh (knd := PySem.strKind prog w) led).setOf hget (by unfold scanBound; omega)) (fun _ => rfl) rfl
  case hR =>
    intro s' hm hS'
    refine wpAny_pure ?_
    show wpAny _ _ (ret Value.none) _ _ _
    refine wpAny_pure (hR s' (fun b o hb e => ?_) hm.gens hm.drawn hm.os hS')
    have hb1 : b ≠ s.heap.objs.size := Nat.ne_of_lt hb
    have hb2 : b ≠ (s.heap.push { cls := .type "set", dict := none, data := .set #[] 0 (.fresh 0 0 led) }).objs.size := by rw [hsz1]; exact Nat.ne_of_lt (Nat.lt_succ_of_lt hb)
    exact hm.heap b o (by simp only [List.mem_cons, List.not_mem_nil, or_false, not_or]; exact ⟨hb1, hb2⟩) (Heap.get?_push_of_some _ (Heap.get?_push_of_some _ e))
end
section
open L2
variable {X : Cx}
/-- len(set(e)), e a text, or a list of texts -/
def tLenSetT (K : PySem.W.Frag) (ta : TE) : TE := fun σ H Q => ta σ H fun x H1 => (∃ z, x = .str z ∧ z.cps.size ≤ 4000 ∧ Q (.int (dd (signs z)).length) H1) ∨
  (∃ (l : Addr) (xs : List Str), x = .ref l ∧ SqL K H1 l (xs.map V.str) ∧ xs.length ≤ 4000 ∧ Q (.int (dd xs).length) H1)
theorem pe_lenSetT {a : Expr} {ta : TE} {p p2 q pos : Pos} (hc : X.calm = true) (hg : Gl X "len") (hm : X.mg "len" = none) (hg2 : Gl X "set") (hm2 : X.mg "set" = none) (ha : PE X a ta)
    (na : starEach [a] X.env = (false, eval a X.env) :: starEach [] X.env := by rfl) : PE X (.Call (.Name "len" p) [.Call (.Name "set" p2) [a] [] q] [] pos) (tLenSetT X.K ta) := by
  refine ⟨fun pins s σ H Q I h => ?_⟩
  refine Call_ (ld_blt I hg hm boot_len ?_)
  refine PyProof.Rows.callWith_builtin1 (PyProof.Rows.args_cons ?_ rfl) rfl rfl
  refine Call_ (ld_blt I hg2 hm2 boot_set ?_)
  refine PyProof.Rows.callWith_type1 (PyProof.Rows.args_cons (thn (ha.run pins s σ H _ I h) fun v s1 ⟨x, H1, I1, r1, q1⟩ => PyProof.Rows.args_nil ?_) na) na rfl
  have fin : ∀ (vals : List Str), vals.length ≤ 4000 → Q (.int (dd vals).length) H1 → ∀ (h' : Heap) (tk : Nat), h'.SetOf (PySem.strKind X.prog X.w) s1.heap.objs.size (fun k' => (dd vals).any (· == k')) (dd vals).length →
      (∀ b o, b < s1.heap.objs.size → s1.heap.get? b = some o → h'.get? b = some o) →
      wpAny (model X.prog X.w) X.A (spliced (backTo pos (starEach [] X.env))) (fun vs s₂ => wpAny (model X.prog X.w) X.A (call (.builtin "len") (Value.ref s1.heap.objs.size :: vs)) (EP X pins σ Q) X.xe s₂) X.xe { s1 with heap := h', toks := tk } := fun vals hv q h' tk hS hk => by
    refine PyProof.Rows.args_nil ?_
    have hl := dd_len_le vals
    obtain ⟨o, es, ep, t, ho, hex, hd, _, _, _, hf, hn⟩ := hS
    have I2 : Inv X pins σ H1 { s1 with heap := h', toks := tk } := I1.kept fun b o e => hk b o (Heap.lt_size e) e
    refine call_len_set ho hex hd hf (by rw [hn] <;> omega) ⟨.int (dd vals).length, H1, I2.tok _, ⟨_, by rw [hn]⟩, q⟩
  rcases q1 with ⟨z, rfl, hz, q1⟩ | ⟨l, xs, rfl, hq, hz, q1⟩
  · obtain ⟨t, rfl⟩ := r1
    exact call_set_text (I1.ok.hd hc) (by unfold scanBound; omega) fun h' tk hS hk => fin _ (by rw [signs_len]; exact hz) q1 h' tk hS hk
  · cases r1
    obtain ⟨its, r, pl, _⟩ := I1.list hq
    exact call_set_listT (I1.ok.hd hc) pl.isList (by simpa using r) (by unfold scanBound; omega) fun h' tk hS hk => fin _ hz q1 h' tk hS hk
end
end LB

namespace LB
open PySem L2 PyProof.Rows
section
variable {X : Cx}
/-- list(x), x a text -/
theorem call_list_text (hc : X.calm = true) : CallR X (.type "list") (fun xs H Q => ∃ z : Str, xs = [.str z] ∧ z.cps.size ≤ sizeLine ∧ ∀ p, H p = none → Q (.ref p) (upd H p (.lst ((signs z).map V.str)))) := by
  intro pins s σ H xs us Q I rx hq
  obtain ⟨z, rfl, hz, q⟩ := hq
  obtain ⟨u, rfl, t, rfl⟩ := vals1 rx
  refine call_list_str (I.ok.hd hc) z t (fun h' tk acc' c' hk hS hacc => ?_) hz
  obtain ⟨hsz, hat⟩ := hacc
  have gen : ∀ (cs : List Nat) (us : List Value), cs.length = us.length → (∀ (i : Nat) (c : Nat) (u : Value), cs[i]? = some c → us[i]? = some u → ∃ t, u = Value.str ⟨#[c]⟩ t) → Vals ((cs.map fun c => (⟨#[c]⟩ : Str)).map V.str) us := by
    intro cs
    induction cs with
    | nil => intro us hl _; cases us with
      | nil => exact .nil
      | cons _ _ => simp at hl
    | cons c r ih => intro us hl h; cases us with
      | nil => simp at hl
      | cons u us =>
        refine .cons ?_ (ih us (by simpa using hl) fun i c' u' h1 h2 => h (i + 1) c' u' (by simpa using h1) (by simpa using h2))
        obtain ⟨t, e⟩ := h 0 c u rfl rfl
        exact ⟨t, e⟩
  have rv : Vals ((signs z).map V.str) acc'.toList := gen z.cps.toList acc'.toList (by simp [hsz]) fun i c u h1 h2 => by
    obtain ⟨c', u', h3, h4⟩ := hat i u (by rw [← Array.getElem?_toList]; exact h2)
    rw [← Array.getElem?_toList, h1] at h3
    cases h3
    exact ⟨u', h4⟩
  have new : ObjOk X.prog X.w (upd H s.heap.objs.size (.lst ((signs z).map V.str))) h' s.heap.objs.size (.lst ((signs z).map V.str)) :=
    ⟨by rw [List.length_map, signs_len]; exact hz, acc'.toList, c', rv, by rw [hS]⟩
  exact ⟨.ref s.heap.objs.size, _, I.laid (t' := tk) hk (Nat.le_refl _) new, rfl, q _ (I.hok.fresh (Nat.le_refl _))⟩
/-! ### enumerate(text) -/
/-- the i-th sign of x, in a new pair -/
def IteS (x : Str) : It :=
  ⟨fun i _ => i < x.cps.size, fun i H v H' => ∃ T c, v = .ref T ∧ H T = none ∧ x.cps[i]? = some c ∧ H' = upd H T (.tup [.int (i : Nat), .str ⟨#[c]⟩]), fun i _ => x.cps.size ≤ i⟩
theorem draws_of {prog : Program} {w : World} {A : Around} (hh : A.handled = none) (it : Addr) (x : Str) (t : Tok) {ty : String} (hty : ty = "str_ascii_iterator" ∨ ty = "str_iterator") :
    Draws prog w A it [it] x.cps.size (SignAt x) (fun i h => h.IsStrIter it ty x t i) := by
  rcases hty with e | e
  · rw [e]; exact Draws.strAscii hh it x t
  · rw [e]; exact Draws.strWide hh it x t
theorem turn_enumS {P : Program} {w : World} {K : PySem.W.Frag} {elts : List Expr} {kk : Nat} {tpos : Pos} (x : Str) (t : Tok) (e it : Addr) {ty : String} (hty : ty = "str_ascii_iterator" ∨ ty = "str_iterator") :
    Turn P w K (.Tuple elts kk tpos) (IteS x) [e, it] e (fun i h => (∃ old, IsEnum h e it ((i : Nat) : Int) old) ∧ (i ≤ x.cps.size ∧ h.IsStrIter it ty x t i) ∧ e ≠ it) where
  mem := by simp
  obj := fun i h st b hb => by
    obtain ⟨⟨old, he⟩, ⟨_, o, ho, hc, hd⟩, _⟩ := st
    have e' : b = e ∨ b = it := by simpa using hb
    rcases e' with z | z
    · rw [z]; exact ⟨_, he, fun v q => nomatch q⟩
    · rw [z]; exact ⟨o, ho, fun v q => by rw [hd] at q; cases q⟩
  keep := fun i h h' st k => let ⟨⟨old, he⟩, ⟨hle, o, ho, r⟩, hne⟩ := st; ⟨⟨old, k e (by simp) _ he⟩, ⟨hle, o, k it (by simp) o ho, r⟩, hne⟩
  item := by
    intro X hP hw hK hc i pins s σ H E I hf st hg
    subst hP hw hK
    obtain ⟨⟨old, he⟩, ⟨_, hit⟩, hne⟩ := st
    have hlt : i < x.cps.size := hg
    have hel : e < s.heap.objs.size := Heap.lt_size he
    have hil : it < s.heap.objs.size := by obtain ⟨_, q, _⟩ := hit; exact Heap.lt_size q
    refine wpAny_pyNext_enum_itemD (draws_of (by simpa using I.ok.hd hc) it x t hty) he hit hlt hne (by simpa using hne) fun y h' tk hy ho hit' hT hsz hk => ?_
    obtain ⟨c, u, hcx, rfl⟩ := hy
    refine ⟨_, rfl, wpAny_letOwnedTupleGo_enum (s := { s with heap := h', toks := tk + 1 }) ho fun h'' he' sb => ?_⟩
    have hT2 : h''.get? s.heap.objs.size = some { cls := .type "tuple", data := .seq #[.int i tk, .str ⟨#[c]⟩ u] } := (sb.2 _ (Nat.ne_of_gt hel)).trans hT
    have new : ObjOk X.prog X.w (upd H s.heap.objs.size (.tup [.int (i : Nat), .str ⟨#[c]⟩])) h'' s.heap.objs.size (.tup [.int (i : Nat), .str ⟨#[c]⟩]) :=
      ⟨by show 2 ≤ sizeLine; decide, [.int i tk, .str ⟨#[c]⟩ u], .cons ⟨_, rfl⟩ (.cons ⟨_, rfl⟩ .nil), ⟨_, hT2, rfl, _, rfl⟩⟩
    have I1 : Inv X pins σ (upd H s.heap.objs.size (.tup [.int (i : Nat), .str ⟨#[c]⟩])) { s with heap := h'', toks := tk + 1 } :=
      I.turnedNew (ch := [e, it]) (fun b ob hb q => (sb.2 b (fun z => hb (by simp [z]))).trans (hk b ob (fun z => hb (by simp [z])) (fun z => hb (by simp [z])) q)) hf (Nat.le_refl _) new
    obtain ⟨oi, hoi, ri⟩ := hit'
    refine ⟨.ref s.heap.objs.size, _, I1, rfl, ⟨_, c, rfl, I.hok.fresh (Nat.le_refl _), hcx, rfl⟩, ⟨⟨Value.str ⟨#[c]⟩ u, ?_⟩, ⟨hlt, oi, (sb.2 it (Ne.symm hne)).trans hoi, ri⟩, hne⟩, fun b hb => ?_⟩
    · have e1 : ((i + 1 : Nat) : Int) = (i : Int) + 1 := by omega
      rw [e1]; exact he'
    · have hb' : b < s.heap.objs.size := by
        have e' : b = e ∨ b = it := by simpa using hb
        rcases e' with z | z
        · rw [z]; exact hel
        · rw [z]; exact hil
      rw [upd_ne (Nat.ne_of_lt hb')]
      exact (hf b hb).1
  done := by
    intro X hP hw hK hc i pins s σ H E I hf st hg
    subst hP hw hK
    obtain ⟨⟨old, he⟩, ⟨hle, hit⟩, hne⟩ := st
    have e1 : i = x.cps.size := Nat.le_antisymm hle hg
    subst e1
    obtain ⟨f0, f1, f2, f3, f4, f5⟩ := hf it (by simp)
    exact wpAny_pyNext_enum_endD (draws_of (by simpa using I.ok.hd hc) it x t hty) he hit fun h' eb => ⟨rfl, I.turned (t' := s.toks) (fun b o hb q => eb b o hb q) f0 f1 f3 f4 f5⟩
  self := fun A i s Q E st h => let ⟨⟨_, he⟩, _⟩ := st; wpAny_pyIter_enum he h
def iEnumS (ta : TA) : TI := fun σ H R => ta σ H fun vs H1 => ∃ x, vs = [.str x] ∧ R (IteS x) H1
theorem pi_enumS {X : Cx} {e : Expr} {ta : TA} {p pos tpos : Pos} {elts : List Expr} {kk : Nat} (hg : Gl X "enumerate") (hm : X.mg "enumerate" = none) (ha : PA X [e] ta) (hs : starEach [e] X.env = [(false, eval e X.env)] := by rfl) :
    PI X (.Tuple elts kk tpos) (.Call (.Name "enumerate" p) [e] [] pos) (iEnumS ta) := by
  refine ⟨fun pins s σ H R I h => ?_⟩
  refine Call_ (ld_blt I hg hm boot_enumerate (PyProof.Rows.callWith_type1 (thn (ha.run pos pins s σ H _ I h) fun us s1 ⟨vs, H1, I1, r1, q1⟩ => ?_) hs rfl))
  obtain ⟨x, ex, q⟩ := q1
  subst ex
  cases r1 with
  | cons r rr =>
    cases rr
    obtain ⟨t, rfl⟩ := r
    refine call_enumerate_str fun h' he hit hsz hk => wpAny_pyIter_enum he ?_
    have I2 : Inv X pins σ H1 { s1 with heap := h' } := I1.kept (t' := s1.toks) hk
    have hty : strIterType x = "str_ascii_iterator" ∨ strIterType x = "str_iterator" := by
      unfold strIterType
      split
      · exact .inl rfl
      · exact .inr rfl
    refine ⟨s1.heap.objs.size + 1, [s1.heap.objs.size + 1, s1.heap.objs.size], _, _, H1, rfl, I2, turn_enumS x t (s1.heap.objs.size + 1) s1.heap.objs.size hty, ⟨⟨.none, he⟩, ⟨Nat.zero_le _, hit⟩, Nat.succ_ne_self _⟩, fun b hb => ?_, q⟩
    have e' : b = s1.heap.objs.size + 1 ∨ b = s1.heap.objs.size := by simpa using hb
    have hle : s1.heap.objs.size ≤ b := by
      rcases e' with z | z
      · rw [z]; exact Nat.le_add_right _ _
      · rw [z]; exact Nat.le_refl _
    exact I1.fpOk hle (I1.hok.fresh hle)
/-- the reading of a comprehension over enumerate(text) -/
theorem lc_enumS {x : Str} {g : TG} {tt : TT} {te : TE} {vs : List Nat} {σ : L2.St} {H1 : Hp} {D : Addr} {Qd : Hp → Prop} (Pv : Nat → Hp → Prop) (h0 : Pv 0 (upd H1 D (.lst [])))
    (hs : ∀ i c T H, x.cps[i]? = some c → Pv i H → H T = none → g (.ref T) (wipe σ vs) (upd H T (.tup [.int (i : Nat), .str ⟨#[c]⟩])) fun σ2 H2 => wipe σ2 vs = wipe σ vs ∧ tt σ2 H2 fun b H3 =>
      if b = true then te σ2 H3 fun y H4 => ∃ acc, H4 D = some (.lst acc) ∧ acc.length < sizeLine ∧ Pv (i + 1) (upd H4 D (.lst (acc ++ [y]))) else Pv (i + 1) H3) (hd : ∀ H, Pv x.cps.size H → Qd H) :
    ∃ W : Nat → Nat → Hp → Prop, (∃ m, W 0 m (upd H1 D (.lst []))) ∧ ∀ i m H, W i m H →
      ((IteS x).stop i H ∧ Qd H) ∨ ((IteS x).go i H ∧ ∃ Nx : Hp → Prop, (∀ H', Nx H' → ∃ m', m' < m ∧ W (i + 1) m' H') ∧ ∀ y H', (IteS x).yld i H y H' → g y (wipe σ vs) H' fun σ2 H2 => wipe σ2 vs = wipe σ vs ∧ tt σ2 H2 fun b H3 =>
        if b = true then te σ2 H3 fun y H4 => ∃ acc, H4 D = some (.lst acc) ∧ acc.length < sizeLine ∧ Nx (upd H4 D (.lst (acc ++ [y]))) else Nx H3) := by
  refine ⟨fun i m H => m = x.cps.size - i ∧ i ≤ x.cps.size ∧ Pv i H, ⟨x.cps.size, by simp, Nat.zero_le _, h0⟩, ?_⟩
  rintro i m H ⟨rfl, hi, p⟩
  by_cases hlt : i < x.cps.size
  · refine .inr ⟨hlt, Pv (i + 1), fun H' p' => ⟨x.cps.size - (i + 1), by omega, rfl, hlt, p'⟩, fun y H' yl => ?_⟩
    obtain ⟨T, c, e, hT, hc, eH⟩ := yl
    subst e; subst eH
    exact hs i c T H hc p hT
  · have e : i = x.cps.size := by omega
    subst e
    exact .inl ⟨Nat.le_refl _, hd H p⟩
/-- the reading of a comprehension over a text's signs -/
theorem lc_str {x : Str} {g : TG} {tt : TT} {te : TE} {vs : List Nat} {σ : L2.St} {H1 : Hp} {D : Addr} {Qd : Hp → Prop} (Pv : Nat → Hp → Prop) (h0 : Pv 0 (upd H1 D (.lst [])))
    (hs : ∀ i c H, x.cps[i]? = some c → Pv i H → g (.str ⟨#[c]⟩) (wipe σ vs) H fun σ2 H2 => wipe σ2 vs = wipe σ vs ∧ tt σ2 H2 fun b H3 =>
      if b = true then te σ2 H3 fun y H4 => ∃ acc, H4 D = some (.lst acc) ∧ acc.length < sizeLine ∧ Pv (i + 1) (upd H4 D (.lst (acc ++ [y]))) else Pv (i + 1) H3) (hd : ∀ H, Pv x.cps.size H → Qd H) :
    ∃ W : Nat → Nat → Hp → Prop, (∃ m, W 0 m (upd H1 D (.lst []))) ∧ ∀ i m H, W i m H →
      ((Its x).stop i H ∧ Qd H) ∨ ((Its x).go i H ∧ ∃ Nx : Hp → Prop, (∀ H', Nx H' → ∃ m', m' < m ∧ W (i + 1) m' H') ∧ ∀ y H', (Its x).yld i H y H' → g y (wipe σ vs) H' fun σ2 H2 => wipe σ2 vs = wipe σ vs ∧ tt σ2 H2 fun b H3 =>
        if b = true then te σ2 H3 fun y H4 => ∃ acc, H4 D = some (.lst acc) ∧ acc.length < sizeLine ∧ Nx (upd H4 D (.lst (acc ++ [y]))) else Nx H3) := by
  refine ⟨fun i m H => m = x.cps.size - i ∧ i ≤ x.cps.size ∧ Pv i H, ⟨x.cps.size, by simp, Nat.zero_le _, h0⟩, ?_⟩
  rintro i m H ⟨rfl, hi, p⟩
  by_cases hlt : i < x.cps.size
  · refine .inr ⟨hlt, Pv (i + 1), fun H' p' => ⟨x.cps.size - (i + 1), by omega, rfl, hlt, p'⟩, fun y H' yl => ?_⟩
    obtain ⟨eH, c, hc, e⟩ := yl
    subst e; subst eH
    exact hs i c _ hc p
  · have e : i = x.cps.size := by omega
    subst e
    exact .inl ⟨Nat.le_refl _, hd H p⟩
end
end LB

namespace LB
open PySem L2 PyProof.Rows
/-! ### defs as they stand, defs that keep a promise -/
/-- the def stands in the module under its name, and binds as many arguments as it has parameters -/
def RawFn (K : PySem.W.Frag) (mg : Str → Option Value) (x : Str) (st : Stmt) (ps : List Str) : Prop :=
  ∃ (f : Addr) (fd : FuncData), Fun K x x st f fd ∧ mg x = some (.ref f) ∧ Binds K fd ps []
/-- .. in the class at C -/
def RawMe (K : PySem.W.Frag) (C : Addr) (x qual : Str) (st : Stmt) (ps : List Str) : Prop :=
  ∃ (f : Addr) (fd : FuncData), Fun K x qual st f fd ∧ Own K C f x ∧ Binds K fd ps []
/-- .. as a property of the class at C -/
def RawPr (K : PySem.W.Frag) (C : Addr) (x qual : Str) (st : Stmt) (ps : List Str) : Prop :=
  ∃ (p f : Addr) (fd : FuncData), Fun K x qual st f fd ∧ PropOf K C x p f ∧ Binds K fd ps []
section
variable (P : Program) (w : World) (K : PySem.W.Frag) (mg : Str → Option Value) (base : Heap) (CX : CXT) (k : Nat)
def HasFn (x : Str) (ps : List Str) (sp : Sp) : Prop :=
  ∃ (f : Addr) (fd : FuncData), FnOk P w K mg base CX k f fd ps sp ∧ mg x = some (.ref f) ∧ PySem.W.keepIn K (.ref f) = true ∧ Binds K fd ps []
def HasMe (C : Addr) (x : Str) (ps : List Str) (sp : Sp) : Prop :=
  ∃ (f : Addr) (fd : FuncData), FnOk P w K mg base CX k f fd ps sp ∧ Own K C f x ∧ PySem.W.keepIn K (.ref f) = true ∧ Binds K fd ps []
def HasPr (C : Addr) (x : Str) (ps : List Str) (sp : Sp) : Prop :=
  ∃ (p f : Addr) (fd : FuncData), FnOk P w K mg base CX k f fd ps sp ∧ PropOf K C x p f ∧ Binds K fd ps []
/-- a class whose __init__ keeps a promise -/
def HasMk (C : Addr) (x : Str) (ps : List Str) (sp : Sp) : Prop :=
  ∃ (f : Addr) (fd : FuncData), FnOk P w K mg base CX k f fd ps sp ∧ Mk K C f ∧ mg x = some (.ref C) ∧ Binds K fd ps []
end
section
variable {X : Cx} {CX : CXT} {k : Nat} {C : Addr} {ps : List Str} {sp : Sp} {E : XK} {x m : Str} {p pos apos : Pos} {e o : Expr} {es : List Expr} {ta : TE} {t : TA}
theorem pe_fn (h : HasFn X.prog X.w X.K X.mg X.base CX k x ps sp) (hr : Room k X.A) (hx : Passes CX X E) (ha : PA X (e :: es) t) (hg : Gl X x := by rfl) (hdb : (x == ("__debug__" : Str)) = false := by decide)
    (he : starEach (e :: es) X.env = (false, eval e X.env) :: starEach es X.env := by rfl) (hpl : (backTo pos (starEach es X.env)).any (·.1) = false := by rfl) : PE X (.Call (.Name x p) (e :: es) [] pos) (tCall sp [] E t) := by
  obtain ⟨f, fd, F, hm, hk, hb⟩ := h
  exact pe_call F hr hg hm hk hb .nil hx ha hdb he hpl
theorem pe_mk (h : HasMk X.prog X.w X.K X.mg X.base CX k C x ps sp) (hr : Room (k + 1) X.A) (hx : Passes CX X E) (ha : PA X (e :: es) t) (hg : Gl X x := by rfl) (hdb : (x == ("__debug__" : Str)) = false := by decide)
    (he : starEach (e :: es) X.env = (false, eval e X.env) :: starEach es X.env := by rfl) (hpl : (backTo pos (starEach es X.env)).any (·.1) = false := by rfl) : PE X (.Call (.Name x p) (e :: es) [] pos) (tMake C sp [] E t) := by
  obtain ⟨f, fd, F, M, hm, hb⟩ := h
  exact pe_make M F hr hg hm hb .nil hx ha hdb he hpl
theorem pe_me {pl : Sem Bool} (he : PE X o ta) (h : HasMe X.prog X.w X.K X.mg X.base CX k C m ps sp) (c : Cls X.K C) (hr : Room k X.A) (hx : Passes CX X E) (ha : PA X (e :: es) t)
    (hst : starEach (e :: es) X.env = (false, eval e X.env) :: starEach es X.env := by rfl) (hpl : (backTo pos (starEach es X.env)).any (·.1) = false := by rfl)
    (ht : eval (.Call (.Attribute o m apos) (e :: es) [] pos) X.env = (do
      let ov ← eval o X.env
      standAt apos.atName
      let (f, first) ← holding [ov] (getMethod ov m pl)
      callWith pos f first (backTo pos (starEach (e :: es) X.env)) (backToKw pos (keywordEach [] X.env))) := by rfl) : PE X (.Call (.Attribute o m apos) (e :: es) [] pos) (tMeth C m sp [] E ta t) := by
  obtain ⟨f, fd, F, O, hk, hb⟩ := h
  exact pe_meth he c ⟨O.at_, O.fn, hk⟩ F hr hb .nil hx ha hst hpl ht
theorem pe_pr (he : PE X o ta) (h : HasPr X.prog X.w X.K X.mg X.base CX k C m ps sp) (c : Cls X.K C) (hr : Room (k + 1) X.A) (hx : Passes CX X.nox E) (hab : attributeBase o m X.env (eval o X.env) = eval o X.env) : PE X (.Attribute o m pos) (tProp C sp [] E ta) := by
  obtain ⟨p, f, fd, F, hp, hb⟩ := h
  exact L2.pe_prop he c hp F hr hb .nil hx hab
end
/-- the built-in names that the module does not have -/
structure Blt (mg : Str → Option Value) : Prop where
  n_len : mg "len" = none
  n_list : mg "list" = none
  n_tuple : mg "tuple" = none
  n_int : mg "int" = none
  n_str : mg "str" = none
  n_bool : mg "bool" = none
  n_abs : mg "abs" = none
  n_sum : mg "sum" = none
  n_all : mg "all" = none
  n_set : mg "set" = none
  n_range : mg "range" = none
  n_enumerate : mg "enumerate" = none
  n_isinstance : mg "isinstance" = none
end LB

namespace LB
open PySem L2 PyProof.Rows
/-! ### the drawing of a law -/
/-- the pen at p: its script's list at q, the turn, what is left of a great number -/
structure PenAt (H : Hp) (p q : Addr) (ns : List Int) (i r : Int) : Prop where
  pen : H p = some (.lst [.ref q, .int i, .int r])
  lst : H q = some (.lst (ns.map V.int))
  i0 : 0 ≤ i
  ne : p ≠ q
/-- all but the pen is as it was -/
def But (p : Addr) (H H' : Hp) : Prop := ∀ b o, H b = some o → b ≠ p → H' b = some o
theorem But.refl {p : Addr} {H : Hp} : But p H H := fun _ _ h _ => h
theorem But.trans {p : Addr} {H H1 H2 : Hp} (a : But p H H1) (b : But p H1 H2) : But p H H2 := fun c o h n => b c o (a c o h n) n
theorem But.of_same {p : Addr} {H H' : Hp} (s : Same H H') : But p H H' := fun b o h _ => s b o h
theorem But.upd {p : Addr} {o : HO} {H : Hp} : But p H (upd H p o) := fun b u h n => by rw [upd_ne n]; exact h
theorem But.new {p a : Addr} {o : HO} {H : Hp} (n : H a = none) : But p H (L2.upd H a o) := fun b u h _ => by rw [upd_ne (ne_of_none h n)]; exact h
theorem But.free {p : Addr} {H H' : Hp} (e : But p H H') {l : Addr} (h : H' l = none) (hl : l ≠ p) : H l = none := by
  cases q : H l with
  | none => rfl
  | some o =>
    rw [e l o q hl] at h
    cases h
def spPen (K : PySem.W.Frag) : Sp := fun vs H Q _ => ∃ (a : Addr) (ns : List Int), vs = [.ref a] ∧ SqL K H a (ns.map V.int) ∧
  ∀ (p q : Addr) (ms : List Int) (H' : Hp), Same H H' → H p = none → PenAt H' p q ms 0 0 → Q (.ref p) H'
def spDraw : Sp := fun vs H Q _ => ∃ (p q : Addr) (ns : List Int) (i r n : Int), vs = [.ref p, .int n] ∧ PenAt H p q ns i r ∧ 0 < n ∧ n < 1000000 ∧ i < 1000000 ∧
  ∀ (d i' r' : Int) (H' : Hp), 0 ≤ d → d < n → i' ≤ i + 1 → PenAt H' p q ns i' r' → But p H H' → Q (.int d) H'
theorem cut_ints (ns : List Int) (a b : Option Int) : ∃ ms : List Int, cutV (ns.map V.int) a b = ms.map V.int :=
  ⟨(ns.drop (HT.sIx (ns.map V.int).length 0 a)).take (HT.sIx (ns.map V.int).length (ns.map V.int).length b - HT.sIx (ns.map V.int).length 0 a), by
    unfold cutV
    rw [List.map_take, List.map_drop]⟩
theorem mixA {x m c e i : Int} (hm : 0 < m) (hm2 : m < 4294967296) (hi : 0 ≤ i) (hi2 : i < 1000000) (hc : 0 ≤ c) (hc2 : c < 1000000) (he : 0 ≤ e) (he2 : e < 1000000) : (x % m + c * i + e).natAbs < 2 ^ 64 := by
  have h1 := Int.emod_nonneg x (Int.ne_of_gt hm)
  have h2 := Int.emod_lt_of_pos x hm
  have h3 : 0 ≤ c * i := Int.mul_nonneg hc hi
  have h4 : c * i ≤ 1000000 * i := Int.mul_le_mul_of_nonneg_right (by omega) hi
  omega
theorem mixB {x m a b c e i : Int} (hm : 0 < m) (hm2 : m < 4294967296) (hi : 0 ≤ i) (hi2 : i < 1000000) (ha : 0 ≤ a) (ha2 : a < 100) (hb : 0 ≤ b) (hb2 : b < 1000000) (hc : 0 ≤ c) (hc2 : c < 1000000) (he : 0 ≤ e) (he2 : e < 1000000) :
    (x % m * (a * i + b) + c * i * i + e).natAbs < 2 ^ 64 := by
  have h1 := Int.emod_nonneg x (Int.ne_of_gt hm)
  have h2 := Int.emod_lt_of_pos x hm
  generalize x % m = y at h1 h2 ⊢
  have h3 : 0 ≤ a * i := Int.mul_nonneg ha hi
  have h4 : a * i ≤ 100 * i := Int.mul_le_mul_of_nonneg_right (by omega) hi
  generalize a * i = z at h3 h4 ⊢
  have h5 : 0 ≤ y * (z + b) := Int.mul_nonneg h1 (by omega)
  have h6 : y * (z + b) ≤ 4294967296 * (z + b) := Int.mul_le_mul_of_nonneg_right (by omega) (by omega)
  have h7 : 0 ≤ c * i := Int.mul_nonneg hc hi
  have h8 : c * i ≤ 1000000 * i := Int.mul_le_mul_of_nonneg_right (by omega) hi
  generalize c * i = u at h7 h8 ⊢
  have h9 : 0 ≤ u * i := Int.mul_nonneg h7 hi
  have h10 : u * i ≤ u * 1000000 := Int.mul_le_mul_of_nonneg_left (by omega) h7
  omega
theorem mixC {c i : Int} (hi : 0 ≤ i) (hi2 : i < 1000000) (hc : 0 ≤ c) (hc2 : c < 1000000) : CMul (c * i) i := by
  have h7 : 0 ≤ c * i := Int.mul_nonneg hc hi
  have h8 : c * i ≤ 1000000 * i := Int.mul_le_mul_of_nonneg_right (by omega) hi
  exact .inl ⟨by omega, by omega⟩
theorem mixD {x m y : Int} (hm : 0 < m) (hm2 : m < 4294967296) : CMul (x % m) y := by
  have h1 := Int.emod_nonneg x (Int.ne_of_gt hm)
  have h2 := Int.emod_lt_of_pos x hm
  exact .inl ⟨by omega, by omega⟩
theorem PenAt.one {H : Hp} {p q : Addr} {ns : List Int} {i r i' r' : Int} (h : PenAt H p q ns i r) (h0 : 0 ≤ i') : PenAt (upd H p (.lst [.ref q, .int i', .int r'])) p q ns i' r' :=
  ⟨upd_same, by rw [upd_ne h.ne.symm]; exact h.lst, h0, h.ne⟩
theorem PenAt.same {H H' : Hp} {p q : Addr} {ns : List Int} {i r : Int} (h : PenAt H p q ns i r) (s : Same H H') : PenAt H' p q ns i r := ⟨s _ _ h.pen, s _ _ h.lst, h.i0, h.ne⟩
theorem same_new {H : Hp} {a : Addr} {o : HO} (n : H a = none) : Same H (upd H a o) := fun b u h => by rw [upd_ne (ne_of_none h n)]; exact h
theorem dp_ints {K : PySem.W.Frag} {H : Hp} {q : Addr} {ns : List Int} (h : SqL K H q (ns.map V.int)) : Dp K H (.ref q) (.list (ns.map PyData.int)) := by
  refine Dp.lst h ?_
  clear h
  induction ns with
  | nil => exact .nil
  | cons a r ih => exact .cons (.int a) ih
theorem shaped_ints (ns : List Int) : SeqAt.shaped (.list (ns.map PyData.int)) = true := by
  have h1 : ∀ ns : List Int, PyData.canLayAll0 (ns.map PyData.int) = true := fun ns => by
    induction ns with
    | nil => rfl
    | cons a r ih => exact ih
  have h2 : ∀ ns : List Int, PyData.depthAll (ns.map PyData.int) = 0 := fun ns => by
    induction ns with
    | nil => rfl
    | cons a r ih => show max 0 (PyData.depthAll (r.map PyData.int)) = 0; rw [ih]; rfl
  unfold SeqAt.shaped
  show (PyData.canLayAll0 (ns.map PyData.int) && decide (PyData.depthAll (ns.map PyData.int) + 1 ≤ 64)) = true
  rw [h1, h2]
  rfl
/-- an item at a rest -/
theorem at_rest {ns : List Int} {i : Int} (h : ns ≠ []) : ∃ d, atI (ns.map V.int) (i % ((ns.map V.int).length : Int)) = some (.int d) := by
  have hl : 0 < (ns.map V.int).length := by
    rw [List.length_map]
    exact List.length_pos_iff.mpr h
  have h1 := Int.emod_nonneg i (b := ((ns.map V.int).length : Int)) (by omega)
  have h2 := Int.emod_lt_of_pos i (b := ((ns.map V.int).length : Int)) (by omega)
  obtain ⟨j, ej⟩ : ∃ j : Nat, i % ((ns.map V.int).length : Int) = (j : Int) := ⟨(i % ((ns.map V.int).length : Int)).toNat, by omega⟩
  have hj : j < ns.length := by rw [List.length_map] at h2 ej; omega
  exact ⟨ns[j], at_of ej (by rw [List.getElem?_map, List.getElem?_eq_getElem hj]; rfl)⟩
end LB

namespace PySem.HandSPX
open PySem PySem.W
section
variable {prog : Program} {w : World} {A : Around} {E : Value → Shared → Prop} {R : Result → Shared → Prop} {h : Heap} {g : Array GenState} {d : Drawn} {t : Nat} {os : OsState}
variable {nm q : Str} {C N : Addr} {bs bm bmB : List Value} {hdct : Bool} {sn : List Str} {sub : List Value} {ab : Bool} {col : Option Bool} {dd : Option Addr} {k0 k1 k2 k3 k5 : Option Value} {B newId initId : String}
/-- an own class's new exception, whatever the names of what it is given -/
theorem lbx_check {M : Model} (F : ExcBaseFacts B newId initId bmB) (hT : ∀ X : String, bm.contains (.type X) = bmB.contains (.type X)) {rest : List Value} {kw : List (Str × Value)} {Q : Unit → Shared → Prop}
    (hC : h.get? C = some (excClassObj nm q C N bs bm hdct sn sub ab col dd k0 k1 k2 k3 k5 newId)) (hq : Q () ⟨h, g, d, t, os⟩) : wpAny M A (checkBuiltinCall newId ⟨.ref C :: rest, kw⟩) Q E ⟨h, g, d, t, os⟩ := by
  have hcont : (Value.ref C :: bm).contains (.type B) = true := by rw [List.contains_cons, hT, F.hasB, Bool.or_true]
  have hstar := F.noStar
  simp only [checkBuiltinCall, F.newKind, F.newSplit, F.newRow]
  repeat (first | refine wpAny_loadPart_at hC ?_ | (refine wpAny_isSubtype_exc hC ?_; rw [hcont]) | refine wpAny_staticBase_exc hC ?_ | refine wpAny_madeBy_exc hC ?_ | simp only [bne_self_eq_false, Bool.false_eq_true, if_false] | wp_step)
  exact hq
theorem lbx_new (F : ExcBaseFacts B newId initId bmB) (hT : ∀ X : String, bm.contains (.type X) = bmB.contains (.type X)) {rest : List Value} {kw : List (Str × Value)}
    (hC : h.get? C = some (excClassObj nm q C N bs bm hdct sn sub ab col dd k0 k1 k2 k3 k5 newId))
    (hq : R (.ok (.ret (.ref (h.objs.size + 1)))) ⟨(h.push (W.kdv_tup rest)).push (excO C h.objs.size), g, d, t, os⟩) (hrest : rest.length ≤ sizeLine) :
    codeAny (model prog w) A (.builtin newId ⟨.ref C :: rest, kw⟩) R ⟨h, g, d, t, os⟩ := by
  have hends := F.ends
  have hcB : (Value.ref C :: bm).contains (.type B) = true := by rw [List.contains_cons, hT, F.hasB, Bool.or_true]
  have hcA : (Value.ref C :: bm).contains (.type "AttributeError") = false := by rw [List.contains_cons, hT, F.noAttr]; rfl
  have hcN : (Value.ref C :: bm).contains (.type "NameError") = false := by rw [List.contains_cons, hT, F.noName]; rfl
  refine codeAny_builtinAt F.entry ?_
  unfold Builtin.«BaseException.__new__»
  refine wpAt_bind ?_
  show wpAt _ _ _ (stack >>= _) _ _ _
  refine wpAt_bind (wpAt_stack fun p below => wpAt_of_wpAny ?_)
  wp_walk
  refine wpAt_of_wpAny ?_
  rw [F.owner]
  repeat (first | with_reducible refine wpAny_madeHere_exc F.canon hC ?_ | with_reducible refine wpAny_loadPart_at hC ?_ | (with_reducible refine wpAny_isSubtype_exc hC ?_; first | rw [hcB] | rw [hcA] | rw [hcN]) | wp_step)
  show R _ _
  rw [Heap.size_push]
  exact hq
theorem lbx_type_call (F : ExcBaseFacts B newId initId bmB) (hT : ∀ X : String, bm.contains (.type X) = bmB.contains (.type X)) {rest : List Value} {kw : List (Str × Value)} {fI : Addr} {Q : Fin → Shared → Prop}
    (hC : h.get? C = some (excClassObj nm q C N bs bm hdct sn sub ab col dd k0 k1 k2 k3 k5 newId))
    (hi : W.Looks (model prog w) h (typeLookup (.ref C) "__init__") (some (.ref fI))) (hb : ∀ self, W.Looks (model prog w) h (bindSpecial (.ref fI) self) (.ref fI, [self])) (hrest : rest.length ≤ sizeLine)
    (hq : codeAny (model prog w) A (.call (.ref fI) ⟨.ref (h.objs.size + 1) :: rest, kw⟩)
      (fun r s' => match r with | .ok (.ret v) => v = .none ∧ Q (.done (.ret (.ref (h.objs.size + 1)))) s' | .ok _ => False | .error e => E e s')
      ⟨(h.push (W.kdv_tup rest)).push (excO C h.objs.size), g, d, t, os⟩) :
    wpAny (model prog w) A (Builtin.«type.__call__» ⟨.ref C :: rest, kw⟩) Q E ⟨h, g, d, t, os⟩ := by
  repeat (first | with_reducible refine wpAny_loadPart_at hC ?_ | with_reducible refine wpAny_madeBy_exc hC ?_ | wp_step)
  refine codeAny_call_builtin_code (Code.quiet_builtin _ F.quiet) (lbx_check F hT hC ?_)
  refine lbx_new F hT hC ?_ hrest
  show wpAny _ _ _ _ _ _
  have k : ∀ b o, h.get? b = some o → ((h.push (W.kdv_tup rest)).push (excO C h.objs.size)).get? b = some o := fun b o e => Heap.get?_push_of_some _ (Heap.get?_push_of_some _ e)
  have hC₁ := k _ _ hC
  have hget : ((h.push (W.kdv_tup rest)).push (excO C h.objs.size)).get? (h.objs.size + 1) = some (excO C h.objs.size) := by heap_get
  have hcC : (Value.ref C :: bm).contains (.ref C) = true := by simp
  have i1 := hi.keeps k
  have b1 := (hb (.ref (h.objs.size + 1))).keeps k
  unfold isInstance
  repeat (first | with_reducible refine wpAny_loadPart_at hget ?_ | (with_reducible refine wpAny_isSubtype_exc hC₁ ?_; rw [hcC]) | wp_step)
  show wpAny _ _ (typeLookup (.ref C) _) _ _ _
  refine i1.at ?_
  refine wpAny_holding (wpAny_bind (b1.at ?_))
  refine wpAny_bind (wpAny_call (codeAny_mono hq fun r s' z => ?_))
  rcases r with e | (v | _ | _ | _) <;> first | exact z | exact z.elim | skip
  obtain ⟨rfl, z⟩ := z
  first
    | exact wpAny_pure (wpAny_pure z)
    | (wp_walk; exact z)
theorem lbx_call (F : ExcBaseFacts B newId initId bmB) (hT : ∀ X : String, bm.contains (.type X) = bmB.contains (.type X)) {rest : List Value} {kw : List (Str × Value)} {fI : Addr}
    (hC : h.get? C = some (excClassObj nm q C N bs bm hdct sn sub ab col dd k0 k1 k2 k3 k5 newId))
    (hi : W.Looks (model prog w) h (typeLookup (.ref C) "__init__") (some (.ref fI))) (hb : ∀ self, W.Looks (model prog w) h (bindSpecial (.ref fI) self) (.ref fI, [self])) (hrest : rest.length ≤ sizeLine)
    (hq : codeAny (model prog w) (A.under (.builtin "type.__call__" ⟨.ref C :: rest, kw⟩)) (.call (.ref fI) ⟨.ref (h.objs.size + 1) :: rest, kw⟩) (W.InitBack (h.objs.size + 1) R)
      ⟨(h.push (W.kdv_tup rest)).push (excO C h.objs.size), g, d, t, os⟩) :
    codeAny (model prog w) A (.call (.ref C) ⟨rest, kw⟩) R ⟨h, g, d, t, os⟩ := by
  have f1 := tc_lookup
  have f2 := tc_bind (.ref C)
  have hTy : (⟨h, g, d, t, os⟩ : Shared).TypeIs (.ref C) "type" := ⟨_, hC, rfl⟩
  refine codeAny_of_tree ?_
  show wpAny _ _ (callAny (.ref C) _) _ _ _
  repeat (any_goals (first | assumption | with_reducible refine wpAny_loadPart_at hC ?_ | wp_step))
  refine ⟨rfl, ?_⟩
  refine codeAny_call_builtin_at (Code.quiet_builtin _ (by decide +kernel)) entry_typeCall (wpAny_check_type_call_sub hC (lbx_type_call F hT hC hi hb hrest ?_))
  refine codeAny_mono hq fun r s' z => ?_
  rcases r with e | (v | _ | _ | _) <;> exact z
end
end PySem.HandSPX

namespace PySem.W
open PySem Builtin
section
variable {prog : Program} {w : World} {A : Around} {E : Value → Shared → Prop} {s : Shared} {K : Frag} {x D : Addr} {ox : Obj} {od : Option Obj}
theorem lbx_class {Q : Option Value → Shared → Prop} (hga : findIn K (.ref D) "__getattribute__" = some (some (.builtin "BaseException.__getattribute__"))) (hgt : findIn K (.ref D) "__getattr__" = some none) (hsub : subIn K (.ref D) (.type "BaseException") = some true)
    (hdct : hasDictIn K D = true) (ha : findIn K (.ref D) "__class__" = some (some (.builtin "object.__class__")))
    (hn : specialIn K (.builtin "object.__class__") "__get__" = some (some (.builtin "getset_descriptor.__get__"))) (htk : takesIn K (.builtin "object.__class__") = some true) (hm : mroIn K D (.type "object") = some true)
    (X : K.In s.heap) (I : InstAt s.heap x ox D od) (h : Q (some (.ref D)) { s with toks := s.toks + 1 }) : wpAny (model prog w) A (getAttr? (.ref x) "__class__") Q E s := by
  have hf : findObj K D od "__class__" = some (.bind (.builtin "getset_descriptor.__get__") (.builtin "object.__class__")) := by
    have hc : (clsIn K D).isSome = true := by obtain ⟨cd, hc, _⟩ := any_some hdct; rw [hc]; rfl
    cases od with
    | none => exact findObj_dataN hc ha hn htk
    | some _ => exact findObj_data hc ha hn htk
  obtain ⟨hp, g, d, t, os⟩ := s
  have L0 := I.type (M := model prog w)
  have L1 := looks_findIn (M := model prog w) X hga
  have L2 := looks_findIn (M := model prog w) X hgt
  have L3 := looks_find (M := model prog w) X I hf
  have sub : Looks (model prog w) hp (isInstance (.ref x) (.type "BaseException")) true := L0.andThen (looks_subIn X hsub)
  have hx0 : (false && onTheHeap (Value.builtin "BaseException.__getattribute__")) = false := rfl
  have hx2 : (Value.builtin "BaseException.__getattribute__" == Value.builtin "object.__getattribute__") = false := by decide +kernel
  have hx1 : (onTheHeap (Value.ref D) && Value.builtin "BaseException.__getattribute__" == Value.builtin "object.__getattribute__") = false := by rw [hx2]; rfl
  unfold getAttr? getAttrBy? getAttrBy
  refine wpAny_bind (wpAny_mkText (wpAny_bind (wpAny_attempt (wpAny_holding (wpAny_bind (L0.at (wpAny_bind (L1.at ?_))))))))
  show wpAny _ _ (if (onTheHeap (Value.ref D) && Value.builtin "BaseException.__getattribute__" == Value.builtin "object.__getattribute__") = true then _ else _) _ _ _
  rw [hx1, if_neg Bool.false_ne_true]
  unfold getAttrByItsOwn hookBefore
  refine wpAny_bind ?_
  rw [if_pos (show onTheHeap (Value.ref D) = true from rfl)]
  refine L2.at ?_
  refine wpAny_bind (wpAny_attempt (wpAny_holding ?_))
  unfold callGetattribute
  rw [hx0, if_neg Bool.false_ne_true]
  unfold boundAndCalled
  rw [PySem.F.excAttr_ValueError.ga.bind (.ref x)]
  refine wpAny_bind (wpAny_pure ?_)
  show wpAny _ _ (call (.builtin "BaseException.__getattribute__") [.ref x, .str "__class__" t]) _ _ _
  refine wpAny_call (codeAny_call_builtin PySem.F.excAttr_ValueError.ga.plain PySem.F.entry_bexc_ga ?_)
  refine @check_slot (model prog w) _ _ ⟨hp, g, d, t + 1, os⟩ "BaseException.__getattribute__" "BaseException" "__getattribute__" (.ref x) [.str "__class__" t] [] _ (by decide +kernel) (by decide +kernel) sub (PySem.F.args_bexc_ga (.ref x) (.str "__class__" t)) ?_
  unfold Builtin.«object.__getattribute__»
  refine wpAny_bind (wpAny_of_eq (a := ((Value.ref x : Value), [Value.str "__class__" t])) (by first | rfl | (simp only [slotArgs]; rfl)) ?_)
  refine wpAny_bind (wpAny_pure (wpAny_bind (L0.at (wpAny_bind (L3.at ?_)))))
  show wpAny _ _ (holding [Value.builtin "object.__class__"] (call (.builtin "getset_descriptor.__get__") [.builtin "object.__class__", .ref x, .ref D]) >>= ret) _ _ _
  refine wpAny_bind (wpAny_holding (wpAny_call (class_get (s := ⟨hp, g, d, t + 1, os⟩) (ox := ox) (od := od) X I hm ?_)))
  refine wpAny_pure ?_
  show wpAny _ _ (handedOut (.ref D)) _ _ _
  rw [handedOut_of (v := .ref D) rfl]
  first
    | exact wpAny_pure (wpAny_pure h)
    | exact wpAny_pure h
    | exact wpAny_pure (wpAny_bind (wpAny_pure (wpAny_pure h)))
theorem lbx_kit (hga : findIn K (.ref D) "__getattribute__" = some (some (.builtin "BaseException.__getattribute__"))) (hgt : findIn K (.ref D) "__getattr__" = some none) (hsub : subIn K (.ref D) (.type "BaseException") = some true) (hdct : hasDictIn K D = true) (ha : findIn K (.ref D) "__class__" = some (some (.builtin "object.__class__")))
    (hn : specialIn K (.builtin "object.__class__") "__get__" = some (some (.builtin "getset_descriptor.__get__"))) (htk : takesIn K (.builtin "object.__class__") = some true) (hm : mroIn K D (.type "object") = some true) :
    KitX K (.ref x) (.ref D) (fun h => InstAt h x ox D od) where
  ty := fun _ _ _ I => I.type
  it := fun _ _ X _ => by
    obtain ⟨cdD, hcD, _⟩ := any_some hdct
    unfold clsIn at hcD
    split at hcD
    · rename_i c' d' cd' sl' ho
      intro A' Q' E' s' k q
      unfold isType loadHead
      exact wpAny_bind (wpAny_loadPart (k _ _ (X _ _ ho)) (wpAny_pure q))
    · cases hcD
  ne := fun h tp dd its n sl X htp => by
    obtain ⟨cdD, hcD, _⟩ := any_some hdct
    refine Bool.eq_false_iff.mpr fun q => ?_
    have e : D = tp := Value.ref.inj (beq_iff_eq.mp q)
    subst e
    unfold clsIn at hcD
    split at hcD
    · rename_i c' d' cd' sl' ho
      have z := (X _ _ ho).symm.trans htp
      cases z
    · cases hcD
  ca := fun X I k => lbx_class hga hgt hsub hdct ha hn htk hm X I k
end
end PySem.W

namespace PySem.HandSPX
open PySem PySem.W
section
variable {prog : Program} {w : World} {A : Around} {E : Value → Shared → Prop} {R : Result → Shared → Prop} {h : Heap} {g : Array GenState} {d : Drawn} {t : Nat} {os : OsState}
variable {nm q : Str} {C N : Addr} {bs bm bmB : List Value} {hdct : Bool} {sn : List Str} {sub : List Value} {ab : Bool} {col : Option Bool} {dd : Option Addr} {k0 k1 k2 k3 k5 : Option Value} {B newId initId : String}
/-- a class without an __init__ of its own, called with nothing -/
theorem lbx_type_call0 (F : ExcBaseFacts B newId initId bmB) (hT : ∀ X : String, bm.contains (.type X) = bmB.contains (.type X)) {Q : Fin → Shared → Prop}
    (hC : h.get? C = some (excClassObj nm q C N bs bm hdct sn sub ab col dd k0 k1 k2 k3 k5 newId))
    (hi : W.Looks (model prog w) h (typeLookup (.ref C) "__init__") (some (.builtin initId)))
    (hq : ∀ h' t1, (∀ b o, h.get? b = some o → h'.get? b = some o) → h'.get? (h.objs.size + 1) = some (excO C t1) → Q (.done (.ret (.ref (h.objs.size + 1)))) ⟨h', g, d, t, os⟩) :
    wpAny (model prog w) A (Builtin.«type.__call__» ⟨[.ref C], []⟩) Q E ⟨h, g, d, t, os⟩ := by
  repeat (first | with_reducible refine wpAny_loadPart_at hC ?_ | with_reducible refine wpAny_madeBy_exc hC ?_ | wp_step)
  refine codeAny_call_builtin_code (Code.quiet_builtin _ F.quiet) (lbx_check F hT hC ?_)
  refine lbx_new (rest := []) F hT hC ?_ (Nat.zero_le _)
  show wpAny _ _ _ _ _ _
  have k : ∀ b o, h.get? b = some o → ((h.push (W.kdv_tup [])).push (excO C h.objs.size)).get? b = some o := fun b o e => Heap.get?_push_of_some _ (Heap.get?_push_of_some _ e)
  have hC₁ := k _ _ hC
  have hget : ((h.push (W.kdv_tup [])).push (excO C h.objs.size)).get? (h.objs.size + 1) = some (excO C h.objs.size) := by heap_get
  have hcC : (Value.ref C :: bm).contains (.ref C) = true := by simp
  have i1 := hi.keeps k
  have b1 := F.init.bind (.ref (h.objs.size + 1))
  unfold isInstance
  repeat (first | with_reducible refine wpAny_loadPart_at hget ?_ | (with_reducible refine wpAny_isSubtype_exc hC₁ ?_; rw [hcC]) | wp_step)
  show wpAny _ _ (typeLookup (.ref C) _) _ _ _
  refine i1.at ?_
  refine wpAny_holding ?_
  simp only [b1]
  refine wpAny_bind (wpAny_pure ?_)
  have fin : codeAny (model prog w) A (.call (.builtin initId) ⟨[.ref (h.objs.size + 1)], []⟩) (fun r s' => match r with | .ok (.ret v) => v = .none ∧ Q (.done (.ret (.ref (h.objs.size + 1)))) s' | .ok _ => False | .error e => E e s')
      ⟨(h.push (W.kdv_tup [])).push (excO C h.objs.size), g, d, t, os⟩ :=
    init_base (rest := []) F hT hC₁ hget (Nat.zero_le _) fun h' t1 k2 he => ⟨rfl, hq h' t1 (fun b o e => k2 b o (Nat.ne_of_lt (Nat.lt_succ_of_lt (Heap.lt_size e))) (k b o e)) he⟩
  refine wpAny_bind (wpAny_call (codeAny_mono fin fun r s' z => ?_))
  rcases r with e | (v | _ | _ | _) <;> first | exact z | exact z.elim | skip
  obtain ⟨rfl, z⟩ := z
  first
    | exact wpAny_pure (wpAny_pure z)
    | (wp_walk; exact z)
theorem lbx_call0 (F : ExcBaseFacts B newId initId bmB) (hT : ∀ X : String, bm.contains (.type X) = bmB.contains (.type X))
    (hC : h.get? C = some (excClassObj nm q C N bs bm hdct sn sub ab col dd k0 k1 k2 k3 k5 newId))
    (hi : W.Looks (model prog w) h (typeLookup (.ref C) "__init__") (some (.builtin initId)))
    (hq : ∀ h' t1, (∀ b o, h.get? b = some o → h'.get? b = some o) → h'.get? (h.objs.size + 1) = some (excO C t1) → R (.ok (.ret (.ref (h.objs.size + 1)))) ⟨h', g, d, t, os⟩) :
    codeAny (model prog w) A (.call (.ref C) ⟨[], []⟩) R ⟨h, g, d, t, os⟩ := by
  have f1 := tc_lookup
  have f2 := tc_bind (.ref C)
  have hTy : (⟨h, g, d, t, os⟩ : Shared).TypeIs (.ref C) "type" := ⟨_, hC, rfl⟩
  refine codeAny_of_tree ?_
  show wpAny _ _ (callAny (.ref C) _) _ _ _
  repeat (any_goals (first | assumption | with_reducible refine wpAny_loadPart_at hC ?_ | wp_step))
  refine ⟨rfl, ?_⟩
  exact codeAny_call_builtin_at (Code.quiet_builtin _ (by decide +kernel)) entry_typeCall (wpAny_check_type_call_sub hC (lbx_type_call0 F hT hC hi hq))
end
end PySem.HandSPX
namespace LB
open PySem L2 PyProof.Rows
section
variable {X : Cx} {CX : CXT} {x : Str} {C fI : Addr} {k : Nat} {fd : FuncData} {ps ks : List Str} {sp : Sp} {e : Expr} {es : List Expr} {kws : List Keyword} {ta tk : TA} {p pos : Pos}
/-- an own class of errors whose __init__ is a def of the text that keeps sp -/
def HasEx (P : Program) (w : World) (K : PySem.W.Frag) (mg : Str → Option Value) (base : Heap) (CX : CXT) (k : Nat) (C : Addr) (x : Str) (ps : List Str) (sp : Sp) : Prop :=
  ∃ (f : Addr) (fd : FuncData), OexC K C ∧ PySem.W.findIn K (.ref C) "__init__" = some (some (.ref f)) ∧ PySem.W.typeIn K (.ref f) = some (.type "function") ∧ FnOk P w K mg base CX k f fd ps sp ∧ mg x = some (.ref C) ∧
    (∀ us : List Value, us.length = ps.length → bindArgs fd ⟨us, []⟩ = pure (ps.zip us)) ∧ Binds K fd ps []
/-- C(e, ..) as a value -/
def tExV (C : Addr) (sp : Sp) (ta : TA) : TE := fun σ H Q => ta σ H fun vs H1 => vs.length ≤ 1000 ∧ ∀ a, H1 a = none → sp (.ref a :: vs) (upd H1 a (exo a C none)) (fun v H2 => v = .non ∧ Q (.ref a) H2) E0
theorem pe_exv (h : HasEx X.prog X.w X.K X.mg X.base CX0 k C x ps sp) (hr : Room (k + 1) X.A) (ha : PA X (e :: es) ta) (hg : Gl X x := by rfl)
    (hdb : (x == ("__debug__" : Str)) = false := by decide) (he : starEach (e :: es) X.env = (false, eval e X.env) :: starEach es X.env := by rfl) (hpl : (backTo pos (starEach es X.env)).any (·.1) = false := by rfl) :
    PE X (.Call (.Name x p) (e :: es) [] pos) (tExV C sp ta) := by
  obtain ⟨f, fd, T, iC, tI, F1, hm, _, hb⟩ := h
  refine ⟨fun pins s σ H Q I h => ?_⟩
  obtain ⟨nm, q, N, bs, bm, sn, sub, ab, col, dd, k0, k1, k2, k3, k5, hC, hbm⟩ := T.cls
  refine wpAny_Call_Name_kw (ld_glob I hg hm ?_ hdb)
  refine PySem.W.callWith_K (h₀ := X.base) I.ok.mod.kin T.kC (thn (ha.run pos pins s σ H _ I h) fun us s1 ⟨vs, H1, I1, r1, hz, q1⟩ => ⟨I1.kIn, ?_⟩) he hpl
  obtain ⟨hp, g, dr, tk, os⟩ := s1
  have hsz : hp.objs.size ≤ hp.objs.size + 1 := Nat.le_succ _
  have hn : H1 (hp.objs.size + 1) = none := I1.hok.fresh hsz
  have hq := q1 (hp.objs.size + 1) hn
  have kk : ∀ b o, hp.get? b = some o → ((hp.push (PySem.W.kdv_tup us)).push (PySem.HandSPX.excO C hp.objs.size)).get? b = some o := fun b o e => Heap.get?_push_of_some _ (Heap.get?_push_of_some _ e)
  have hget : ((hp.push (PySem.W.kdv_tup us)).push (PySem.HandSPX.excO C hp.objs.size)).get? (hp.objs.size + 1) = some (PySem.HandSPX.excO C hp.objs.size) := by heap_get
  have I2 : Inv X pins σ (upd H1 (hp.objs.size + 1) (exo (hp.objs.size + 1) C none)) ⟨(hp.push (PySem.W.kdv_tup us)).push (PySem.HandSPX.excO C hp.objs.size), g, dr, tk, os⟩ := I1.laid (t' := tk) kk hsz (exo_ok hget)
  have r2 : Vals (V.ref (hp.objs.size + 1) :: vs) (Value.ref (hp.objs.size + 1) :: us) := .cons rfl r1
  have hl : (Value.ref (hp.objs.size + 1) :: us).length = ps.length := by
    rw [← r2.length]
    exact F1.len _ _ _ _ hq
  have hus : us.length ≤ sizeLine := by
    rw [← Paired.length r1, sizeLine_eq]
    omega
  have hb' := hb _ (Value.ref (hp.objs.size + 1) :: us) I2.kIn (by rw [List.append_nil]; exact hl)
  rw [List.append_nil] at hb'
  refine wpAny_call (PySem.HandSPX.lbx_call (kw := []) F.excBase_ValueError (fun Y => PySem.HandSPX.refsVE_contains Y bm hbm) (I1.kIn _ _ hC) (PySem.W.looks_findIn I1.kIn iC) (fun self => PySem.W.bind_fn I1.kIn self tI) hus
    (codeAny_mono (F1.run _ X.stack _ _ ⟨Value.ref (hp.objs.size + 1) :: us, []⟩ (Value.ref (hp.objs.size + 1) :: us) _ _ E0 (hr.make C us []) (I2.env0.make C us []) hb' r2 hq) fun r s' hq' => ?_))
  cases r with
  | error er => exact False.elim hq'
  | ok fl =>
    cases fl with
    | ret u =>
      obtain ⟨v, H', I', rv, ev, q2⟩ := I2.after hq'
      subst ev
      cases rv
      exact ⟨rfl, .ref (hp.objs.size + 1), H', I', rfl, q2⟩
    | next => exact False.elim hq'
    | brk => exact False.elim hq'
    | cont => exact False.elim hq'
/-- how the names that are given stand in the parameters' order -/
def swapIf {α : Type} (b : Bool) : List α → List α
  | [x, y] => if b then [y, x] else [x, y]
  | l => l
theorem swapIf_rel {b : Bool} {zs : List V} {ws : List Value} (r : Vals zs ws) : Vals (swapIf b zs) (swapIf b ws) := by
  cases r with
  | nil => exact .nil
  | cons r1 t =>
    cases t with
    | nil => exact .cons r1 .nil
    | cons r2 t2 =>
      cases t2 with
      | nil => cases b with
        | true => exact .cons r2 (.cons r1 .nil)
        | false => exact .cons r1 (.cons r2 .nil)
      | cons r3 t3 => exact .cons r1 (.cons r2 (.cons r3 t3))
/-- .. and its __init__ takes these names so -/
def HasExK (P : Program) (w : World) (K : PySem.W.Frag) (mg : Str → Option Value) (base : Heap) (CX : CXT) (k : Nat) (C : Addr) (x : Str) (ps ks : List Str) (b : Bool) (sp : Sp) : Prop :=
  ∃ (f : Addr) (fd : FuncData), OexC K C ∧ PySem.W.findIn K (.ref C) "__init__" = some (some (.ref f)) ∧ PySem.W.typeIn K (.ref f) = some (.type "function") ∧ FnOk P w K mg base CX k f fd ps sp ∧ mg x = some (.ref C) ∧
    (∀ (self : Value) (ws : List Value), ws.length = ks.length → bindArgs fd ⟨[self], ks.zip ws⟩ = pure (ps.zip (self :: swapIf b ws)))
def tExVK (C : Addr) (b : Bool) (n : Nat) (sp : Sp) (tk : TA) : TE := fun σ H Q => tk σ H fun zs H1 => zs.length = n ∧ ∀ a, H1 a = none → sp (.ref a :: swapIf b zs) (upd H1 a (exo a C none)) (fun v H2 => v = .non ∧ Q (.ref a) H2) E0
theorem pe_exvK {b : Bool} (h : HasExK X.prog X.w X.K X.mg X.base CX0 k C x ps ks b sp) (hr : Room (k + 1) X.A) (hkw : PK X kws tk) (hg : Gl X x := by rfl) (hall : (backToKw pos (keywordEach kws X.env)).all (·.1.isSome) = true := by rfl) (hks : (backToKw pos (keywordEach kws X.env)).filterMap (·.1) = ks := by rfl)
    (hdb : (x == ("__debug__" : Str)) = false := by decide) (hpl : ((backTo pos (starEach [] X.env)).any (·.1) || (backToKw pos (keywordEach kws X.env)).any (·.1.isNone)) = false := by rfl) :
    PE X (.Call (.Name x p) [] kws pos) (tExVK C b ks.length sp tk) := by
  obtain ⟨f, fd, T, iC, tI, F1, hm, hb⟩ := h
  refine ⟨fun pins s σ H Q I h => ?_⟩
  obtain ⟨nm, q, N, bs, bm, sn, sub, ab, col, dd, k0, k1, k2, k3, k5, hC, hbm⟩ := T.cls
  refine wpAny_Call_Name_kw (ld_glob I hg hm ?_ hdb)
  refine PySem.W.callWith_KW0 (h₀ := X.base) I.ok.mod.kin T.kC hall (thn (hkw.run pos pins s σ H _ I h) fun us s1 ⟨vs, H1, I1, r1, hz, q1⟩ => ⟨I1.kIn, ?_⟩) hpl
  rw [hks]
  obtain ⟨hp, g, dr, tk, os⟩ := s1
  have hsz : hp.objs.size ≤ hp.objs.size + 1 := Nat.le_succ _
  have hn : H1 (hp.objs.size + 1) = none := I1.hok.fresh hsz
  have hq := q1 (hp.objs.size + 1) hn
  have kk : ∀ b o, hp.get? b = some o → ((hp.push (PySem.W.kdv_tup [])).push (PySem.HandSPX.excO C hp.objs.size)).get? b = some o := fun b o e => Heap.get?_push_of_some _ (Heap.get?_push_of_some _ e)
  have hget : ((hp.push (PySem.W.kdv_tup [])).push (PySem.HandSPX.excO C hp.objs.size)).get? (hp.objs.size + 1) = some (PySem.HandSPX.excO C hp.objs.size) := by heap_get
  have I2 : Inv X pins σ (upd H1 (hp.objs.size + 1) (exo (hp.objs.size + 1) C none)) ⟨(hp.push (PySem.W.kdv_tup [])).push (PySem.HandSPX.excO C hp.objs.size), g, dr, tk, os⟩ := I1.laid (t' := tk) kk hsz (exo_ok hget)
  have r2 : Vals (V.ref (hp.objs.size + 1) :: swapIf b vs) (Value.ref (hp.objs.size + 1) :: swapIf b us) := .cons rfl (swapIf_rel r1)
  have hb' := hb (Value.ref (hp.objs.size + 1)) us (by rw [← Paired.length r1]; exact hz)
  refine wpAny_call (PySem.HandSPX.lbx_call (rest := []) (kw := ks.zip us) F.excBase_ValueError (fun Y => PySem.HandSPX.refsVE_contains Y bm hbm) (I1.kIn _ _ hC) (PySem.W.looks_findIn I1.kIn iC) (fun self => PySem.W.bind_fn I1.kIn self tI) (Nat.zero_le _)
    (codeAny_mono (F1.run _ X.stack _ _ ⟨[Value.ref (hp.objs.size + 1)], ks.zip us⟩ (Value.ref (hp.objs.size + 1) :: swapIf b us) _ _ E0 (hr.make C [] (ks.zip us)) (I2.env0.make C [] (ks.zip us)) (.of_eq hb') r2 hq) fun r s' hq' => ?_))
  cases r with
  | error er => exact False.elim hq'
  | ok fl =>
    cases fl with
    | ret u =>
      obtain ⟨v, H', I', rv, ev, q2⟩ := I2.after hq'
      subst ev
      cases rv
      exact ⟨rfl, .ref (hp.objs.size + 1), H', I', rfl, q2⟩
    | next => exact False.elim hq'
    | brk => exact False.elim hq'
    | cont => exact False.elim hq'
/-- a class of errors without an __init__ of its own, called with nothing -/
def HasEx0 (K : PySem.W.Frag) (mg : Str → Option Value) (C : Addr) (x : Str) : Prop :=
  OexC K C ∧ PySem.W.findIn K (.ref C) "__init__" = some (some (.builtin "ValueError.__init__")) ∧ mg x = some (.ref C)
def tExV0 (C : Addr) : TE := fun _ H Q => ∀ a, H a = none → Q (.ref a) (upd H a (exo a C none))
theorem pe_exv0 (h : HasEx0 X.K X.mg C x) (hg : Gl X x := by rfl) (hdb : (x == ("__debug__" : Str)) = false := by decide) : PE X (.Call (.Name x p) [] [] pos) (tExV0 C) := by
  obtain ⟨T, iC, hm⟩ := h
  refine ⟨fun pins s σ H Q I h => ?_⟩
  obtain ⟨nm, q, N, bs, bm, sn, sub, ab, col, dd, k0, k1, k2, k3, k5, hC, hbm⟩ := T.cls
  refine wpAny_Call_Name_kw (ld_glob I hg hm ?_ hdb)
  refine PySem.W.callWith_K0 I.kIn T.kC ?_
  show wpAny _ _ (call (.ref C) []) _ _ _
  obtain ⟨hp, g, dr, tk, os⟩ := s
  have hsz : hp.objs.size ≤ hp.objs.size + 1 := Nat.le_succ _
  refine wpAny_call (PySem.HandSPX.lbx_call0 F.excBase_ValueError (fun Y => PySem.HandSPX.refsVE_contains Y bm hbm) (I.kIn _ _ hC) (PySem.W.looks_findIn I.kIn iC) fun h' t1 k he => ?_)
  exact ⟨.ref (hp.objs.size + 1), _, I.laid (t' := tk) k hsz (exo_ok he), rfl, h _ (I.hok.fresh hsz)⟩
/-! ### isinstance of an error, its fields -/
/-- what is asked of a class of errors -/
structure ExK (K : PySem.W.Frag) (C : Addr) : Prop extends ExcC K C, OexC K C
theorem exo_inst {pins : List (Addr × Obj)} {σ : L2.St} {H : Hp} {s : Shared} {a : Addr} {d : Option Addr} (I : Inv X pins σ H s) (ha : H a = some (exo a C d)) (hd : ∀ dd, d = some dd → ∃ fs, H dd = some (exd dd fs)) :
    ∃ ox od, PySem.W.InstAt s.heap a ox C od := by
  obtain ⟨t1, he⟩ := exo_at I.hok ha
  cases d with
  | none => exact ⟨_, none, he, rfl, rfl, trivial⟩
  | some dd =>
    obtain ⟨fs, hf⟩ := hd dd rfl
    obtain ⟨mA, hns, _⟩ := exd_at I.hok hf
    obtain ⟨od, ho, _⟩ := lookIn_ns hns
    exact ⟨_, some od, he, rfl, rfl, ho⟩
def rIsO (K : PySem.W.Frag) (C : Addr) : List V → Hp → VK → Prop := fun xs H Q => ∃ (a : Addr) (d : Option Addr) (c : V) (cv : Value) (b : Bool), xs = [.ref a, c] ∧ H a = some (exo a C d) ∧ (∀ dd, d = some dd → ∃ fs, H dd = some (exd dd fs)) ∧
  ClsV c cv ∧ PySem.W.kitOne K (.ref C) cv = some b ∧ Q (.bl b) H
theorem call_isO : CallR X (.builtin "isinstance") (fun xs H Q => ∃ C, ExK X.K C ∧ rIsO X.K C xs H Q) := by
  intro pins s σ H xs us Q I r h
  obtain ⟨C, T, a, d, c, cv, b, rfl, ha, hd, hc, e, q⟩ := h
  obtain ⟨u1, u2, rfl, r1, r2⟩ := vals2 r
  cases r1
  have e2 := hc.eq r2
  subst e2
  obtain ⟨ox, od, J⟩ := exo_inst I ha hd
  exact PySem.W.kia_one (PySem.W.lbx_kit T.hg T.hk T.hs T.hd T.ha T.hn T.ht T.hm) I.kIn J e (fun z => nomatch z) fun tk => ⟨.bl b, H, I.tok tk, rfl, q⟩
theorem call_isOT : CallR X (.builtin "isinstance") (fun xs H Q => ∃ (C : Addr) (a : Addr) (d : Option Addr) (tp : Addr) (cs : List V) (ws : List Value) (b : Bool), ExK X.K C ∧ xs = [.ref a, .ref tp] ∧ H a = some (exo a C d) ∧ (∀ dd, d = some dd → ∃ fs, H dd = some (exd dd fs)) ∧
    H tp = some (.tup cs) ∧ Paired ClsV cs ws ∧ PySem.W.kitAny X.K (.ref C) ws = some b ∧ Q (.bl b) H) := by
  intro pins s σ H xs us Q I r h
  obtain ⟨C, a, d, tp, cs, ws, b, T, rfl, ha, hd, hT, k, e, q⟩ := h
  obtain ⟨u1, u2, rfl, r1, r2⟩ := vals2 r
  cases r1
  cases r2
  obtain ⟨ox, od, J⟩ := exo_inst I ha hd
  obtain ⟨_, its, rv, o, h1, h2, n, h3⟩ := (show ObjOk X.prog X.w H s.heap tp (.tup cs) from I.hok tp _ hT)
  have e3 := ClsV.all k rv
  subst e3
  obtain ⟨oc, od', dt, sl⟩ := o
  simp only at h2 h3
  subst h2 h3
  exact PySem.W.kia_tup (PySem.W.lbx_kit T.hg T.hk T.hs T.hd T.ha T.hn T.ht T.hm) I.kIn J h1 e (fun z => nomatch z) fun tk => ⟨.bl b, H, I.tok tk, rfl, q⟩
/-- e.n, e an error -/
def tExF (K : PySem.W.Frag) (n : Str) (te : TE) : TE := fun σ H Q => te σ H fun x H1 => ∃ (a C dd : Addr) (fs : List (Str × V)) (v : V), x = .ref a ∧ ExK K C ∧ PySem.W.findIn K (.ref C) n = some none ∧ H1 a = some (exo a C (some dd)) ∧ H1 dd = some (exd dd fs) ∧ fs.lookup n = some v ∧ Q v H1
theorem pe_exf {n : Str} {o : Expr} {te : TE} (he : PE X o te) (hb : attributeBase o n X.env (eval o X.env) = eval o X.env := by rfl) : PE X (.Attribute o n pos) (tExF X.K n te) := by
  refine ⟨fun pins s σ H Q I h => ?_⟩
  refine attr_of hb (thn (he.run pins s σ H _ I h) fun u s1 hh => ?_)
  obtain ⟨x, H1, I1, rx, a, C, dd, fs, v, ex, T, hno, ha, hf, l, q⟩ := hh
  subst ex
  obtain rfl : u = Value.ref a := rx
  obtain ⟨t1, hee⟩ := exo_at I1.hok ha
  obtain ⟨mA, hns, hr⟩ := exd_at I1.hok hf
  obtain ⟨od, ho, hl⟩ := lookIn_ns hns
  obtain ⟨u, hu, ru⟩ := RelO.some_of (v := v) (o := mA n) (by rw [← l]; exact hr n)
  have J : PySem.W.InstAt s1.heap a _ C (some od) := ⟨hee, rfl, rfl, ho⟩
  exact HandSPX.exc_get I1.kIn J T.hg T.hk T.hs (PySem.W.findObj_own T.hd hno rfl (by rw [hl, hu])) (handed_of ru) ⟨v, H1, I1.tok _, ru, q⟩
end
end LB

namespace LB
open PySem L2 PyProof.Rows
/-! ### values and cells -/
/-- the letters a to z -/
def small : List Nat := (List.range 26).map (· + 97)
/-- two to four different letters a to z -/
structure Good (z : Str) : Prop where
  lo : 2 ≤ z.cps.size
  hi : z.cps.size ≤ 4
  az : ∀ c ∈ z.cps.toList, c ∈ small
  nd : z.cps.toList.Nodup
/-- the letters of a cell: those at the bits of its number -/
def subL (z : Str) (n i : Nat) : List Nat := ((List.range i).filter fun k => n.testBit k).map fun k => z.cps.getD k 0
def cellT (z : Str) (n : Nat) : Str := ⟨(subL z n z.cps.size).toArray⟩
/-- the attributes of a cell, of values -/
def cellF (p : Addr) (n : Int) (t : Str) : List (Str × V) := putF "letters" (.str t) (putF "number" (.int n) (putF "alphabet" (.ref p) []))
def valF (z : Str) (t : Addr) : List (Str × V) := putF "by_number" (.ref t) (putF "letters" (.str z) [])
theorem cellF_let {p : Addr} {n : Int} {t : Str} : (cellF p n t).lookup ("letters" : Str) = some (.str t) := by
  unfold cellF; rw [lookup_putF, if_pos rfl]
theorem cellF_num {p : Addr} {n : Int} {t : Str} : (cellF p n t).lookup ("number" : Str) = some (.int n) := by
  unfold cellF; rw [lookup_putF, if_neg (by decide +kernel), lookup_putF, if_pos rfl]
theorem cellF_alp {p : Addr} {n : Int} {t : Str} : (cellF p n t).lookup ("alphabet" : Str) = some (.ref p) := by
  unfold cellF; rw [lookup_putF, if_neg (by decide +kernel), lookup_putF, if_neg (by decide +kernel), lookup_putF, if_pos rfl]
theorem valF_let {z : Str} {t : Addr} : (valF z t).lookup ("letters" : Str) = some (.str z) := by
  unfold valF; rw [lookup_putF, if_neg (by decide +kernel), lookup_putF, if_pos rfl]
theorem valF_by {z : Str} {t : Addr} : (valF z t).lookup ("by_number" : Str) = some (.ref t) := by
  unfold valF; rw [lookup_putF, if_pos rfl]
theorem cellF_no {p : Addr} {n : Int} {t m : Str} (h1 : ¬ m = "letters") (h2 : ¬ m = "number") (h3 : ¬ m = "alphabet") : (cellF p n t).lookup m = none := by
  unfold cellF; rw [lookup_putF, if_neg h1, lookup_putF, if_neg h2, lookup_putF, if_neg h3]; rfl
theorem valF_no {z m : Str} {t : Addr} (h1 : ¬ m = "by_number") (h2 : ¬ m = "letters") : (valF z t).lookup m = none := by
  unfold valF; rw [lookup_putF, if_neg h1, lookup_putF, if_neg h2]; rfl
/-- a cell at c: of the values at p with the letters z, the one of the number n; CC: the class -/
def CellAt (CC : Addr) (H : Hp) (c p : Addr) (z : Str) (n : Nat) : Prop := ∃ dc, H c = some (.ins CC dc (cellF p n (cellT z n)))
/-- values at p with the letters z, their cells at cs -/
structure ValsAt (CV CC : Addr) (H : Hp) (p : Addr) (z : Str) (cs : List Addr) : Prop where
  ob : ∃ dx t, H p = some (.ins CV dx (valF z t)) ∧ H t = some (.tup (cs.map V.ref))
  good : Good z
  len : cs.length = 2 ^ z.cps.size
  cell : ∀ i c, cs[i]? = some c → CellAt CC H c p z i
theorem CellAt.same {CC : Addr} {H H' : Hp} {c p : Addr} {z : Str} {n : Nat} (h : CellAt CC H c p z n) (s : Same H H') : CellAt CC H' c p z n := let ⟨dc, e⟩ := h; ⟨dc, s _ _ e⟩
theorem ValsAt.same {CV CC : Addr} {H H' : Hp} {p : Addr} {z : Str} {cs : List Addr} (h : ValsAt CV CC H p z cs) (s : Same H H') : ValsAt CV CC H' p z cs :=
  ⟨let ⟨dx, t, e1, e2⟩ := h.ob; ⟨dx, t, s _ _ e1, s _ _ e2⟩, h.good, h.len, fun i c e => (h.cell i c e).same s⟩
theorem subL_succ (z : Str) (n i : Nat) : subL z n (i + 1) = subL z n i ++ (if n.testBit i then [z.cps.getD i 0] else []) := by
  unfold subL
  rw [List.range_succ, List.filter_append, List.map_append]
  congr 1
  by_cases h : n.testBit i = true
  · rw [if_pos h, List.filter_cons, if_pos h]; rfl
  · rw [if_neg h, List.filter_cons, if_neg h]; rfl
theorem subL_len (z : Str) (n i : Nat) : (subL z n i).length ≤ i := by
  unfold subL
  rw [List.length_map]
  exact Nat.le_trans (List.length_filter_le _ _) (by rw [List.length_range]; exact Nat.le_refl _)
/-- the signs of codes -/
def sgs (l : List Nat) : List Str := l.map fun c => (⟨#[c]⟩ : Str)
theorem sgs_append (a b : List Nat) : sgs (a ++ b) = sgs a ++ sgs b := by simp [sgs]
theorem join_sgs (l : List Nat) : Txt.join Str.empty (sgs l) = ⟨l.toArray⟩ := by
  show PySem.Builtin.Str.glued Str.empty (sgs l) = _
  unfold PySem.Builtin.Str.glued
  have go : ∀ (r : List Nat) (acc : Array Nat), (sgs r).foldl (fun acc p => acc ++ (Str.empty : Str).cps ++ p.cps) acc = acc ++ r.toArray := by
    intro r
    induction r with
    | nil => intro acc; simp [sgs]
    | cons c r ih =>
      intro acc
      show (sgs r).foldl _ (acc ++ (#[] : Array Nat) ++ #[c]) = _
      rw [ih, Array.append_empty]
      simp
  congr 1
  cases l with
  | nil => rfl
  | cons c r =>
    show (sgs r).foldl _ #[c] = _
    rw [go]
    simp
/-- a bit of a number, as the program asks it -/
theorem bit_shift (n k : Nat) : Builtin.bitAnd ((n : Int) / 2 ^ ((k : Int)).toNat) 1 = if n.testBit k then 1 else 0 := by
  have e : ((n : Int) / 2 ^ ((k : Int)).toNat) = ((n / 2 ^ k : Nat) : Int) := by
    rw [Int.toNat_natCast]
    exact (Int.natCast_ediv n (2 ^ k)).symm ▸ by simp
  rw [e, PyProof.Rows.bitAnd_pp (Int.natCast_nonneg _) (by omega), Int.toNat_natCast]
  show (((n / 2 ^ k) &&& 1 : Nat) : Int) = _
  rw [Nat.and_one_is_mod]
  have h := Nat.testBit_eq_decide_div_mod_eq (x := n) (i := k)
  by_cases hb : n.testBit k = true
  · rw [if_pos hb]
    rw [hb] at h
    have := of_decide_eq_true h.symm
    rw [this]; rfl
  · rw [if_neg hb]
    have hb' : n.testBit k = false := by simpa using hb
    rw [hb'] at h
    have := of_decide_eq_false h.symm
    have h2 : n / 2 ^ k % 2 = 0 := by omega
    rw [h2]; rfl
end LB

namespace LB
open PySem L2 PyProof.Rows
/-! ### rules inside of a comprehension: what they read is read in the def around it -/
def tTr (K : PySem.W.Frag) (ta : TE) : TT := fun σ H Q => ta σ H fun x H' => ∃ k, TruV K x H' k ∧ Q k H'
section
variable {X : Cx} {s : Shared} {H : Hp} {sc : Scope} {ev : Env} {fp : List Addr} {a b o e : Expr} {ta tb te : TE} {pos : Pos} {f : Str}
theorem pg_tupB {es : List Expr} {k : Nat} {t : TGs} {n : Nat} (hc : (X.blk s H sc ev fp).calm = true) (h : PGs (X.blk s H sc ev fp) es t)
    (hn : (assignEach es (X.blk s H sc ev fp).env).length = n := by rfl) (hst : (assignEach es (X.blk s H sc ev fp).env).findIdx? (·.1) = none := by rfl) : PG (X.blk s H sc ev fp) (.Tuple es k pos) (gTup X.K n t) := pg_tup hc h hn hst
theorem pt_truthB (ha : PE (X.blk s H sc ev fp) a ta) (he : ∀ whole, isTrue a (X.blk s H sc ev fp).env whole = (do let v ← whole; standAt a.pos; holding [v] (truthy v))) :
    PT (X.blk s H sc ev fp) a (tTr X.K ta) := pt_truth ha he
theorem pe_fldB (he : PE (X.blk s H sc ev fp) e ta) (hb : attributeBase e f (X.blk s H sc ev fp).env (eval e (X.blk s H sc ev fp).env) = eval e (X.blk s H sc ev fp).env) : PE (X.blk s H sc ev fp) (.Attribute e f pos) (tFld X.K ta f) := pe_fld he hb
theorem ix_listB : IxR (X.blk s H sc ev fp) (rIxL X.K) := ix_list
theorem ix_tupB : IxR (X.blk s H sc ev fp) (rIxT X.K) := ix_tup
theorem sl_listB : SlR (X.blk s H sc ev fp) (rSlL X.K) := sl_list
theorem call_lenB : CallR (X.blk s H sc ev fp) (.builtin "len") (fun xs H Q => ∃ x n, xs = [x] ∧ LenV X.K x H n ∧ Q (.int n) H) := call_len
theorem call_isiB : CallR (X.blk s H sc ev fp) (.builtin "isinstance") (rIsi X.K) := call_isi
theorem call_isOB : CallR (X.blk s H sc ev fp) (.builtin "isinstance") (fun xs H Q => ∃ C, ExK X.K C ∧ rIsO X.K C xs H Q) := call_isO
theorem op_eqDB (hu : X.A.units + 64 < cLine) : OpR (X.blk s H sc ev fp) (compareOp .Eq) (rEqD X.K) := op_eqD hu
theorem op_neDB (hu : X.A.units + 64 < cLine) : OpR (X.blk s H sc ev fp) (compareOp .NotEq) (rNeD X.K) := op_neD hu
end
end LB

namespace LB
open PySem L2 PyProof.Rows
/-! ### == of lists whose items are the same -/
def DRef : Eqv := fun x y _ => ∃ a, x = .ref a ∧ y = .ref a
theorem eqG_ref {X : Cx} : EqG X 0 DRef := by
  intro A pins s σ H x y u v sb I rx ry d
  obtain ⟨a, rfl, rfl⟩ := d
  cases rx
  cases ry
  exact PySem.SeqAt.EqAt.same _ X.prog X.w X.xe _ ⟨rfl, H, I, Ext.rfl'⟩
def DSm : Eqv := fun x y H => DFlat x y H ∨ DRef x y H
theorem mon_sm : Mon DSm := Mon.or mon_flat fun _ _ _ _ _ d => d
theorem op_eqSm {X : Cx} (hr : Room 1 X.A) : OpR X (compareOp .Eq) (rEqG (DList DSm)) := op_eqG (rcG_list mon_sm (eqG_flat.or eqG_ref)) hr
theorem eqV_refl {x : V} (h : flatV x = true) : eqV x x = true := by
  cases x <;> first | rfl | exact beq_self_eq_true _ | cases h
theorem prs_same {xs : List V} {H : Hp} (h : ∀ x ∈ xs, flatV x = true ∨ ∃ a, x = .ref a) : Prs DSm xs xs H :=
  ⟨rfl, fun i x y h1 h2 => by
    rw [h1] at h2
    cases h2
    rcases h x (List.mem_of_getElem? h1) with f | ⟨a, e⟩
    · exact .inl ⟨f, f, eqV_refl f⟩
    · exact .inr ⟨a, e, e⟩⟩
/-! ### values that may stand in an error -/
theorem TyX.keep {K : PySem.W.Frag} {H H' : Hp} {a : Addr} {t : Value} (h : TyX K H (.ref a) t) (k : ∀ o, H a = some o → H' a = some o) : TyX K H' (.ref a) t := by
  cases h with
  | base b =>
    cases b with
    | lst e => exact .base (.lst (k _ e))
    | frz e => exact .base (.frz (k _ e))
    | tup e => exact .base (.tup (k _ e))
    | dK e => exact .base (.dK (k _ e))
    | dT e => exact .base (.dT (k _ e))
    | ins e cl ha hn htk hm => exact .base (.ins (k _ e) cl ha hn htk hm)
  | set e => exact .set (k _ e)
  | kList e c => exact .kList e c
  | kTuple e c => exact .kTuple e c
  | kDict e c => exact .kDict e c
  | fTuple e => exact .fTuple (k _ e)
  | fDict e => exact .fDict (k _ e)
/-- a value of which it is known whether it is a bool -/
def Tame (K : PySem.W.Frag) (p : Addr) (H : Hp) (x : V) : Prop := (flatV x = true ∨ ∃ a, x = .ref a ∧ a ≠ p) ∧ ∃ t b, TyX K H x t ∧ PySem.W.kitOne K t (.type "bool") = some b
theorem Tame.but {K : PySem.W.Frag} {p : Addr} {H H' : Hp} {x : V} (h : Tame K p H x) (b : But p H H') : Tame K p H' x := by
  obtain ⟨f, t, c, ty, k⟩ := h
  refine ⟨f, t, c, ?_, k⟩
  rcases f with f | ⟨a, rfl, n⟩
  · cases x with
    | non => cases ty with | base b => cases b; exact .base .non
    | bl y => cases ty with | base b => cases b; exact .base (.bl y)
    | int y => cases ty with | base b => cases b; exact .base (.int y)
    | str y => cases ty with | base b => cases b; exact .base (.str y)
    | byt y => cases f
    | flt y => cases f
    | ref y => cases f
    | ty y => cases f
  · exact LB.TyX.keep ty fun o e => b _ _ e n
theorem Tame.flat {K : PySem.W.Frag} {p : Addr} {H : Hp} {x : V} (h : Tame K p H x) : flatV x = true ∨ ∃ a, x = .ref a := h.1.imp id fun ⟨a, e, _⟩ => ⟨a, e⟩
/-! ### errors on the abstract heap -/
/-- an error of the class C at a, with these attributes (the last one first) -/
def ErrAt (H : Hp) (a C : Addr) (fs : List (Str × V)) : Prop := ∃ d, H a = some (exo a C d) ∧ ((d = none ∧ fs = []) ∨ ∃ dd, d = some dd ∧ H dd = some (exd dd fs))
theorem ErrAt.same {H H' : Hp} {a C : Addr} {fs : List (Str × V)} (h : ErrAt H a C fs) (s : Same H H') : ErrAt H' a C fs :=
  let ⟨d, e, k⟩ := h
  ⟨d, s _ _ e, k.imp id fun ⟨dd, e1, e2⟩ => ⟨dd, e1, s _ _ e2⟩⟩
theorem ErrAt.dd {H : Hp} {a C : Addr} {fs : List (Str × V)} (h : ErrAt H a C fs) : ∃ d, H a = some (exo a C d) ∧ ∀ dd, d = some dd → ∃ fs, H dd = some (exd dd fs) :=
  let ⟨d, e, k⟩ := h
  ⟨d, e, fun dd q => by
    rcases k with ⟨e1, _⟩ | ⟨d1, e1, e2⟩
    · rw [e1] at q; cases q
    · rw [e1] at q; cases q; exact ⟨fs, e2⟩⟩
theorem ErrAt.fld {H : Hp} {a C : Addr} {f : Str} {v : V} {fs : List (Str × V)} (h : ErrAt H a C ((f, v) :: fs)) : ∃ dd, H a = some (exo a C (some dd)) ∧ H dd = some (exd dd ((f, v) :: fs)) :=
  let ⟨d, e, k⟩ := h
  k.elim (fun ⟨_, z⟩ => by cases z) fun ⟨dd, e1, e2⟩ => ⟨dd, e1 ▸ e, e2⟩
/-- C.__init__(self, f), C.__init__(self, f, g) -/
def spE1 (C : Addr) (f : Str) : Sp := fun vs H Q _ => ∃ a x, vs = [.ref a, x] ∧ H a = some (exo a C none) ∧ ∀ H', But a H H' → ErrAt H' a C [(f, x)] → Q .non H'
def spE2 (C : Addr) (f g : Str) : Sp := fun vs H Q _ => ∃ a x y, vs = [.ref a, x, y] ∧ H a = some (exo a C none) ∧ ∀ H', But a H H' → ErrAt H' a C [(g, y), (f, x)] → Q .non H'
end LB

namespace Toy
open PySem L2 LB PyProof.Rows
def top (i : Nat) : Stmt := PySem.Challenge.pw_linestrikes_k99_errors_and_causes.main.body.getD i (.Pass ⟨0, 0, 0, 0⟩)
abbrev s_law_pen : Stmt := top 39
theorem sc_law_pen : FnScope ["_law_script"] ["_law_script"] (defScope s_law_pen) := ⟨rfl, rfl, rfl, by decide +kernel, rfl, by decide +kernel, by decide +kernel⟩
abbrev s_law_draw : Stmt := top 40
theorem sc_law_draw : FnScope ["_law_pen_here", "_law_many", "_law_turn", "_law_drawn", "_law_mixed", "_law_digit", "_law_great"] ["_law_pen_here", "_law_many"] (defScope s_law_draw) := ⟨rfl, rfl, rfl, by decide +kernel, rfl, by decide +kernel, by decide +kernel⟩
abbrev s_law_pick : Stmt := top 41
theorem sc_law_pick : FnScope ["_law_pen_here", "_law_some"] ["_law_pen_here", "_law_some"] (defScope s_law_pick) := ⟨rfl, rfl, rfl, by decide +kernel, rfl, by decide +kernel, by decide +kernel⟩

section
variable {P : Program} {w : World} {K : PySem.W.Frag} {mg : Str → Option Value} {base : Heap}
theorem ok_pen {f : Addr} {fd : FuncData} (F : Fun K "_law_pen" "_law_pen" s_law_pen f fd) (B : Blt mg) : FnOk P w K mg base CX0 1 f fd ["_law_script"] (spPen K) := by
  refine F.ok sc_law_pen (fun vs H Q E h => ?_) (fun cdv A outer s H vs Q E hr h => ?_)
  · obtain ⟨a, ns, rfl, _⟩ := h
    rfl
  · obtain ⟨a, ns, rfl, hS, k⟩ := h
    refine ⟨_, (pss_one (ps_ret (pe_lst (pa_cons (pe_callTy call_list_of (by rfl) B.n_list (by decide +kernel) (pa_cons (pe_slice sl_list (pv 0) po_none (po_some pe_int)) pa_nil)) (pa_cons pe_int (pa_cons pe_int pa_nil)))))), ?_⟩
    refine ⟨_, rfl, _, rfl, a, _, rfl, hS, fun p1 n1 => ?_⟩
    refine ⟨p1, _, rfl, .inl (SqL.of upd_same), fun l hl => ⟨by show 3 ≤ sizeLine; decide, fun p hp => ?_⟩⟩
    obtain ⟨ms, e⟩ := cut_ints ns none (some 63)
    have s1 := same_new (o := .lst (cutV (ns.map V.int) none (some 63))) n1
    have s2 : Same _ (upd (upd H p1 (.lst (cutV (ns.map V.int) none (some 63)))) l (.lst (cutV (ns.map V.int) none (some 63)))) := same_new hl
    have ne : p ≠ l := (ne_of_none upd_same hp).symm
    exact k p l ms _ ((s1.trans s2).trans (same_new hp)) ((s1.trans s2).free hp) ⟨upd_same, by rw [upd_ne ne.symm, upd_same, e], Int.le_refl _, ne⟩
theorem ok_draw {f : Addr} {fd : FuncData} (F : Fun K "_law_draw" "_law_draw" s_law_draw f fd) (B : Blt mg) : FnOk P w K mg base CX0 1 f fd ["_law_pen_here", "_law_many"] spDraw := by
  refine F.ok sc_law_draw (fun vs H Q E h => ?_) (fun cdv A outer s H vs Q E hr h => ?_)
  · obtain ⟨p, q, ns, i, r, n, rfl, _⟩ := h
    rfl
  · obtain ⟨p, q, ns, i, r, n, rfl, hp, hn, hn2, hi, k⟩ := h
    refine ⟨_, (pss_cons (ps_if (pt_cmpR op_gt (pe_ix ix_list (pv 0) pe_int (fun _ _ => rfl)) pe_int (nomark _)) (pss_cons (ps_set (i := 5) sc_law_draw.nd rfl (.inl rfl) (pe_op op_mod (pe_callTy call_int1 (by rfl) B.n_int (by decide +kernel) (pa_cons (pe_ix ix_list (pv 0) pe_int (fun _ _ => rfl)) pa_nil)) (pv 1)))
      (pss_cons (ps_asg (pe_op op_fdiv (pe_callTy call_int1 (by rfl) B.n_int (by decide +kernel) (pa_cons (pe_ix ix_list (pv 0) pe_int (fun _ _ => rfl)) pa_nil)) (pv 1)) (pg_sub (pv 0) pe_int set_list))
      (pss_one (ps_ret (pv 5))))) pss_nil)
      (pss_cons (ps_set (i := 2) sc_law_draw.nd rfl (.inl rfl) (pe_ix ix_list (pv 0) pe_int (fun _ _ => rfl)))
      (pss_cons (ps_asg (pe_op op_add (pv 2) pe_int) (pg_sub (pv 0) pe_int set_list))
      (pss_cons (ps_set (i := 3) sc_law_draw.nd rfl (.inl rfl) (pe_op op_add (pe_op op_mul pe_int (pv 2)) pe_int))
      (Evl.pss_cut (ps_if (pt_cmpR (op_neD hr.units) (pe_ix ix_list (pv 0) pe_int (fun _ _ => rfl)) (pe_lst pa_nil) (nomark _)) (pss_one (ps_set (i := 3) sc_law_draw.nd rfl (.inl rfl) (pe_ix ix_list (pe_ix ix_list (pv 0) pe_int (fun _ _ => rfl)) (pe_op op_mod (pe_callTy call_int1 (by rfl) B.n_int (by decide +kernel) (pa_cons (pv 2) pa_nil)) (pe_callB call_len (by rfl) B.n_len (by decide +kernel) (pa_cons (pe_ix ix_list (pv 0) pe_int (fun _ _ => rfl)) pa_nil))) (fun _ _ => rfl)))) pss_nil)
      (Evl.pss_cut (ps_if (PW.pt (pw_and (pt_cmpR op_lt (pv 2) (pe_callB call_len (by rfl) B.n_len (by decide +kernel) (pa_cons (pe_ix ix_list (pv 0) pe_int (fun _ _ => rfl)) pa_nil)) (nomark _)) (pw_and1 (pt_cmpR op_ge (pe_callB call_abs (by rfl) B.n_abs (by decide +kernel) (pa_cons (pv 3) pa_nil)) (pe_op op_pow pe_int pe_int) (nomark _))))) (pss_cons (ps_set (i := 6) sc_law_draw.nd rfl (.inl rfl) (pe_op op_add (pe_op op_mul pe_int (pe_op op_sub (pe_callB call_abs (by rfl) B.n_abs (by decide +kernel) (pa_cons (pv 3) pa_nil)) (pe_op op_pow pe_int pe_int))) (pe_callTy call_int1 (by rfl) B.n_int (by decide +kernel) (pa_cons (pe_cmpR op_lt (pv 3) pe_int (nomark _)) pa_nil))))
      (pss_cons (ps_asg (pe_op op_fdiv (pe_callTy call_int1 (by rfl) B.n_int (by decide +kernel) (pa_cons (pv 6) pa_nil)) (pv 1)) (pg_sub (pv 0) pe_int set_list))
      (pss_one (ps_ret (pe_op op_mod (pe_callTy call_int1 (by rfl) B.n_int (by decide +kernel) (pa_cons (pv 6) pa_nil)) (pv 1)))))) pss_nil)
      (pss_cons (ps_set (i := 4) sc_law_draw.nd rfl (.inl rfl) (pe_op op_mod (pe_callTy call_int1 (by rfl) B.n_int (by decide +kernel) (pa_cons (pe_op op_pow (pe_op op_add (pe_op op_add (pe_op op_mod (pe_callTy call_int1 (by rfl) B.n_int (by decide +kernel) (pa_cons (pv 3) pa_nil)) pe_int) (pe_op op_mul pe_int (pv 2))) pe_int) pe_int) pa_nil)) pe_int))
      (pss_cons (ps_set (i := 4) sc_law_draw.nd rfl (.inl rfl) (pe_op op_mod (pe_callTy call_int1 (by rfl) B.n_int (by decide +kernel) (pa_cons (pe_op op_pow (pe_op op_add (pe_op op_add (pe_op op_mul (pv 4) (pe_op op_add (pe_op op_mul pe_int (pv 2)) pe_int)) (pe_op op_mul (pe_op op_mul pe_int (pv 2)) (pv 2))) pe_int) pe_int) pa_nil)) pe_int))
      (pss_one (ps_ret (pe_op op_mod (pe_callTy call_int1 (by rfl) B.n_int (by decide +kernel) (pa_cons (pe_op op_fdiv (pv 4) pe_int) pa_nil)) (pv 1)))))))))))), ?_⟩
    refine ⟨_, rfl, p, _, _, _, rfl, rfl, SqL.of hp.pen, rfl, _, _, rfl, rfl, _, rfl, ?_⟩
    refine ite2 (fun c => ?_) (fun c => ?_)
    · refine ⟨_, rfl, p, _, _, _, rfl, rfl, SqL.of hp.pen, rfl, .inl ⟨_, rfl, _, rfl, _, _, rfl, rfl, hn, ?_⟩⟩
      refine ⟨_, rfl, p, _, _, _, rfl, rfl, SqL.of hp.pen, rfl, .inl ⟨_, rfl, _, rfl, _, _, rfl, rfl, ⟨hn, by omega⟩, ?_⟩⟩
      refine ⟨_, rfl, p, _, _, 2, rfl, rfl, hp.pen, rfl, ?_⟩
      refine ⟨_, rfl, ?_⟩
      exact k _ i _ _ (Int.emod_nonneg _ (by omega)) (Int.emod_lt_of_pos _ hn) (by omega) (hp.one hp.i0) .upd
    · refine ⟨_, rfl, p, _, _, _, rfl, rfl, SqL.of hp.pen, rfl, ?_⟩
      refine ⟨_, rfl, _, _, rfl, rfl, _, rfl, p, _, _, 1, rfl, rfl, hp.pen, rfl, ?_⟩
      have h1 := hp.one (i' := i + 1) (r' := r) (by have := hp.i0; omega)
      have b1 : But p H (upd H p (.lst [.ref q, .int (i + 1), .int r])) := .upd
      refine ⟨_, rfl, _, _, rfl, rfl, .inl ⟨by decide, by decide⟩, _, _, rfl, rfl, ?_⟩
      refine ⟨fun σ H' => ∃ d : Int, σ = [some (.ref p), some (.int n), some (.int i), some (.int d), none, none, none] ∧ PenAt H' p q ns (i + 1) r ∧ But p H H', ?_, ?_⟩
      · refine ⟨_, rfl, p, _, _, _, rfl, rfl, SqL.of h1.pen, rfl, by show 0 ≤ sizeLine; decide, fun l hl => ?_⟩
        have h2 : PenAt _ p q ns (i + 1) r := h1.same (same_new (o := .lst []) hl)
        have b2 : But p H _ := b1.trans (.new (o := .lst []) hl)
        refine ⟨_, _, dp_ints (SqL.of h2.lst), .lst (SqL.of upd_same) .nil, shaped_ints _, by rfl, _, rfl, ?_⟩
        cases ns with
        | nil => exact iteF ⟨_, rfl, h2, b2⟩
        | cons x xs =>
          refine iteT ?_
          obtain ⟨d, hd⟩ := at_rest (ns := x :: xs) (i := i) (fun z => by cases z)
          refine ⟨_, rfl, p, _, _, _, rfl, rfl, SqL.of h2.pen, rfl, _, rfl, .inl ⟨_, rfl, _, rfl, p, _, _, _, rfl, rfl, SqL.of h2.pen, rfl, _, _, rfl, .inl ⟨_, SqL.of h2.lst, rfl⟩, _, _, rfl, rfl, ?_, q, _, _, _, rfl, rfl, SqL.of h2.lst, hd, ?_⟩⟩
          · show (0 : Int) < (((x :: xs).map V.int).length : Int)
            rw [List.length_map, List.length_cons]
            omega
          · exact ⟨d, rfl, h2, b2⟩
      · rintro σ H' ⟨d, rfl, h2, b2⟩
        refine ⟨fun σ H2 => σ = [some (.ref p), some (.int n), some (.int i), some (.int d), none, none, none] ∧ H2 = H', ?_, ?_⟩
        · refine ⟨_, rfl, _, rfl, p, _, _, _, rfl, rfl, SqL.of h2.pen, rfl, _, _, rfl, .inl ⟨_, SqL.of h2.lst, rfl⟩, _, _, rfl, rfl, _, rfl, ?_⟩
          refine ite2 (fun c1 => ?_) (fun c1 => iteF ⟨rfl, rfl⟩)
          refine ⟨_, rfl, _, rfl, _, _, rfl, rfl, ⟨by decide, by decide, by decide⟩, _, _, rfl, rfl, _, rfl, ?_⟩
          refine ite2 (fun c2 => ?_) (fun c2 => ⟨rfl, rfl⟩)
          refine ⟨_, rfl, _, rfl, _, _, rfl, rfl, ⟨by decide, by decide, by decide⟩, _, _, rfl, rfl, _, _, rfl, rfl, .inl ⟨by decide, by decide⟩, _, rfl, _, _, rfl, rfl, .inr ⟨_, rfl, _, _, rfl, rfl, ?_⟩⟩
          refine ⟨_, rfl, .inl ⟨_, rfl, _, rfl, _, _, rfl, rfl, ⟨hn, by omega⟩, ?_⟩⟩
          refine ⟨_, rfl, p, _, _, 2, rfl, rfl, h2.pen, rfl, ?_⟩
          refine ⟨_, rfl, .inl ⟨_, rfl, _, rfl, _, _, rfl, rfl, hn, ?_⟩⟩
          exact k _ (i + 1) _ _ (Int.emod_nonneg _ (by omega)) (Int.emod_lt_of_pos _ hn) (by omega) (h2.one h2.i0) (b2.trans .upd)
        · rintro σ H2 ⟨rfl, rfl⟩
          have i0 := hp.i0
          refine ⟨_, rfl, .inl ⟨_, rfl, _, _, rfl, rfl, (by show (0 : Int) < _; decide), _, rfl, _, _, rfl, rfl, .inl ⟨by decide, by decide⟩, _, _, rfl, rfl, _, _, rfl, rfl, _, _, rfl, rfl, ⟨by decide, by decide, mixA (by decide) (by decide) i0 hi (by decide) (by decide) (by decide) (by decide)⟩, ?_⟩⟩
          refine .inl ⟨_, rfl, _, _, rfl, rfl, (by show (0 : Int) < _; decide), ?_⟩
          refine ⟨_, rfl, _, rfl, _, _, rfl, rfl, .inl ⟨by decide, by decide⟩, _, _, rfl, rfl, _, _, rfl, rfl, mixD (by decide) (by decide), _, rfl, _, _, rfl, rfl, .inl ⟨by decide, by decide⟩, _, rfl, _, _, rfl, rfl, mixC i0 hi (by decide) (by decide), _, _, rfl, rfl, _, _, rfl, rfl, _, _, rfl, rfl, ⟨by decide, by decide, mixB (by decide) (by decide) i0 hi (by decide) (by decide) (by decide) (by decide) (by decide) (by decide) (by decide) (by decide)⟩, ?_⟩
          refine .inl ⟨_, rfl, _, _, rfl, rfl, (by show (0 : Int) < _; decide), ?_⟩
          refine ⟨_, rfl, _, _, rfl, rfl, ⟨by decide, by decide⟩, .inl ⟨_, rfl, _, rfl, _, _, rfl, rfl, hn, ?_⟩⟩
          exact k _ (i + 1) _ _ (Int.emod_nonneg _ (by omega)) (Int.emod_lt_of_pos _ hn) (by omega) h2 b2
end
end Toy

namespace Toy
open PySem L2 LB PyProof.Rows
abbrev s_is_letter_of : Stmt := top 29
theorem sc_is_letter_of : FnScope ["letters", "value"] ["letters", "value"] (defScope s_is_letter_of) := ⟨rfl, rfl, rfl, by decide +kernel, rfl, by decide +kernel, by decide +kernel⟩
abbrev s_are_unlike_letters : Stmt := top 36
theorem sc_are_unlike_letters : FnScope ["letters", "letter"] ["letters"] (defScope s_are_unlike_letters) := ⟨rfl, rfl, rfl, by decide +kernel, rfl, by decide +kernel, by decide +kernel⟩
abbrev s_ValuesDD_initDD : Stmt := inClass (top 33) 1
theorem sc_ValuesDD_initDD : FnScope ["self", "letters", "number"] ["self", "letters"] (defScope s_ValuesDD_initDD) := ⟨rfl, rfl, rfl, by decide +kernel, rfl, by decide +kernel, by decide +kernel⟩
abbrev s_CellDD_initDD : Stmt := inClass (top 34) 0
theorem sc_CellDD_initDD : FnScope ["self", "alphabet", "number", "k", "letter"] ["self", "alphabet", "number"] (defScope s_CellDD_initDD) := ⟨rfl, rfl, rfl, by decide +kernel, rfl, by decide +kernel, by decide +kernel⟩
abbrev s_Values_full : Stmt := inClass (top 33) 5
theorem sc_Values_full : FnScope ["self"] ["self"] (defScope s_Values_full) := ⟨rfl, rfl, rfl, by decide +kernel, rfl, by decide +kernel, by decide +kernel⟩
abbrev s_Values_empty : Stmt := inClass (top 33) 6
theorem sc_Values_empty : FnScope ["self"] ["self"] (defScope s_Values_empty) := ⟨rfl, rfl, rfl, by decide +kernel, rfl, by decide +kernel, by decide +kernel⟩
abbrev s_are_values_letters : Stmt := top 35
theorem sc_are_values_letters : FnScope ["letters"] ["letters"] (defScope s_are_values_letters) := ⟨rfl, rfl, rfl, by decide +kernel, rfl, by decide +kernel, by decide +kernel⟩

def isLet (L : Str) : V → Bool
  | .str z => decide (z.cps.size = 1) && decide (z.cps.getD 0 0 ∈ L.cps.toList)
  | _ => false
/-- a value of which it is known whether it is a text -/
def TextOr (K : PySem.W.Frag) (H : Hp) (x : V) : Prop := (∃ z : Str, x = .str z ∧ z.cps.size ≤ sizeLine) ∨ (∃ t, TyX K H x t ∧ PySem.W.kitOne K t (.type "str") = some false ∧ ∀ z, x ≠ .str z)
def spLet (K : PySem.W.Frag) : Sp := fun vs H Q _ => ∃ (L : Str) (x : V), vs = [.str L, x] ∧ TextOr K H x ∧ Q (.bl (isLet L x)) H
def SM : Str := ⟨small.toArray⟩
structure Consts (mg : Str → Option Value) (CV : Addr) (ts : Tok) : Prop where
  small : mg "SMALL_LETTERS" = some (.str SM ts)
  mgV : mg "Values" = some (.ref CV)
theorem same_upd {H H1 : Hp} {D : Addr} {o : HO} (h : Same H H1) (n : H D = none) : Same H (upd H1 D o) := fun b u e => by rw [upd_ne (ne_of_none e n)]; exact h b u e
def spUnl : Sp := fun vs H Q _ => ∃ z : Str, vs = [.str z] ∧ Good z ∧ ∀ H', Same H H' → Q (.bl true) H'
theorem isLet_small {c : Nat} (h : c ∈ small) : isLet SM (.str ⟨#[c]⟩) = true := by
  show (decide ((#[c] : Array Nat).size = 1) && decide ((#[c] : Array Nat).getD 0 0 ∈ (small.toArray).toList)) = true
  have : c ∈ (small.toArray).toList := by simpa using h
  simpa using this
theorem signs_nd {z : Str} (h : z.cps.toList.Nodup) : (LB.signs z).Nodup := by
  unfold LB.signs
  exact List.Pairwise.map _ (fun a b hab e => hab (by injection e with e; injection e with e; injection e)) h

structure VF (K : PySem.W.Frag) (CV CC : Addr) : Prop where
  cv : Cls K CV
  ne : CV ≠ CC
  cc : Cls K CC
  vl : NoAttr K CV "letters"
  vb : NoAttr K CV "by_number"
  ca : NoAttr K CC "alphabet"
  cn : NoAttr K CC "number"
  cl : NoAttr K CC "letters"
  most : ∃ mc u, ClX.CRead K CV mc ∧ ClX.CVal K CV mc "MOST" (.int 4) u
def spCell (CV CC : Addr) : Sp := fun vs H Q _ => ∃ (c p dc dx : Addr) (fs : List (Str × V)) (z : Str) (n : Nat), vs = [.ref c, .ref p, .int n] ∧ H c = some (.ins CC dc []) ∧ H p = some (.ins CV dx fs) ∧ fs.lookup ("letters" : Str) = some (.str z) ∧ Good z ∧ c ≠ p ∧
  ∀ H', But c H H' → H' c = some (.ins CC dc (cellF p n (cellT z n))) → Q .non H'
theorem But.same_of {p : Addr} {H H1 H2 : Hp} (a : But p H H1) (b : Same H1 H2) : But p H H2 := fun c o h n => b c o (a c o h n)
theorem sgs_len (l : List Nat) : (sgs l).length = l.length := by simp [sgs]

def spVals (CV CC : Addr) : Sp := fun vs H Q _ => ∃ (v dv : Addr) (z : Str), vs = [.ref v, .str z] ∧ H v = some (.ins CV dv []) ∧ Good z ∧ ∀ H' cs, But v H H' → ValsAt CV CC H' v z cs → Q .non H'
theorem same_upd' {p : Addr} {H H1 : Hp} {D : Addr} {o : HO} (h : But p H H1) (n : H D = none) : But p H (L2.upd H1 D o) := fun b u e k => by rw [upd_ne (ne_of_none e n)]; exact h b u e k
theorem But.at {p : Addr} {H H' : Hp} (a : But p H H') (b : Addr) {o : HO} (h : H b = some o) (n : b ≠ p) : H' b = some o := a b o h n
/-- n cells stand -/
structure CellsAt (CC : Addr) (H : Hp) (p : Addr) (z : Str) (n : Nat) (cs : List Addr) : Prop where
  len : cs.length = n
  cell : ∀ i c, cs[i]? = some c → CellAt CC H c p z i
theorem CellsAt.but {CC : Addr} {H H' : Hp} {p q : Addr} {z : Str} {n : Nat} {cs : List Addr} (h : CellsAt CC H p z n cs) (b : But q H H') (hq : ∀ i : Nat, cs[i]? ≠ some q) : CellsAt CC H' p z n cs :=
  ⟨h.len, fun i c e => let ⟨dc, k⟩ := h.cell i c e; ⟨dc, b _ _ k fun q' => hq i (q' ▸ e)⟩⟩

def spEnd (CV CC : Addr) (i : Int) : Sp := fun vs H Q _ => ∃ (p : Addr) (z : Str) (cs : List Addr) (c : Addr), vs = [.ref p] ∧ ValsAt CV CC H p z cs ∧ atI (cs.map V.ref) i = some (.ref c) ∧ Q (.ref c) H

section
variable {P : Program} {w : World} {K : PySem.W.Frag} {mg : Str → Option Value} {base : Heap}
theorem up {CX : CXT} {k : Nat} {f : Addr} {fd : FuncData} {ps : List Str} {sp : Sp} (F : FnOk P w K mg base CX k f fd ps sp) : FnOk P w K mg base CX (k + 1) f fd ps sp :=
  ⟨F.len, fun A outer s H args us vs Q E hr e0 hb r h => F.run A outer s H args us vs Q E (hr.mono (Nat.le_succ _)) e0 hb r h⟩
theorem ok_let {f : Addr} {fd : FuncData} (F : Fun K "is_letter_of" "is_letter_of" s_is_letter_of f fd) (B : Blt mg) : FnOk P w K mg base CX0 1 f fd ["letters", "value"] (spLet K) := by
  refine F.ok sc_is_letter_of (fun vs H Q E h => ?_) (fun cdv A outer s H vs Q E hr h => ?_)
  · obtain ⟨L, x, rfl, _⟩ := h
    rfl
  · obtain ⟨L, x, rfl, hx, k⟩ := h
    refine ⟨_, (pss_one (ps_ret (pe_and (pe_callB call_isi (by rfl) B.n_isinstance (by decide +kernel) (pa_cons (pv 1) (pa_cons (pe_bltn (v := .ty "str") (by rfl) B.n_str (by decide +kernel) rfl) pa_nil))) (pe_and (pe_cmpR op_eq (pe_callB call_len (by rfl) B.n_len (by decide +kernel) (pa_cons (pv 1) pa_nil)) pe_int (nomark _)) (pe_one (pe_cmpR op_in_sign (pv 1) (pv 0) (by rfl))))))), ?_⟩
    rcases hx with ⟨z, rfl, hz⟩ | ⟨t, ty, hk, hn⟩
    · refine ⟨_, rfl, _, _, _, _, true, rfl, .ty "str", .base (.str z), kit_ty (by decide +kernel), true, rfl, iteT ?_⟩
      refine ⟨_, rfl, _, _, rfl, ⟨hz, rfl⟩, rfl, _, rfl, ?_⟩
      have e1 : decide (V.int (z.cps.size : Nat) = V.int 1) = decide (z.cps.size = 1) := by
        by_cases h : z.cps.size = 1
        · rw [h]; rfl
        · rw [decide_eq_false h, decide_eq_false fun q => h (by injection q with q; omega)]
      show if decide (V.int (z.cps.size : Nat) = V.int 1) = true then _ else _
      rw [e1]
      refine ite2 (fun c => ?_) (fun c => ?_)
      · have c' : z.cps.size = 1 := of_decide_eq_true c
        have ez : z = ⟨#[z.cps.getD 0 0]⟩ := by
          obtain ⟨a⟩ := z
          have h1 : a.size = 1 := c'
          obtain ⟨l⟩ := a
          match l, h1 with
          | [y], _ => rfl
        refine ⟨.str z, rfl, _, rfl, z.cps.getD 0 0, L, by rw [← ez], rfl, ?_⟩
        have k' : Q (.bl (decide (z.cps.size = 1) && decide (z.cps.getD 0 0 ∈ L.cps.toList))) H := k
        rw [c, Bool.true_and] at k'
        exact k'
      · have k' : Q (.bl (decide (z.cps.size = 1) && decide (z.cps.getD 0 0 ∈ L.cps.toList))) H := k
        have c' : decide (z.cps.size = 1) = false := by simpa using c
        rw [c', Bool.false_and] at k'
        exact k'
    · refine ⟨_, rfl, _, _, _, _, false, rfl, .ty "str", ty, hk, false, rfl, iteF ?_⟩
      have e : isLet L x = false := by
        cases x <;> first | rfl | exact absurd rfl (hn _)
      rw [← e]
      exact k
theorem ok_unl {CV : Addr} {ts : Tok} {f : Addr} {fd : FuncData} (F : Fun K "are_unlike_letters" "are_unlike_letters" s_are_unlike_letters f fd) (B : Blt mg) (G : Consts mg CV ts) (D_is_letter_of : HasFn P w K mg base CX0 1 "is_letter_of" ["letters", "value"] (spLet K)) :
    FnOk P w K mg base CX0 2 f fd ["letters"] spUnl := by
  refine F.ok sc_are_unlike_letters (fun vs H Q E h => ?_) (fun cdv A outer s H vs Q E hr h => ?_)
  · obtain ⟨z, rfl, _⟩ := h
    rfl
  · obtain ⟨z, rfl, gz, k⟩ := h
    refine ⟨_, (pss_one (ps_ret (pe_and (pe_callB (cr_all rfl) (by rfl) B.n_all (by decide +kernel) (pa_cons (pe_lc rfl sc_are_unlike_letters.nd (pi_str (pv 0)) (blkOk_by (own := [("letter", 1)]) (N := ["letters", "letter"]) (sc := defScope s_are_unlike_letters) (by decide +kernel)) (fun _ _ _ _ _ => (pg_name (i := 1) sc_are_unlike_letters.nd rfl (.inl rfl))) (fun _ _ _ _ _ => pts_nil) (fun _ _ _ _ _ => (pe_fn D_is_letter_of (hr.mono (by decide)) pass0 (pa_cons (pe_glob (v := .str SM) rfl G.small ⟨_, rfl⟩) (pa_cons (pv 1) pa_nil))))) pa_nil)) (pe_one (pe_cmpR op_eq (pe_lenSetT rfl (by rfl) B.n_len (by rfl) B.n_set (pv 0)) (pe_callB call_len (by rfl) B.n_len (by decide +kernel) (pa_cons (pv 0) pa_nil)) (nomark _)))))), ?_⟩
    refine ⟨_, rfl, z, rfl, fun D hD => ?_⟩
    refine lc_str (fun i H' => H' D = some (.lst ((List.replicate i true).map V.bl)) ∧ Same H H') ⟨upd_same, same_new hD⟩ (fun i c H1 hc h1 => ?_) (fun H1 h1 => ?_)
    · refine ⟨rfl, ?_⟩
      have hci : c ∈ small := gz.az c (by rw [← Array.getElem?_toList] at hc; exact List.mem_of_getElem? hc)
      refine ⟨_, rfl, SM, _, rfl, .inl ⟨_, rfl, by show 1 ≤ sizeLine; decide⟩, ?_⟩
      rw [isLet_small hci]
      have hi : i < z.cps.size := (Array.getElem?_eq_some_iff.mp hc).1
      have := gz.hi
      refine ⟨_, h1.1, ?_, upd_same.trans ?_, same_upd h1.2 hD⟩
      · show _ < sizeLine
        have : 4 < sizeLine := by decide
        simp; omega
      · simp [List.replicate_succ']
    · refine ⟨_, _, rfl, SqL.of h1.1, ?_⟩
      refine ⟨true, by simp, iteT ?_⟩
      refine ⟨_, rfl, .inl ⟨z, rfl, by have := gz.hi; omega, ?_⟩⟩
      refine ⟨_, rfl, _, _, rfl, ⟨Nat.le_trans (show z.length ≤ 4 from gz.hi) (by decide), rfl⟩, rfl, ?_⟩
      have e1 : decide (V.int ((dd (LB.signs z)).length : Nat) = V.int (z.length : Nat)) = true := by
        rw [dd_nodup (signs_nd gz.nd), signs_len]
        exact decide_eq_true rfl
      show Q (.bl (decide (V.int ((dd (LB.signs z)).length : Nat) = V.int (z.length : Nat)))) H1
      rw [e1]
      exact k H1 h1.2
theorem ok_cell {CV CC : Addr} {f : Addr} {fd : FuncData} (F : Fun K "__init__" "Cell.__init__" s_CellDD_initDD f fd) (B : Blt mg) (VV : VF K CV CC) :
    FnOk P w K mg base CX0 1 f fd ["self", "alphabet", "number"] (spCell CV CC) := by
  refine F.ok sc_CellDD_initDD (fun vs H Q E h => ?_) (fun cdv A outer s H vs Q E hr h => ?_)
  · obtain ⟨c, p, dc, dx, fs, z, n, rfl, _⟩ := h
    rfl
  · obtain ⟨c, p, dc, dx, fs, z, n, rfl, hc, hp, hl, gz, ne, k⟩ := h
    refine ⟨_, (pss_cons (ps_fld (pv 0) (pv 1) rfl)
      (pss_cons (ps_fld (pv 0) (pv 2) rfl)
      (pss_one (ps_fld (pv 0) (pe_join pe_str (pe_lc rfl sc_CellDD_initDD.nd (pi_enumS (by rfl) B.n_enumerate (pa_cons (pe_fld (pv 1) rfl) pa_nil)) (blkOk_by (own := [("k", 3), ("letter", 4)]) (N := ["self", "alphabet", "number", "k", "letter"]) (sc := defScope s_CellDD_initDD) (by decide +kernel)) (fun _ _ _ _ _ => (pg_tupB (n := 2) rfl (pgs_cons (pg_name (i := 3) sc_CellDD_initDD.nd rfl (.inl rfl)) (pgs_cons (pg_name (i := 4) sc_CellDD_initDD.nd rfl (.inl rfl)) pgs_nil)))) (fun _ _ _ _ _ => (pts_one (pt_truthB (pe_op op_and (pe_op op_shr (pv 2) (pv 3)) pe_int) (by intro _; rfl)))) (fun _ _ _ _ _ => (pv 4)))) rfl)))), ?_⟩
    refine ⟨_, rfl, _, rfl, c, CC, dc, [], rfl, hc, VV.cc, VV.ca, by decide, ?_⟩
    refine ⟨_, rfl, _, rfl, c, CC, dc, _, rfl, upd_same, VV.cc, VV.cn, by show 1 < 1000; decide, ?_⟩
    have b2 : But c H (upd (upd H c (.ins CC dc (putF "alphabet" (.ref p) []))) c (.ins CC dc (putF "number" (.int n) (putF "alphabet" (.ref p) [])))) := But.upd.trans .upd
    refine ⟨⟨_, rfl⟩, _, rfl, p, CV, dx, fs, _, rfl, b2 _ _ hp ne.symm, VV.cv, VV.vl, hl, z, rfl, fun D hD => ?_⟩
    have h2 := upd_same (a := c) (o := HO.ins CC dc (putF "number" (.int n) (putF "alphabet" (.ref p) []))) (H := upd H c (.ins CC dc (putF "alphabet" (.ref p) [])))
    generalize (upd (upd H c (.ins CC dc (putF "alphabet" (.ref p) []))) c (.ins CC dc (putF "number" (.int n) (putF "alphabet" (.ref p) [])))) = H2 at b2 hD h2 ⊢
    refine lc_enumS (fun i H' => H' D = some (.lst ((sgs (subL z n i)).map V.str)) ∧ Same H2 H') ⟨upd_same, same_new hD⟩ (fun i x T H1 hx h1 hT => ?_) (fun H1 h1 => ?_)
    · refine ⟨T, _, rfl, SqT.of upd_same, rfl, ?_⟩
      refine ⟨_, _, rfl, _, _, rfl, rfl, rfl, ?_⟩
      have h1' : Same H2 (upd H1 T (.tup [.int (i : Nat), .str ⟨#[x]⟩])) := h1.2.trans (same_new hT)
      have hDT : D ≠ T := ne_of_none h1.1 hT
      have h1D : upd H1 T (.tup [.int (i : Nat), .str ⟨#[x]⟩]) D = some (.lst ((sgs (subL z n i)).map V.str)) := by rw [upd_ne hDT]; exact h1.1
      refine ⟨_, rfl, _, rfl, _, _, rfl, rfl, Int.natCast_nonneg _, _, _, rfl, rfl, ?_⟩
      show ∃ k, TruV K (V.int (Builtin.bitAnd ((n : Int) / 2 ^ ((i : Int)).toNat) 1)) _ k ∧ _
      rw [bit_shift]
      refine ⟨n.testBit i, ?_, ?_⟩
      · cases n.testBit i <;> exact rfl
      have ez : z.cps.getD i 0 = x := by rw [Array.getD_eq_getD_getElem?, hx]; rfl
      have hi : i < z.cps.size := (Array.getElem?_eq_some_iff.mp hx).1
      have hl5 : ((sgs (subL z n i)).map V.str).length < sizeLine := by
        rw [List.length_map, sgs_len]
        have := subL_len z n i
        have := gz.hi
        have : 4 < sizeLine := by decide
        omega
      cases hb : n.testBit i with
      | true =>
        refine ⟨_, rfl, _, h1D, hl5, ?_, same_upd h1' hD⟩
        rw [upd_same, subL_succ, if_pos hb, sgs_append, List.map_append, ez]
        rfl
      | false =>
        refine ⟨?_, h1'⟩
        rw [h1D, subL_succ, if_neg (by rw [hb]; decide), List.append_nil]
    · refine ⟨_, D, sgs (subL z n z.cps.size), rfl, rfl, .inl (SqL.of h1.1), ?_, ?_⟩
      · show (((sgs (subL z n z.cps.size)).map (·.length)).sum + (sgs (subL z n z.cps.size)).length * 0) ≤ 16777216
        have e : ∀ l : List Nat, ((sgs l).map (·.length)).sum = l.length := by
          intro l
          induction l with
          | nil => rfl
          | cons c r ih => show 1 + ((sgs r).map (·.length)).sum = _; rw [ih, List.length_cons]; omega
        rw [e]
        have := subL_len z n z.cps.size
        have := gz.hi
        omega
      show tVar 0 _ _ _
      have ej : Txt.join (Str.ofString "") (sgs (subL z n z.cps.size)) = cellT z n := join_sgs _
      rw [ej]
      refine ⟨_, rfl, c, CC, dc, _, rfl, h1.2 _ _ h2, VV.cc, VV.cl, by show 2 < 1000; decide, ?_⟩
      refine k _ (But.trans (But.same_of (H1 := H2) b2 h1.2) But.upd) ?_
      rw [upd_same]
      rfl
theorem ok_avl {CV CC : Addr} {ts : Tok} {f : Addr} {fd : FuncData} (F : Fun K "are_values_letters" "are_values_letters" s_are_values_letters f fd) (B : Blt mg) (VV : VF K CV CC) (G : Consts mg CV ts)
    (D_are_unlike_letters : HasFn P w K mg base CX0 2 "are_unlike_letters" ["letters"] spUnl) : FnOk P w K mg base CX0 3 f fd ["letters"] spUnl := by
  refine F.ok sc_are_values_letters (fun vs H Q E h => ?_) (fun cdv A outer s H vs Q E hr h => ?_)
  · obtain ⟨z, rfl, _⟩ := h
    rfl
  · obtain ⟨z, rfl, gz, k⟩ := h
    refine ⟨_, (pss_one (ps_ret (pe_and (pe_callB call_isi (by rfl) B.n_isinstance (by decide +kernel) (pa_cons (pv 0) (pa_cons (pe_bltn (v := .ty "str") (by rfl) B.n_str (by decide +kernel) rfl) pa_nil))) (pe_and (pe_chain op_le op_le pe_int (pe_callB call_len (by rfl) B.n_len (by decide +kernel) (pa_cons (pv 0) pa_nil)) (ClX.pe_cval (pe_glob (v := .ref _) rfl G.mgV rfl) rfl)) (pe_one (pe_fn D_are_unlike_letters (hr.mono (by decide)) pass0 (pa_cons (pv 0) pa_nil))))))), ?_⟩
    have lo := gz.lo
    have hi := gz.hi
    have zl : z.length ≤ sizeLine := Nat.le_trans (show z.length ≤ 4 from gz.hi) (by decide)
    refine ⟨_, rfl, _, _, _, _, true, rfl, .ty "str", .base (.str z), kit_ty (by decide +kernel), true, rfl, iteT ?_⟩
    have d2 : decide ((2 : Int) ≤ (z.length : Nat)) = true := decide_eq_true (by show (2 : Int) ≤ ((z.cps.size : Nat) : Int); omega)
    have d4 : decide (((z.length : Nat) : Int) ≤ 4) = true := decide_eq_true (by show ((z.cps.size : Nat) : Int) ≤ 4; omega)
    refine ⟨_, rfl, _, _, rfl, ⟨zl, rfl⟩, _, _, rfl, rfl, true, congrArg V.bl d2, iteT ?_⟩
    obtain ⟨mc, u, cr, cv⟩ := VV.most
    exact ⟨CV, mc, _, u, rfl, cr, cv, _, _, rfl, rfl, true, congrArg V.bl d4, iteT ⟨_, rfl, z, rfl, gz, k⟩⟩
theorem ok_vals {CV CC : Addr} {ts : Tok} {f : Addr} {fd : FuncData} (F : Fun K "__init__" "Values.__init__" s_ValuesDD_initDD f fd) (B : Blt mg) (VV : VF K CV CC) (G : Consts mg CV ts)
    (D_are_values_letters : HasFn P w K mg base CX0 3 "are_values_letters" ["letters"] spUnl) (M_Cell : HasMk P w K mg base CX0 1 CC "Cell" ["self", "alphabet", "number"] (spCell CV CC)) :
    FnOk P w K mg base CX0 4 f fd ["self", "letters"] (spVals CV CC) := by
  refine F.ok sc_ValuesDD_initDD (fun vs H Q E h => ?_) (fun cdv A outer s H vs Q E hr h => ?_)
  · obtain ⟨v, dv, z, rfl, _⟩ := h
    rfl
  · obtain ⟨v, dv, z, rfl, hv, gz, k⟩ := h
    refine ⟨_, (pss_cons (ps_if (pt_not (pt_val (pe_fn D_are_values_letters (hr.mono (by decide)) pass0 (pa_cons (pv 1) pa_nil)))) (pss_one ps_never) pss_nil)
      (pss_cons (ps_fld (pv 0) (pv 1) rfl)
      (pss_one (ps_fld (pv 0) (pe_callTy call_tuple_of (by rfl) B.n_tuple (by decide +kernel) (pa_cons (pe_lc rfl sc_ValuesDD_initDD.nd (pi_range1 (by rfl) B.n_range (pa_cons (pe_op op_shl pe_int (pe_callB call_len (by rfl) B.n_len (by decide +kernel) (pa_cons (pv 1) pa_nil))) pa_nil)) (blkOk_by (own := [("number", 2)]) (N := ["self", "letters", "number"]) (sc := defScope s_ValuesDD_initDD) (by decide +kernel)) (fun _ _ _ _ _ => (pg_name (i := 2) sc_ValuesDD_initDD.nd rfl (.inl rfl))) (fun _ _ _ _ _ => pts_nil) (fun _ _ _ _ _ => (pe_mk M_Cell (hr.mono (by decide)) pass0 (pa_cons (pv 0) (pa_cons (pv 2) pa_nil))))) pa_nil)) rfl)))), ?_⟩
    have lo := gz.lo
    have hi := gz.hi
    have zl : z.length ≤ sizeLine := Nat.le_trans (show z.length ≤ 4 from gz.hi) (by decide)
    refine ⟨_, rfl, z, rfl, gz, fun H1 s1 => ⟨true, rfl, ?_⟩⟩
    refine ⟨_, rfl, _, rfl, v, CV, dv, [], rfl, s1 _ _ hv, VV.cv, VV.vl, by decide, ?_⟩
    have b2 : But v H (upd H1 v (.ins CV dv (putF "letters" (.str z) []))) := (But.of_same s1).trans .upd
    have h2 := upd_same (a := v) (o := HO.ins CV dv (putF "letters" (.str z) [])) (H := H1)
    generalize (upd H1 v (.ins CV dv (putF "letters" (.str z) []))) = H2 at b2 h2 ⊢
    have pw2 : ((1 : Int) * 2 ^ ((z.length : Nat) : Int).toNat) = ((2 ^ z.cps.size : Nat) : Int) := by
      rw [Int.toNat_natCast, Int.one_mul]
      show (2 : Int) ^ z.cps.size = _
      simp
    have p16 : 2 ^ z.cps.size ≤ 2 ^ 4 := Nat.pow_le_pow_right (by decide) hi
    have p16i : ((2 ^ z.cps.size : Nat) : Int) ≤ 16 := Int.ofNat_le.mpr p16
    have p16j : (0 : Int) ≤ ((2 ^ z.cps.size : Nat) : Int) := Int.natCast_nonneg _
    refine ⟨_, rfl, _, _, rfl, ⟨zl, rfl⟩, _, _, rfl, rfl, ⟨Int.natCast_nonneg _, by show ((z.cps.size : Nat) : Int) ≤ 1000000; omega, by decide⟩, ((2 ^ z.cps.size : Nat) : Int), by rw [← pw2], Int.le_trans (by decide) p16j, Int.lt_of_le_of_lt p16i (by decide), ?_⟩
    rw [Int.toNat_natCast]
    intro D hD
    refine lc_range (fun i H' => ∃ cs : List Addr, H' D = some (.lst (cs.map V.ref)) ∧ H' v = some (.ins CV dv (putF "letters" (.str z) [])) ∧ But v H2 H' ∧ CellsAt CC H' v z i cs) ⟨[], upd_same, same_new hD _ _ h2, But.new hD, rfl, fun i c e => by cases e⟩ (fun i H3 hi h3 => ?_) (fun H3 h3 => ?_)
    · obtain ⟨cs, hD3, hv3, b3, c3⟩ := h3
      refine ⟨rfl, ?_⟩
      refine ⟨_, rfl, _, rfl, fun x dx hx hdx hne => ?_⟩
      have vx : v ≠ x := ne_of_none hv3 hx
      have vdx : v ≠ dx := ne_of_none hv3 hdx
      refine ⟨x, v, dx, dv, _, z, i, by rw [Int.zero_add]; rfl, upd_same, by rw [upd_ne vx, upd_ne vdx]; exact hv3, by rw [lookup_putF, if_pos rfl], gz, vx.symm, fun H4 b4 hx4 => ⟨rfl, ?_⟩⟩
      have s4 : Same H3 H4 := fun b o e => b4 b o (by rw [upd_ne (ne_of_none e hx), upd_ne (ne_of_none e hdx)]; exact e) (ne_of_none e hx)
      have xD : x ≠ D := (ne_of_none hD3 hx).symm
      have vD : v ≠ D := fun q => by rw [q, hD3] at hv3; cases hv3
      have len : (cs.map V.ref).length < sizeLine := by
        rw [List.length_map, c3.len]
        exact Nat.lt_of_lt_of_le (Nat.lt_of_lt_of_le hi p16) (by decide)
      refine ⟨_, s4 _ _ hD3, len, cs ++ [x], by rw [upd_same, List.map_append]; rfl, by rw [upd_ne vD]; exact s4 _ _ hv3, ?_, by rw [List.length_append, c3.len]; rfl, fun j c e => ?_⟩
      · exact fun b o e n => same_upd' (But.same_of (H1 := H3) b3 s4) hD b o e n
      · by_cases hj : j < cs.length
        · rw [List.getElem?_append_left hj] at e
          obtain ⟨dc, q⟩ := c3.cell j c e
          refine ⟨dc, ?_⟩
          rw [upd_ne (fun q' => by rw [q', hD3] at q; cases q)]
          exact s4 _ _ q
        · rw [List.getElem?_append_right (Nat.le_of_not_lt hj)] at e
          have hj0 : j - cs.length = 0 := by
            cases hjj : j - cs.length with
            | zero => rfl
            | succ m => rw [hjj] at e; cases e
          rw [hj0] at e
          have ex : x = c := by cases e; rfl
          have ej : j = i := by have := c3.len; omega
          subst ex; subst ej
          refine ⟨dx, ?_⟩
          rw [upd_ne xD]
          exact hx4
    · obtain ⟨cs, hD3, hv3, b3, c3⟩ := h3
      refine ⟨D, _, rfl, .inl ⟨SqL.of hD3, fun l hl => ?_⟩⟩
      have vl : v ≠ l := ne_of_none hv3 hl
      refine ⟨_, rfl, v, CV, dv, _, rfl, by rw [upd_ne vl]; exact hv3, VV.cv, VV.vb, by show 1 < 1000; decide, ?_⟩
      refine k _ cs ((b2.trans b3).trans ((But.new hl).trans .upd)) ⟨⟨dv, l, upd_same, by rw [upd_ne vl.symm, upd_same]⟩, gz, c3.len, fun j c e => ?_⟩
      obtain ⟨dc, q⟩ := c3.cell j c e
      refine ⟨dc, ?_⟩
      rw [upd_ne (fun q' => by rw [q', hv3] at q; injection q with q; injection q with q1 q2 q3; exact VV.ne q1), upd_ne (ne_of_none q hl)]
      exact q
theorem ok_full {CV CC : Addr} {f : Addr} {fd : FuncData} (F : Fun K "full" "Values.full" s_Values_full f fd) (B : Blt mg) (VV : VF K CV CC) :
    FnOk P w K mg base CX0 1 f fd ["self"] (spEnd CV CC (-1)) := by
  refine F.ok sc_Values_full (fun vs H Q E h => ?_) (fun cdv A outer s H vs Q E hr h => ?_)
  · obtain ⟨p, z, cs, c, rfl, _⟩ := h
    rfl
  · obtain ⟨p, z, cs, c, rfl, hp, hi, k⟩ := h
    obtain ⟨dx, t, e1, e2⟩ := hp.ob
    refine ⟨_, (pss_one (ps_ret (pe_ix ix_tup (pe_fld (pv 0) rfl) (pe_un un_neg pe_int) (fun _ _ => rfl)))), ?_⟩
    exact ⟨_, rfl, p, CV, dx, _, _, rfl, e1, VV.cv, VV.vb, valF_by, _, rfl, t, _, _, _, rfl, rfl, SqT.of e2, hi, k⟩
theorem ok_empty {CV CC : Addr} {f : Addr} {fd : FuncData} (F : Fun K "empty" "Values.empty" s_Values_empty f fd) (B : Blt mg) (VV : VF K CV CC) :
    FnOk P w K mg base CX0 1 f fd ["self"] (spEnd CV CC (0)) := by
  refine F.ok sc_Values_empty (fun vs H Q E h => ?_) (fun cdv A outer s H vs Q E hr h => ?_)
  · obtain ⟨p, z, cs, c, rfl, _⟩ := h
    rfl
  · obtain ⟨p, z, cs, c, rfl, hp, hi, k⟩ := h
    obtain ⟨dx, t, e1, e2⟩ := hp.ob
    refine ⟨_, (pss_one (ps_ret (pe_ix ix_tup (pe_fld (pv 0) rfl) pe_int (fun _ _ => rfl)))), ?_⟩
    exact ⟨_, rfl, p, CV, dx, _, _, rfl, e1, VV.cv, VV.vb, valF_by,  t, _, _, _, rfl, rfl, SqT.of e2, hi, k⟩
end
end Toy

namespace Toy
open PySem L2 LB PyProof.Rows
abbrev s_BadValuesDD_initDD : Stmt := inClass (top 7) 0
theorem sc_BadValuesDD_initDD : FnScope ["self", "value"] ["self", "value"] (defScope s_BadValuesDD_initDD) := ⟨rfl, rfl, rfl, by decide +kernel, rfl, by decide +kernel, by decide +kernel⟩
abbrev s_BadCellDD_initDD : Stmt := inClass (top 9) 0
theorem sc_BadCellDD_initDD : FnScope ["self", "value"] ["self", "value"] (defScope s_BadCellDD_initDD) := ⟨rfl, rfl, rfl, by decide +kernel, rfl, by decide +kernel, by decide +kernel⟩
abbrev s_BadLineDD_initDD : Stmt := inClass (top 10) 0
theorem sc_BadLineDD_initDD : FnScope ["self", "at"] ["self", "at"] (defScope s_BadLineDD_initDD) := ⟨rfl, rfl, rfl, by decide +kernel, rfl, by decide +kernel, by decide +kernel⟩
abbrev s_BadWordDD_initDD : Stmt := inClass (top 11) 0
theorem sc_BadWordDD_initDD : FnScope ["self", "at"] ["self", "at"] (defScope s_BadWordDD_initDD) := ⟨rfl, rfl, rfl, by decide +kernel, rfl, by decide +kernel, by decide +kernel⟩
abbrev s_BadMachineDD_initDD : Stmt := inClass (top 12) 0
theorem sc_BadMachineDD_initDD : FnScope ["self", "part"] ["self", "part"] (defScope s_BadMachineDD_initDD) := ⟨rfl, rfl, rfl, by decide +kernel, rfl, by decide +kernel, by decide +kernel⟩
abbrev s_BadClueDD_initDD : Stmt := inClass (top 13) 0
theorem sc_BadClueDD_initDD : FnScope ["self", "part"] ["self", "part"] (defScope s_BadClueDD_initDD) := ⟨rfl, rfl, rfl, by decide +kernel, rfl, by decide +kernel, by decide +kernel⟩
abbrev s_BadRuleDD_initDD : Stmt := inClass (top 14) 0
theorem sc_BadRuleDD_initDD : FnScope ["self", "part"] ["self", "part"] (defScope s_BadRuleDD_initDD) := ⟨rfl, rfl, rfl, by decide +kernel, rfl, by decide +kernel, by decide +kernel⟩
abbrev s_BadBookDD_initDD : Stmt := inClass (top 15) 0
theorem sc_BadBookDD_initDD : FnScope ["self", "at"] ["self", "at"] (defScope s_BadBookDD_initDD) := ⟨rfl, rfl, rfl, by decide +kernel, rfl, by decide +kernel, by decide +kernel⟩
abbrev s_BadNumberDD_initDD : Stmt := inClass (top 16) 0
theorem sc_BadNumberDD_initDD : FnScope ["self", "part"] ["self", "part"] (defScope s_BadNumberDD_initDD) := ⟨rfl, rfl, rfl, by decide +kernel, rfl, by decide +kernel, by decide +kernel⟩
abbrev s_NoCellDD_initDD : Stmt := inClass (top 17) 0
theorem sc_NoCellDD_initDD : FnScope ["self", "at"] ["self", "at"] (defScope s_NoCellDD_initDD) := ⟨rfl, rfl, rfl, by decide +kernel, rfl, by decide +kernel, by decide +kernel⟩
abbrev s_UnlikeDD_initDD : Stmt := inClass (top 18) 0
theorem sc_UnlikeDD_initDD : FnScope ["self", "part"] ["self", "part"] (defScope s_UnlikeDD_initDD) := ⟨rfl, rfl, rfl, by decide +kernel, rfl, by decide +kernel, by decide +kernel⟩
abbrev s_BadTextDD_initDD : Stmt := inClass (top 19) 0
theorem sc_BadTextDD_initDD : FnScope ["self", "line", "word"] ["self", "line", "word"] (defScope s_BadTextDD_initDD) := ⟨rfl, rfl, rfl, by decide +kernel, rfl, by decide +kernel, by decide +kernel⟩
abbrev s_BadSayDD_initDD : Stmt := inClass (top 20) 0
theorem sc_BadSayDD_initDD : FnScope ["self", "word"] ["self", "word"] (defScope s_BadSayDD_initDD) := ⟨rfl, rfl, rfl, by decide +kernel, rfl, by decide +kernel, by decide +kernel⟩
abbrev s_ClashDD_initDD : Stmt := inClass (top 21) 0
theorem sc_ClashDD_initDD : FnScope ["self", "place"] ["self", "place"] (defScope s_ClashDD_initDD) := ⟨rfl, rfl, rfl, by decide +kernel, rfl, by decide +kernel, by decide +kernel⟩
abbrev s_TooManyDD_initDD : Stmt := inClass (top 22) 0
theorem sc_TooManyDD_initDD : FnScope ["self", "what", "most"] ["self", "what", "most"] (defScope s_TooManyDD_initDD) := ⟨rfl, rfl, rfl, by decide +kernel, rfl, by decide +kernel, by decide +kernel⟩
abbrev s_NoRuleDD_initDD : Stmt := inClass (top 23) 0
theorem sc_NoRuleDD_initDD : FnScope ["self", "rule"] ["self", "rule"] (defScope s_NoRuleDD_initDD) := ⟨rfl, rfl, rfl, by decide +kernel, rfl, by decide +kernel, by decide +kernel⟩
abbrev s_NothingToldDD_initDD : Stmt := inClass (top 25) 0
theorem sc_NothingToldDD_initDD : FnScope ["self", "what"] ["self", "what"] (defScope s_NothingToldDD_initDD) := ⟨rfl, rfl, rfl, by decide +kernel, rfl, by decide +kernel, by decide +kernel⟩
abbrev s_StruckDD_initDD : Stmt := inClass (top 5) 0
theorem sc_StruckDD_initDD : FnScope ["self", "place", "number"] ["self", "place", "number"] (defScope s_StruckDD_initDD) := ⟨rfl, rfl, rfl, by decide +kernel, rfl, by decide +kernel, by decide +kernel⟩
abbrev s_BarredDD_initDD : Stmt := inClass (top 6) 0
theorem sc_BarredDD_initDD : FnScope ["self", "place", "value"] ["self", "place", "value"] (defScope s_BarredDD_initDD) := ⟨rfl, rfl, rfl, by decide +kernel, rfl, by decide +kernel, by decide +kernel⟩
section
variable {P : Program} {w : World} {K : PySem.W.Frag} {mg : Str → Option Value} {base : Heap}
theorem ok_BadValues {C : Addr} {f : Addr} {fd : FuncData} (F : Fun K "__init__" "BadValues.__init__" s_BadValuesDD_initDD f fd) (T : OexC K C) (hf : PySem.W.findIn K (.ref C) "value" = some none) : FnOk P w K mg base CX0 1 f fd ["self", "value"] (spE1 C "value") := by
  refine F.ok sc_BadValuesDD_initDD (fun vs H Q E h => ?_) (fun cdv A outer s H vs Q E hr h => ?_)
  · obtain ⟨a, x, rfl, _⟩ := h
    rfl
  · obtain ⟨a, x, rfl, ha, k⟩ := h
    refine ⟨_, (pss_one (ps_ost (pv 0) (pv 1))), ?_⟩
    exact ⟨_, rfl, _, rfl, a, C, rfl, T, hf, .inl ⟨ha, fun dx hd ne => k _ ((But.new hd).trans .upd) ⟨some dx, upd_same, .inr ⟨dx, rfl, by rw [upd_ne ne, upd_same]⟩⟩⟩⟩
theorem ok_BadCell {C : Addr} {f : Addr} {fd : FuncData} (F : Fun K "__init__" "BadCell.__init__" s_BadCellDD_initDD f fd) (T : OexC K C) (hf : PySem.W.findIn K (.ref C) "value" = some none) : FnOk P w K mg base CX0 1 f fd ["self", "value"] (spE1 C "value") := by
  refine F.ok sc_BadCellDD_initDD (fun vs H Q E h => ?_) (fun cdv A outer s H vs Q E hr h => ?_)
  · obtain ⟨a, x, rfl, _⟩ := h
    rfl
  · obtain ⟨a, x, rfl, ha, k⟩ := h
    refine ⟨_, (pss_one (ps_ost (pv 0) (pv 1))), ?_⟩
    exact ⟨_, rfl, _, rfl, a, C, rfl, T, hf, .inl ⟨ha, fun dx hd ne => k _ ((But.new hd).trans .upd) ⟨some dx, upd_same, .inr ⟨dx, rfl, by rw [upd_ne ne, upd_same]⟩⟩⟩⟩
theorem ok_BadLine {C : Addr} {f : Addr} {fd : FuncData} (F : Fun K "__init__" "BadLine.__init__" s_BadLineDD_initDD f fd) (T : OexC K C) (hf : PySem.W.findIn K (.ref C) "at" = some none) : FnOk P w K mg base CX0 1 f fd ["self", "at"] (spE1 C "at") := by
  refine F.ok sc_BadLineDD_initDD (fun vs H Q E h => ?_) (fun cdv A outer s H vs Q E hr h => ?_)
  · obtain ⟨a, x, rfl, _⟩ := h
    rfl
  · obtain ⟨a, x, rfl, ha, k⟩ := h
    refine ⟨_, (pss_one (ps_ost (pv 0) (pv 1))), ?_⟩
    exact ⟨_, rfl, _, rfl, a, C, rfl, T, hf, .inl ⟨ha, fun dx hd ne => k _ ((But.new hd).trans .upd) ⟨some dx, upd_same, .inr ⟨dx, rfl, by rw [upd_ne ne, upd_same]⟩⟩⟩⟩
theorem ok_BadWord {C : Addr} {f : Addr} {fd : FuncData} (F : Fun K "__init__" "BadWord.__init__" s_BadWordDD_initDD f fd) (T : OexC K C) (hf : PySem.W.findIn K (.ref C) "at" = some none) : FnOk P w K mg base CX0 1 f fd ["self", "at"] (spE1 C "at") := by
  refine F.ok sc_BadWordDD_initDD (fun vs H Q E h => ?_) (fun cdv A outer s H vs Q E hr h => ?_)
  · obtain ⟨a, x, rfl, _⟩ := h
    rfl
  · obtain ⟨a, x, rfl, ha, k⟩ := h
    refine ⟨_, (pss_one (ps_ost (pv 0) (pv 1))), ?_⟩
    exact ⟨_, rfl, _, rfl, a, C, rfl, T, hf, .inl ⟨ha, fun dx hd ne => k _ ((But.new hd).trans .upd) ⟨some dx, upd_same, .inr ⟨dx, rfl, by rw [upd_ne ne, upd_same]⟩⟩⟩⟩
theorem ok_BadMachine {C : Addr} {f : Addr} {fd : FuncData} (F : Fun K "__init__" "BadMachine.__init__" s_BadMachineDD_initDD f fd) (T : OexC K C) (hf : PySem.W.findIn K (.ref C) "part" = some none) : FnOk P w K mg base CX0 1 f fd ["self", "part"] (spE1 C "part") := by
  refine F.ok sc_BadMachineDD_initDD (fun vs H Q E h => ?_) (fun cdv A outer s H vs Q E hr h => ?_)
  · obtain ⟨a, x, rfl, _⟩ := h
    rfl
  · obtain ⟨a, x, rfl, ha, k⟩ := h
    refine ⟨_, (pss_one (ps_ost (pv 0) (pv 1))), ?_⟩
    exact ⟨_, rfl, _, rfl, a, C, rfl, T, hf, .inl ⟨ha, fun dx hd ne => k _ ((But.new hd).trans .upd) ⟨some dx, upd_same, .inr ⟨dx, rfl, by rw [upd_ne ne, upd_same]⟩⟩⟩⟩
theorem ok_BadClue {C : Addr} {f : Addr} {fd : FuncData} (F : Fun K "__init__" "BadClue.__init__" s_BadClueDD_initDD f fd) (T : OexC K C) (hf : PySem.W.findIn K (.ref C) "part" = some none) : FnOk P w K mg base CX0 1 f fd ["self", "part"] (spE1 C "part") := by
  refine F.ok sc_BadClueDD_initDD (fun vs H Q E h => ?_) (fun cdv A outer s H vs Q E hr h => ?_)
  · obtain ⟨a, x, rfl, _⟩ := h
    rfl
  · obtain ⟨a, x, rfl, ha, k⟩ := h
    refine ⟨_, (pss_one (ps_ost (pv 0) (pv 1))), ?_⟩
    exact ⟨_, rfl, _, rfl, a, C, rfl, T, hf, .inl ⟨ha, fun dx hd ne => k _ ((But.new hd).trans .upd) ⟨some dx, upd_same, .inr ⟨dx, rfl, by rw [upd_ne ne, upd_same]⟩⟩⟩⟩
theorem ok_BadRule {C : Addr} {f : Addr} {fd : FuncData} (F : Fun K "__init__" "BadRule.__init__" s_BadRuleDD_initDD f fd) (T : OexC K C) (hf : PySem.W.findIn K (.ref C) "part" = some none) : FnOk P w K mg base CX0 1 f fd ["self", "part"] (spE1 C "part") := by
  refine F.ok sc_BadRuleDD_initDD (fun vs H Q E h => ?_) (fun cdv A outer s H vs Q E hr h => ?_)
  · obtain ⟨a, x, rfl, _⟩ := h
    rfl
  · obtain ⟨a, x, rfl, ha, k⟩ := h
    refine ⟨_, (pss_one (ps_ost (pv 0) (pv 1))), ?_⟩
    exact ⟨_, rfl, _, rfl, a, C, rfl, T, hf, .inl ⟨ha, fun dx hd ne => k _ ((But.new hd).trans .upd) ⟨some dx, upd_same, .inr ⟨dx, rfl, by rw [upd_ne ne, upd_same]⟩⟩⟩⟩
theorem ok_BadBook {C : Addr} {f : Addr} {fd : FuncData} (F : Fun K "__init__" "BadBook.__init__" s_BadBookDD_initDD f fd) (T : OexC K C) (hf : PySem.W.findIn K (.ref C) "at" = some none) : FnOk P w K mg base CX0 1 f fd ["self", "at"] (spE1 C "at") := by
  refine F.ok sc_BadBookDD_initDD (fun vs H Q E h => ?_) (fun cdv A outer s H vs Q E hr h => ?_)
  · obtain ⟨a, x, rfl, _⟩ := h
    rfl
  · obtain ⟨a, x, rfl, ha, k⟩ := h
    refine ⟨_, (pss_one (ps_ost (pv 0) (pv 1))), ?_⟩
    exact ⟨_, rfl, _, rfl, a, C, rfl, T, hf, .inl ⟨ha, fun dx hd ne => k _ ((But.new hd).trans .upd) ⟨some dx, upd_same, .inr ⟨dx, rfl, by rw [upd_ne ne, upd_same]⟩⟩⟩⟩
theorem ok_BadNumber {C : Addr} {f : Addr} {fd : FuncData} (F : Fun K "__init__" "BadNumber.__init__" s_BadNumberDD_initDD f fd) (T : OexC K C) (hf : PySem.W.findIn K (.ref C) "part" = some none) : FnOk P w K mg base CX0 1 f fd ["self", "part"] (spE1 C "part") := by
  refine F.ok sc_BadNumberDD_initDD (fun vs H Q E h => ?_) (fun cdv A outer s H vs Q E hr h => ?_)
  · obtain ⟨a, x, rfl, _⟩ := h
    rfl
  · obtain ⟨a, x, rfl, ha, k⟩ := h
    refine ⟨_, (pss_one (ps_ost (pv 0) (pv 1))), ?_⟩
    exact ⟨_, rfl, _, rfl, a, C, rfl, T, hf, .inl ⟨ha, fun dx hd ne => k _ ((But.new hd).trans .upd) ⟨some dx, upd_same, .inr ⟨dx, rfl, by rw [upd_ne ne, upd_same]⟩⟩⟩⟩
theorem ok_NoCell {C : Addr} {f : Addr} {fd : FuncData} (F : Fun K "__init__" "NoCell.__init__" s_NoCellDD_initDD f fd) (T : OexC K C) (hf : PySem.W.findIn K (.ref C) "at" = some none) : FnOk P w K mg base CX0 1 f fd ["self", "at"] (spE1 C "at") := by
  refine F.ok sc_NoCellDD_initDD (fun vs H Q E h => ?_) (fun cdv A outer s H vs Q E hr h => ?_)
  · obtain ⟨a, x, rfl, _⟩ := h
    rfl
  · obtain ⟨a, x, rfl, ha, k⟩ := h
    refine ⟨_, (pss_one (ps_ost (pv 0) (pv 1))), ?_⟩
    exact ⟨_, rfl, _, rfl, a, C, rfl, T, hf, .inl ⟨ha, fun dx hd ne => k _ ((But.new hd).trans .upd) ⟨some dx, upd_same, .inr ⟨dx, rfl, by rw [upd_ne ne, upd_same]⟩⟩⟩⟩
theorem ok_Unlike {C : Addr} {f : Addr} {fd : FuncData} (F : Fun K "__init__" "Unlike.__init__" s_UnlikeDD_initDD f fd) (T : OexC K C) (hf : PySem.W.findIn K (.ref C) "part" = some none) : FnOk P w K mg base CX0 1 f fd ["self", "part"] (spE1 C "part") := by
  refine F.ok sc_UnlikeDD_initDD (fun vs H Q E h => ?_) (fun cdv A outer s H vs Q E hr h => ?_)
  · obtain ⟨a, x, rfl, _⟩ := h
    rfl
  · obtain ⟨a, x, rfl, ha, k⟩ := h
    refine ⟨_, (pss_one (ps_ost (pv 0) (pv 1))), ?_⟩
    exact ⟨_, rfl, _, rfl, a, C, rfl, T, hf, .inl ⟨ha, fun dx hd ne => k _ ((But.new hd).trans .upd) ⟨some dx, upd_same, .inr ⟨dx, rfl, by rw [upd_ne ne, upd_same]⟩⟩⟩⟩
theorem ok_BadText {C : Addr} {f : Addr} {fd : FuncData} (F : Fun K "__init__" "BadText.__init__" s_BadTextDD_initDD f fd) (T : OexC K C) (hf : PySem.W.findIn K (.ref C) "line" = some none) (hg : PySem.W.findIn K (.ref C) "word" = some none) : FnOk P w K mg base CX0 1 f fd ["self", "line", "word"] (spE2 C "line" "word") := by
  refine F.ok sc_BadTextDD_initDD (fun vs H Q E h => ?_) (fun cdv A outer s H vs Q E hr h => ?_)
  · obtain ⟨a, x, y, rfl, _⟩ := h
    rfl
  · obtain ⟨a, x, y, rfl, ha, k⟩ := h
    refine ⟨_, (pss_cons (ps_ost (pv 0) (pv 1))
      (pss_one (ps_ost (pv 0) (pv 2)))), ?_⟩
    refine ⟨_, rfl, _, rfl, a, C, rfl, T, hf, .inl ⟨ha, fun dx hd ne => ?_⟩⟩
    refine ⟨_, rfl, _, rfl, a, C, rfl, T, hg, .inr ⟨dx, [("line", x)], upd_same, by rw [upd_ne ne, upd_same], by show 1 ≤ 900; decide, ?_⟩⟩
    exact k _ (fun b o e n => by rw [upd_ne (ne_of_none e hd), upd_ne n, upd_ne (ne_of_none e hd)]; exact e) ⟨some dx, by rw [upd_ne ne.symm, upd_same], .inr ⟨dx, rfl, upd_same⟩⟩
theorem ok_BadSay {C : Addr} {f : Addr} {fd : FuncData} (F : Fun K "__init__" "BadSay.__init__" s_BadSayDD_initDD f fd) (T : OexC K C) (hf : PySem.W.findIn K (.ref C) "word" = some none) : FnOk P w K mg base CX0 1 f fd ["self", "word"] (spE1 C "word") := by
  refine F.ok sc_BadSayDD_initDD (fun vs H Q E h => ?_) (fun cdv A outer s H vs Q E hr h => ?_)
  · obtain ⟨a, x, rfl, _⟩ := h
    rfl
  · obtain ⟨a, x, rfl, ha, k⟩ := h
    refine ⟨_, (pss_one (ps_ost (pv 0) (pv 1))), ?_⟩
    exact ⟨_, rfl, _, rfl, a, C, rfl, T, hf, .inl ⟨ha, fun dx hd ne => k _ ((But.new hd).trans .upd) ⟨some dx, upd_same, .inr ⟨dx, rfl, by rw [upd_ne ne, upd_same]⟩⟩⟩⟩
theorem ok_Clash {C : Addr} {f : Addr} {fd : FuncData} (F : Fun K "__init__" "Clash.__init__" s_ClashDD_initDD f fd) (T : OexC K C) (hf : PySem.W.findIn K (.ref C) "place" = some none) : FnOk P w K mg base CX0 1 f fd ["self", "place"] (spE1 C "place") := by
  refine F.ok sc_ClashDD_initDD (fun vs H Q E h => ?_) (fun cdv A outer s H vs Q E hr h => ?_)
  · obtain ⟨a, x, rfl, _⟩ := h
    rfl
  · obtain ⟨a, x, rfl, ha, k⟩ := h
    refine ⟨_, (pss_one (ps_ost (pv 0) (pv 1))), ?_⟩
    exact ⟨_, rfl, _, rfl, a, C, rfl, T, hf, .inl ⟨ha, fun dx hd ne => k _ ((But.new hd).trans .upd) ⟨some dx, upd_same, .inr ⟨dx, rfl, by rw [upd_ne ne, upd_same]⟩⟩⟩⟩
theorem ok_TooMany {C : Addr} {f : Addr} {fd : FuncData} (F : Fun K "__init__" "TooMany.__init__" s_TooManyDD_initDD f fd) (T : OexC K C) (hf : PySem.W.findIn K (.ref C) "what" = some none) (hg : PySem.W.findIn K (.ref C) "most" = some none) : FnOk P w K mg base CX0 1 f fd ["self", "what", "most"] (spE2 C "what" "most") := by
  refine F.ok sc_TooManyDD_initDD (fun vs H Q E h => ?_) (fun cdv A outer s H vs Q E hr h => ?_)
  · obtain ⟨a, x, y, rfl, _⟩ := h
    rfl
  · obtain ⟨a, x, y, rfl, ha, k⟩ := h
    refine ⟨_, (pss_cons (ps_ost (pv 0) (pv 1))
      (pss_one (ps_ost (pv 0) (pv 2)))), ?_⟩
    refine ⟨_, rfl, _, rfl, a, C, rfl, T, hf, .inl ⟨ha, fun dx hd ne => ?_⟩⟩
    refine ⟨_, rfl, _, rfl, a, C, rfl, T, hg, .inr ⟨dx, [("what", x)], upd_same, by rw [upd_ne ne, upd_same], by show 1 ≤ 900; decide, ?_⟩⟩
    exact k _ (fun b o e n => by rw [upd_ne (ne_of_none e hd), upd_ne n, upd_ne (ne_of_none e hd)]; exact e) ⟨some dx, by rw [upd_ne ne.symm, upd_same], .inr ⟨dx, rfl, upd_same⟩⟩
theorem ok_NoRule {C : Addr} {f : Addr} {fd : FuncData} (F : Fun K "__init__" "NoRule.__init__" s_NoRuleDD_initDD f fd) (T : OexC K C) (hf : PySem.W.findIn K (.ref C) "rule" = some none) : FnOk P w K mg base CX0 1 f fd ["self", "rule"] (spE1 C "rule") := by
  refine F.ok sc_NoRuleDD_initDD (fun vs H Q E h => ?_) (fun cdv A outer s H vs Q E hr h => ?_)
  · obtain ⟨a, x, rfl, _⟩ := h
    rfl
  · obtain ⟨a, x, rfl, ha, k⟩ := h
    refine ⟨_, (pss_one (ps_ost (pv 0) (pv 1))), ?_⟩
    exact ⟨_, rfl, _, rfl, a, C, rfl, T, hf, .inl ⟨ha, fun dx hd ne => k _ ((But.new hd).trans .upd) ⟨some dx, upd_same, .inr ⟨dx, rfl, by rw [upd_ne ne, upd_same]⟩⟩⟩⟩
theorem ok_NothingTold {C : Addr} {f : Addr} {fd : FuncData} (F : Fun K "__init__" "NothingTold.__init__" s_NothingToldDD_initDD f fd) (T : OexC K C) (hf : PySem.W.findIn K (.ref C) "what" = some none) : FnOk P w K mg base CX0 1 f fd ["self", "what"] (spE1 C "what") := by
  refine F.ok sc_NothingToldDD_initDD (fun vs H Q E h => ?_) (fun cdv A outer s H vs Q E hr h => ?_)
  · obtain ⟨a, x, rfl, _⟩ := h
    rfl
  · obtain ⟨a, x, rfl, ha, k⟩ := h
    refine ⟨_, (pss_one (ps_ost (pv 0) (pv 1))), ?_⟩
    exact ⟨_, rfl, _, rfl, a, C, rfl, T, hf, .inl ⟨ha, fun dx hd ne => k _ ((But.new hd).trans .upd) ⟨some dx, upd_same, .inr ⟨dx, rfl, by rw [upd_ne ne, upd_same]⟩⟩⟩⟩
theorem ok_Struck {C : Addr} {f : Addr} {fd : FuncData} (F : Fun K "__init__" "Struck.__init__" s_StruckDD_initDD f fd) (T : OexC K C) (hf : PySem.W.findIn K (.ref C) "place" = some none) (hg : PySem.W.findIn K (.ref C) "number" = some none) : FnOk P w K mg base CX0 1 f fd ["self", "place", "number"] (spE2 C "place" "number") := by
  refine F.ok sc_StruckDD_initDD (fun vs H Q E h => ?_) (fun cdv A outer s H vs Q E hr h => ?_)
  · obtain ⟨a, x, y, rfl, _⟩ := h
    rfl
  · obtain ⟨a, x, y, rfl, ha, k⟩ := h
    refine ⟨_, (pss_cons (ps_ost (pv 0) (pv 1))
      (pss_one (ps_ost (pv 0) (pv 2)))), ?_⟩
    refine ⟨_, rfl, _, rfl, a, C, rfl, T, hf, .inl ⟨ha, fun dx hd ne => ?_⟩⟩
    refine ⟨_, rfl, _, rfl, a, C, rfl, T, hg, .inr ⟨dx, [("place", x)], upd_same, by rw [upd_ne ne, upd_same], by show 1 ≤ 900; decide, ?_⟩⟩
    exact k _ (fun b o e n => by rw [upd_ne (ne_of_none e hd), upd_ne n, upd_ne (ne_of_none e hd)]; exact e) ⟨some dx, by rw [upd_ne ne.symm, upd_same], .inr ⟨dx, rfl, upd_same⟩⟩
theorem ok_Barred {C : Addr} {f : Addr} {fd : FuncData} (F : Fun K "__init__" "Barred.__init__" s_BarredDD_initDD f fd) (T : OexC K C) (hf : PySem.W.findIn K (.ref C) "place" = some none) (hg : PySem.W.findIn K (.ref C) "value" = some none) : FnOk P w K mg base CX0 1 f fd ["self", "place", "value"] (spE2 C "place" "value") := by
  refine F.ok sc_BarredDD_initDD (fun vs H Q E h => ?_) (fun cdv A outer s H vs Q E hr h => ?_)
  · obtain ⟨a, x, y, rfl, _⟩ := h
    rfl
  · obtain ⟨a, x, y, rfl, ha, k⟩ := h
    refine ⟨_, (pss_cons (ps_ost (pv 0) (pv 1))
      (pss_one (ps_ost (pv 0) (pv 2)))), ?_⟩
    refine ⟨_, rfl, _, rfl, a, C, rfl, T, hf, .inl ⟨ha, fun dx hd ne => ?_⟩⟩
    refine ⟨_, rfl, _, rfl, a, C, rfl, T, hg, .inr ⟨dx, [("place", x)], upd_same, by rw [upd_ne ne, upd_same], by show 1 ≤ 900; decide, ?_⟩⟩
    exact k _ (fun b o e n => by rw [upd_ne (ne_of_none e hd), upd_ne n, upd_ne (ne_of_none e hd)]; exact e) ⟨some dx, by rw [upd_ne ne.symm, upd_same], .inr ⟨dx, rfl, upd_same⟩⟩
end
end Toy

namespace Toy
open PySem L2 LB PyProof.Rows
abbrev s_law_inputs : Stmt := top 43
theorem sc_law_inputs : FnScope ["_law_one", "_law_two", "_law_found"] ["_law_one", "_law_two"] (defScope s_law_inputs) := ⟨rfl, rfl, rfl, by decide +kernel, rfl, by decide +kernel, by decide +kernel⟩
abbrev s_law_answers : Stmt := top 44
theorem sc_law_answers : FnScope ["_law_one", "_law_two", "_law_found"] ["_law_one", "_law_two"] (defScope s_law_answers) := ⟨rfl, rfl, rfl, by decide +kernel, rfl, by decide +kernel, by decide +kernel⟩
abbrev s_law_named : Stmt := top 45
theorem sc_law_named : FnScope ["_law_one", "_law_two", "_law_found"] ["_law_one", "_law_two"] (defScope s_law_named) := ⟨rfl, rfl, rfl, by decide +kernel, rfl, by decide +kernel, by decide +kernel⟩
abbrev s_law_kinds : Stmt := top 46
theorem sc_law_kinds : FnScope ["_law_error", "_law_found"] ["_law_error"] (defScope s_law_kinds) := ⟨rfl, rfl, rfl, by decide +kernel, rfl, by decide +kernel, by decide +kernel⟩
abbrev s_law_fields : Stmt := top 47
theorem sc_law_fields : FnScope ["_law_error"] ["_law_error"] (defScope s_law_fields) := ⟨rfl, rfl, rfl, by decide +kernel, rfl, by decide +kernel, by decide +kernel⟩
abbrev s_law_is_same : Stmt := top 48
theorem sc_law_is_same : FnScope ["_law_heard", "_law_due", "_law_k"] ["_law_heard", "_law_due"] (defScope s_law_is_same) := ⟨rfl, rfl, rfl, by decide +kernel, rfl, by decide +kernel, by decide +kernel⟩

/-- is the k-th class one of the j-th: 21 BadInput, 22 NoAnswer, 23 LineError -/
def subB (k j : Nat) : Bool := if j < 21 then k == j else if j = 21 then decide (k < 14) else if j = 22 then decide (14 ≤ k ∧ k < 19) else true
def fld (k : Nat) : List Str := ([["value"], [], ["value"], ["at"], ["at"], ["part"], ["part"], ["part"], ["at"], ["part"], ["at"], ["part"], ["line", "word"], ["word"], ["place"], ["what", "most"], ["rule"], [], ["what"], ["place", "number"], ["place", "value"]] : List (List Str)).getD k []
structure EX (P : Program) (w : World) (K : PySem.W.Frag) (mg : Str → Option Value) (base : Heap) (cl : Nat → Addr) : Prop where
  g0 : mg "BadValues" = some (.ref (cl 0))
  g1 : mg "BadNames" = some (.ref (cl 1))
  g2 : mg "BadCell" = some (.ref (cl 2))
  g3 : mg "BadLine" = some (.ref (cl 3))
  g4 : mg "BadWord" = some (.ref (cl 4))
  g5 : mg "BadMachine" = some (.ref (cl 5))
  g6 : mg "BadClue" = some (.ref (cl 6))
  g7 : mg "BadRule" = some (.ref (cl 7))
  g8 : mg "BadBook" = some (.ref (cl 8))
  g9 : mg "BadNumber" = some (.ref (cl 9))
  g10 : mg "NoCell" = some (.ref (cl 10))
  g11 : mg "Unlike" = some (.ref (cl 11))
  g12 : mg "BadText" = some (.ref (cl 12))
  g13 : mg "BadSay" = some (.ref (cl 13))
  g14 : mg "Clash" = some (.ref (cl 14))
  g15 : mg "TooMany" = some (.ref (cl 15))
  g16 : mg "NoRule" = some (.ref (cl 16))
  g17 : mg "NotStable" = some (.ref (cl 17))
  g18 : mg "NothingTold" = some (.ref (cl 18))
  g19 : mg "Struck" = some (.ref (cl 19))
  g20 : mg "Barred" = some (.ref (cl 20))
  g21 : mg "BadInput" = some (.ref (cl 21))
  g22 : mg "NoAnswer" = some (.ref (cl 22))
  g23 : mg "LineError" = some (.ref (cl 23))
  x0 : HasEx P w K mg base CX0 1 (cl 0) "BadValues" ["self", "value"] (spE1 (cl 0) "value")
  y0 : HasExK P w K mg base CX0 1 (cl 0) "BadValues" ["self", "value"] ["value"] false (spE1 (cl 0) "value")
  f0value : PySem.W.findIn K (.ref (cl 0)) "value" = some none
  x1 : HasEx0 K mg (cl 1) "BadNames"
  x2 : HasEx P w K mg base CX0 1 (cl 2) "BadCell" ["self", "value"] (spE1 (cl 2) "value")
  y2 : HasExK P w K mg base CX0 1 (cl 2) "BadCell" ["self", "value"] ["value"] false (spE1 (cl 2) "value")
  f2value : PySem.W.findIn K (.ref (cl 2)) "value" = some none
  x3 : HasEx P w K mg base CX0 1 (cl 3) "BadLine" ["self", "at"] (spE1 (cl 3) "at")
  y3 : HasExK P w K mg base CX0 1 (cl 3) "BadLine" ["self", "at"] ["at"] false (spE1 (cl 3) "at")
  f3at : PySem.W.findIn K (.ref (cl 3)) "at" = some none
  x4 : HasEx P w K mg base CX0 1 (cl 4) "BadWord" ["self", "at"] (spE1 (cl 4) "at")
  y4 : HasExK P w K mg base CX0 1 (cl 4) "BadWord" ["self", "at"] ["at"] false (spE1 (cl 4) "at")
  f4at : PySem.W.findIn K (.ref (cl 4)) "at" = some none
  x5 : HasEx P w K mg base CX0 1 (cl 5) "BadMachine" ["self", "part"] (spE1 (cl 5) "part")
  y5 : HasExK P w K mg base CX0 1 (cl 5) "BadMachine" ["self", "part"] ["part"] false (spE1 (cl 5) "part")
  f5part : PySem.W.findIn K (.ref (cl 5)) "part" = some none
  x6 : HasEx P w K mg base CX0 1 (cl 6) "BadClue" ["self", "part"] (spE1 (cl 6) "part")
  y6 : HasExK P w K mg base CX0 1 (cl 6) "BadClue" ["self", "part"] ["part"] false (spE1 (cl 6) "part")
  f6part : PySem.W.findIn K (.ref (cl 6)) "part" = some none
  x7 : HasEx P w K mg base CX0 1 (cl 7) "BadRule" ["self", "part"] (spE1 (cl 7) "part")
  y7 : HasExK P w K mg base CX0 1 (cl 7) "BadRule" ["self", "part"] ["part"] false (spE1 (cl 7) "part")
  f7part : PySem.W.findIn K (.ref (cl 7)) "part" = some none
  x8 : HasEx P w K mg base CX0 1 (cl 8) "BadBook" ["self", "at"] (spE1 (cl 8) "at")
  y8 : HasExK P w K mg base CX0 1 (cl 8) "BadBook" ["self", "at"] ["at"] false (spE1 (cl 8) "at")
  f8at : PySem.W.findIn K (.ref (cl 8)) "at" = some none
  x9 : HasEx P w K mg base CX0 1 (cl 9) "BadNumber" ["self", "part"] (spE1 (cl 9) "part")
  y9 : HasExK P w K mg base CX0 1 (cl 9) "BadNumber" ["self", "part"] ["part"] false (spE1 (cl 9) "part")
  f9part : PySem.W.findIn K (.ref (cl 9)) "part" = some none
  x10 : HasEx P w K mg base CX0 1 (cl 10) "NoCell" ["self", "at"] (spE1 (cl 10) "at")
  y10 : HasExK P w K mg base CX0 1 (cl 10) "NoCell" ["self", "at"] ["at"] false (spE1 (cl 10) "at")
  f10at : PySem.W.findIn K (.ref (cl 10)) "at" = some none
  x11 : HasEx P w K mg base CX0 1 (cl 11) "Unlike" ["self", "part"] (spE1 (cl 11) "part")
  y11 : HasExK P w K mg base CX0 1 (cl 11) "Unlike" ["self", "part"] ["part"] false (spE1 (cl 11) "part")
  f11part : PySem.W.findIn K (.ref (cl 11)) "part" = some none
  x12 : HasEx P w K mg base CX0 1 (cl 12) "BadText" ["self", "line", "word"] (spE2 (cl 12) "line" "word")
  y12 : HasExK P w K mg base CX0 1 (cl 12) "BadText" ["self", "line", "word"] ["word", "line"] true (spE2 (cl 12) "line" "word")
  f12line : PySem.W.findIn K (.ref (cl 12)) "line" = some none
  f12word : PySem.W.findIn K (.ref (cl 12)) "word" = some none
  x13 : HasEx P w K mg base CX0 1 (cl 13) "BadSay" ["self", "word"] (spE1 (cl 13) "word")
  y13 : HasExK P w K mg base CX0 1 (cl 13) "BadSay" ["self", "word"] ["word"] false (spE1 (cl 13) "word")
  f13word : PySem.W.findIn K (.ref (cl 13)) "word" = some none
  x14 : HasEx P w K mg base CX0 1 (cl 14) "Clash" ["self", "place"] (spE1 (cl 14) "place")
  y14 : HasExK P w K mg base CX0 1 (cl 14) "Clash" ["self", "place"] ["place"] false (spE1 (cl 14) "place")
  f14place : PySem.W.findIn K (.ref (cl 14)) "place" = some none
  x15 : HasEx P w K mg base CX0 1 (cl 15) "TooMany" ["self", "what", "most"] (spE2 (cl 15) "what" "most")
  y15 : HasExK P w K mg base CX0 1 (cl 15) "TooMany" ["self", "what", "most"] ["most", "what"] true (spE2 (cl 15) "what" "most")
  f15what : PySem.W.findIn K (.ref (cl 15)) "what" = some none
  f15most : PySem.W.findIn K (.ref (cl 15)) "most" = some none
  x16 : HasEx P w K mg base CX0 1 (cl 16) "NoRule" ["self", "rule"] (spE1 (cl 16) "rule")
  y16 : HasExK P w K mg base CX0 1 (cl 16) "NoRule" ["self", "rule"] ["rule"] false (spE1 (cl 16) "rule")
  f16rule : PySem.W.findIn K (.ref (cl 16)) "rule" = some none
  x17 : HasEx0 K mg (cl 17) "NotStable"
  x18 : HasEx P w K mg base CX0 1 (cl 18) "NothingTold" ["self", "what"] (spE1 (cl 18) "what")
  y18 : HasExK P w K mg base CX0 1 (cl 18) "NothingTold" ["self", "what"] ["what"] false (spE1 (cl 18) "what")
  f18what : PySem.W.findIn K (.ref (cl 18)) "what" = some none
  x19 : HasEx P w K mg base CX0 1 (cl 19) "Struck" ["self", "place", "number"] (spE2 (cl 19) "place" "number")
  y19 : HasExK P w K mg base CX0 1 (cl 19) "Struck" ["self", "place", "number"] ["number", "place"] true (spE2 (cl 19) "place" "number")
  f19place : PySem.W.findIn K (.ref (cl 19)) "place" = some none
  f19number : PySem.W.findIn K (.ref (cl 19)) "number" = some none
  x20 : HasEx P w K mg base CX0 1 (cl 20) "Barred" ["self", "place", "value"] (spE2 (cl 20) "place" "value")
  y20 : HasExK P w K mg base CX0 1 (cl 20) "Barred" ["self", "place", "value"] ["value", "place"] true (spE2 (cl 20) "place" "value")
  f20place : PySem.W.findIn K (.ref (cl 20)) "place" = some none
  f20value : PySem.W.findIn K (.ref (cl 20)) "value" = some none
  exk : ∀ k, k < 21 → ExK K (cl k)
  kit : ∀ k j, k < 21 → j < 24 → PySem.W.kitOne K (.ref (cl k)) (.ref (cl j)) = some (subB k j)
  kitV : ∀ k, k < 21 → PySem.W.kitOne K (.ref (cl k)) (.type "ValueError") = some true

def dueV (k : Nat) (a b : V) : List V := match (fld k).length with
  | 0 => []
  | 1 => [a]
  | _ => [a, b]
def dueF (k : Nat) (a b : V) : List (Str × V) := ((fld k).zip (dueV k a b)).reverse
section
variable (cl : Nat → Addr)
/-- an error of the k-th class and what its attributes are to be -/
def ItemAt (H : Hp) (a b : V) (t : Addr) (k : Nat) : Prop := ∃ e l, H t = some (.tup [.ref e, .ref l]) ∧ ErrAt H e (cl k) (dueF k a b) ∧ H l = some (.lst (dueV k a b))
def Items (H : Hp) (a b : V) : List Addr → List Nat → Prop
  | [], [] => True
  | t :: ts, k :: ks => ItemAt cl H a b t k ∧ Items H a b ts ks
  | _, _ => False
def MkI (a b : V) (te : TE) (σ : L2.St) (k : Nat) : Prop := ∀ H Q, (∀ t H', Same H H' → ItemAt cl H' a b t k → Q (.ref t) H') → te σ H Q
def MkA (a b : V) (ta : TA) (σ : L2.St) (ks : List Nat) : Prop := ∀ H Q, (∀ ts H', Same H H' → Items cl H' a b ts ks → Q (ts.map V.ref) H') → ta σ H Q
end
section
variable {cl : Nat → Addr} {a b : V} {H H' : Hp} {σ : L2.St}
theorem ItemAt.same {t k} (h : ItemAt cl H a b t k) (s : Same H H') : ItemAt cl H' a b t k := let ⟨e, l, h1, h2, h3⟩ := h; ⟨e, l, s _ _ h1, h2.same s, s _ _ h3⟩
theorem Items.same : ∀ {ts : List Addr} {ks : List Nat}, Items cl H a b ts ks → Same H H' → Items cl H' a b ts ks
  | [], [], _, _ => True.intro
  | _ :: _, _ :: _, h, s => ⟨h.1.same s, Items.same h.2 s⟩
  | [], _ :: _, h, _ => h.elim
  | _ :: _, [], h, _ => h.elim
theorem Items.len : ∀ {ts : List Addr} {ks : List Nat}, Items cl H a b ts ks → ts.length = ks.length
  | [], [], _ => rfl
  | _ :: _, _ :: _, h => congrArg (· + 1) (Items.len h.2)
  | [], _ :: _, h => h.elim
  | _ :: _, [], h => h.elim
theorem Items.app : ∀ {ts us : List Addr} {ks js : List Nat}, Items cl H a b ts ks → Items cl H a b us js → Items cl H a b (ts ++ us) (ks ++ js)
  | [], _, [], _, _, h => h
  | _ :: _, _, _ :: _, _, h, h2 => ⟨h.1, Items.app h.2 h2⟩
  | [], _, _ :: _, _, h, _ => h.elim
  | _ :: _, _, [], _, h, _ => h.elim
theorem Items.get : ∀ {ts : List Addr} {ks : List Nat}, Items cl H a b ts ks → ∀ (i : Nat) (t : Addr), ts[i]? = some t → ∃ k, ks[i]? = some k ∧ ItemAt cl H a b t k
  | [], [], _, i, t, e => by cases e
  | t0 :: _, k0 :: _, h, 0, t, e => by cases e; exact ⟨k0, rfl, h.1⟩
  | _ :: _, _ :: _, h, i + 1, t, e => Items.get h.2 i t e
  | [], _ :: _, h, _, _, _ => h.elim
  | _ :: _, [], h, _, _, _ => h.elim
theorem mk_nil : MkA cl a b tNil σ [] := fun H Q h => h [] H (Same.refl H) True.intro
theorem mk_cons {te : TE} {ta : TA} {k : Nat} {ks : List Nat} (h1 : MkI cl a b te σ k) (h2 : MkA cl a b ta σ ks) : MkA cl a b (tCons te ta) σ (k :: ks) := fun H Q h =>
  h1 H _ fun t H1 s1 i1 => h2 H1 _ fun ts H2 s2 i2 => h (t :: ts) H2 (s1.trans s2) ⟨i1.same s2, i2⟩
theorem mkL {ta : TA} {ks : List Nat} (h : MkA cl a b ta σ ks) (hk : ks.length ≤ 100) {Q : VK} (q : ∀ l ts H', Same H H' → H' l = some (.lst (ts.map V.ref)) → Items cl H' a b ts ks → Q (.ref l) H') : tLst ta σ H Q :=
  h H _ fun ts H1 s1 i1 => ⟨by rw [List.length_map, i1.len]; exact Nat.le_trans hk (by decide), fun p hp => q p ts _ (s1.trans (same_new hp)) upd_same (i1.same (same_new hp))⟩
theorem mkC {ta : TA} {ks js : List Nat} {n : Nat} {l : Addr} {ts : List Addr} (hv : σ[n]? = some (some (.ref l))) (hl : H l = some (.lst (ts.map V.ref))) (hi : Items cl H a b ts ks) (h : MkA cl a b ta σ js) (hk : ks.length + js.length ≤ 100) {Q : VK}
    (q : ∀ l ts H', Same H H' → H' l = some (.lst (ts.map V.ref)) → Items cl H' a b ts (ks ++ js) → Q (.ref l) H') : tOp rCat (tVar n) (tLst ta) σ H Q :=
  ⟨_, hv, mkL h (by omega) fun l2 us H2 s2 h2 i2 => ⟨l, l2, _, _, rfl, rfl, s2 _ _ hl, h2, by rw [List.length_map, List.length_map, hi.len, i2.len]; exact Nat.le_trans hk (by decide), fun p hp => by
    have s3 := same_new (o := HO.lst (ts.map V.ref ++ us.map V.ref)) hp
    exact q p (ts ++ us) _ (s2.trans s3) (by rw [upd_same, List.map_append]) (((hi.same s2).app i2).same s3)⟩⟩
theorem mk_tail {k : Nat} {e : Addr} {Q : VK} (ts : List TE) (vs : List V) (he : ErrAt H e (cl k) (dueF k a b)) (hd : dueV k a b = vs) (hts : ∀ (H : Hp) (R : List V → Hp → Prop), R vs H → (ts.foldr tCons tNil) σ H R) (hz : vs.length ≤ 2)
    (q : ∀ t H', Same H H' → ItemAt cl H' a b t k → Q (.ref t) H') :
    tCons (tLst (ts.foldr tCons tNil)) tNil σ H fun xs H1 => (V.ref e :: xs).length ≤ sizeLine ∧ ∀ p, H1 p = none → Q (.ref p) (upd H1 p (.tup (V.ref e :: xs))) :=
  hts H _ ⟨Nat.le_trans hz (by decide), fun l hl => ⟨by show 2 ≤ sizeLine; decide, fun p hp => q p _ ((same_new hl).trans (same_new hp)) ⟨e, l, upd_same, (he.same (same_new hl)).same (same_new hp), by rw [upd_ne (ne_of_none upd_same hp), upd_same, hd]⟩⟩⟩
theorem err_new {e C : Addr} (hn : H e = none) : Same H (upd H e (exo e C none)) := same_new hn
theorem item1 {k : Nat} {f : Str} (hk : fld k = [f]) (h0 : σ[0]? = some (some a)) :
    MkI cl a b (tTup (tCons (tExV (cl k) (spE1 (cl k) f) (tCons (tVar 0) tNil)) (tCons (tLst (tCons (tVar 0) tNil)) tNil))) σ k := fun H Q q =>
  ⟨_, h0, by show 1 ≤ 1000; decide, fun e he => ⟨e, a, rfl, upd_same, fun H' b' h' => ⟨rfl, by
    have s1 : Same H H' := fun c o q' => b' c o (by rw [upd_ne (ne_of_none q' he)]; exact q') (ne_of_none q' he)
    refine mk_tail (k := k) [tVar 0] [a] (by unfold dueF dueV; rw [hk]; exact h') (by unfold dueV; rw [hk]; rfl) (fun H R r => ⟨_, h0, r⟩) (by show 1 ≤ 2; decide) fun t H2 s2 i2 => q t H2 (s1.trans s2) i2⟩⟩⟩
theorem item1K {k : Nat} {f : Str} (hk : fld k = [f]) (h0 : σ[0]? = some (some a)) :
    MkI cl a b (tTup (tCons (tExVK (cl k) false ([f] : List Str).length (spE1 (cl k) f) (tCons (tVar 0) tNil)) (tCons (tLst (tCons (tVar 0) tNil)) tNil))) σ k := fun H Q q =>
  ⟨_, h0, rfl, fun e he => ⟨e, a, rfl, upd_same, fun H' b' h' => ⟨rfl, by
    have s1 : Same H H' := fun c o q' => b' c o (by rw [upd_ne (ne_of_none q' he)]; exact q') (ne_of_none q' he)
    refine mk_tail (k := k) [tVar 0] [a] (by unfold dueF dueV; rw [hk]; exact h') (by unfold dueV; rw [hk]; rfl) (fun H R r => ⟨_, h0, r⟩) (by show 1 ≤ 2; decide) fun t H2 s2 i2 => q t H2 (s1.trans s2) i2⟩⟩⟩
theorem item2 {k : Nat} {f g : Str} (hk : fld k = [f, g]) (h0 : σ[0]? = some (some a)) (h1 : σ[1]? = some (some b)) :
    MkI cl a b (tTup (tCons (tExV (cl k) (spE2 (cl k) f g) (tCons (tVar 0) (tCons (tVar 1) tNil))) (tCons (tLst (tCons (tVar 0) (tCons (tVar 1) tNil))) tNil))) σ k := fun H Q q =>
  ⟨_, h0, _, h1, by show 2 ≤ 1000; decide, fun e he => ⟨e, a, b, rfl, upd_same, fun H' b' h' => ⟨rfl, by
    have s1 : Same H H' := fun c o q' => b' c o (by rw [upd_ne (ne_of_none q' he)]; exact q') (ne_of_none q' he)
    refine mk_tail (k := k) [tVar 0, tVar 1] [a, b] (by unfold dueF dueV; rw [hk]; exact h') (by unfold dueV; rw [hk]; rfl) (fun H R r => ⟨_, h0, _, h1, r⟩) (by show 2 ≤ 2; decide) fun t H2 s2 i2 => q t H2 (s1.trans s2) i2⟩⟩⟩
theorem item2K {k : Nat} {f g : Str} (hk : fld k = [f, g]) (h0 : σ[0]? = some (some a)) (h1 : σ[1]? = some (some b)) :
    MkI cl a b (tTup (tCons (tExVK (cl k) true ([g, f] : List Str).length (spE2 (cl k) f g) (tCons (tVar 1) (tCons (tVar 0) tNil))) (tCons (tLst (tCons (tVar 0) (tCons (tVar 1) tNil))) tNil))) σ k := fun H Q q =>
  ⟨_, h1, _, h0, rfl, fun e he => ⟨e, a, b, rfl, upd_same, fun H' b' h' => ⟨rfl, by
    have s1 : Same H H' := fun c o q' => b' c o (by rw [upd_ne (ne_of_none q' he)]; exact q') (ne_of_none q' he)
    refine mk_tail (k := k) [tVar 0, tVar 1] [a, b] (by unfold dueF dueV; rw [hk]; exact h') (by unfold dueV; rw [hk]; rfl) (fun H R r => ⟨_, h0, _, h1, r⟩) (by show 2 ≤ 2; decide) fun t H2 s2 i2 => q t H2 (s1.trans s2) i2⟩⟩⟩
theorem item0 {k : Nat} (hk : fld k = []) :
    MkI cl a b (tTup (tCons (tExV0 (cl k)) (tCons (tLst tNil) tNil))) σ k := fun H Q q e he => by
    refine mk_tail (k := k) [] [] ⟨none, upd_same, .inl ⟨rfl, by unfold dueF dueV; rw [hk]; rfl⟩⟩ (by unfold dueV; rw [hk]; rfl) (fun H R r => r) (by decide) fun t H2 s2 i2 => q t H2 ((same_new he).trans s2) i2
end
end Toy

namespace Toy
open PySem L2 LB PyProof.Rows

def spItems (cl : Nat → Addr) (ks : List Nat) : Sp := fun vs H Q _ => ∃ a b, vs = [a, b] ∧ ∀ l ts H', Same H H' → H' l = some (.lst (ts.map V.ref)) → Items cl H' a b ts ks → Q (.ref l) H'
def spItems2 (cl : Nat → Addr) (ks js : List Nat) : Sp := fun vs H Q _ => ∃ a b, vs = [a, b] ∧ ∀ p l ts m us H', Same H H' → H' p = some (.tup [.ref l, .ref m]) → H' l = some (.lst (ts.map V.ref)) → Items cl H' a b ts ks → H' m = some (.lst (us.map V.ref)) → Items cl H' a b us js → Q (.ref p) H'
section
variable {P : Program} {w : World} {K : PySem.W.Frag} {mg : Str → Option Value} {base : Heap} {cl : Nat → Addr}
theorem ok_law_inputs {f : Addr} {fd : FuncData} (F : Fun K "_law_inputs" "_law_inputs" s_law_inputs f fd) (EE : EX P w K mg base cl) : FnOk P w K mg base CX0 3 f fd ["_law_one", "_law_two"] (spItems cl [0, 1, 2, 3, 4, 5, 6, 7, 8, 9, 10, 11, 12, 13]) := by
  refine F.ok sc_law_inputs (fun vs H Q E h => ?_) (fun cdv A outer s H vs Q E hr h => ?_)
  · obtain ⟨a, b, rfl, _⟩ := h
    rfl
  · obtain ⟨a, b, rfl, k⟩ := h
    refine ⟨_, (pss_cons (ps_set (i := 2) sc_law_inputs.nd rfl (.inl rfl) (pe_lst (pa_cons (pe_tup (pa_cons (pe_exv EE.x0 (hr.mono (by decide)) (pa_cons (pv 0) pa_nil)) (pa_cons (pe_lst (pa_cons (pv 0) pa_nil)) pa_nil))) (pa_cons (pe_tup (pa_cons (pe_exv0 EE.x1) (pa_cons (pe_lst pa_nil) pa_nil))) (pa_cons (pe_tup (pa_cons (pe_exv EE.x2 (hr.mono (by decide)) (pa_cons (pv 0) pa_nil)) (pa_cons (pe_lst (pa_cons (pv 0) pa_nil)) pa_nil))) (pa_cons (pe_tup (pa_cons (pe_exv EE.x3 (hr.mono (by decide)) (pa_cons (pv 0) pa_nil)) (pa_cons (pe_lst (pa_cons (pv 0) pa_nil)) pa_nil))) pa_nil))))))
      (pss_cons (ps_set (i := 2) sc_law_inputs.nd rfl (.inl rfl) (pe_op op_cat (pv 2) (pe_lst (pa_cons (pe_tup (pa_cons (pe_exv EE.x4 (hr.mono (by decide)) (pa_cons (pv 0) pa_nil)) (pa_cons (pe_lst (pa_cons (pv 0) pa_nil)) pa_nil))) (pa_cons (pe_tup (pa_cons (pe_exv EE.x5 (hr.mono (by decide)) (pa_cons (pv 0) pa_nil)) (pa_cons (pe_lst (pa_cons (pv 0) pa_nil)) pa_nil))) (pa_cons (pe_tup (pa_cons (pe_exv EE.x6 (hr.mono (by decide)) (pa_cons (pv 0) pa_nil)) (pa_cons (pe_lst (pa_cons (pv 0) pa_nil)) pa_nil))) (pa_cons (pe_tup (pa_cons (pe_exv EE.x7 (hr.mono (by decide)) (pa_cons (pv 0) pa_nil)) (pa_cons (pe_lst (pa_cons (pv 0) pa_nil)) pa_nil))) pa_nil)))))))
      (pss_cons (ps_set (i := 2) sc_law_inputs.nd rfl (.inl rfl) (pe_op op_cat (pv 2) (pe_lst (pa_cons (pe_tup (pa_cons (pe_exv EE.x8 (hr.mono (by decide)) (pa_cons (pv 0) pa_nil)) (pa_cons (pe_lst (pa_cons (pv 0) pa_nil)) pa_nil))) (pa_cons (pe_tup (pa_cons (pe_exv EE.x9 (hr.mono (by decide)) (pa_cons (pv 0) pa_nil)) (pa_cons (pe_lst (pa_cons (pv 0) pa_nil)) pa_nil))) (pa_cons (pe_tup (pa_cons (pe_exv EE.x10 (hr.mono (by decide)) (pa_cons (pv 0) pa_nil)) (pa_cons (pe_lst (pa_cons (pv 0) pa_nil)) pa_nil))) (pa_cons (pe_tup (pa_cons (pe_exv EE.x11 (hr.mono (by decide)) (pa_cons (pv 0) pa_nil)) (pa_cons (pe_lst (pa_cons (pv 0) pa_nil)) pa_nil))) pa_nil)))))))
      (pss_one (ps_ret (pe_op op_cat (pv 2) (pe_lst (pa_cons (pe_tup (pa_cons (pe_exv EE.x12 (hr.mono (by decide)) (pa_cons (pv 0) (pa_cons (pv 1) pa_nil))) (pa_cons (pe_lst (pa_cons (pv 0) (pa_cons (pv 1) pa_nil))) pa_nil))) (pa_cons (pe_tup (pa_cons (pe_exv EE.x13 (hr.mono (by decide)) (pa_cons (pv 0) pa_nil)) (pa_cons (pe_lst (pa_cons (pv 0) pa_nil)) pa_nil))) pa_nil))))))))), ?_⟩
    dsimp only [tSeq, tAsg, gName, tRet]
    refine mkL (b := b) (ks := [0, 1, 2, 3]) (mk_cons (item1 rfl rfl) (mk_cons (item0 rfl) (mk_cons (item1 rfl rfl) (mk_cons (item1 rfl rfl) mk_nil)))) (by decide) fun l1 ts1 H1 s1 e1 i1 => ?_
    refine mkC (b := b) (ks := [0, 1, 2, 3]) (js := [4, 5, 6, 7]) (n := 2) rfl e1 i1 (mk_cons (item1 rfl rfl) (mk_cons (item1 rfl rfl) (mk_cons (item1 rfl rfl) (mk_cons (item1 rfl rfl) mk_nil)))) (by decide) fun l2 ts2 H2 s2 e2 i2 => ?_
    refine mkC (b := b) (ks := [0, 1, 2, 3, 4, 5, 6, 7]) (js := [8, 9, 10, 11]) (n := 2) rfl e2 i2 (mk_cons (item1 rfl rfl) (mk_cons (item1 rfl rfl) (mk_cons (item1 rfl rfl) (mk_cons (item1 rfl rfl) mk_nil)))) (by decide) fun l3 ts3 H3 s3 e3 i3 => ?_
    refine mkC (b := b) (ks := [0, 1, 2, 3, 4, 5, 6, 7, 8, 9, 10, 11]) (js := [12, 13]) (n := 2) rfl e3 i3 (mk_cons (item2 rfl rfl rfl) (mk_cons (item1 rfl rfl) mk_nil)) (by decide) fun l4 ts4 H4 s4 e4 i4 => ?_
    exact k l4 ts4 _ (((s1.trans s2).trans s3).trans s4) e4 i4
theorem ok_law_named {f : Addr} {fd : FuncData} (F : Fun K "_law_named" "_law_named" s_law_named f fd) (EE : EX P w K mg base cl) : FnOk P w K mg base CX0 3 f fd ["_law_one", "_law_two"] (spItems cl [0, 2, 3, 4, 5, 6, 7, 8, 9, 10, 11, 12, 13, 14, 16, 15, 18, 19, 20]) := by
  refine F.ok sc_law_named (fun vs H Q E h => ?_) (fun cdv A outer s H vs Q E hr h => ?_)
  · obtain ⟨a, b, rfl, _⟩ := h
    rfl
  · obtain ⟨a, b, rfl, k⟩ := h
    refine ⟨_, (pss_cons (ps_set (i := 2) sc_law_named.nd rfl (.inl rfl) (pe_lst (pa_cons (pe_tup (pa_cons (pe_exvK EE.y0 (hr.mono (by decide)) (pk_cons (pv 0) pk_nil)) (pa_cons (pe_lst (pa_cons (pv 0) pa_nil)) pa_nil))) (pa_cons (pe_tup (pa_cons (pe_exvK EE.y2 (hr.mono (by decide)) (pk_cons (pv 0) pk_nil)) (pa_cons (pe_lst (pa_cons (pv 0) pa_nil)) pa_nil))) (pa_cons (pe_tup (pa_cons (pe_exvK EE.y3 (hr.mono (by decide)) (pk_cons (pv 0) pk_nil)) (pa_cons (pe_lst (pa_cons (pv 0) pa_nil)) pa_nil))) pa_nil)))))
      (pss_cons (ps_set (i := 2) sc_law_named.nd rfl (.inl rfl) (pe_op op_cat (pv 2) (pe_lst (pa_cons (pe_tup (pa_cons (pe_exvK EE.y4 (hr.mono (by decide)) (pk_cons (pv 0) pk_nil)) (pa_cons (pe_lst (pa_cons (pv 0) pa_nil)) pa_nil))) (pa_cons (pe_tup (pa_cons (pe_exvK EE.y5 (hr.mono (by decide)) (pk_cons (pv 0) pk_nil)) (pa_cons (pe_lst (pa_cons (pv 0) pa_nil)) pa_nil))) (pa_cons (pe_tup (pa_cons (pe_exvK EE.y6 (hr.mono (by decide)) (pk_cons (pv 0) pk_nil)) (pa_cons (pe_lst (pa_cons (pv 0) pa_nil)) pa_nil))) pa_nil))))))
      (pss_cons (ps_set (i := 2) sc_law_named.nd rfl (.inl rfl) (pe_op op_cat (pv 2) (pe_lst (pa_cons (pe_tup (pa_cons (pe_exvK EE.y7 (hr.mono (by decide)) (pk_cons (pv 0) pk_nil)) (pa_cons (pe_lst (pa_cons (pv 0) pa_nil)) pa_nil))) (pa_cons (pe_tup (pa_cons (pe_exvK EE.y8 (hr.mono (by decide)) (pk_cons (pv 0) pk_nil)) (pa_cons (pe_lst (pa_cons (pv 0) pa_nil)) pa_nil))) (pa_cons (pe_tup (pa_cons (pe_exvK EE.y9 (hr.mono (by decide)) (pk_cons (pv 0) pk_nil)) (pa_cons (pe_lst (pa_cons (pv 0) pa_nil)) pa_nil))) pa_nil))))))
      (pss_cons (ps_set (i := 2) sc_law_named.nd rfl (.inl rfl) (pe_op op_cat (pv 2) (pe_lst (pa_cons (pe_tup (pa_cons (pe_exvK EE.y10 (hr.mono (by decide)) (pk_cons (pv 0) pk_nil)) (pa_cons (pe_lst (pa_cons (pv 0) pa_nil)) pa_nil))) (pa_cons (pe_tup (pa_cons (pe_exvK EE.y11 (hr.mono (by decide)) (pk_cons (pv 0) pk_nil)) (pa_cons (pe_lst (pa_cons (pv 0) pa_nil)) pa_nil))) (pa_cons (pe_tup (pa_cons (pe_exvK EE.y12 (hr.mono (by decide)) (pk_cons (pv 1) (pk_cons (pv 0) pk_nil))) (pa_cons (pe_lst (pa_cons (pv 0) (pa_cons (pv 1) pa_nil))) pa_nil))) pa_nil))))))
      (pss_cons (ps_set (i := 2) sc_law_named.nd rfl (.inl rfl) (pe_op op_cat (pv 2) (pe_lst (pa_cons (pe_tup (pa_cons (pe_exvK EE.y13 (hr.mono (by decide)) (pk_cons (pv 0) pk_nil)) (pa_cons (pe_lst (pa_cons (pv 0) pa_nil)) pa_nil))) (pa_cons (pe_tup (pa_cons (pe_exvK EE.y14 (hr.mono (by decide)) (pk_cons (pv 0) pk_nil)) (pa_cons (pe_lst (pa_cons (pv 0) pa_nil)) pa_nil))) (pa_cons (pe_tup (pa_cons (pe_exvK EE.y16 (hr.mono (by decide)) (pk_cons (pv 0) pk_nil)) (pa_cons (pe_lst (pa_cons (pv 0) pa_nil)) pa_nil))) pa_nil))))))
      (pss_cons (ps_set (i := 2) sc_law_named.nd rfl (.inl rfl) (pe_op op_cat (pv 2) (pe_lst (pa_cons (pe_tup (pa_cons (pe_exvK EE.y15 (hr.mono (by decide)) (pk_cons (pv 1) (pk_cons (pv 0) pk_nil))) (pa_cons (pe_lst (pa_cons (pv 0) (pa_cons (pv 1) pa_nil))) pa_nil))) (pa_cons (pe_tup (pa_cons (pe_exvK EE.y18 (hr.mono (by decide)) (pk_cons (pv 0) pk_nil)) (pa_cons (pe_lst (pa_cons (pv 0) pa_nil)) pa_nil))) pa_nil)))))
      (pss_one (ps_ret (pe_op op_cat (pv 2) (pe_lst (pa_cons (pe_tup (pa_cons (pe_exvK EE.y19 (hr.mono (by decide)) (pk_cons (pv 1) (pk_cons (pv 0) pk_nil))) (pa_cons (pe_lst (pa_cons (pv 0) (pa_cons (pv 1) pa_nil))) pa_nil))) (pa_cons (pe_tup (pa_cons (pe_exvK EE.y20 (hr.mono (by decide)) (pk_cons (pv 1) (pk_cons (pv 0) pk_nil))) (pa_cons (pe_lst (pa_cons (pv 0) (pa_cons (pv 1) pa_nil))) pa_nil))) pa_nil)))))))))))), ?_⟩
    dsimp only [tSeq, tAsg, gName, tRet]
    refine mkL (b := b) (ks := [0, 2, 3]) (mk_cons (item1K rfl rfl) (mk_cons (item1K rfl rfl) (mk_cons (item1K rfl rfl) mk_nil))) (by decide) fun l1 ts1 H1 s1 e1 i1 => ?_
    refine mkC (b := b) (ks := [0, 2, 3]) (js := [4, 5, 6]) (n := 2) rfl e1 i1 (mk_cons (item1K rfl rfl) (mk_cons (item1K rfl rfl) (mk_cons (item1K rfl rfl) mk_nil))) (by decide) fun l2 ts2 H2 s2 e2 i2 => ?_
    refine mkC (b := b) (ks := [0, 2, 3, 4, 5, 6]) (js := [7, 8, 9]) (n := 2) rfl e2 i2 (mk_cons (item1K rfl rfl) (mk_cons (item1K rfl rfl) (mk_cons (item1K rfl rfl) mk_nil))) (by decide) fun l3 ts3 H3 s3 e3 i3 => ?_
    refine mkC (b := b) (ks := [0, 2, 3, 4, 5, 6, 7, 8, 9]) (js := [10, 11, 12]) (n := 2) rfl e3 i3 (mk_cons (item1K rfl rfl) (mk_cons (item1K rfl rfl) (mk_cons (item2K rfl rfl rfl) mk_nil))) (by decide) fun l4 ts4 H4 s4 e4 i4 => ?_
    refine mkC (b := b) (ks := [0, 2, 3, 4, 5, 6, 7, 8, 9, 10, 11, 12]) (js := [13, 14, 16]) (n := 2) rfl e4 i4 (mk_cons (item1K rfl rfl) (mk_cons (item1K rfl rfl) (mk_cons (item1K rfl rfl) mk_nil))) (by decide) fun l5 ts5 H5 s5 e5 i5 => ?_
    refine mkC (b := b) (ks := [0, 2, 3, 4, 5, 6, 7, 8, 9, 10, 11, 12, 13, 14, 16]) (js := [15, 18]) (n := 2) rfl e5 i5 (mk_cons (item2K rfl rfl rfl) (mk_cons (item1K rfl rfl) mk_nil)) (by decide) fun l6 ts6 H6 s6 e6 i6 => ?_
    refine mkC (b := b) (ks := [0, 2, 3, 4, 5, 6, 7, 8, 9, 10, 11, 12, 13, 14, 16, 15, 18]) (js := [19, 20]) (n := 2) rfl e6 i6 (mk_cons (item2K rfl rfl rfl) (mk_cons (item2K rfl rfl rfl) mk_nil)) (by decide) fun l7 ts7 H7 s7 e7 i7 => ?_
    exact k l7 ts7 _ ((((((s1.trans s2).trans s3).trans s4).trans s5).trans s6).trans s7) e7 i7
theorem ok_law_answers {f : Addr} {fd : FuncData} (F : Fun K "_law_answers" "_law_answers" s_law_answers f fd) (EE : EX P w K mg base cl) : FnOk P w K mg base CX0 3 f fd ["_law_one", "_law_two"] (spItems2 cl [14, 15, 16, 17, 18] [19, 20]) := by
  refine F.ok sc_law_answers (fun vs H Q E h => ?_) (fun cdv A outer s H vs Q E hr h => ?_)
  · obtain ⟨a, b, rfl, _⟩ := h
    rfl
  · obtain ⟨a, b, rfl, k⟩ := h
    refine ⟨_, (pss_cons (ps_set (i := 2) sc_law_answers.nd rfl (.inl rfl) (pe_lst (pa_cons (pe_tup (pa_cons (pe_exv EE.x14 (hr.mono (by decide)) (pa_cons (pv 0) pa_nil)) (pa_cons (pe_lst (pa_cons (pv 0) pa_nil)) pa_nil))) (pa_cons (pe_tup (pa_cons (pe_exv EE.x15 (hr.mono (by decide)) (pa_cons (pv 0) (pa_cons (pv 1) pa_nil))) (pa_cons (pe_lst (pa_cons (pv 0) (pa_cons (pv 1) pa_nil))) pa_nil))) (pa_cons (pe_tup (pa_cons (pe_exv EE.x16 (hr.mono (by decide)) (pa_cons (pv 0) pa_nil)) (pa_cons (pe_lst (pa_cons (pv 0) pa_nil)) pa_nil))) (pa_cons (pe_tup (pa_cons (pe_exv0 EE.x17) (pa_cons (pe_lst pa_nil) pa_nil))) pa_nil))))))
      (pss_one (ps_ret (pe_tup (pa_cons (pe_op op_cat (pv 2) (pe_lst (pa_cons (pe_tup (pa_cons (pe_exv EE.x18 (hr.mono (by decide)) (pa_cons (pv 0) pa_nil)) (pa_cons (pe_lst (pa_cons (pv 0) pa_nil)) pa_nil))) pa_nil))) (pa_cons (pe_lst (pa_cons (pe_tup (pa_cons (pe_exv EE.x19 (hr.mono (by decide)) (pa_cons (pv 0) (pa_cons (pv 1) pa_nil))) (pa_cons (pe_lst (pa_cons (pv 0) (pa_cons (pv 1) pa_nil))) pa_nil))) (pa_cons (pe_tup (pa_cons (pe_exv EE.x20 (hr.mono (by decide)) (pa_cons (pv 0) (pa_cons (pv 1) pa_nil))) (pa_cons (pe_lst (pa_cons (pv 0) (pa_cons (pv 1) pa_nil))) pa_nil))) pa_nil))) pa_nil)))))), ?_⟩
    dsimp only [tSeq, tAsg, gName, tRet]
    refine mkL (b := b) (ks := [14, 15, 16, 17]) (mk_cons (item1 rfl rfl) (mk_cons (item2 rfl rfl rfl) (mk_cons (item1 rfl rfl) (mk_cons (item0 rfl) mk_nil)))) (by decide) fun l1 ts1 H1 s1 e1 i1 => ?_
    refine mkC (b := b) (ks := [14, 15, 16, 17]) (js := [18]) (n := 2) rfl e1 i1 (mk_cons (item1 rfl rfl) mk_nil) (by decide) fun l2 ts2 H2 s2 e2 i2 => ?_
    refine mkL (b := b) (ks := [19, 20]) (mk_cons (item2 rfl rfl rfl) (mk_cons (item2 rfl rfl rfl) mk_nil)) (by decide) fun m us J sJ eJ iJ => ?_
    refine ⟨by show 2 ≤ sizeLine; decide, fun p hp => ?_⟩
    have sp := same_new (o := HO.tup [.ref l2, .ref m]) hp
    exact k p l2 ts2 m us _ (((s1.trans s2).trans sJ).trans sp) upd_same (sp _ _ (sJ _ _ e2)) ((i2.same sJ).same sp) (sp _ _ eJ) (iJ.same sp)
end
end Toy

namespace Toy
open PySem L2 LB PyProof.Rows

section
variable {P : Program} {w : World} {K : PySem.W.Frag} {mg : Str → Option Value} {base : Heap} {cl : Nat → Addr} {σ : L2.St} {H : Hp} {e : Addr} {k : Nat} {fs : List (Str × V)}
abbrev rO (K : PySem.W.Frag) : List V → Hp → VK → Prop := fun xs H Q => ∃ C, ExK K C ∧ rIsO K C xs H Q
abbrev rOT (K : PySem.W.Frag) : List V → Hp → VK → Prop := fun xs H Q => ∃ (C : Addr) (a : Addr) (d : Option Addr) (tp : Addr) (cs : List V) (ws : List Value) (b : Bool), ExK K C ∧ xs = [.ref a, .ref tp] ∧ H a = some (exo a C d) ∧ (∀ dd, d = some dd → ∃ fs, H dd = some (exd dd fs)) ∧
    H tp = some (.tup cs) ∧ Paired ClsV cs ws ∧ PySem.W.kitAny K (.ref C) ws = some b ∧ Q (.bl b) H
theorem isO (EE : EX P w K mg base cl) (he : ErrAt H e (cl k) fs) (hk : k < 21) (j : Nat) (hj : j < 24) (h0 : σ[0]? = some (some (.ref e))) {Q : VK} (q : Q (.bl (subB k j)) H) : tCB (rO K) (tCons (tVar 0) (tCons (tC (.ref (cl j))) tNil)) σ H Q := by
  obtain ⟨d, e1, e2⟩ := he.dd
  exact ⟨_, h0, cl k, EE.exk k hk, e, d, _, _, _, rfl, e1, e2, .own _, EE.kit k j hk hj, q⟩
def clA (cl : Nat → Addr) : List Nat → TA
  | [] => tNil
  | j :: js => tCons (tC (.ref (cl j))) (clA cl js)
theorem clA_run : ∀ (js : List Nat) {R : List V → Hp → Prop}, R (js.map fun j => .ref (cl j)) H → clA cl js σ H R
  | [], _, h => h
  | j :: js, R, h => clA_run js (R := fun xs H2 => R (.ref (cl j) :: xs) H2) h
theorem kit_any (EE : EX P w K mg base cl) (hk : k < 21) : ∀ (js : List Nat), (∀ j ∈ js, j < 24) → PySem.W.kitAny K (.ref (cl k)) (js.map fun j => .ref (cl j)) = some (js.any (subB k))
  | [], _ => rfl
  | j :: js, hj => by
    show (match PySem.W.kitOne K (.ref (cl k)) (.ref (cl j)) with | some true => some true | some false => PySem.W.kitAny K (.ref (cl k)) (js.map fun j => .ref (cl j)) | none => none) = _
    rw [EE.kit k j hk (hj j List.mem_cons_self), List.any_cons]
    cases subB k j with
    | true => rfl
    | false => exact kit_any EE hk js fun i hi => hj i (List.mem_cons_of_mem _ hi)
theorem paired_own : ∀ (js : List Nat), Paired ClsV (js.map fun j => .ref (cl j)) (js.map fun j => .ref (cl j))
  | [] => .nil
  | j :: js => .cons (.own _) (paired_own js)
theorem stepO (EE : EX P w K mg base cl) (he : ErrAt H e (cl k) fs) (hk : k < 21) (j : Nat) (hj : j < 24) (h0 : σ[0]? = some (some (.ref e))) {c : Bool} (hc : subB k j = c) {R : Bool → Hp → Prop} (q : R c H) :
    tB (tCB (rO K) (tCons (tVar 0) (tCons (tC (.ref (cl j))) tNil))) σ H R := isO EE he hk j hj h0 ⟨c, by rw [hc], q⟩
theorem stepOT (EE : EX P w K mg base cl) (he : ErrAt H e (cl k) fs) (hk : k < 21) (js : List Nat) (hj : ∀ j ∈ js, j < 24) (hz : js.length ≤ 100) (h0 : σ[0]? = some (some (.ref e))) {c : Bool} (hc : js.any (subB k) = c) {R : Bool → Hp → Prop} (q : ∀ H', Same H H' → R c H') :
    tB (tCB (rOT K) (tCons (tVar 0) (tCons (tTup (clA cl js)) tNil))) σ H R :=
  ⟨_, h0, clA_run js ⟨by rw [List.length_map]; exact Nat.le_trans hz (by decide), fun tp hp => by
    have s1 := same_new (o := HO.tup (js.map fun j => .ref (cl j))) hp
    obtain ⟨d, e1, e2⟩ := (he.same s1).dd
    exact ⟨cl k, e, d, tp, _, _, _, EE.exk k hk, rfl, e1, e2, upd_same, paired_own js, kit_any EE hk js hj, c, by rw [hc], q _ s1⟩⟩⟩
theorem fldV {f : Str} {v : V} {d : Addr} (EE : EX P w K mg base cl) (hk : k < 21) (h1 : H e = some (exo e (cl k) (some d))) (h2 : H d = some (exd d fs)) (hl : fs.lookup f = some v) (hf : PySem.W.findIn K (.ref (cl k)) f = some none) (h0 : σ[0]? = some (some (.ref e))) {Q : VK} (q : Q v H) : tExF K f (tVar 0) σ H Q :=
  ⟨_, h0, e, cl k, d, fs, v, rfl, EE.exk k hk, hf, h1, h2, hl, q⟩
theorem ErrAt.get {a b : V} (he : ErrAt H e (cl k) (dueF k a b)) (hn : dueF k a b ≠ []) : ∃ d, H e = some (exo e (cl k) (some d)) ∧ H d = some (exd d (dueF k a b)) := by
  obtain ⟨d, e1, r⟩ := he
  rcases r with ⟨_, z⟩ | ⟨dd, rfl, e2⟩
  · exact absurd z hn
  · exact ⟨dd, e1, e2⟩
def spFields (cl : Nat → Addr) : Sp := fun vs H Q _ => ∃ e k a b, vs = [.ref e] ∧ k < 21 ∧ ErrAt H e (cl k) (dueF k a b) ∧ ∀ l H', Same H H' → H' l = some (.lst (dueV k a b)) → Q (.ref l) H'
theorem ok_fields {f : Addr} {fd : FuncData} (F : Fun K "_law_fields" "_law_fields" s_law_fields f fd) (B : Blt mg) (EE : EX P w K mg base cl) : FnOk P w K mg base CX0 2 f fd ["_law_error"] (spFields cl) := by
  refine F.ok sc_law_fields (fun vs H Q E h => ?_) (fun cdv A outer s H vs Q E hr h => ?_)
  · obtain ⟨e, k, a, b, rfl, _⟩ := h
    rfl
  · obtain ⟨e, k, a, b, rfl, hk, he, q⟩ := h
    refine ⟨_, (pss_cons (ps_if (pt_val (pe_callB call_isOT (by rfl) B.n_isinstance (by decide +kernel) (pa_cons (pv 0) (pa_cons (pe_tup (pa_cons (pe_glob (v := .ref _) rfl EE.g1 rfl) (pa_cons (pe_glob (v := .ref _) rfl EE.g17 rfl) pa_nil))) pa_nil)))) (pss_one (ps_ret (pe_lst pa_nil))) pss_nil)
      (pss_cons (ps_if (pt_val (pe_callB call_isOT (by rfl) B.n_isinstance (by decide +kernel) (pa_cons (pv 0) (pa_cons (pe_tup (pa_cons (pe_glob (v := .ref _) rfl EE.g0 rfl) (pa_cons (pe_glob (v := .ref _) rfl EE.g2 rfl) pa_nil))) pa_nil)))) (pss_one (ps_ret (pe_lst (pa_cons (pe_exf (pv 0)) pa_nil)))) pss_nil)
      (pss_cons (ps_if (pt_val (pe_callB call_isOT (by rfl) B.n_isinstance (by decide +kernel) (pa_cons (pv 0) (pa_cons (pe_tup (pa_cons (pe_glob (v := .ref _) rfl EE.g3 rfl) (pa_cons (pe_glob (v := .ref _) rfl EE.g4 rfl) (pa_cons (pe_glob (v := .ref _) rfl EE.g8 rfl) (pa_cons (pe_glob (v := .ref _) rfl EE.g10 rfl) pa_nil))))) pa_nil)))) (pss_one (ps_ret (pe_lst (pa_cons (pe_exf (pv 0)) pa_nil)))) pss_nil)
      (pss_cons (ps_if (pt_val (pe_callB call_isO (by rfl) B.n_isinstance (by decide +kernel) (pa_cons (pv 0) (pa_cons (pe_glob (v := .ref _) rfl EE.g14 rfl) pa_nil)))) (pss_one (ps_ret (pe_lst (pa_cons (pe_exf (pv 0)) pa_nil)))) pss_nil)
      (pss_cons (ps_if (pt_val (pe_callB call_isO (by rfl) B.n_isinstance (by decide +kernel) (pa_cons (pv 0) (pa_cons (pe_glob (v := .ref _) rfl EE.g12 rfl) pa_nil)))) (pss_one (ps_ret (pe_lst (pa_cons (pe_exf (pv 0)) (pa_cons (pe_exf (pv 0)) pa_nil))))) pss_nil)
      (pss_cons (ps_if (pt_val (pe_callB call_isO (by rfl) B.n_isinstance (by decide +kernel) (pa_cons (pv 0) (pa_cons (pe_glob (v := .ref _) rfl EE.g13 rfl) pa_nil)))) (pss_one (ps_ret (pe_lst (pa_cons (pe_exf (pv 0)) pa_nil)))) pss_nil)
      (pss_cons (ps_if (pt_val (pe_callB call_isO (by rfl) B.n_isinstance (by decide +kernel) (pa_cons (pv 0) (pa_cons (pe_glob (v := .ref _) rfl EE.g15 rfl) pa_nil)))) (pss_one (ps_ret (pe_lst (pa_cons (pe_exf (pv 0)) (pa_cons (pe_exf (pv 0)) pa_nil))))) pss_nil)
      (pss_cons (ps_if (pt_val (pe_callB call_isO (by rfl) B.n_isinstance (by decide +kernel) (pa_cons (pv 0) (pa_cons (pe_glob (v := .ref _) rfl EE.g16 rfl) pa_nil)))) (pss_one (ps_ret (pe_lst (pa_cons (pe_exf (pv 0)) pa_nil)))) pss_nil)
      (pss_cons (ps_if (pt_val (pe_callB call_isO (by rfl) B.n_isinstance (by decide +kernel) (pa_cons (pv 0) (pa_cons (pe_glob (v := .ref _) rfl EE.g18 rfl) pa_nil)))) (pss_one (ps_ret (pe_lst (pa_cons (pe_exf (pv 0)) pa_nil)))) pss_nil)
      (pss_cons (ps_if (pt_val (pe_callB call_isO (by rfl) B.n_isinstance (by decide +kernel) (pa_cons (pv 0) (pa_cons (pe_glob (v := .ref _) rfl EE.g19 rfl) pa_nil)))) (pss_one (ps_ret (pe_lst (pa_cons (pe_exf (pv 0)) (pa_cons (pe_exf (pv 0)) pa_nil))))) pss_nil)
      (pss_one (ps_ret (pe_ifExp (pt_val (pe_callB call_isO (by rfl) B.n_isinstance (by decide +kernel) (pa_cons (pv 0) (pa_cons (pe_glob (v := .ref _) rfl EE.g20 rfl) pa_nil)))) (pe_lst (pa_cons (pe_exf (pv 0)) (pa_cons (pe_exf (pv 0)) pa_nil))) (pe_lst (pa_cons (pe_exf (pv 0)) pa_nil))))))))))))))), ?_⟩
    dsimp only [tSeq, tIfS, tRet, tNext, tIf]
    have c : k = 0 ∨ k = 1 ∨ k = 2 ∨ k = 3 ∨ k = 4 ∨ k = 5 ∨ k = 6 ∨ k = 7 ∨ k = 8 ∨ k = 9 ∨ k = 10 ∨ k = 11 ∨ k = 12 ∨ k = 13 ∨ k = 14 ∨ k = 15 ∨ k = 16 ∨ k = 17 ∨ k = 18 ∨ k = 19 ∨ k = 20 := by omega
    rcases c with rfl | rfl | rfl | rfl | rfl | rfl | rfl | rfl | rfl | rfl | rfl | rfl | rfl | rfl | rfl | rfl | rfl | rfl | rfl | rfl | rfl
    · refine stepOT EE he hk [1, 17] (by decide) (by decide) rfl (c := false) rfl fun H1 s1 => ?_
      refine iteF ?_
      refine stepOT EE (he.same s1) hk [0, 2] (by decide) (by decide) rfl (c := true) rfl fun H2 s2 => ?_
      refine iteT ?_
      dsimp only [tLst, tCons, tNil]
      obtain ⟨d, d1, d2⟩ := ErrAt.get ((he.same s1).same s2) (fun z => nomatch z)
      refine fldV EE hk d1 d2 (show _ = some a from rfl) EE.f0value ?_ ?_
      · rfl
      exact ⟨by show 1 ≤ sizeLine; decide, fun l hl => q l _ ((s1.trans s2).trans (same_new hl)) upd_same⟩
    · refine stepOT EE he hk [1, 17] (by decide) (by decide) rfl (c := true) rfl fun H1 s1 => ?_
      refine iteT ?_
      exact ⟨by decide, fun l hl => q l _ (s1.trans (same_new hl)) upd_same⟩
    · refine stepOT EE he hk [1, 17] (by decide) (by decide) rfl (c := false) rfl fun H1 s1 => ?_
      refine iteF ?_
      refine stepOT EE (he.same s1) hk [0, 2] (by decide) (by decide) rfl (c := true) rfl fun H2 s2 => ?_
      refine iteT ?_
      dsimp only [tLst, tCons, tNil]
      obtain ⟨d, d1, d2⟩ := ErrAt.get ((he.same s1).same s2) (fun z => nomatch z)
      refine fldV EE hk d1 d2 (show _ = some a from rfl) EE.f2value ?_ ?_
      · rfl
      exact ⟨by show 1 ≤ sizeLine; decide, fun l hl => q l _ ((s1.trans s2).trans (same_new hl)) upd_same⟩
    · refine stepOT EE he hk [1, 17] (by decide) (by decide) rfl (c := false) rfl fun H1 s1 => ?_
      refine iteF ?_
      refine stepOT EE (he.same s1) hk [0, 2] (by decide) (by decide) rfl (c := false) rfl fun H2 s2 => ?_
      refine iteF ?_
      refine stepOT EE ((he.same s1).same s2) hk [3, 4, 8, 10] (by decide) (by decide) rfl (c := true) rfl fun H3 s3 => ?_
      refine iteT ?_
      dsimp only [tLst, tCons, tNil]
      obtain ⟨d, d1, d2⟩ := ErrAt.get (((he.same s1).same s2).same s3) (fun z => nomatch z)
      refine fldV EE hk d1 d2 (show _ = some a from rfl) EE.f3at ?_ ?_
      · rfl
      exact ⟨by show 1 ≤ sizeLine; decide, fun l hl => q l _ (((s1.trans s2).trans s3).trans (same_new hl)) upd_same⟩
    · refine stepOT EE he hk [1, 17] (by decide) (by decide) rfl (c := false) rfl fun H1 s1 => ?_
      refine iteF ?_
      refine stepOT EE (he.same s1) hk [0, 2] (by decide) (by decide) rfl (c := false) rfl fun H2 s2 => ?_
      refine iteF ?_
      refine stepOT EE ((he.same s1).same s2) hk [3, 4, 8, 10] (by decide) (by decide) rfl (c := true) rfl fun H3 s3 => ?_
      refine iteT ?_
      dsimp only [tLst, tCons, tNil]
      obtain ⟨d, d1, d2⟩ := ErrAt.get (((he.same s1).same s2).same s3) (fun z => nomatch z)
      refine fldV EE hk d1 d2 (show _ = some a from rfl) EE.f4at ?_ ?_
      · rfl
      exact ⟨by show 1 ≤ sizeLine; decide, fun l hl => q l _ (((s1.trans s2).trans s3).trans (same_new hl)) upd_same⟩
    · refine stepOT EE he hk [1, 17] (by decide) (by decide) rfl (c := false) rfl fun H1 s1 => ?_
      refine iteF ?_
      refine stepOT EE (he.same s1) hk [0, 2] (by decide) (by decide) rfl (c := false) rfl fun H2 s2 => ?_
      refine iteF ?_
      refine stepOT EE ((he.same s1).same s2) hk [3, 4, 8, 10] (by decide) (by decide) rfl (c := false) rfl fun H3 s3 => ?_
      refine iteF ?_
      refine stepO EE (((he.same s1).same s2).same s3) hk 14 (by decide) rfl (c := false) rfl ?_
      refine iteF ?_
      refine stepO EE (((he.same s1).same s2).same s3) hk 12 (by decide) rfl (c := false) rfl ?_
      refine iteF ?_
      refine stepO EE (((he.same s1).same s2).same s3) hk 13 (by decide) rfl (c := false) rfl ?_
      refine iteF ?_
      refine stepO EE (((he.same s1).same s2).same s3) hk 15 (by decide) rfl (c := false) rfl ?_
      refine iteF ?_
      refine stepO EE (((he.same s1).same s2).same s3) hk 16 (by decide) rfl (c := false) rfl ?_
      refine iteF ?_
      refine stepO EE (((he.same s1).same s2).same s3) hk 18 (by decide) rfl (c := false) rfl ?_
      refine iteF ?_
      refine stepO EE (((he.same s1).same s2).same s3) hk 19 (by decide) rfl (c := false) rfl ?_
      refine iteF ?_
      refine stepO EE (((he.same s1).same s2).same s3) hk 20 (by decide) rfl (c := false) rfl ?_
      refine iteF ?_
      dsimp only [tLst, tCons, tNil]
      obtain ⟨d, d1, d2⟩ := ErrAt.get (((he.same s1).same s2).same s3) (fun z => nomatch z)
      refine fldV EE hk d1 d2 (show _ = some a from rfl) EE.f5part ?_ ?_
      · rfl
      exact ⟨by show 1 ≤ sizeLine; decide, fun l hl => q l _ (((s1.trans s2).trans s3).trans (same_new hl)) upd_same⟩
    · refine stepOT EE he hk [1, 17] (by decide) (by decide) rfl (c := false) rfl fun H1 s1 => ?_
      refine iteF ?_
      refine stepOT EE (he.same s1) hk [0, 2] (by decide) (by decide) rfl (c := false) rfl fun H2 s2 => ?_
      refine iteF ?_
      refine stepOT EE ((he.same s1).same s2) hk [3, 4, 8, 10] (by decide) (by decide) rfl (c := false) rfl fun H3 s3 => ?_
      refine iteF ?_
      refine stepO EE (((he.same s1).same s2).same s3) hk 14 (by decide) rfl (c := false) rfl ?_
      refine iteF ?_
      refine stepO EE (((he.same s1).same s2).same s3) hk 12 (by decide) rfl (c := false) rfl ?_
      refine iteF ?_
      refine stepO EE (((he.same s1).same s2).same s3) hk 13 (by decide) rfl (c := false) rfl ?_
      refine iteF ?_
      refine stepO EE (((he.same s1).same s2).same s3) hk 15 (by decide) rfl (c := false) rfl ?_
      refine iteF ?_
      refine stepO EE (((he.same s1).same s2).same s3) hk 16 (by decide) rfl (c := false) rfl ?_
      refine iteF ?_
      refine stepO EE (((he.same s1).same s2).same s3) hk 18 (by decide) rfl (c := false) rfl ?_
      refine iteF ?_
      refine stepO EE (((he.same s1).same s2).same s3) hk 19 (by decide) rfl (c := false) rfl ?_
      refine iteF ?_
      refine stepO EE (((he.same s1).same s2).same s3) hk 20 (by decide) rfl (c := false) rfl ?_
      refine iteF ?_
      dsimp only [tLst, tCons, tNil]
      obtain ⟨d, d1, d2⟩ := ErrAt.get (((he.same s1).same s2).same s3) (fun z => nomatch z)
      refine fldV EE hk d1 d2 (show _ = some a from rfl) EE.f6part ?_ ?_
      · rfl
      exact ⟨by show 1 ≤ sizeLine; decide, fun l hl => q l _ (((s1.trans s2).trans s3).trans (same_new hl)) upd_same⟩
    · refine stepOT EE he hk [1, 17] (by decide) (by decide) rfl (c := false) rfl fun H1 s1 => ?_
      refine iteF ?_
      refine stepOT EE (he.same s1) hk [0, 2] (by decide) (by decide) rfl (c := false) rfl fun H2 s2 => ?_
      refine iteF ?_
      refine stepOT EE ((he.same s1).same s2) hk [3, 4, 8, 10] (by decide) (by decide) rfl (c := false) rfl fun H3 s3 => ?_
      refine iteF ?_
      refine stepO EE (((he.same s1).same s2).same s3) hk 14 (by decide) rfl (c := false) rfl ?_
      refine iteF ?_
      refine stepO EE (((he.same s1).same s2).same s3) hk 12 (by decide) rfl (c := false) rfl ?_
      refine iteF ?_
      refine stepO EE (((he.same s1).same s2).same s3) hk 13 (by decide) rfl (c := false) rfl ?_
      refine iteF ?_
      refine stepO EE (((he.same s1).same s2).same s3) hk 15 (by decide) rfl (c := false) rfl ?_
      refine iteF ?_
      refine stepO EE (((he.same s1).same s2).same s3) hk 16 (by decide) rfl (c := false) rfl ?_
      refine iteF ?_
      refine stepO EE (((he.same s1).same s2).same s3) hk 18 (by decide) rfl (c := false) rfl ?_
      refine iteF ?_
      refine stepO EE (((he.same s1).same s2).same s3) hk 19 (by decide) rfl (c := false) rfl ?_
      refine iteF ?_
      refine stepO EE (((he.same s1).same s2).same s3) hk 20 (by decide) rfl (c := false) rfl ?_
      refine iteF ?_
      dsimp only [tLst, tCons, tNil]
      obtain ⟨d, d1, d2⟩ := ErrAt.get (((he.same s1).same s2).same s3) (fun z => nomatch z)
      refine fldV EE hk d1 d2 (show _ = some a from rfl) EE.f7part ?_ ?_
      · rfl
      exact ⟨by show 1 ≤ sizeLine; decide, fun l hl => q l _ (((s1.trans s2).trans s3).trans (same_new hl)) upd_same⟩
    · refine stepOT EE he hk [1, 17] (by decide) (by decide) rfl (c := false) rfl fun H1 s1 => ?_
      refine iteF ?_
      refine stepOT EE (he.same s1) hk [0, 2] (by decide) (by decide) rfl (c := false) rfl fun H2 s2 => ?_
      refine iteF ?_
      refine stepOT EE ((he.same s1).same s2) hk [3, 4, 8, 10] (by decide) (by decide) rfl (c := true) rfl fun H3 s3 => ?_
      refine iteT ?_
      dsimp only [tLst, tCons, tNil]
      obtain ⟨d, d1, d2⟩ := ErrAt.get (((he.same s1).same s2).same s3) (fun z => nomatch z)
      refine fldV EE hk d1 d2 (show _ = some a from rfl) EE.f8at ?_ ?_
      · rfl
      exact ⟨by show 1 ≤ sizeLine; decide, fun l hl => q l _ (((s1.trans s2).trans s3).trans (same_new hl)) upd_same⟩
    · refine stepOT EE he hk [1, 17] (by decide) (by decide) rfl (c := false) rfl fun H1 s1 => ?_
      refine iteF ?_
      refine stepOT EE (he.same s1) hk [0, 2] (by decide) (by decide) rfl (c := false) rfl fun H2 s2 => ?_
      refine iteF ?_
      refine stepOT EE ((he.same s1).same s2) hk [3, 4, 8, 10] (by decide) (by decide) rfl (c := false) rfl fun H3 s3 => ?_
      refine iteF ?_
      refine stepO EE (((he.same s1).same s2).same s3) hk 14 (by decide) rfl (c := false) rfl ?_
      refine iteF ?_
      refine stepO EE (((he.same s1).same s2).same s3) hk 12 (by decide) rfl (c := false) rfl ?_
      refine iteF ?_
      refine stepO EE (((he.same s1).same s2).same s3) hk 13 (by decide) rfl (c := false) rfl ?_
      refine iteF ?_
      refine stepO EE (((he.same s1).same s2).same s3) hk 15 (by decide) rfl (c := false) rfl ?_
      refine iteF ?_
      refine stepO EE (((he.same s1).same s2).same s3) hk 16 (by decide) rfl (c := false) rfl ?_
      refine iteF ?_
      refine stepO EE (((he.same s1).same s2).same s3) hk 18 (by decide) rfl (c := false) rfl ?_
      refine iteF ?_
      refine stepO EE (((he.same s1).same s2).same s3) hk 19 (by decide) rfl (c := false) rfl ?_
      refine iteF ?_
      refine stepO EE (((he.same s1).same s2).same s3) hk 20 (by decide) rfl (c := false) rfl ?_
      refine iteF ?_
      dsimp only [tLst, tCons, tNil]
      obtain ⟨d, d1, d2⟩ := ErrAt.get (((he.same s1).same s2).same s3) (fun z => nomatch z)
      refine fldV EE hk d1 d2 (show _ = some a from rfl) EE.f9part ?_ ?_
      · rfl
      exact ⟨by show 1 ≤ sizeLine; decide, fun l hl => q l _ (((s1.trans s2).trans s3).trans (same_new hl)) upd_same⟩
    · refine stepOT EE he hk [1, 17] (by decide) (by decide) rfl (c := false) rfl fun H1 s1 => ?_
      refine iteF ?_
      refine stepOT EE (he.same s1) hk [0, 2] (by decide) (by decide) rfl (c := false) rfl fun H2 s2 => ?_
      refine iteF ?_
      refine stepOT EE ((he.same s1).same s2) hk [3, 4, 8, 10] (by decide) (by decide) rfl (c := true) rfl fun H3 s3 => ?_
      refine iteT ?_
      dsimp only [tLst, tCons, tNil]
      obtain ⟨d, d1, d2⟩ := ErrAt.get (((he.same s1).same s2).same s3) (fun z => nomatch z)
      refine fldV EE hk d1 d2 (show _ = some a from rfl) EE.f10at ?_ ?_
      · rfl
      exact ⟨by show 1 ≤ sizeLine; decide, fun l hl => q l _ (((s1.trans s2).trans s3).trans (same_new hl)) upd_same⟩
    · refine stepOT EE he hk [1, 17] (by decide) (by decide) rfl (c := false) rfl fun H1 s1 => ?_
      refine iteF ?_
      refine stepOT EE (he.same s1) hk [0, 2] (by decide) (by decide) rfl (c := false) rfl fun H2 s2 => ?_
      refine iteF ?_
      refine stepOT EE ((he.same s1).same s2) hk [3, 4, 8, 10] (by decide) (by decide) rfl (c := false) rfl fun H3 s3 => ?_
      refine iteF ?_
      refine stepO EE (((he.same s1).same s2).same s3) hk 14 (by decide) rfl (c := false) rfl ?_
      refine iteF ?_
      refine stepO EE (((he.same s1).same s2).same s3) hk 12 (by decide) rfl (c := false) rfl ?_
      refine iteF ?_
      refine stepO EE (((he.same s1).same s2).same s3) hk 13 (by decide) rfl (c := false) rfl ?_
      refine iteF ?_
      refine stepO EE (((he.same s1).same s2).same s3) hk 15 (by decide) rfl (c := false) rfl ?_
      refine iteF ?_
      refine stepO EE (((he.same s1).same s2).same s3) hk 16 (by decide) rfl (c := false) rfl ?_
      refine iteF ?_
      refine stepO EE (((he.same s1).same s2).same s3) hk 18 (by decide) rfl (c := false) rfl ?_
      refine iteF ?_
      refine stepO EE (((he.same s1).same s2).same s3) hk 19 (by decide) rfl (c := false) rfl ?_
      refine iteF ?_
      refine stepO EE (((he.same s1).same s2).same s3) hk 20 (by decide) rfl (c := false) rfl ?_
      refine iteF ?_
      dsimp only [tLst, tCons, tNil]
      obtain ⟨d, d1, d2⟩ := ErrAt.get (((he.same s1).same s2).same s3) (fun z => nomatch z)
      refine fldV EE hk d1 d2 (show _ = some a from rfl) EE.f11part ?_ ?_
      · rfl
      exact ⟨by show 1 ≤ sizeLine; decide, fun l hl => q l _ (((s1.trans s2).trans s3).trans (same_new hl)) upd_same⟩
    · refine stepOT EE he hk [1, 17] (by decide) (by decide) rfl (c := false) rfl fun H1 s1 => ?_
      refine iteF ?_
      refine stepOT EE (he.same s1) hk [0, 2] (by decide) (by decide) rfl (c := false) rfl fun H2 s2 => ?_
      refine iteF ?_
      refine stepOT EE ((he.same s1).same s2) hk [3, 4, 8, 10] (by decide) (by decide) rfl (c := false) rfl fun H3 s3 => ?_
      refine iteF ?_
      refine stepO EE (((he.same s1).same s2).same s3) hk 14 (by decide) rfl (c := false) rfl ?_
      refine iteF ?_
      refine stepO EE (((he.same s1).same s2).same s3) hk 12 (by decide) rfl (c := true) rfl ?_
      refine iteT ?_
      dsimp only [tLst, tCons, tNil]
      obtain ⟨d, d1, d2⟩ := ErrAt.get (((he.same s1).same s2).same s3) (fun z => nomatch z)
      refine fldV EE hk d1 d2 (show _ = some a from rfl) EE.f12line ?_ ?_
      · rfl
      refine fldV EE hk d1 d2 (show _ = some b from rfl) EE.f12word ?_ ?_
      · rfl
      exact ⟨by show 2 ≤ sizeLine; decide, fun l hl => q l _ (((s1.trans s2).trans s3).trans (same_new hl)) upd_same⟩
    · refine stepOT EE he hk [1, 17] (by decide) (by decide) rfl (c := false) rfl fun H1 s1 => ?_
      refine iteF ?_
      refine stepOT EE (he.same s1) hk [0, 2] (by decide) (by decide) rfl (c := false) rfl fun H2 s2 => ?_
      refine iteF ?_
      refine stepOT EE ((he.same s1).same s2) hk [3, 4, 8, 10] (by decide) (by decide) rfl (c := false) rfl fun H3 s3 => ?_
      refine iteF ?_
      refine stepO EE (((he.same s1).same s2).same s3) hk 14 (by decide) rfl (c := false) rfl ?_
      refine iteF ?_
      refine stepO EE (((he.same s1).same s2).same s3) hk 12 (by decide) rfl (c := false) rfl ?_
      refine iteF ?_
      refine stepO EE (((he.same s1).same s2).same s3) hk 13 (by decide) rfl (c := true) rfl ?_
      refine iteT ?_
      dsimp only [tLst, tCons, tNil]
      obtain ⟨d, d1, d2⟩ := ErrAt.get (((he.same s1).same s2).same s3) (fun z => nomatch z)
      refine fldV EE hk d1 d2 (show _ = some a from rfl) EE.f13word ?_ ?_
      · rfl
      exact ⟨by show 1 ≤ sizeLine; decide, fun l hl => q l _ (((s1.trans s2).trans s3).trans (same_new hl)) upd_same⟩
    · refine stepOT EE he hk [1, 17] (by decide) (by decide) rfl (c := false) rfl fun H1 s1 => ?_
      refine iteF ?_
      refine stepOT EE (he.same s1) hk [0, 2] (by decide) (by decide) rfl (c := false) rfl fun H2 s2 => ?_
      refine iteF ?_
      refine stepOT EE ((he.same s1).same s2) hk [3, 4, 8, 10] (by decide) (by decide) rfl (c := false) rfl fun H3 s3 => ?_
      refine iteF ?_
      refine stepO EE (((he.same s1).same s2).same s3) hk 14 (by decide) rfl (c := true) rfl ?_
      refine iteT ?_
      dsimp only [tLst, tCons, tNil]
      obtain ⟨d, d1, d2⟩ := ErrAt.get (((he.same s1).same s2).same s3) (fun z => nomatch z)
      refine fldV EE hk d1 d2 (show _ = some a from rfl) EE.f14place ?_ ?_
      · rfl
      exact ⟨by show 1 ≤ sizeLine; decide, fun l hl => q l _ (((s1.trans s2).trans s3).trans (same_new hl)) upd_same⟩
    · refine stepOT EE he hk [1, 17] (by decide) (by decide) rfl (c := false) rfl fun H1 s1 => ?_
      refine iteF ?_
      refine stepOT EE (he.same s1) hk [0, 2] (by decide) (by decide) rfl (c := false) rfl fun H2 s2 => ?_
      refine iteF ?_
      refine stepOT EE ((he.same s1).same s2) hk [3, 4, 8, 10] (by decide) (by decide) rfl (c := false) rfl fun H3 s3 => ?_
      refine iteF ?_
      refine stepO EE (((he.same s1).same s2).same s3) hk 14 (by decide) rfl (c := false) rfl ?_
      refine iteF ?_
      refine stepO EE (((he.same s1).same s2).same s3) hk 12 (by decide) rfl (c := false) rfl ?_
      refine iteF ?_
      refine stepO EE (((he.same s1).same s2).same s3) hk 13 (by decide) rfl (c := false) rfl ?_
      refine iteF ?_
      refine stepO EE (((he.same s1).same s2).same s3) hk 15 (by decide) rfl (c := true) rfl ?_
      refine iteT ?_
      dsimp only [tLst, tCons, tNil]
      obtain ⟨d, d1, d2⟩ := ErrAt.get (((he.same s1).same s2).same s3) (fun z => nomatch z)
      refine fldV EE hk d1 d2 (show _ = some a from rfl) EE.f15what ?_ ?_
      · rfl
      refine fldV EE hk d1 d2 (show _ = some b from rfl) EE.f15most ?_ ?_
      · rfl
      exact ⟨by show 2 ≤ sizeLine; decide, fun l hl => q l _ (((s1.trans s2).trans s3).trans (same_new hl)) upd_same⟩
    · refine stepOT EE he hk [1, 17] (by decide) (by decide) rfl (c := false) rfl fun H1 s1 => ?_
      refine iteF ?_
      refine stepOT EE (he.same s1) hk [0, 2] (by decide) (by decide) rfl (c := false) rfl fun H2 s2 => ?_
      refine iteF ?_
      refine stepOT EE ((he.same s1).same s2) hk [3, 4, 8, 10] (by decide) (by decide) rfl (c := false) rfl fun H3 s3 => ?_
      refine iteF ?_
      refine stepO EE (((he.same s1).same s2).same s3) hk 14 (by decide) rfl (c := false) rfl ?_
      refine iteF ?_
      refine stepO EE (((he.same s1).same s2).same s3) hk 12 (by decide) rfl (c := false) rfl ?_
      refine iteF ?_
      refine stepO EE (((he.same s1).same s2).same s3) hk 13 (by decide) rfl (c := false) rfl ?_
      refine iteF ?_
      refine stepO EE (((he.same s1).same s2).same s3) hk 15 (by decide) rfl (c := false) rfl ?_
      refine iteF ?_
      refine stepO EE (((he.same s1).same s2).same s3) hk 16 (by decide) rfl (c := true) rfl ?_
      refine iteT ?_
      dsimp only [tLst, tCons, tNil]
      obtain ⟨d, d1, d2⟩ := ErrAt.get (((he.same s1).same s2).same s3) (fun z => nomatch z)
      refine fldV EE hk d1 d2 (show _ = some a from rfl) EE.f16rule ?_ ?_
      · rfl
      exact ⟨by show 1 ≤ sizeLine; decide, fun l hl => q l _ (((s1.trans s2).trans s3).trans (same_new hl)) upd_same⟩
    · refine stepOT EE he hk [1, 17] (by decide) (by decide) rfl (c := true) rfl fun H1 s1 => ?_
      refine iteT ?_
      exact ⟨by decide, fun l hl => q l _ (s1.trans (same_new hl)) upd_same⟩
    · refine stepOT EE he hk [1, 17] (by decide) (by decide) rfl (c := false) rfl fun H1 s1 => ?_
      refine iteF ?_
      refine stepOT EE (he.same s1) hk [0, 2] (by decide) (by decide) rfl (c := false) rfl fun H2 s2 => ?_
      refine iteF ?_
      refine stepOT EE ((he.same s1).same s2) hk [3, 4, 8, 10] (by decide) (by decide) rfl (c := false) rfl fun H3 s3 => ?_
      refine iteF ?_
      refine stepO EE (((he.same s1).same s2).same s3) hk 14 (by decide) rfl (c := false) rfl ?_
      refine iteF ?_
      refine stepO EE (((he.same s1).same s2).same s3) hk 12 (by decide) rfl (c := false) rfl ?_
      refine iteF ?_
      refine stepO EE (((he.same s1).same s2).same s3) hk 13 (by decide) rfl (c := false) rfl ?_
      refine iteF ?_
      refine stepO EE (((he.same s1).same s2).same s3) hk 15 (by decide) rfl (c := false) rfl ?_
      refine iteF ?_
      refine stepO EE (((he.same s1).same s2).same s3) hk 16 (by decide) rfl (c := false) rfl ?_
      refine iteF ?_
      refine stepO EE (((he.same s1).same s2).same s3) hk 18 (by decide) rfl (c := true) rfl ?_
      refine iteT ?_
      dsimp only [tLst, tCons, tNil]
      obtain ⟨d, d1, d2⟩ := ErrAt.get (((he.same s1).same s2).same s3) (fun z => nomatch z)
      refine fldV EE hk d1 d2 (show _ = some a from rfl) EE.f18what ?_ ?_
      · rfl
      exact ⟨by show 1 ≤ sizeLine; decide, fun l hl => q l _ (((s1.trans s2).trans s3).trans (same_new hl)) upd_same⟩
    · refine stepOT EE he hk [1, 17] (by decide) (by decide) rfl (c := false) rfl fun H1 s1 => ?_
      refine iteF ?_
      refine stepOT EE (he.same s1) hk [0, 2] (by decide) (by decide) rfl (c := false) rfl fun H2 s2 => ?_
      refine iteF ?_
      refine stepOT EE ((he.same s1).same s2) hk [3, 4, 8, 10] (by decide) (by decide) rfl (c := false) rfl fun H3 s3 => ?_
      refine iteF ?_
      refine stepO EE (((he.same s1).same s2).same s3) hk 14 (by decide) rfl (c := false) rfl ?_
      refine iteF ?_
      refine stepO EE (((he.same s1).same s2).same s3) hk 12 (by decide) rfl (c := false) rfl ?_
      refine iteF ?_
      refine stepO EE (((he.same s1).same s2).same s3) hk 13 (by decide) rfl (c := false) rfl ?_
      refine iteF ?_
      refine stepO EE (((he.same s1).same s2).same s3) hk 15 (by decide) rfl (c := false) rfl ?_
      refine iteF ?_
      refine stepO EE (((he.same s1).same s2).same s3) hk 16 (by decide) rfl (c := false) rfl ?_
      refine iteF ?_
      refine stepO EE (((he.same s1).same s2).same s3) hk 18 (by decide) rfl (c := false) rfl ?_
      refine iteF ?_
      refine stepO EE (((he.same s1).same s2).same s3) hk 19 (by decide) rfl (c := true) rfl ?_
      refine iteT ?_
      dsimp only [tLst, tCons, tNil]
      obtain ⟨d, d1, d2⟩ := ErrAt.get (((he.same s1).same s2).same s3) (fun z => nomatch z)
      refine fldV EE hk d1 d2 (show _ = some a from rfl) EE.f19place ?_ ?_
      · rfl
      refine fldV EE hk d1 d2 (show _ = some b from rfl) EE.f19number ?_ ?_
      · rfl
      exact ⟨by show 2 ≤ sizeLine; decide, fun l hl => q l _ (((s1.trans s2).trans s3).trans (same_new hl)) upd_same⟩
    · refine stepOT EE he hk [1, 17] (by decide) (by decide) rfl (c := false) rfl fun H1 s1 => ?_
      refine iteF ?_
      refine stepOT EE (he.same s1) hk [0, 2] (by decide) (by decide) rfl (c := false) rfl fun H2 s2 => ?_
      refine iteF ?_
      refine stepOT EE ((he.same s1).same s2) hk [3, 4, 8, 10] (by decide) (by decide) rfl (c := false) rfl fun H3 s3 => ?_
      refine iteF ?_
      refine stepO EE (((he.same s1).same s2).same s3) hk 14 (by decide) rfl (c := false) rfl ?_
      refine iteF ?_
      refine stepO EE (((he.same s1).same s2).same s3) hk 12 (by decide) rfl (c := false) rfl ?_
      refine iteF ?_
      refine stepO EE (((he.same s1).same s2).same s3) hk 13 (by decide) rfl (c := false) rfl ?_
      refine iteF ?_
      refine stepO EE (((he.same s1).same s2).same s3) hk 15 (by decide) rfl (c := false) rfl ?_
      refine iteF ?_
      refine stepO EE (((he.same s1).same s2).same s3) hk 16 (by decide) rfl (c := false) rfl ?_
      refine iteF ?_
      refine stepO EE (((he.same s1).same s2).same s3) hk 18 (by decide) rfl (c := false) rfl ?_
      refine iteF ?_
      refine stepO EE (((he.same s1).same s2).same s3) hk 19 (by decide) rfl (c := false) rfl ?_
      refine iteF ?_
      refine stepO EE (((he.same s1).same s2).same s3) hk 20 (by decide) rfl (c := true) rfl ?_
      refine iteT ?_
      dsimp only [tLst, tCons, tNil]
      obtain ⟨d, d1, d2⟩ := ErrAt.get (((he.same s1).same s2).same s3) (fun z => nomatch z)
      refine fldV EE hk d1 d2 (show _ = some a from rfl) EE.f20place ?_ ?_
      · rfl
      refine fldV EE hk d1 d2 (show _ = some b from rfl) EE.f20value ?_ ?_
      · rfl
      exact ⟨by show 2 ≤ sizeLine; decide, fun l hl => q l _ (((s1.trans s2).trans s3).trans (same_new hl)) upd_same⟩
end
end Toy

namespace Toy
open PySem L2 LB PyProof.Rows

section
variable {P : Program} {w : World} {K : PySem.W.Frag} {mg : Str → Option Value} {base : Heap} {cl : Nat → Addr} {σ : L2.St} {H : Hp} {e : Addr} {k : Nat} {fs : List (Str × V)}
def isoA (K : PySem.W.Frag) (cl : Nat → Addr) : List Nat → TA
  | [] => tNil
  | j :: js => tCons (tCB (rO K) (tCons (tVar 0) (tCons (tC (.ref (cl j))) tNil))) (isoA K cl js)
def bo (k : Nat) (js : List Nat) : List V := js.map fun j => .bl (subB k j)
theorem isoA_run (EE : EX P w K mg base cl) (he : ErrAt H e (cl k) fs) (hk : k < 21) (h0 : σ[0]? = some (some (.ref e))) : ∀ (js : List Nat), (∀ j ∈ js, j < 24) → ∀ {R : List V → Hp → Prop}, R (bo k js) H → isoA K cl js σ H R
  | [], _, _, h => h
  | j :: js, hj, R, h => isO EE he hk j (hj j List.mem_cons_self) h0 (isoA_run EE he hk h0 js (fun i hi => hj i (List.mem_cons_of_mem _ hi)) (R := fun xs H2 => R (.bl (subB k j) :: xs) H2) h)
theorem bo_len (js : List Nat) : (bo k js).length = js.length := by simp [bo]
theorem kfirst (EE : EX P w K mg base cl) (he : ErrAt H e (cl k) fs) (hk : k < 21) (js : List Nat) (hj : ∀ j ∈ js, j < 24) (hz : js.length ≤ 100) (h0 : σ[0]? = some (some (.ref e))) {Q : VK} (q : ∀ l H', Same H H' → H' l = some (.lst (bo k js)) → Q (.ref l) H') :
    tLst (isoA K cl js) σ H Q := isoA_run EE he hk h0 js hj ⟨by rw [bo_len]; exact Nat.le_trans hz (by decide), fun l hl => q l _ (same_new hl) upd_same⟩
theorem kcat (EE : EX P w K mg base cl) (he : ErrAt H e (cl k) fs) (hk : k < 21) {js : List Nat} (is : List Nat) (hj : ∀ j ∈ is, j < 24) (hz : js.length + is.length ≤ 100) (h0 : σ[0]? = some (some (.ref e))) {l : Addr} (h1 : σ[1]? = some (some (.ref l))) (hl : H l = some (.lst (bo k js)))
    {Q : VK} (q : ∀ l H', Same H H' → H' l = some (.lst (bo k (js ++ is))) → Q (.ref l) H') : tOp rCat (tVar 1) (tLst (isoA K cl is)) σ H Q :=
  ⟨_, h1, kfirst EE he hk is hj (by omega) h0 fun m H2 s2 e2 => ⟨l, m, _, _, rfl, rfl, s2 _ _ hl, e2, by rw [bo_len, bo_len]; exact Nat.le_trans hz (by decide), fun p hp => q p _ (s2.trans (same_new hp)) (by rw [upd_same]; unfold bo; rw [List.map_append])⟩⟩
def spKinds (cl : Nat → Addr) : Sp := fun vs H Q _ => ∃ e k fs, vs = [.ref e] ∧ k < 21 ∧ ErrAt H e (cl k) fs ∧ ∀ l H', Same H H' → H' l = some (.lst (bo k (List.range 21))) → Q (.ref l) H'
theorem ok_kinds {f : Addr} {fd : FuncData} (F : Fun K "_law_kinds" "_law_kinds" s_law_kinds f fd) (B : Blt mg) (EE : EX P w K mg base cl) : FnOk P w K mg base CX0 2 f fd ["_law_error"] (spKinds cl) := by
  refine F.ok sc_law_kinds (fun vs H Q E h => ?_) (fun cdv A outer s H vs Q E hr h => ?_)
  · obtain ⟨e, k, fs, rfl, _⟩ := h
    rfl
  · obtain ⟨e, k, fs, rfl, hk, he, q⟩ := h
    refine ⟨_, (pss_cons (ps_set (i := 1) sc_law_kinds.nd rfl (.inl rfl) (pe_lst (pa_cons (pe_callB call_isO (by rfl) B.n_isinstance (by decide +kernel) (pa_cons (pv 0) (pa_cons (pe_glob (v := .ref _) rfl EE.g0 rfl) pa_nil))) (pa_cons (pe_callB call_isO (by rfl) B.n_isinstance (by decide +kernel) (pa_cons (pv 0) (pa_cons (pe_glob (v := .ref _) rfl EE.g1 rfl) pa_nil))) (pa_cons (pe_callB call_isO (by rfl) B.n_isinstance (by decide +kernel) (pa_cons (pv 0) (pa_cons (pe_glob (v := .ref _) rfl EE.g2 rfl) pa_nil))) pa_nil)))))
      (pss_cons (ps_set (i := 1) sc_law_kinds.nd rfl (.inl rfl) (pe_op op_cat (pv 1) (pe_lst (pa_cons (pe_callB call_isO (by rfl) B.n_isinstance (by decide +kernel) (pa_cons (pv 0) (pa_cons (pe_glob (v := .ref _) rfl EE.g3 rfl) pa_nil))) (pa_cons (pe_callB call_isO (by rfl) B.n_isinstance (by decide +kernel) (pa_cons (pv 0) (pa_cons (pe_glob (v := .ref _) rfl EE.g4 rfl) pa_nil))) (pa_cons (pe_callB call_isO (by rfl) B.n_isinstance (by decide +kernel) (pa_cons (pv 0) (pa_cons (pe_glob (v := .ref _) rfl EE.g5 rfl) pa_nil))) pa_nil))))))
      (pss_cons (ps_set (i := 1) sc_law_kinds.nd rfl (.inl rfl) (pe_op op_cat (pv 1) (pe_lst (pa_cons (pe_callB call_isO (by rfl) B.n_isinstance (by decide +kernel) (pa_cons (pv 0) (pa_cons (pe_glob (v := .ref _) rfl EE.g6 rfl) pa_nil))) (pa_cons (pe_callB call_isO (by rfl) B.n_isinstance (by decide +kernel) (pa_cons (pv 0) (pa_cons (pe_glob (v := .ref _) rfl EE.g7 rfl) pa_nil))) (pa_cons (pe_callB call_isO (by rfl) B.n_isinstance (by decide +kernel) (pa_cons (pv 0) (pa_cons (pe_glob (v := .ref _) rfl EE.g8 rfl) pa_nil))) pa_nil))))))
      (pss_cons (ps_set (i := 1) sc_law_kinds.nd rfl (.inl rfl) (pe_op op_cat (pv 1) (pe_lst (pa_cons (pe_callB call_isO (by rfl) B.n_isinstance (by decide +kernel) (pa_cons (pv 0) (pa_cons (pe_glob (v := .ref _) rfl EE.g9 rfl) pa_nil))) (pa_cons (pe_callB call_isO (by rfl) B.n_isinstance (by decide +kernel) (pa_cons (pv 0) (pa_cons (pe_glob (v := .ref _) rfl EE.g10 rfl) pa_nil))) (pa_cons (pe_callB call_isO (by rfl) B.n_isinstance (by decide +kernel) (pa_cons (pv 0) (pa_cons (pe_glob (v := .ref _) rfl EE.g11 rfl) pa_nil))) pa_nil))))))
      (pss_cons (ps_set (i := 1) sc_law_kinds.nd rfl (.inl rfl) (pe_op op_cat (pv 1) (pe_lst (pa_cons (pe_callB call_isO (by rfl) B.n_isinstance (by decide +kernel) (pa_cons (pv 0) (pa_cons (pe_glob (v := .ref _) rfl EE.g12 rfl) pa_nil))) (pa_cons (pe_callB call_isO (by rfl) B.n_isinstance (by decide +kernel) (pa_cons (pv 0) (pa_cons (pe_glob (v := .ref _) rfl EE.g13 rfl) pa_nil))) (pa_cons (pe_callB call_isO (by rfl) B.n_isinstance (by decide +kernel) (pa_cons (pv 0) (pa_cons (pe_glob (v := .ref _) rfl EE.g14 rfl) pa_nil))) pa_nil))))))
      (pss_cons (ps_set (i := 1) sc_law_kinds.nd rfl (.inl rfl) (pe_op op_cat (pv 1) (pe_lst (pa_cons (pe_callB call_isO (by rfl) B.n_isinstance (by decide +kernel) (pa_cons (pv 0) (pa_cons (pe_glob (v := .ref _) rfl EE.g15 rfl) pa_nil))) (pa_cons (pe_callB call_isO (by rfl) B.n_isinstance (by decide +kernel) (pa_cons (pv 0) (pa_cons (pe_glob (v := .ref _) rfl EE.g16 rfl) pa_nil))) (pa_cons (pe_callB call_isO (by rfl) B.n_isinstance (by decide +kernel) (pa_cons (pv 0) (pa_cons (pe_glob (v := .ref _) rfl EE.g17 rfl) pa_nil))) pa_nil))))))
      (pss_one (ps_ret (pe_op op_cat (pv 1) (pe_lst (pa_cons (pe_callB call_isO (by rfl) B.n_isinstance (by decide +kernel) (pa_cons (pv 0) (pa_cons (pe_glob (v := .ref _) rfl EE.g18 rfl) pa_nil))) (pa_cons (pe_callB call_isO (by rfl) B.n_isinstance (by decide +kernel) (pa_cons (pv 0) (pa_cons (pe_glob (v := .ref _) rfl EE.g19 rfl) pa_nil))) (pa_cons (pe_callB call_isO (by rfl) B.n_isinstance (by decide +kernel) (pa_cons (pv 0) (pa_cons (pe_glob (v := .ref _) rfl EE.g20 rfl) pa_nil))) pa_nil))))))))))))), ?_⟩
    dsimp only [tSeq, tAsg, gName, tRet]
    refine kfirst EE he hk [0, 1, 2] (by decide) (by decide) rfl fun l1 H1 s1 e1 => ?_
    refine kcat EE (he.same s1) hk (js := [0, 1, 2]) [3, 4, 5] (by decide) (by decide) rfl rfl e1 fun l2 H2 s2 e2 => ?_
    refine kcat EE (he.same (s1.trans s2)) hk (js := [0, 1, 2, 3, 4, 5]) [6, 7, 8] (by decide) (by decide) rfl rfl e2 fun l3 H3 s3 e3 => ?_
    refine kcat EE (he.same ((s1.trans s2).trans s3)) hk (js := [0, 1, 2, 3, 4, 5, 6, 7, 8]) [9, 10, 11] (by decide) (by decide) rfl rfl e3 fun l4 H4 s4 e4 => ?_
    refine kcat EE (he.same (((s1.trans s2).trans s3).trans s4)) hk (js := [0, 1, 2, 3, 4, 5, 6, 7, 8, 9, 10, 11]) [12, 13, 14] (by decide) (by decide) rfl rfl e4 fun l5 H5 s5 e5 => ?_
    refine kcat EE (he.same ((((s1.trans s2).trans s3).trans s4).trans s5)) hk (js := [0, 1, 2, 3, 4, 5, 6, 7, 8, 9, 10, 11, 12, 13, 14]) [15, 16, 17] (by decide) (by decide) rfl rfl e5 fun l6 H6 s6 e6 => ?_
    refine kcat EE (he.same (((((s1.trans s2).trans s3).trans s4).trans s5).trans s6)) hk (js := [0, 1, 2, 3, 4, 5, 6, 7, 8, 9, 10, 11, 12, 13, 14, 15, 16, 17]) [18, 19, 20] (by decide) (by decide) rfl rfl e6 fun l7 H7 s7 e7 => ?_
    exact q l7 _ ((((((s1.trans s2).trans s3).trans s4).trans s5).trans s6).trans s7) e7

def spSame (K : PySem.W.Frag) : Sp := fun vs H Q _ => ∃ (l m p : Addr) (xs : List V), vs = [.ref l, .ref m] ∧ H l = some (.lst xs) ∧ H m = some (.lst xs) ∧ xs.length ≤ 2 ∧ (∀ x ∈ xs, Tame K p H x) ∧ ∀ H', Same H H' → Q (.bl true) H'
theorem ok_same {f : Addr} {fd : FuncData} (F : Fun K "_law_is_same" "_law_is_same" s_law_is_same f fd) (B : Blt mg) : FnOk P w K mg base CX0 2 f fd ["_law_heard", "_law_due"] (spSame K) := by
  refine F.ok sc_law_is_same (fun vs H Q E h => ?_) (fun cdv A outer s H vs Q E hr h => ?_)
  · obtain ⟨l, m, p, xs, rfl, _⟩ := h
    rfl
  · obtain ⟨l, m, p, xs, rfl, hl, hm, hz, ht, q⟩ := h
    refine ⟨_, (pss_cons (ps_if (pt_cmpR op_ne (pe_callB call_len (by rfl) B.n_len (by decide +kernel) (pa_cons (pv 0) pa_nil)) (pe_callB call_len (by rfl) B.n_len (by decide +kernel) (pa_cons (pv 1) pa_nil)) (nomark _)) (pss_one (ps_ret pe_bl)) pss_nil)
      (pss_cons (ps_if (pt_cmpR (op_neD hr.units) (pe_lc rfl sc_law_is_same.nd (pi_range1 (by rfl) B.n_range (pa_cons (pe_callB call_len (by rfl) B.n_len (by decide +kernel) (pa_cons (pv 1) pa_nil)) pa_nil)) (blkOk_by (own := [("_law_k", 2)]) (N := ["_law_heard", "_law_due", "_law_k"]) (sc := defScope s_law_is_same) (by decide +kernel)) (fun _ _ _ _ _ => (pg_name (i := 2) sc_law_is_same.nd rfl (.inl rfl))) (fun _ _ _ _ _ => (pts_one (pt_cmpR op_ne (pe_callB call_isiB (by rfl) B.n_isinstance (by decide +kernel) (pa_cons (pe_ix ix_listB (pv 0) (pv 2) (fun _ _ => rfl)) (pa_cons (pe_bltn (v := .ty "bool") (by rfl) B.n_bool (by decide +kernel) rfl) pa_nil))) (pe_callB call_isiB (by rfl) B.n_isinstance (by decide +kernel) (pa_cons (pe_ix ix_listB (pv 1) (pv 2) (fun _ _ => rfl)) (pa_cons (pe_bltn (v := .ty "bool") (by rfl) B.n_bool (by decide +kernel) rfl) pa_nil))) (nomark _)))) (fun _ _ _ _ _ => (pv 2))) (pe_lst pa_nil) (nomark _)) (pss_one (ps_ret pe_bl)) pss_nil)
      (pss_one (ps_ret (pe_cmpR (op_eqSm (hr.mono (by decide))) (pv 0) (pv 1) (nomark _)))))), ?_⟩
    refine ⟨_, rfl, _, _, rfl, .inl ⟨xs, SqL.of hl, rfl⟩, _, rfl, _, _, rfl, .inl ⟨xs, SqL.of hm, rfl⟩, rfl, false, by rw [decide_eq_true rfl]; rfl, ?_⟩
    refine iteF ?_
    refine ⟨_, rfl, _, _, rfl, .inl ⟨xs, SqL.of hm, rfl⟩, _, rfl, by omega, by omega, ?_⟩
    rw [Int.toNat_natCast]
    intro D hD
    refine lc_range (fun i H' => H' D = some (.lst []) ∧ Same H H') ⟨upd_same, same_new hD⟩ (fun i H1 hi h1 => ?_) (fun H1 h1 => ?_)
    · obtain ⟨hD1, s1⟩ := h1
      have hx : xs[i]? = some xs[i] := List.getElem?_eq_getElem hi
      have hat : atI xs (0 + (i : Int)) = some xs[i] := by
        rw [Int.zero_add, atI_nat]
        exact hx
      obtain ⟨f0, t, b, ty, kb⟩ := (ht _ (List.getElem_mem hi)).but (But.of_same s1)
      refine ⟨rfl, ?_⟩
      refine ⟨_, rfl, _, rfl, ⟨l, xs, _, _, rfl, rfl, SqL.of (s1 _ _ hl), hat, _, _, _, _, b, rfl, .ty "bool", ty, kb, ?_⟩⟩
      refine ⟨_, rfl, _, rfl, ⟨m, xs, _, _, rfl, rfl, SqL.of (s1 _ _ hm), hat, _, _, _, _, b, rfl, .ty "bool", ty, kb, ?_⟩⟩
      refine ⟨by cases b <;> rfl, false, by rw [decide_eq_true rfl]; rfl, ?_⟩
      exact ⟨hD1, s1⟩
    · obtain ⟨hD1, s1⟩ := h1
      refine ⟨by decide, fun n hn => ?_⟩
      have s2 := s1.trans (same_new (o := HO.lst []) hn)
      refine ⟨_, _, .lst (SqL.of (by rw [upd_ne (ne_of_none hD1 hn)]; exact hD1)) .nil, .lst (SqL.of upd_same) .nil, by rfl, by rfl, false, by rfl, ?_⟩
      refine ⟨_, rfl, _, rfl, ⟨l, m, xs, xs, rfl, rfl, s2 _ _ hl, s2 _ _ hm, prs_same fun x hx => (ht x hx).flat⟩, fun H' e => q H' (s2.trans e)⟩
end
end Toy

namespace Toy
open PySem L2 LB PyProof.Rows
abbrev s_law_value : Stmt := top 42
theorem sc_law_value : FnScope ["_law_pen_here", "_law_some"] ["_law_pen_here"] (defScope s_law_value) := ⟨rfl, rfl, rfl, by decide +kernel, rfl, by decide +kernel, by decide +kernel⟩

section
variable {P : Program} {w : World} {K : PySem.W.Frag} {mg : Str → Option Value} {base : Heap} {cl : Nat → Addr} {σ : L2.St} {H : Hp} {p : Addr}
def spPick : Sp := fun vs H Q _ => ∃ (p l q : Addr) (xs : List V) (ns : List Int) (i r : Int), vs = [.ref p, .ref l] ∧ H l = some (.lst xs) ∧ 0 < xs.length ∧ xs.length < 1000 ∧ PenAt H p q ns i r ∧ i < 1000000 ∧ l ≠ p ∧
  ∀ x ∈ xs, ∀ i' r' H', But p H H' → PenAt H' p q ns i' r' → i' ≤ i + 1 → Q x H'
theorem ok_pick {f : Addr} {fd : FuncData} (F : Fun K "_law_pick" "_law_pick" s_law_pick f fd) (B : Blt mg) (D_law_draw : HasFn P w K mg base CX0 1 "_law_draw" ["_law_pen_here", "_law_many"] spDraw) : FnOk P w K mg base CX0 2 f fd ["_law_pen_here", "_law_some"] spPick := by
  refine F.ok sc_law_pick (fun vs H Q E h => ?_) (fun cdv A outer s H vs Q E hr h => ?_)
  · obtain ⟨p, l, q, xs, ns, i, r, rfl, _⟩ := h
    rfl
  · obtain ⟨p, l, q, xs, ns, i, r, rfl, hl, h0, hz, hp, hi, hn, k⟩ := h
    refine ⟨_, (pss_one (ps_ret (pe_ix ix_list (pv 1) (pe_fn D_law_draw (hr.mono (by decide)) pass0 (pa_cons (pv 0) (pa_cons (pe_callB call_len (by rfl) B.n_len (by decide +kernel) (pa_cons (pv 1) pa_nil)) pa_nil))) (fun _ _ => rfl)))), ?_⟩
    refine ⟨_, rfl, _, rfl, _, rfl, _, _, rfl, .inl ⟨xs, SqL.of hl, rfl⟩, p, q, ns, i, r, _, rfl, hp, by omega, by omega, hi, fun d i' r' H' d0 d1 hi' hp' b => ?_⟩
    obtain ⟨n, rfl⟩ : ∃ n : Nat, d = (n : Int) := ⟨d.toNat, by omega⟩
    have hn' : n < xs.length := by omega
    exact ⟨l, xs, _, _, rfl, rfl, SqL.of (b _ _ hl hn), atI_nat (List.getElem?_eq_getElem hn'), k _ (List.getElem_mem hn') i' r' H' b hp' hi'⟩
def MkT (K : PySem.W.Frag) (p : Addr) (te : TE) (σ : L2.St) : Prop := ∀ H Q, (∃ l, H p = some (.lst l)) → (∀ x H', Same H H' → Tame K p H' x → Q x H') → te σ H Q
def MkTs (K : PySem.W.Frag) (p : Addr) (ta : TA) (σ : L2.St) (n : Nat) : Prop := ∀ H Q, (∃ l, H p = some (.lst l)) → (∀ xs H', Same H H' → xs.length = n → (∀ x ∈ xs, Tame K p H' x) → Q xs H') → ta σ H Q
theorem ts_nil : MkTs K p tNil σ 0 := fun H Q _ q => q [] H (Same.refl H) rfl fun x h => nomatch h
theorem ts_cons {te : TE} {ta : TA} {n : Nat} (h1 : MkT K p te σ) (h2 : MkTs K p ta σ n) : MkTs K p (tCons te ta) σ (n + 1) := fun H Q ⟨o, hp⟩ q =>
  h1 H _ ⟨o, hp⟩ fun x H1 s1 t1 => h2 H1 _ ⟨o, s1 _ _ hp⟩ fun xs H2 s2 e2 t2 => q (x :: xs) H2 (s1.trans s2) (by rw [List.length_cons, e2]) fun y hy => by
    rcases List.mem_cons.mp hy with rfl | hy
    · exact t1.but (But.of_same s2)
    · exact t2 y hy
theorem kbool {n : String} (h : kitB n "bool" = some false) : PySem.W.kitOne K (.type n) (.type "bool") = some false := kit_ty h
theorem t_const {v : V} {n : String} {c : Bool} (f : flatV v = true) (t : ∀ H, TyOf K H v (.type n)) (h : kitB n "bool" = some c) : MkT K p (tC v) σ := fun H Q _ q => q v H (Same.refl H) ⟨.inl f, .type n, c, .base (t H), kit_ty h⟩
theorem t_new {o : HO} {n : String} {a : Addr} {v : V} (e : v = .ref a) {H : Hp} (ha : H a = none) (hp : ∃ l, H p = some (.lst l)) (t : TyX K (upd H a o) (.ref a) (.type n)) (h : kitB n "bool" = some false) : Tame K p (upd H a o) v :=
  ⟨.inr ⟨a, e, fun q => by obtain ⟨o', hp⟩ := hp; rw [← q, ha] at hp; cases hp⟩, .type n, false, e ▸ t, kit_ty h⟩
theorem t_tup {ta : TA} {n : Nat} (h : MkTs K p ta σ n) (hn : n ≤ 20) : MkT K p (tTup ta) σ := fun H Q ⟨o, hp⟩ q => h H _ ⟨o, hp⟩ fun xs H1 s1 e1 _ => ⟨by rw [e1]; exact Nat.le_trans hn (by decide), fun a ha => q _ _ (s1.trans (same_new ha)) (t_new rfl ha ⟨o, s1 _ _ hp⟩ (.base (.tup upd_same)) (by decide +kernel))⟩
theorem t_lst {ta : TA} {n : Nat} (h : MkTs K p ta σ n) (hn : n ≤ 20) : MkT K p (tLst ta) σ := fun H Q ⟨o, hp⟩ q => h H _ ⟨o, hp⟩ fun xs H1 s1 e1 _ => ⟨by rw [e1]; exact Nat.le_trans hn (by decide), fun a ha => q _ _ (s1.trans (same_new ha)) (t_new rfl ha ⟨o, s1 _ _ hp⟩ (.base (.lst upd_same)) (by decide +kernel))⟩
theorem t_dnew : MkT K p tDNewK σ := fun H Q hp q a ha => q _ _ (same_new ha) (t_new rfl ha hp (.base (.dK upd_same)) (by decide +kernel))
end
end Toy

namespace Toy
open PySem L2 LB PyProof.Rows

section
variable {P : Program} {w : World} {K : PySem.W.Frag} {mg : Str → Option Value} {base : Heap} {cl : Nat → Addr} {σ : L2.St} {H : Hp} {p : Addr} {CV CC : Addr}
structure VT (K : PySem.W.Frag) (C : Addr) : Prop where
  cl : Cls K C
  ha : PySem.W.findIn K (.ref C) "__class__" = some (some (.builtin "object.__class__"))
  hn : PySem.W.specialIn K (.builtin "object.__class__") "__get__" = some (some (.builtin "getset_descriptor.__get__"))
  htk : PySem.W.takesIn K (.builtin "object.__class__") = some true
  hm : PySem.W.mroIn K C (.type "object") = some true
  kb : PySem.W.kitOne K (.ref C) (.type "bool") = some false
theorem VT.ty {C : Addr} (T : VT K C) {a dx : Addr} {fs : List (Str × V)} (e : H a = some (.ins C dx fs)) : TyX K H (.ref a) (.ref C) := .base (.ins e T.cl T.ha T.hn T.htk T.hm)
theorem VT.tame {C : Addr} (T : VT K C) {a dx : Addr} {fs : List (Str × V)} (e : H a = some (.ins C dx fs)) (hp : ∃ l, H p = some (.lst l)) : Tame K p H (.ref a) :=
  ⟨.inr ⟨a, rfl, fun q => by obtain ⟨l, hp⟩ := hp; rw [q, hp] at e; cases e⟩, .ref C, false, T.ty e, T.kb⟩
theorem vals_new {z : Str} (gz : Good z) {R : VK} (r : ∀ v cs H', Same H H' → ValsAt CV CC H' v z cs → R (.ref v) H') : tMake CV (spVals CV CC) [] E0 (tCons (tC (.str z)) tNil) σ H R :=
  fun x dx hx hdx hne => ⟨x, dx, z, rfl, upd_same, gz, fun H' cs b hv => ⟨rfl, r x cs H' (fun c o e => b c o (by rw [upd_ne (ne_of_none e hx), upd_ne (ne_of_none e hdx)]; exact e) (ne_of_none e hx)) hv⟩⟩
theorem t_vals {z : Str} (T : VT K CV) (gz : Good z) : MkT K p (tMake CV (spVals CV CC) [] E0 (tCons (tC (.str z)) tNil)) σ := fun H Q ⟨l, hp⟩ q =>
  vals_new gz fun v cs H' s hv => let ⟨dx, t, e, _⟩ := hv.ob; q _ _ s (T.tame e ⟨l, s _ _ hp⟩)
theorem t_end {z : Str} {i : Int} (T : VT K CC) (gz : Good z) (hi : ∀ cs : List Addr, cs.length = 2 ^ z.cps.size → ∃ (j : Nat) (c : Addr), cs[j]? = some c ∧ atI (cs.map V.ref) i = some (.ref c)) : MkT K p (tProp CV (spEnd CV CC i) [] E0 (tMake CV (spVals CV CC) [] E0 (tCons (tC (.str z)) tNil))) σ := fun H Q ⟨l, hp⟩ q =>
  vals_new gz fun v cs H' s hv => by
    obtain ⟨dx, t, e, _⟩ := hv.ob
    obtain ⟨j, c, hj, ha⟩ := hi cs hv.len
    obtain ⟨dc, hc⟩ := hv.cell j c hj
    exact ⟨v, dx, _, rfl, e, v, z, cs, c, rfl, hv, ha, q _ _ s (T.tame hc ⟨l, s _ _ hp⟩)⟩
theorem end_full {z : Str} (cs : List Addr) (h : cs.length = 2 ^ z.cps.size) : ∃ (j : Nat) (c : Addr), cs[j]? = some c ∧ atI (cs.map V.ref) (-1) = some (.ref c) := by
  have h0 : 0 < cs.length := by rw [h]; exact Nat.two_pow_pos _
  rcases List.eq_nil_or_concat cs with rfl | ⟨ds, c, rfl⟩
  · cases h0
  · refine ⟨ds.length, c, ?_, ?_⟩
    · rw [List.concat_eq_append, List.getElem?_append_right (Nat.le_refl _), Nat.sub_self]; rfl
    · rw [List.concat_eq_append, List.map_append]; exact atI_last _ _
theorem end_empty {z : Str} (cs : List Addr) (h : cs.length = 2 ^ z.cps.size) : ∃ (j : Nat) (c : Addr), cs[j]? = some c ∧ atI (cs.map V.ref) 0 = some (.ref c) := by
  have h0 : 0 < cs.length := by rw [h]; exact Nat.two_pow_pos _
  cases cs with
  | nil => cases h0
  | cons c ds => exact ⟨0, c, rfl, atI_nat (j := 0) rfl⟩
theorem good_xo : Good "xo" := ⟨by decide +kernel, by decide +kernel, by decide +kernel, by decide +kernel⟩
theorem good_abc : Good "abc" := ⟨by decide +kernel, by decide +kernel, by decide +kernel, by decide +kernel⟩
theorem t_disp : MkT K p (tDisp [(tC (.str "a"), tC (.int 1))]) σ := fun H Q ⟨l, hp⟩ q a ha =>
  ⟨upd_same, [(.inr "a", .int 1)], rfl, by decide, by
    have s1 : Same H (upd (upd H a (.dK [])) a (.dK (mergeK [] [(.inr "a", .int 1)]))) := fun c o e => by rw [upd_ne (ne_of_none e ha), upd_ne (ne_of_none e ha)]; exact e
    exact q _ _ s1 ⟨.inr ⟨a, rfl, fun e => by rw [e, hp] at ha; cases ha⟩, .type "dict", false, .base (.dK upd_same), kit_ty (by decide +kernel)⟩⟩
theorem t_pow : MkT K p (tOp (rI CPow fun i j => .int (i ^ j.toNat)) (tC (.int 10)) (tC (.int 50))) σ := fun H Q _ q =>
  ⟨_, _, rfl, rfl, ⟨by decide, by decide, by decide⟩, q _ H (Same.refl H) ⟨.inl rfl, .type "int", false, .base (.int _), kit_ty (by decide +kernel)⟩⟩
theorem t_neg : MkT K p (tUn (rU fun i => .int (-i)) (tC (.int 7))) σ := fun H Q _ q => ⟨_, rfl, q _ H (Same.refl H) ⟨.inl rfl, .type "int", false, .base (.int _), kit_ty (by decide +kernel)⟩⟩
theorem seq_asg {te : TE} {n : Nat} {u : TS} {D : Ends} (h : te σ H fun x H1 => u D (σ.set n (some x)) H1) : tSeq (tAsg te (gName n)) u D σ H := h
theorem do_ret {te : TE} {D : Ends} (h : te σ H D.rt) : tRet te D σ H := h
theorem lst_run {ta : TA} {n : Nat} (h : MkTs K p ta σ n) (hn : n ≤ 20) (hp : ∃ l, H p = some (.lst l)) {Q : VK} (q : ∀ l xs H', Same H H' → H' l = some (.lst xs) → xs.length = n → (∀ x ∈ xs, Tame K p H' x) → Q (.ref l) H') : tLst ta σ H Q :=
  h H _ hp fun xs H1 s1 e1 t1 => ⟨by rw [e1]; exact Nat.le_trans hn (by decide), fun l hl => q l xs _ (s1.trans (same_new hl)) upd_same e1 fun x hx => (t1 x hx).but (But.of_same (same_new hl))⟩
def spValue (K : PySem.W.Frag) : Sp := fun vs H Q _ => ∃ (p q : Addr) (ns : List Int) (i r : Int), vs = [.ref p] ∧ PenAt H p q ns i r ∧ i < 1000000 ∧
  ∀ x i' r' H', But p H H' → PenAt H' p q ns i' r' → i' ≤ i + 1 → Tame K p H' x → Q x H'
theorem ok_value {f : Addr} {fd : FuncData} (F : Fun K "_law_value" "_law_value" s_law_value f fd) (VV : VF K CV CC) (TV : VT K CV) (TC : VT K CC)
    (D_law_pick : HasFn P w K mg base CX0 2 "_law_pick" ["_law_pen_here", "_law_some"] spPick) (M_Values : HasMk P w K mg base CX0 4 CV "Values" ["self", "letters"] (spVals CV CC))
    (D_full : HasPr P w K mg base CX0 1 CV "full" ["self"] (spEnd CV CC (-1))) (D_empty : HasPr P w K mg base CX0 1 CV "empty" ["self"] (spEnd CV CC 0)) : FnOk P w K mg base CX0 6 f fd ["_law_pen_here"] (spValue K) := by
  refine F.ok sc_law_value (fun vs H Q E h => ?_) (fun cdv A outer s H vs Q E hr h => ?_)
  · obtain ⟨p, q, ns, i, r, rfl, _⟩ := h
    rfl
  · obtain ⟨p, q, ns, i, r, rfl, hp, hi, k⟩ := h
    refine ⟨_, (pss_cons (ps_set (i := 1) sc_law_value.nd rfl (.inl rfl) (pe_lst (pa_cons pe_non (pa_cons pe_bl (pa_cons pe_bl (pa_cons pe_int (pa_cons (pe_un un_neg pe_int) (pa_cons (pe_op op_pow pe_int pe_int) (pa_cons pe_str (pa_cons pe_str (pa_cons pe_str (pa_cons (pe_tup (pa_cons pe_int (pa_cons pe_str pa_nil))) (pa_cons (pe_tup pa_nil) (pa_cons (pe_lst (pa_cons pe_int (pa_cons (pe_lst (pa_cons pe_int pa_nil)) pa_nil))) (pa_cons (pe_lst pa_nil) (pa_cons (pe_disp (pps_cons pe_str pe_int pps_nil) rfl rfl (by decide) (by decide)) (pa_cons pe_dnewK pa_nil)))))))))))))))))
      (pss_one (ps_ret (pe_fn D_law_pick (hr.mono (by decide)) pass0 (pa_cons (pv 0) (pa_cons (pe_op op_cat (pv 1) (pe_lst (pa_cons (pe_mk M_Values (hr.mono (by decide)) pass0 (pa_cons pe_str pa_nil)) (pa_cons (pe_pr (pe_mk M_Values (hr.mono (by decide)) pass0 (pa_cons pe_str pa_nil)) D_full VV.cv (hr.mono (by decide)) pass0 rfl) (pa_cons (pe_pr (pe_mk M_Values (hr.mono (by decide)) pass0 (pa_cons pe_str pa_nil)) D_empty VV.cv (hr.mono (by decide)) pass0 rfl) pa_nil))))) pa_nil)))))), ?_⟩
    refine seq_asg ?_
    refine lst_run (K := K) (p := p) (ts_cons (t_const (c := false) rfl (fun _ => .non) (by decide +kernel)) (ts_cons (t_const (c := true) rfl (fun _ => .bl _) (by decide +kernel)) (ts_cons (t_const (c := true) rfl (fun _ => .bl _) (by decide +kernel)) (ts_cons (t_const (c := false) rfl (fun _ => .int _) (by decide +kernel)) (ts_cons t_neg (ts_cons t_pow (ts_cons (t_const (c := false) rfl (fun _ => .str _) (by decide +kernel)) (ts_cons (t_const (c := false) rfl (fun _ => .str _) (by decide +kernel)) (ts_cons (t_const (c := false) rfl (fun _ => .str _) (by decide +kernel)) (ts_cons (t_tup (ts_cons (t_const (c := false) rfl (fun _ => .int _) (by decide +kernel)) (ts_cons (t_const (c := false) rfl (fun _ => .str _) (by decide +kernel)) ts_nil)) (by decide)) (ts_cons (t_tup ts_nil (by decide)) (ts_cons (t_lst (ts_cons (t_const (c := false) rfl (fun _ => .int _) (by decide +kernel)) (ts_cons (t_lst (ts_cons (t_const (c := false) rfl (fun _ => .int _) (by decide +kernel)) ts_nil) (by decide)) ts_nil)) (by decide)) (ts_cons (t_lst ts_nil (by decide)) (ts_cons t_disp (ts_cons t_dnew ts_nil))))))))))))))) (by decide) ⟨_, hp.pen⟩ fun l xs H1 s1 e1 n1 t1 => ?_
    refine do_ret ?_
    refine ⟨_, rfl, _, rfl, ?_⟩
    refine lst_run (K := K) (p := p) (ts_cons (t_vals TV good_xo) (ts_cons (t_end TC good_xo end_full) (ts_cons (t_end TC good_abc end_empty) ts_nil))) (by decide) ⟨_, s1 _ _ hp.pen⟩ fun l2 ys H2 s2 e2 n2 t2 => ?_
    have z : 18 < sizeLine := by decide
    refine ⟨l, l2, xs, ys, rfl, rfl, s2 _ _ e1, e2, by omega, fun m hm => ?_⟩
    have s3 : Same H (upd H2 m (.lst (xs ++ ys))) := (s1.trans s2).trans (same_new hm)
    refine ⟨p, m, q, xs ++ ys, ns, i, r, rfl, upd_same, by rw [List.length_append]; omega, by rw [List.length_append]; omega, hp.same s3, hi, fun e => ?_, fun x hx i' r' H' b hp' hi' => k x i' r' H' (But.trans (But.of_same s3) b) hp' hi' ?_⟩
    · rw [e, (s1.trans s2) _ _ hp.pen] at hm
      cases hm
    · refine Tame.but (H := upd H2 m (.lst (xs ++ ys))) ?_ b
      rcases List.mem_append.mp hx with h | h
      · exact (t1 x h).but (But.of_same (s2.trans (same_new hm)))
      · exact (t2 x h).but (But.of_same (same_new hm))
end
end Toy

namespace Toy
open PySem L2 LB PyProof.Rows
abbrev s_law : Stmt := top 49
theorem sc_law : FnScope ["_law_script", "_law_pen_here", "_law_again", "_law_one", "_law_two", "_law_answers_here", "_law_causes", "_law_inputs_here", "_law_marks", "_law_group", "_law_below", "_law_error", "_law_due", "_law_k", "_law_j"] ["_law_script"] (defScope s_law) := ⟨rfl, rfl, rfl, by decide +kernel, rfl, by decide +kernel, by decide +kernel⟩

section
variable {P : Program} {w : World} {K : PySem.W.Frag} {mg : Str → Option Value} {base : Heap} {cl : Nat → Addr}
def spLaw (K : PySem.W.Frag) : Sp := fun vs H Q _ => ∃ (a : Addr) (ns : List Int), vs = [.ref a] ∧ SqL K H a (ns.map V.int) ∧ ∀ H', Q (.bl true) H'
theorem isOn {σ : L2.St} {H : Hp} {e : Addr} {k n : Nat} {fs : List (Str × V)} (EE : EX P w K mg base cl) (he : ErrAt H e (cl k) fs) (hk : k < 21) (j : Nat) (hj : j < 24) (h0 : σ[n]? = some (some (.ref e))) {Q : VK} (q : Q (.bl (subB k j)) H) :
    tCB (rO K) (tCons (tVar n) (tCons (tC (.ref (cl j))) tNil)) σ H Q := by
  obtain ⟨d, e1, e2⟩ := he.dd
  exact ⟨_, h0, cl k, EE.exk k hk, e, d, _, _, _, rfl, e1, e2, .own _, EE.kit k j hk hj, q⟩
theorem dueV_len (k : Nat) (x y : V) : (dueV k x y).length ≤ 2 := by
  unfold dueV
  split <;> simp
theorem dueV_mem {k : Nat} {x y z : V} (h : z ∈ dueV k x y) : z = x ∨ z = y := by
  unfold dueV at h
  split at h <;> simp at h
  · exact .inl h
  · exact h
theorem same_run {σ : L2.St} {H : Hp} {e dl p : Addr} {k : Nat} {x y : V} (h11 : σ[11]? = some (some (.ref e))) (h12 : σ[12]? = some (some (.ref dl))) (hk : k < 21) (he : ErrAt H e (cl k) (dueF k x y)) (hd : H dl = some (.lst (dueV k x y)))
    (tx : Tame K p H x) (ty : Tame K p H y) {R : VK} (q : ∀ H', Same H H' → R (.bl true) H') : tCall (spSame K) [] E0 (tCons (tCall (spFields cl) [] E0 (tCons (tVar 11) tNil)) (tCons (tVar 12) tNil)) σ H R :=
  ⟨_, h11, e, k, x, y, rfl, hk, he, fun l H1 s1 el => ⟨_, h12, l, dl, p, dueV k x y, rfl, el, s1 _ _ hd, dueV_len k x y, fun z hz => by
    rcases dueV_mem hz with rfl | rfl
    · exact tx.but (But.of_same s1)
    · exact ty.but (But.of_same s1), fun H2 s2 => q H2 (s1.trans s2)⟩⟩
/-- n marks stand in the list at ml -/
def Marks (H : Hp) (ml : Addr) (n : Nat) : Prop := ∃ ms : List Addr, ms.length = n ∧ H ml = some (.lst (ms.map V.ref)) ∧ ∀ i m, ms[i]? = some m → H m = some (.lst (bo i (List.range 21))) ∧ m ≠ ml
theorem Marks.same {H H' : Hp} {ml : Addr} {n : Nat} (h : Marks H ml n) (s : Same H H') : Marks H' ml n := let ⟨ms, e, h1, h2⟩ := h; ⟨ms, e, s _ _ h1, fun i m q => ⟨s _ _ (h2 i m q).1, (h2 i m q).2⟩⟩
theorem Marks.push {H : Hp} {ml m : Addr} {ms : List Addr} (h2 : ∀ i m, ms[i]? = some m → H m = some (.lst (bo i (List.range 21))) ∧ m ≠ ml) (hm : H m = some (.lst (bo ms.length (List.range 21)))) (ne : m ≠ ml) :
    Marks (upd H ml (.lst (ms.map V.ref ++ [.ref m]))) ml (ms.length + 1) := by
  refine ⟨ms ++ [m], by rw [List.length_append]; rfl, by rw [upd_same, List.map_append]; rfl, fun i c e => ?_⟩
  by_cases hi : i < ms.length
  · rw [List.getElem?_append_left hi] at e
    obtain ⟨q1, q2⟩ := h2 i c e
    exact ⟨by rw [upd_ne q2]; exact q1, q2⟩
  · rw [List.getElem?_append_right (Nat.le_of_not_lt hi)] at e
    cases hj : i - ms.length with
    | succ j => rw [hj] at e; cases e
    | zero =>
      rw [hj] at e
      cases e
      have : i = ms.length := by omega
      subst this
      exact ⟨by rw [upd_ne ne]; exact hm, ne⟩
def markD (n : Nat) : PyData := .list ((List.range n).map fun i => .list ((List.range 21).map fun j => .bool (subB i j)))
theorem bo_dp {H : Hp} (i : Nat) : ∀ js : List Nat, DpAll K H (bo i js) (js.map fun j => .bool (subB i j))
  | [] => .nil
  | j :: js => .cons (.bl _) (bo_dp i js)
theorem refs_dp {H : Hp} (f : Nat → PyData) : ∀ (ms : List Addr) (o : Nat), (∀ i m, ms[i]? = some m → Dp K H (.ref m) (f (o + i))) → DpAll K H (ms.map V.ref) ((List.range' o ms.length).map f)
  | [], _, _ => .nil
  | m :: ms, o, h => .cons (h 0 m rfl) (refs_dp f ms (o + 1) fun i c e => by
    have := h (i + 1) c e
    rwa [Nat.add_assoc, Nat.add_comm 1 i])
theorem Marks.dp {H : Hp} {ml : Addr} {n : Nat} (h : Marks H ml n) : Dp K H (.ref ml) (markD n) := by
  obtain ⟨ms, rfl, h1, h2⟩ := h
  have := refs_dp (K := K) (H := H) (fun i => .list ((List.range 21).map fun j => .bool (subB i j))) ms 0 fun i m e => by
    rw [Nat.zero_add]
    exact .lst (SqL.of (h2 i m e).1) (bo_dp i _)
  rw [← List.range_eq_range'] at this
  exact .lst (SqL.of h1) this
theorem mark_eq : PyData.eqv (markD 21) (markD 21) = true := by decide +kernel
theorem mark_sh : PySem.SeqAt.shaped (markD 21) = true := by decide +kernel
/-- a group of errors and whether they are BadInput, NoAnswer -/
def Grp (cl : Nat → Addr) (H : Hp) (x y : V) (t : Addr) (ks : List Nat) (b1 b2 : Bool) : Prop := ∃ lg lb ts, H t = some (.tup [.ref lg, .ref lb]) ∧ H lg = some (.lst (ts.map V.ref)) ∧ Items cl H x y ts ks ∧ H lb = some (.lst [.bl b1, .bl b2])
theorem grp_run {σ : L2.St} {H : Hp} {n : Nat} {lg : Addr} {b1 b2 : Bool} (h0 : σ[n]? = some (some (.ref lg))) {Q : VK} (q : ∀ t lb H', Same H H' → H t = none → H lb = none → H' t = some (.tup [.ref lg, .ref lb]) → H' lb = some (.lst [.bl b1, .bl b2]) → Q (.ref t) H') :
    tTup (tCons (tVar n) (tCons (tLst (tCons (tC (.bl b1)) (tCons (tC (.bl b2)) tNil))) tNil)) σ H Q :=
  ⟨_, h0, by show 2 ≤ sizeLine; decide, fun lb hlb => ⟨by show 2 ≤ sizeLine; decide, fun t ht => q t lb _ ((same_new hlb).trans (same_new ht)) ((same_new hlb).free ht) hlb upd_same (by rw [upd_ne (ne_of_none upd_same ht), upd_same])⟩⟩
theorem at_gName {n : Nat} {v : V} {σ : L2.St} {H : Hp} {Q : L2.St → Hp → Prop} (h : Q (σ.set n (some v)) H) : gName n v σ H Q := h
theorem for3_run {e1 e2 e3 : TE} {g : TG} {tb u : TS} {D : Ends} {σ : L2.St} {H : Hp} (h : e1 σ H fun v1 H1 => e2 σ H1 fun v2 H2 => e3 σ H2 fun v3 H3 => ([v1, v2, v3] : List V).length ≤ sizeLine ∧ ∀ gl, H3 gl = none → tFor (iList K (tC (.ref gl))) g tb { D with nx := u D } σ (upd H3 gl (.lst [v1, v2, v3]))) :
    tSeq (tFor (iList K (tLst (tCons e1 (tCons e2 (tCons e3 tNil))))) g tb) u D σ H := h
def GR : List (List Nat × Bool × Bool) := [([0, 1, 2, 3, 4, 5, 6, 7, 8, 9, 10, 11, 12, 13], true, false), ([14, 15, 16, 17, 18], false, true), ([19, 20], false, false)]
def offs (i : Nat) : Nat := [0, 14, 19, 21].getD i 0
theorem gr_ok : ∀ i ks b1 b2, GR[i]? = some (ks, b1, b2) → (offs (i + 1) = offs i + ks.length) ∧ ∀ j k, ks[j]? = some k → k = offs i + j ∧ k < 21 ∧ subB k 21 = b1 ∧ subB k 22 = b2 := by
  intro i ks b1 b2 h
  have hi : i = 0 ∨ i = 1 ∨ i = 2 := by
    have : i < 3 := (List.getElem?_eq_some_iff.mp h).1
    omega
  have key : ∀ ks : List Nat, ∀ (o : Nat) (b1 b2 : Bool), (ks.zipIdx.all fun z => z.1 == o + z.2 && decide (z.1 < 21) && (subB z.1 21 == b1) && (subB z.1 22 == b2)) = true → ∀ j k, ks[j]? = some k → k = o + j ∧ k < 21 ∧ subB k 21 = b1 ∧ subB k 22 = b2 := by
    intro ks o b1 b2 h j k e
    have hm : (k, j) ∈ ks.zipIdx := List.mem_zipIdx_iff_getElem?.mpr e
    have := List.all_eq_true.mp h _ hm
    simp only [Bool.and_eq_true, beq_iff_eq, decide_eq_true_eq] at this
    exact ⟨this.1.1.1, this.1.1.2, this.1.2, this.2⟩
  rcases hi with rfl | rfl | rfl <;> cases h <;> exact ⟨rfl, key _ _ _ _ (by decide +kernel)⟩
/-- where the turns begin -/
def Turn0 (a p q : Addr) (ns : List Int) (i : Nat) (σ : L2.St) (H : Hp) : Prop := (∃ x2 x3 x4 x5 x6 x7 x8 x9 x10 x11 x12 x13 x14 : Option V, σ = [some (.ref a), some (.ref p), x2, x3, x4, x5, x6, x7, x8, x9, x10, x11, x12, x13, x14]) ∧ ∃ i' r', PenAt H p q ns i' r' ∧ i' ≤ 2 * (i : Int)
theorem ok_law {f : Addr} {fd : FuncData} (F : Fun K "law" "law" s_law f fd) (B : Blt mg) (nVE : mg "ValueError" = none) (EE : EX P w K mg base cl)
    (D_law_pen : HasFn P w K mg base CX0 1 "_law_pen" ["_law_script"] (spPen K))
    (D_law_value : HasFn P w K mg base CX0 6 "_law_value" ["_law_pen_here"] (spValue K))
    (D_law_answers : HasFn P w K mg base CX0 3 "_law_answers" ["_law_one", "_law_two"] (spItems2 cl [14, 15, 16, 17, 18] [19, 20]))
    (D_law_named : HasFn P w K mg base CX0 3 "_law_named" ["_law_one", "_law_two"] (spItems cl [0, 2, 3, 4, 5, 6, 7, 8, 9, 10, 11, 12, 13, 14, 16, 15, 18, 19, 20]))
    (D_law_inputs : HasFn P w K mg base CX0 3 "_law_inputs" ["_law_one", "_law_two"] (spItems cl [0, 1, 2, 3, 4, 5, 6, 7, 8, 9, 10, 11, 12, 13]))
    (D_law_is_same : HasFn P w K mg base CX0 2 "_law_is_same" ["_law_heard", "_law_due"] (spSame K))
    (D_law_fields : HasFn P w K mg base CX0 2 "_law_fields" ["_law_error"] (spFields cl))
    (D_law_kinds : HasFn P w K mg base CX0 2 "_law_kinds" ["_law_error"] (spKinds cl)) : FnOk P w K mg base CX0 7 f fd ["_law_script"] (spLaw K) := by
  refine F.ok sc_law (fun vs H Q E h => ?_) (fun cdv A outer s H vs Q E hr h => ?_)
  · obtain ⟨a, ns, rfl, _⟩ := h
    rfl
  · obtain ⟨a, ns, rfl, hS, k⟩ := h
    refine ⟨_, (pss_cons (ps_set (i := 1) sc_law.nd rfl (.inl rfl) (pe_fn D_law_pen (hr.mono (by decide)) pass0 (pa_cons (pv 0) pa_nil)))
      (pss_cons (ps_for PassesOwn.never rfl (pi_range1 (by rfl) B.n_range (pa_cons pe_int pa_nil)) (pg_name (i := 2) sc_law.nd rfl (.inl rfl)) (pss_cons (ps_par (i := 3) (j := 4) rfl sc_law.nd rfl rfl (by decide) rfl rfl (pa_cons (pe_fn D_law_value (hr.mono (by decide)) pass0 (pa_cons (pv 1) pa_nil)) (pa_cons (pe_fn D_law_value (hr.mono (by decide)) pass0 (pa_cons (pv 1) pa_nil)) pa_nil)) (by rfl))
      (pss_cons (ps_asg (pe_fn D_law_answers (hr.mono (by decide)) pass0 (pa_cons (pv 3) (pa_cons (pv 4) pa_nil))) (pg_tup (n := 2) rfl (pgs_cons (pg_name (i := 5) sc_law.nd rfl (.inl rfl)) (pgs_cons (pg_name (i := 6) sc_law.nd rfl (.inl rfl)) pgs_nil))))
      (pss_cons (ps_if (pt_cmpR (op_neD hr.units) (pe_lc rfl sc_law.nd (pi_list (pe_fn D_law_named (hr.mono (by decide)) pass0 (pa_cons (pv 3) (pa_cons (pv 4) pa_nil)))) (blkOk_by (own := [("_law_error", 11), ("_law_due", 12)]) (N := ["_law_script", "_law_pen_here", "_law_again", "_law_one", "_law_two", "_law_answers_here", "_law_causes", "_law_inputs_here", "_law_marks", "_law_group", "_law_below", "_law_error", "_law_due", "_law_k", "_law_j"]) (sc := defScope s_law) (by decide +kernel)) (fun _ _ _ _ _ => (pg_tupB (n := 2) rfl (pgs_cons (pg_name (i := 11) sc_law.nd rfl (.inl rfl)) (pgs_cons (pg_name (i := 12) sc_law.nd rfl (.inl rfl)) pgs_nil)))) (fun _ _ _ _ _ => (pts_one (pt_not (pt_val (pe_fn D_law_is_same (hr.mono (by decide)) pass0 (pa_cons (pe_fn D_law_fields (hr.mono (by decide)) pass0 (pa_cons (pv 11) pa_nil)) (pa_cons (pv 12) pa_nil))))))) (fun _ _ _ _ _ => pe_int)) (pe_lst pa_nil) (nomark _)) (pss_one (ps_ret pe_bl)) pss_nil)
      (pss_cons (ps_set (i := 7) sc_law.nd rfl (.inl rfl) (pe_fn D_law_inputs (hr.mono (by decide)) pass0 (pa_cons (pv 3) (pa_cons (pv 4) pa_nil))))
      (pss_cons (ps_set (i := 8) sc_law.nd rfl (.inl rfl) (pe_lst pa_nil))
      (pss_cons (ps_for PassesOwn.never rfl (pi_list (pe_lst (pa_cons (pe_tup (pa_cons (pv 7) (pa_cons (pe_lst (pa_cons pe_bl (pa_cons pe_bl pa_nil))) pa_nil))) (pa_cons (pe_tup (pa_cons (pv 5) (pa_cons (pe_lst (pa_cons pe_bl (pa_cons pe_bl pa_nil))) pa_nil))) (pa_cons (pe_tup (pa_cons (pv 6) (pa_cons (pe_lst (pa_cons pe_bl (pa_cons pe_bl pa_nil))) pa_nil))) pa_nil))))) (pg_tup (n := 2) rfl (pgs_cons (pg_name (i := 9) sc_law.nd rfl (.inl rfl)) (pgs_cons (pg_name (i := 10) sc_law.nd rfl (.inl rfl)) pgs_nil))) (pss_one (ps_for PassesOwn.never rfl (pi_list (pv 9)) (pg_tup (n := 2) rfl (pgs_cons (pg_name (i := 11) sc_law.nd rfl (.inl rfl)) (pgs_cons (pg_name (i := 12) sc_law.nd rfl (.inl rfl)) pgs_nil))) (pss_cons (ps_if (PW.pt (pw_or (pt_not (pt_val (pe_callB call_isO (by rfl) B.n_isinstance (by decide +kernel) (pa_cons (pv 11) (pa_cons (pe_glob (v := .ref _) rfl EE.g23 rfl) pa_nil))))) (pw_or1 (pt_not (pt_val (pe_callB call_isO (by rfl) B.n_isinstance (by decide +kernel) (pa_cons (pv 11) (pa_cons (pe_bltn (v := .ty "ValueError") (by rfl) nVE (by decide +kernel) rfl) pa_nil)))))))) (pss_one (ps_ret pe_bl)) pss_nil)
      (pss_cons (ps_if (pt_cmpR (op_neD hr.units) (pe_lst (pa_cons (pe_callB call_isO (by rfl) B.n_isinstance (by decide +kernel) (pa_cons (pv 11) (pa_cons (pe_glob (v := .ref _) rfl EE.g21 rfl) pa_nil))) (pa_cons (pe_callB call_isO (by rfl) B.n_isinstance (by decide +kernel) (pa_cons (pv 11) (pa_cons (pe_glob (v := .ref _) rfl EE.g22 rfl) pa_nil))) pa_nil))) (pv 10) (nomark _)) (pss_one (ps_ret pe_bl)) pss_nil)
      (pss_cons (ps_if (pt_not (pt_val (pe_fn D_law_is_same (hr.mono (by decide)) pass0 (pa_cons (pe_fn D_law_fields (hr.mono (by decide)) pass0 (pa_cons (pv 11) pa_nil)) (pa_cons (pv 12) pa_nil))))) (pss_one (ps_ret pe_bl)) pss_nil)
      (pss_one (ps_expr (pe_bm PySem.F.plainAttrs_list PySem.F.slot_list_append PySem.F.type_list_append mt_append (pv 8) (pa_cons (pe_fn D_law_kinds (hr.mono (by decide)) pass0 (pa_cons (pv 11) pa_nil)) pa_nil))))))))))
      (pss_one (ps_if (pt_cmpR (op_neD hr.units) (pv 8) (pe_lc rfl sc_law.nd (pi_range1 (by rfl) B.n_range (pa_cons pe_int pa_nil)) (blkOk_by (own := [("_law_k", 13)]) (N := ["_law_script", "_law_pen_here", "_law_again", "_law_one", "_law_two", "_law_answers_here", "_law_causes", "_law_inputs_here", "_law_marks", "_law_group", "_law_below", "_law_error", "_law_due", "_law_k", "_law_j"]) (sc := defScope s_law) (by decide +kernel)) (fun _ _ _ _ _ => (pg_name (i := 13) sc_law.nd rfl (.inr rfl))) (fun _ _ _ _ _ => pts_nil) (fun _ _ _ _ _ => (pe_lc rfl sc_law.nd (pi_range1 (by rfl) B.n_range (pa_cons pe_int pa_nil)) (blkOk_by (own := [("_law_j", 14)]) (N := ["_law_script", "_law_pen_here", "_law_again", "_law_one", "_law_two", "_law_answers_here", "_law_causes", "_law_inputs_here", "_law_marks", "_law_group", "_law_below", "_law_error", "_law_due", "_law_k", "_law_j"]) (sc := { kind := ScopeKind.function, names := [(".0", NameKind.local), ("_law_k", NameKind.cell), ("range", NameKind.globalImplicit)], isGenerator := false, isCoroutine := false }) (by decide +kernel)) (fun _ _ _ _ _ => (pg_name (i := 14) sc_law.nd rfl (.inl rfl))) (fun _ _ _ _ _ => pts_nil) (fun _ _ _ _ _ => (pe_cmpR op_eq (pv 13) (pv 14) (nomark _)))))) (nomark _)) (pss_one (ps_ret pe_bl)) pss_nil)))))))))
      (pss_one (ps_ret pe_bl)))), ?_⟩
    refine ⟨_, rfl, a, ns, rfl, hS, fun p q ms H0 s0 hn0 hp0 => ?_⟩
    refine ⟨4, rfl, by decide, by decide, ?_⟩
    refine for_range (lo := 0) (n := 4) (Turn0 a p q ms) ⟨⟨_, _, _, _, _, _, _, _, _, _, _, _, _, rfl⟩, 0, 0, hp0, by decide⟩ (fun i σ H hi h => ?_) (fun σ H h => ?_)
    · obtain ⟨⟨x2, x3, x4, x5, x6, x7, x8, x9, x10, x11, x12, x13, x14, rfl⟩, i0, r0, hp, hi0⟩ := h
      refine ⟨_, rfl, p, q, ms, i0, r0, rfl, hp, by omega, fun x i1 r1 H2 b1 hp1 hi1 tx => ?_⟩
      refine ⟨_, rfl, p, q, ms, i1, r1, rfl, hp1, by omega, fun y i2 r2 H3 b2 hp2 hi2 ty => ?_⟩
      refine ⟨x, y, rfl, ?_⟩
      have tx3 := tx.but b2
      refine ⟨_, rfl, _, rfl, x, y, rfl, fun pt l ts m us H4 s4 ept el il em im => ?_⟩
      refine ⟨pt, _, rfl, SqT.of ept, rfl, _, _, rfl, _, _, rfl, rfl, ?_⟩
      refine ⟨_, rfl, _, rfl, x, y, rfl, fun nl nts H5 s5 enl inl => ?_⟩
      refine ⟨nl, rfl, ⟨_, SqL.of enl⟩, fun D hD => ?_⟩
      have tx5 := tx3.but (But.of_same (s4.trans s5))
      have ty5 := ty.but (But.of_same (s4.trans s5))
      refine lc_list (fun i H' => H' D = some (.lst []) ∧ Same H5 H') ⟨upd_same, same_new hD⟩ (fun i H' _ h => SqL.of (h.2 _ _ enl)) (fun j xv H' hj h' => ?_) (fun H' h' => ?_)
      · obtain ⟨hD', s'⟩ := h'
        rw [List.getElem?_map] at hj
        obtain ⟨t, ht, rfl⟩ : ∃ t, nts[j]? = some t ∧ xv = .ref t := by
          cases e : nts[j]? with
          | none => rw [e] at hj; cases hj
          | some t => rw [e] at hj; cases hj; exact ⟨t, rfl, rfl⟩
        obtain ⟨kk, hkk, it⟩ := inl.get j t ht
        have k21 : kk < 21 := (show ∀ z ∈ ([0, 2, 3, 4, 5, 6, 7, 8, 9, 10, 11, 12, 13, 14, 16, 15, 18, 19, 20] : List Nat), z < 21 by decide) kk (List.mem_of_getElem? hkk)
        obtain ⟨e, dl, h1, h2, h3⟩ := it.same s'
        refine ⟨t, _, rfl, SqT.of h1, rfl, _, _, rfl, _, _, rfl, rfl, rfl, ?_⟩
        refine same_run (k := kk) (x := x) (y := y) (p := p) rfl rfl k21 h2 h3 (tx5.but (But.of_same s')) (ty5.but (But.of_same s')) fun H8 s8 => ⟨true, rfl, ?_⟩
        exact ⟨s8 _ _ hD', s'.trans s8⟩
      · obtain ⟨hD', s'⟩ := h'
        refine ⟨by decide, fun n6 hn6 => ?_⟩
        have s6 := (s'.trans (same_new (o := HO.lst []) hn6))
        refine ⟨_, _, .lst (SqL.of (by rw [upd_ne (ne_of_none hD' hn6)]; exact hD')) .nil, .lst (SqL.of upd_same) .nil, by rfl, by rfl, false, by rfl, ?_⟩
        refine iteF ?_
        generalize upd H' n6 (.lst []) = H6 at s6 ⊢
        refine ⟨_, rfl, _, rfl, x, y, rfl, fun ii its H7 s7 eii iii => ?_⟩
        refine ⟨by decide, fun ml hml => ?_⟩
        have z3 : Same H3 H7 := ((s4.trans s5).trans s6).trans s7
        have zi : Same H4 H7 := (s5.trans s6).trans s7
        have emm : upd H7 ml (.lst []) ml = some (.lst []) := upd_same
        have q8 : Same H7 (upd H7 ml (.lst [])) := same_new hml
        generalize upd H7 ml (.lst []) = H8 at emm q8 ⊢
        refine at_gName ?_
        dsimp only
        refine for3_run ?_
        refine grp_run (n := 7) (b1 := true) (b2 := false) (lg := ii) rfl fun g1 b1' J1 j1 hg1 hb1 eg1 eb1 => ?_
        refine grp_run (n := 5) (b1 := false) (b2 := true) (lg := l) rfl fun g2 b2' J2 j2 hg2 hb2 eg2 eb2 => ?_
        refine grp_run (n := 6) (b1 := false) (b2 := false) (lg := m) rfl fun g3 b3' J3 j3 hg3 hb3 eg3 eb3 => ?_
        refine ⟨by show 3 ≤ sizeLine; decide, fun gl hgl => ⟨gl, rfl, ⟨_, SqL.of upd_same⟩, ?_⟩⟩
        have t0 : Same H8 (upd J3 gl (.lst [.ref g1, .ref g2, .ref g3])) := ((j1.trans j2).trans j3).trans (same_new hgl)
        have u1 : Same J1 (upd J3 gl (.lst [.ref g1, .ref g2, .ref g3])) := (j2.trans j3).trans (same_new hgl)
        have u2 : Same J2 (upd J3 gl (.lst [.ref g1, .ref g2, .ref g3])) := j3.trans (same_new hgl)
        have u3 : Same J3 (upd J3 gl (.lst [.ref g1, .ref g2, .ref g3])) := same_new hgl
        have egl : upd J3 gl (.lst [.ref g1, .ref g2, .ref g3]) gl = some (.lst [.ref g1, .ref g2, .ref g3]) := upd_same
        have mgl : ml ≠ gl := ne_of_none (((j1.trans j2).trans j3) _ _ emm) hgl
        generalize upd J3 gl (.lst [.ref g1, .ref g2, .ref g3]) = J4 at t0 u1 u2 u3 egl ⊢
        -- all but the list of marks
        have X0 : ∀ {b o}, H7 b = some o → del J4 ml b = some o := fun {b o} e => by rw [del_ne (ne_of_none e hml)]; exact t0 _ _ (q8 _ _ e)
        have X1 : ∀ {b o}, J4 b = some o → b ≠ ml → del J4 ml b = some o := fun {b o} e n => by rw [del_ne n]; exact e
        have ne1 : g1 ≠ ml := (ne_of_none emm hg1).symm
        have nf1 : b1' ≠ ml := (ne_of_none emm hb1).symm
        have ne2 : g2 ≠ ml := (ne_of_none (j1 _ _ emm) hg2).symm
        have nf2 : b2' ≠ ml := (ne_of_none (j1 _ _ emm) hb2).symm
        have ne3 : g3 ≠ ml := (ne_of_none ((j1.trans j2) _ _ emm) hg3).symm
        have nf3 : b3' ≠ ml := (ne_of_none ((j1.trans j2) _ _ emm) hb3).symm
        have G1 : Grp cl (del J4 ml) x y g1 [0, 1, 2, 3, 4, 5, 6, 7, 8, 9, 10, 11, 12, 13] true false := ⟨ii, b1', its, X1 (u1 _ _ eg1) ne1, X0 eii, iii.same fun b o e => X0 e, X1 (u1 _ _ eb1) nf1⟩
        have G2 : Grp cl (del J4 ml) x y g2 [14, 15, 16, 17, 18] false true := ⟨l, b2', ts, X1 (u2 _ _ eg2) ne2, X0 (zi _ _ el), (il.same zi).same fun b o e => X0 e, X1 (u2 _ _ eb2) nf2⟩
        have G3 : Grp cl (del J4 ml) x y g3 [19, 20] false false := ⟨m, b3', us, X1 (u3 _ _ eg3) ne3, X0 (zi _ _ em), (im.same zi).same fun b o e => X0 e, X1 (u3 _ _ eb3) nf3⟩
        have gx : del J4 ml gl = some (.lst [.ref g1, .ref g2, .ref g3]) := X1 egl mgl.symm
        have px : PenAt (del J4 ml) p q ms i2 r2 := hp2.same fun b o e => X0 (z3 _ _ e)
        have tx7 : Tame K p (del J4 ml) x := tx3.but (But.of_same fun b o e => X0 (z3 _ _ e))
        have ty7 : Tame K p (del J4 ml) y := ty.but (But.of_same fun b o e => X0 (z3 _ _ e))
        have hx0 : del J4 ml ml = none := del_same
        have M0 : Marks J4 ml 0 := ⟨[], rfl, t0 _ _ emm, fun i m e => by cases e⟩
        have S0 : Same (del J4 ml) J4 := fun b o e => by
          by_cases hb : b = ml
          · rw [hb, del_same] at e; cases e
          · rwa [del_ne hb] at e
        generalize del J4 ml = HX at G1 G2 G3 gx px tx7 ty7 hx0 S0
        refine for_list (K := K) (a := gl) (xs := [.ref g1, .ref g2, .ref g3]) (fun n σ H' => (∃ x9 x10 x11 x12 x13 x14 : Option V, σ = [some (.ref a), some (.ref p), some (.int (0 + (i : Int))), some x, some y, some (.ref l), some (.ref m), some (.ref ii), some (.ref ml), x9, x10, x11, x12, x13, x14]) ∧ Same HX H' ∧ Marks H' ml (offs n))
          ⟨⟨_, _, _, _, _, _, rfl⟩, S0, M0⟩ (fun n σ H' _ h => SqL.of (h.2.1 _ _ gx)) (fun n xv σ H' hn h' => ?_) (fun σ H' h' => ?_)
        · obtain ⟨⟨x9, x10, x11, x12, x13, x14, rfl⟩, s9, m9⟩ := h'
          obtain ⟨g, ks, c1, c2, rfl, hgr, lg, lb, gts, hg, hlg, hit, hlb⟩ : ∃ g ks c1 c2, xv = .ref g ∧ GR[n]? = some (ks, c1, c2) ∧ Grp cl HX x y g ks c1 c2 := by
            match n, hn with
            | 0, hn => cases hn; exact ⟨g1, _, _, _, rfl, rfl, G1⟩
            | 1, hn => cases hn; exact ⟨g2, _, _, _, rfl, rfl, G2⟩
            | 2, hn => cases hn; exact ⟨g3, _, _, _, rfl, rfl, G3⟩
          obtain ⟨ho, hks⟩ := gr_ok n ks c1 c2 hgr
          refine ⟨g, _, rfl, SqT.of (s9 _ _ hg), rfl, _, _, rfl, _, _, rfl, rfl, ?_⟩
          refine ⟨_, rfl, lg, rfl, ⟨_, SqL.of (s9 _ _ hlg)⟩, ?_⟩
          refine for_list (K := K) (a := lg) (xs := gts.map V.ref) (fun j σ H' => (∃ x11 x12 x13 x14 : Option V, σ = [some (.ref a), some (.ref p), some (.int (0 + (i : Int))), some x, some y, some (.ref l), some (.ref m), some (.ref ii), some (.ref ml), some (.ref lg), some (.ref lb), x11, x12, x13, x14]) ∧ Same HX H' ∧ Marks H' ml (offs n + j))
            ⟨⟨_, _, _, _, rfl⟩, s9, m9⟩ (fun j σ H' _ h => SqL.of (h.2.1 _ _ hlg)) (fun j tv σ H' hj h' => ?_) (fun σ H' h' => ?_)
          · obtain ⟨⟨y11, y12, y13, y14, rfl⟩, sA, mA⟩ := h'
            rw [List.getElem?_map] at hj
            obtain ⟨t, ht, rfl⟩ : ∃ t, gts[j]? = some t ∧ tv = .ref t := by
              cases e : gts[j]? with
              | none => rw [e] at hj; cases hj
              | some t => rw [e] at hj; cases hj; exact ⟨t, rfl, rfl⟩
            obtain ⟨kk, hkk, it⟩ := hit.get j t ht
            obtain ⟨ek, k21, e21, e22⟩ := hks j kk hkk
            obtain ⟨e, dl, h1, h2, h3⟩ := it.same sA
            obtain ⟨d, d1, d2⟩ := h2.dd
            refine ⟨t, _, rfl, SqT.of h1, rfl, _, _, rfl, _, _, rfl, rfl, ?_⟩
            refine ⟨_, rfl, cl kk, EE.exk kk k21, e, d, _, _, _, rfl, d1, d2, .own _, EE.kit kk 23 k21 (by decide), true, rfl, ?_⟩
            refine ⟨_, rfl, cl kk, EE.exk kk k21, e, d, _, _, _, rfl, d1, d2, .ty "ValueError", EE.kitV kk k21, true, rfl, ?_⟩
            refine ⟨_, rfl, cl kk, EE.exk kk k21, e, d, _, _, _, rfl, d1, d2, .own _, EE.kit kk 21 k21 (by decide), ?_⟩
            refine ⟨_, rfl, cl kk, EE.exk kk k21, e, d, _, _, _, rfl, d1, d2, .own _, EE.kit kk 22 k21 (by decide), ?_⟩
            rw [e21, e22]
            refine ⟨by show 2 ≤ sizeLine; decide, fun n1 hn1 => ?_⟩
            have sB := same_new (o := HO.lst [.bl c1, .bl c2]) hn1
            refine ⟨_, rfl, .list [.bool c1, .bool c2], .list [.bool c1, .bool c2], .lst (SqL.of upd_same) (.cons (.bl _) (.cons (.bl _) .nil)), .lst (SqL.of (sB _ _ (sA _ _ hlb))) (.cons (.bl _) (.cons (.bl _) .nil)), by rfl, by rfl, false, by cases c1 <;> cases c2 <;> rfl, ?_⟩
            have sC := sA.trans sB
            have mC := mA.same sB
            generalize upd H' n1 (.lst [.bl c1, .bl c2]) = HB at sB sC mC ⊢
            refine ⟨_, rfl, e, kk, x, y, rfl, k21, h2.same sB, fun fl H9 s9' efl => ?_⟩
            refine ⟨_, rfl, fl, dl, p, dueV kk x y, rfl, efl, s9' _ _ (sB _ _ h3), dueV_len kk x y, fun z hz => ?_, fun H10 s10 => ⟨true, rfl, ?_⟩⟩
            · rcases dueV_mem hz with rfl | rfl
              · exact tx7.but (But.of_same (sC.trans s9'))
              · exact ty7.but (But.of_same (sC.trans s9'))
            have mD := (mC.same s9').same s10
            refine ⟨_, rfl, .inl ⟨rfl, _, SqL.of mD.choose_spec.2.1⟩, ?_⟩
            refine ⟨_, rfl, e, kk, _, rfl, k21, ((h2.same sB).same s9').same s10, fun nm HA sD enm => ?_⟩
            obtain ⟨mks, q1, q2, q3⟩ := mD.same sD
            refine ⟨ml, _, .ref nm, rfl, rfl, q2, ?_, ?_⟩
            · rw [List.length_map, q1, ← ek]
              exact Nat.lt_of_lt_of_le k21 (by decide)
            refine ⟨⟨_, _, _, _, rfl⟩, same_upd (((sC.trans s9').trans s10).trans sD) hx0, ?_⟩
            have := Marks.push q3 (m := nm) (by rw [q1, ← ek]; exact enm) fun z => by
              rw [z, q2] at enm
              injection enm with enm
              injection enm with enm
              cases mks with
              | nil => cases enm
              | cons c r => cases enm
            rw [q1, Nat.add_assoc] at this
            exact this
          · obtain ⟨⟨y11, y12, y13, y14, rfl⟩, sA, mA⟩ := h'
            refine ⟨⟨_, _, _, _, _, _, rfl⟩, sA, ?_⟩
            rw [ho, ← hit.len]
            rw [List.length_map] at mA
            exact mA
        · obtain ⟨⟨x9, x10, x11, x12, x13, x14, rfl⟩, s9, m9⟩ := h'
          refine ⟨_, rfl, 21, rfl, by decide, by decide, fun D2 hD2 => ?_⟩
          refine lc_range (lo := 0) (n := 21) (fun k H'' => Marks H'' D2 k ∧ Same H' H'') ⟨⟨[], rfl, upd_same, fun i m e => by cases e⟩, same_new hD2⟩ (fun kx HJ hkx hJ => ?_) (fun HJ hJ => ?_)
          · obtain ⟨mJ, sJ⟩ := hJ
            refine ⟨rfl, ?_⟩
            refine ⟨21, rfl, by decide, by decide, fun D3 hD3 => ?_⟩
            refine lc_range (lo := 0) (n := 21) (fun jx H'' => H'' D3 = some (.lst (bo kx (List.range jx))) ∧ Same HJ H'') ⟨upd_same, same_new hD3⟩ (fun jx HL hjx hL => ?_) (fun HL hL => ?_)
            · obtain ⟨eL, sL⟩ := hL
              refine ⟨rfl, ?_⟩
              have ev : decide (V.int (0 + (kx : Int)) = V.int (0 + (jx : Int))) = subB kx jx := by
                have e1 : subB kx jx = (kx == jx) := by unfold subB; rw [if_pos hjx]
                rw [e1]
                by_cases h : kx = jx
                · subst h
                  rw [decide_eq_true rfl, beq_self_eq_true]
                · rw [decide_eq_false (fun z => h (by injection z with z; omega)), beq_false_of_ne h]
              refine ⟨_, rfl, _, rfl, rfl, _, eL, ?_, ?_, same_upd sL hD3⟩
              · rw [bo_len, List.length_range]
                exact Nat.lt_of_lt_of_le hjx (by decide)
              · rw [ev, upd_same, List.range_succ]
                unfold bo
                rw [List.map_append]
                rfl
            · obtain ⟨eL, sL⟩ := hL
              obtain ⟨mks, q1, q2, q3⟩ := mJ.same sL
              refine ⟨_, q2, by rw [List.length_map, q1]; exact Nat.lt_of_lt_of_le hkx (by decide), ?_, same_upd (sJ.trans sL) hD2⟩
              have := Marks.push q3 (m := D3) (by rw [q1]; exact eL) fun z => by
                rw [z, q2] at eL
                injection eL with eL
                injection eL with eL
                cases mks with
                | nil => cases eL
                | cons c r => cases eL
              rw [q1] at this
              exact this
          · obtain ⟨mJ, sJ⟩ := hJ
            refine ⟨markD 21, markD 21, (m9.same sJ).dp, mJ.dp, mark_sh, mark_sh, false, by rw [mark_eq]; rfl, ?_⟩
            exact ⟨⟨_, _, _, _, _, _, _, _, _, _, _, _, _, rfl⟩, i2, r2, px.same (s9.trans sJ), by omega⟩
    · obtain ⟨⟨x2, x3, x4, x5, x6, x7, x8, x9, x10, x11, x12, x13, x14, rfl⟩, i0, r0, hp, hi0⟩ := h
      exact k _
end
end Toy

namespace Toy
open PySem L2 LB PyProof.Rows

def FnX (K : PySem.W.Frag) (f : Addr) (x qual : Str) (st : Stmt) : Prop := (∃ (oc : Value) (od : Option Addr) (kV dc pm : Value) (an : Option Addr) (cd ct : Value) (sl : Array (Option Value)),
  K.lookup f = some ⟨oc, od, .func (PySem.W.fnOf x qual (defArgs st) (defBody st) (defScope st) .none kV dc pm an cd ct), sl⟩ ∧ PySem.W.codeIn K cd qual = true) ∧ PySem.W.keepIn K (.ref f) = true
theorem FnX.mk {K : PySem.W.Frag} {f : Addr} {x qual : Str} {st : Stmt} {oc : Value} {od : Option Addr} {kV dc pm : Value} {an : Option Addr} {cd ct : Value} {sl : Array (Option Value)}
    (l : K.lookup f = some ⟨oc, od, .func (PySem.W.fnOf x qual (defArgs st) (defBody st) (defScope st) .none kV dc pm an cd ct), sl⟩) (c : PySem.W.codeIn K cd qual = true) (k : PySem.W.keepIn K (.ref f) = true) : FnX K f x qual st := ⟨⟨_, _, _, _, _, _, _, _, _, l, c⟩, k⟩
def MostX (K : PySem.W.Frag) (CV : Addr) : Prop := ∃ t, PySem.W.findCls K (.ref CV) (.type "type") "MOST" = some (.val (.int 4 t))
theorem MostX.mk {K : PySem.W.Frag} {CV : Addr} {t : Tok} (h : PySem.W.findCls K (.ref CV) (.type "type") "MOST" = some (.val (.int 4 t))) : MostX K CV := ⟨t, h⟩
def SmallX (K : PySem.W.Frag) : Prop := ∃ z t, PySem.W.nsIn K mainGlobals "SMALL_LETTERS" = some (some (.str z t)) ∧ z = SM
theorem SmallX.mk {K : PySem.W.Frag} {z : Str} {t : Tok} (h : PySem.W.nsIn K mainGlobals "SMALL_LETTERS" = some (some (.str z t))) (e : z = SM) : SmallX K := ⟨z, t, h, e⟩
def RecX (K : PySem.W.Frag) (p g : Addr) : Prop := ∃ rest, PySem.W.recIn K p "property" = some (.ref g :: rest)
theorem RecX.mk {K : PySem.W.Frag} {p g : Addr} {rest : List Value} (h : PySem.W.recIn K p "property" = some (.ref g :: rest)) : RecX K p g := ⟨rest, h⟩
theorem ExX.mk {K : PySem.W.Frag} {C : Addr} {nm q : Str} {N : Addr} {bs bm : List Value} {sn : List Str} {sub : List Value} {ab : Bool} {col : Option Bool} {dd : Option Addr} {k0 k1 k2 k3 k5 : Option Value}
    (hg : PySem.W.findIn K (.ref C) "__getattribute__" = some (some (.builtin "BaseException.__getattribute__")))
    (hk : PySem.W.findIn K (.ref C) "__getattr__" = some none)
    (hs : PySem.W.subIn K (.ref C) (.type "BaseException") = some true)
    (hd : PySem.W.hasDictIn K C = true)
    (ha : PySem.W.findIn K (.ref C) "__class__" = some (some (.builtin "object.__class__")))
    (hn : PySem.W.specialIn K (.builtin "object.__class__") "__get__" = some (some (.builtin "getset_descriptor.__get__")))
    (ht : PySem.W.takesIn K (.builtin "object.__class__") = some true)
    (hm : PySem.W.mroIn K C (.type "object") = some true)
    (x1 : K.lookup C = some (excClassObj nm q C N bs bm true sn sub ab col dd k0 k1 k2 k3 k5 "ValueError.__new__")) (x2 : PySem.HandSPX.refsVE bm = true)
    (sa : PySem.W.findIn K (.ref C) "__setattr__" = some (some (.builtin "object.__setattr__"))) (e1 : PySem.W.subIn K (.ref C) (.type "BaseException") = some true) (e2 : PySem.W.typeIn K (.ref C) = some (.type "type")) (e3 : PySem.W.keepIn K (.ref C) = true) : ExK K C :=
  ⟨⟨hg, hk, hs, hd, ha, hn, ht, hm⟩, ⟨⟨_, _, _, _, _, _, _, _, _, _, _, _, _, _, _, x1, x2⟩, sa, e1, e2, e3⟩⟩
section
variable {P : Program} {w : World} {K : PySem.W.Frag} {mg : Str → Option Value} {base : Heap} {h : Heap}
theorem FnX.get {f : Addr} {x qual : Str} {st : Stmt} (F : FnX K f x qual st) : ∃ fd, Fun K x qual st f fd := let ⟨⟨_, _, _, _, _, _, _, _, _, l, c⟩, k⟩ := F; ⟨_, fun_mk l c k⟩
theorem FnX.kp {f : Addr} {x qual : Str} {st : Stmt} (F : FnX K f x qual st) : PySem.W.keepIn K (.ref f) = true := F.2
theorem has_fn {f : Addr} {x : Str} {st : Stmt} {ps : List Str} {k : Nat} {sp : Sp} (X : K.In h) (G : h.Ns mainGlobals mg) (a : PySem.W.nsIn K mainGlobals x = some (some (.ref f))) (F : FnX K f x x st)
    (hb : ∀ (kV doc pm : Value) (an : Option Addr) (cdv ct : Value) (us : List Value), us.length = ps.length → bindArgs (PySem.W.fnOf x x (defArgs st) (defBody st) (defScope st) .none kV doc pm an cdv ct) ⟨us, []⟩ = pure (ps.zip us))
    (ok : ∀ fd, Fun K x x st f fd → FnOk P w K mg base CX0 k f fd ps sp) : HasFn P w K mg base CX0 k x ps sp :=
  let ⟨fd, F'⟩ := F.get
  ⟨f, fd, ok fd F', PySem.W.mg_of X G a, F.kp, F'.binds hb⟩
theorem has_mk {C f : Addr} {x qual : Str} {st : Stmt} {ps : List Str} {k : Nat} {sp : Sp} (X : K.In h) (G : h.Ns mainGlobals mg) (g : PySem.W.nsIn K mainGlobals x = some (some (.ref C))) (a : PySem.W.findIn K (.ref C) "__init__" = some (some (.ref f)))
    (i : PySem.W.isFn K (.ref f) = true) (m : PySem.W.makesIn K C = true) (kc : PySem.W.keepIn K (.ref C) = true) (F : FnX K f "__init__" qual st)
    (hb : ∀ (kV doc pm : Value) (an : Option Addr) (cdv ct : Value) (us : List Value), us.length = ps.length → bindArgs (PySem.W.fnOf "__init__" qual (defArgs st) (defBody st) (defScope st) .none kV doc pm an cdv ct) ⟨us, []⟩ = pure (ps.zip us))
    (ok : ∀ fd, Fun K "__init__" qual st f fd → FnOk P w K mg base CX0 k f fd ps sp) : HasMk P w K mg base CX0 k C x ps sp :=
  let ⟨fd, F'⟩ := F.get
  ⟨f, fd, ok fd F', ⟨m, a, i, kc⟩, PySem.W.mg_of X G g, F'.binds hb⟩
theorem has_pr {C p f : Addr} {x qual : Str} {st : Stmt} {ps : List Str} {k : Nat} {sp : Sp} (q : PropOf K C x p f) (F : FnX K f x qual st)
    (hb : ∀ (kV doc pm : Value) (an : Option Addr) (cdv ct : Value) (us : List Value), us.length = ps.length → bindArgs (PySem.W.fnOf x qual (defArgs st) (defBody st) (defScope st) .none kV doc pm an cdv ct) ⟨us, []⟩ = pure (ps.zip us))
    (ok : ∀ fd, Fun K x qual st f fd → FnOk P w K mg base CX0 k f fd ps sp) : HasPr P w K mg base CX0 k C x ps sp :=
  let ⟨fd, F'⟩ := F.get
  ⟨p, f, fd, ok fd F', q, F'.binds hb⟩
theorem has_ex {C f : Addr} {x qual : Str} {st : Stmt} {ps ks : List Str} {b : Bool} {k : Nat} {sp : Sp} (X : K.In h) (G : h.Ns mainGlobals mg) (g : PySem.W.nsIn K mainGlobals x = some (some (.ref C))) (T : ExK K C) (a : PySem.W.findIn K (.ref C) "__init__" = some (some (.ref f)))
    (t : PySem.W.typeIn K (.ref f) = some (.type "function")) (F : FnX K f "__init__" qual st)
    (hb : ∀ (kV doc pm : Value) (an : Option Addr) (cdv ct : Value) (us : List Value), us.length = ps.length → bindArgs (PySem.W.fnOf "__init__" qual (defArgs st) (defBody st) (defScope st) .none kV doc pm an cdv ct) ⟨us, []⟩ = pure (ps.zip us))
    (hk : ∀ (kV doc pm : Value) (an : Option Addr) (cdv ct : Value) (self : Value) (ws : List Value), ws.length = ks.length → bindArgs (PySem.W.fnOf "__init__" qual (defArgs st) (defBody st) (defScope st) .none kV doc pm an cdv ct) ⟨[self], ks.zip ws⟩ = pure (ps.zip (self :: swapIf b ws)))
    (ok : ∀ fd, Fun K "__init__" qual st f fd → FnOk P w K mg base CX0 k f fd ps sp) : HasEx P w K mg base CX0 k C x ps sp ∧ HasExK P w K mg base CX0 k C x ps ks b sp := by
  obtain ⟨⟨oc, od, kV, dc, pm, an, cd, ct, sl, l, c⟩, kp⟩ := F
  have F' := fun_mk (st := st) l c kp
  exact ⟨⟨f, _, T.toOexC, a, t, ok _ F', PySem.W.mg_of X G g, fun us hl => hb kV dc pm an cd ct us hl, F'.binds hb⟩, ⟨f, _, T.toOexC, a, t, ok _ F', PySem.W.mg_of X G g, fun self ws hl => hk kV dc pm an cd ct self ws hl⟩⟩
theorem all_mk {l : PySem.W.OpenLaw} {fa : Addr} {C0 C1 C2 C3 C4 C5 C6 C7 C8 C9 C10 C11 C12 C13 C14 C15 C16 C17 C18 C19 C20 C21 C22 C23 CValues CCell fis_letter_of fare_unlike_letters fare_values_letters flaw_pen flaw_draw flaw_pick flaw_value flaw_inputs flaw_answers flaw_named flaw_kinds flaw_fields flaw_is_same flaw iValues iCell pfull gfull pempty gempty e0 e2 e3 e4 e5 e6 e7 e8 e9 e10 e11 e12 e13 e14 e15 e16 e18 e19 e20 : Addr} (X : K.In h) (G : h.Ns mainGlobals mg) (hfa : mg "law" = some (.ref fa))
    (gC0 : PySem.W.nsIn K mainGlobals "BadValues" = some (some (.ref C0)))
    (gC1 : PySem.W.nsIn K mainGlobals "BadNames" = some (some (.ref C1)))
    (gC2 : PySem.W.nsIn K mainGlobals "BadCell" = some (some (.ref C2)))
    (gC3 : PySem.W.nsIn K mainGlobals "BadLine" = some (some (.ref C3)))
    (gC4 : PySem.W.nsIn K mainGlobals "BadWord" = some (some (.ref C4)))
    (gC5 : PySem.W.nsIn K mainGlobals "BadMachine" = some (some (.ref C5)))
    (gC6 : PySem.W.nsIn K mainGlobals "BadClue" = some (some (.ref C6)))
    (gC7 : PySem.W.nsIn K mainGlobals "BadRule" = some (some (.ref C7)))
    (gC8 : PySem.W.nsIn K mainGlobals "BadBook" = some (some (.ref C8)))
    (gC9 : PySem.W.nsIn K mainGlobals "BadNumber" = some (some (.ref C9)))
    (gC10 : PySem.W.nsIn K mainGlobals "NoCell" = some (some (.ref C10)))
    (gC11 : PySem.W.nsIn K mainGlobals "Unlike" = some (some (.ref C11)))
    (gC12 : PySem.W.nsIn K mainGlobals "BadText" = some (some (.ref C12)))
    (gC13 : PySem.W.nsIn K mainGlobals "BadSay" = some (some (.ref C13)))
    (gC14 : PySem.W.nsIn K mainGlobals "Clash" = some (some (.ref C14)))
    (gC15 : PySem.W.nsIn K mainGlobals "TooMany" = some (some (.ref C15)))
    (gC16 : PySem.W.nsIn K mainGlobals "NoRule" = some (some (.ref C16)))
    (gC17 : PySem.W.nsIn K mainGlobals "NotStable" = some (some (.ref C17)))
    (gC18 : PySem.W.nsIn K mainGlobals "NothingTold" = some (some (.ref C18)))
    (gC19 : PySem.W.nsIn K mainGlobals "Struck" = some (some (.ref C19)))
    (gC20 : PySem.W.nsIn K mainGlobals "Barred" = some (some (.ref C20)))
    (gC21 : PySem.W.nsIn K mainGlobals "BadInput" = some (some (.ref C21)))
    (gC22 : PySem.W.nsIn K mainGlobals "NoAnswer" = some (some (.ref C22)))
    (gC23 : PySem.W.nsIn K mainGlobals "LineError" = some (some (.ref C23)))
    (gCValues : PySem.W.nsIn K mainGlobals "Values" = some (some (.ref CValues)))
    (gCCell : PySem.W.nsIn K mainGlobals "Cell" = some (some (.ref CCell)))
    (ais_letter_of : PySem.W.nsIn K mainGlobals "is_letter_of" = some (some (.ref fis_letter_of)))
    (xis_letter_of : FnX K fis_letter_of "is_letter_of" "is_letter_of" s_is_letter_of)
    (aare_unlike_letters : PySem.W.nsIn K mainGlobals "are_unlike_letters" = some (some (.ref fare_unlike_letters)))
    (xare_unlike_letters : FnX K fare_unlike_letters "are_unlike_letters" "are_unlike_letters" s_are_unlike_letters)
    (aare_values_letters : PySem.W.nsIn K mainGlobals "are_values_letters" = some (some (.ref fare_values_letters)))
    (xare_values_letters : FnX K fare_values_letters "are_values_letters" "are_values_letters" s_are_values_letters)
    (alaw_pen : PySem.W.nsIn K mainGlobals "_law_pen" = some (some (.ref flaw_pen)))
    (xlaw_pen : FnX K flaw_pen "_law_pen" "_law_pen" s_law_pen)
    (alaw_draw : PySem.W.nsIn K mainGlobals "_law_draw" = some (some (.ref flaw_draw)))
    (xlaw_draw : FnX K flaw_draw "_law_draw" "_law_draw" s_law_draw)
    (alaw_pick : PySem.W.nsIn K mainGlobals "_law_pick" = some (some (.ref flaw_pick)))
    (xlaw_pick : FnX K flaw_pick "_law_pick" "_law_pick" s_law_pick)
    (alaw_value : PySem.W.nsIn K mainGlobals "_law_value" = some (some (.ref flaw_value)))
    (xlaw_value : FnX K flaw_value "_law_value" "_law_value" s_law_value)
    (alaw_inputs : PySem.W.nsIn K mainGlobals "_law_inputs" = some (some (.ref flaw_inputs)))
    (xlaw_inputs : FnX K flaw_inputs "_law_inputs" "_law_inputs" s_law_inputs)
    (alaw_answers : PySem.W.nsIn K mainGlobals "_law_answers" = some (some (.ref flaw_answers)))
    (xlaw_answers : FnX K flaw_answers "_law_answers" "_law_answers" s_law_answers)
    (alaw_named : PySem.W.nsIn K mainGlobals "_law_named" = some (some (.ref flaw_named)))
    (xlaw_named : FnX K flaw_named "_law_named" "_law_named" s_law_named)
    (alaw_kinds : PySem.W.nsIn K mainGlobals "_law_kinds" = some (some (.ref flaw_kinds)))
    (xlaw_kinds : FnX K flaw_kinds "_law_kinds" "_law_kinds" s_law_kinds)
    (alaw_fields : PySem.W.nsIn K mainGlobals "_law_fields" = some (some (.ref flaw_fields)))
    (xlaw_fields : FnX K flaw_fields "_law_fields" "_law_fields" s_law_fields)
    (alaw_is_same : PySem.W.nsIn K mainGlobals "_law_is_same" = some (some (.ref flaw_is_same)))
    (xlaw_is_same : FnX K flaw_is_same "_law_is_same" "_law_is_same" s_law_is_same)
    (alaw : PySem.W.nsIn K mainGlobals "law" = some (some (.ref flaw)))
    (xlaw : FnX K flaw "law" "law" s_law)
    (aiValues : PySem.W.findIn K (.ref CValues) "__init__" = some (some (.ref iValues)))
    (ifValues : PySem.W.isFn K (.ref iValues) = true)
    (xiValues : FnX K iValues "__init__" "Values.__init__" s_ValuesDD_initDD)
    (mkValues : PySem.W.makesIn K CValues = true)
    (kcValues : PySem.W.keepIn K (.ref CValues) = true)
    (pgValues : PySem.W.plainGet K CValues Str.empty = true)
    (hdValues : PySem.W.hasDictIn K CValues = true)
    (poValues : PySem.W.plainOver K CValues = true)
    (saValues : PySem.W.findIn K (.ref CValues) "__setattr__" = some (some (.builtin "object.__setattr__")))
    (haValues : PySem.W.findIn K (.ref CValues) "__class__" = some (some (.builtin "object.__class__")))
    (hmValues : PySem.W.mroIn K CValues (.type "object") = some true)
    (kbValues : PySem.W.kitOne K (.ref CValues) (.type "bool") = some false)
    (aiCell : PySem.W.findIn K (.ref CCell) "__init__" = some (some (.ref iCell)))
    (ifCell : PySem.W.isFn K (.ref iCell) = true)
    (xiCell : FnX K iCell "__init__" "Cell.__init__" s_CellDD_initDD)
    (mkCell : PySem.W.makesIn K CCell = true)
    (kcCell : PySem.W.keepIn K (.ref CCell) = true)
    (pgCell : PySem.W.plainGet K CCell Str.empty = true)
    (hdCell : PySem.W.hasDictIn K CCell = true)
    (poCell : PySem.W.plainOver K CCell = true)
    (saCell : PySem.W.findIn K (.ref CCell) "__setattr__" = some (some (.builtin "object.__setattr__")))
    (haCell : PySem.W.findIn K (.ref CCell) "__class__" = some (some (.builtin "object.__class__")))
    (hmCell : PySem.W.mroIn K CCell (.type "object") = some true)
    (kbCell : PySem.W.kitOne K (.ref CCell) (.type "bool") = some false)
    (noValuesletters : PySem.W.findIn K (.ref CValues) "letters" = some none)
    (noValuesby_number : PySem.W.findIn K (.ref CValues) "by_number" = some none)
    (noCellalphabet : PySem.W.findIn K (.ref CCell) "alphabet" = some none)
    (noCellnumber : PySem.W.findIn K (.ref CCell) "number" = some none)
    (noCellletters : PySem.W.findIn K (.ref CCell) "letters" = some none)
    (hn : PySem.W.specialIn K (.builtin "object.__class__") "__get__" = some (some (.builtin "getset_descriptor.__get__")))
    (htk : PySem.W.takesIn K (.builtin "object.__class__") = some true)
    (rdV : PySem.W.readsIn K CValues (.type "type") = true)
    (gaV : PySem.W.specialIn K (.ref CValues) "__getattribute__" = some (some (.builtin "type.__getattribute__")))
    (most : MostX K CValues)
    (small : SmallX K)
    (apfull : PySem.W.findIn K (.ref CValues) "full" = some (some (.ref pfull)))
    (gpfull : PySem.W.specialIn K (.ref pfull) "__get__" = some (some (.builtin "property.__get__")))
    (tpfull : PySem.W.takesIn K (.ref pfull) = some true)
    (rpfull : RecX K pfull gfull)
    (xpfull : FnX K gfull "full" "Values.full" s_Values_full)
    (apempty : PySem.W.findIn K (.ref CValues) "empty" = some (some (.ref pempty)))
    (gpempty : PySem.W.specialIn K (.ref pempty) "__get__" = some (some (.builtin "property.__get__")))
    (tpempty : PySem.W.takesIn K (.ref pempty) = some true)
    (rpempty : RecX K pempty gempty)
    (xpempty : FnX K gempty "empty" "Values.empty" s_Values_empty)
    (neV : CValues ≠ CCell)
    (blen : PySem.W.nsIn K mainGlobals "len" = some none)
    (blist : PySem.W.nsIn K mainGlobals "list" = some none)
    (btuple : PySem.W.nsIn K mainGlobals "tuple" = some none)
    (bint : PySem.W.nsIn K mainGlobals "int" = some none)
    (bstr : PySem.W.nsIn K mainGlobals "str" = some none)
    (bbool : PySem.W.nsIn K mainGlobals "bool" = some none)
    (babs : PySem.W.nsIn K mainGlobals "abs" = some none)
    (bsum : PySem.W.nsIn K mainGlobals "sum" = some none)
    (ball : PySem.W.nsIn K mainGlobals "all" = some none)
    (bset : PySem.W.nsIn K mainGlobals "set" = some none)
    (brange : PySem.W.nsIn K mainGlobals "range" = some none)
    (benumerate : PySem.W.nsIn K mainGlobals "enumerate" = some none)
    (bisinstance : PySem.W.nsIn K mainGlobals "isinstance" = some none)
    (bValueError : PySem.W.nsIn K mainGlobals "ValueError" = some none)
    (E0 : ExK K C0)
    (ae0 : PySem.W.findIn K (.ref C0) "__init__" = some (some (.ref e0)))
    (te0 : PySem.W.typeIn K (.ref e0) = some (.type "function"))
    (xe0 : FnX K e0 "__init__" "BadValues.__init__" s_BadValuesDD_initDD)
    (no0value : PySem.W.findIn K (.ref C0) "value" = some none)
    (E1 : ExK K C1)
    (ae1 : PySem.W.findIn K (.ref C1) "__init__" = some (some (.builtin "ValueError.__init__")))
    (E2 : ExK K C2)
    (ae2 : PySem.W.findIn K (.ref C2) "__init__" = some (some (.ref e2)))
    (te2 : PySem.W.typeIn K (.ref e2) = some (.type "function"))
    (xe2 : FnX K e2 "__init__" "BadCell.__init__" s_BadCellDD_initDD)
    (no2value : PySem.W.findIn K (.ref C2) "value" = some none)
    (E3 : ExK K C3)
    (ae3 : PySem.W.findIn K (.ref C3) "__init__" = some (some (.ref e3)))
    (te3 : PySem.W.typeIn K (.ref e3) = some (.type "function"))
    (xe3 : FnX K e3 "__init__" "BadLine.__init__" s_BadLineDD_initDD)
    (no3at : PySem.W.findIn K (.ref C3) "at" = some none)
    (E4 : ExK K C4)
    (ae4 : PySem.W.findIn K (.ref C4) "__init__" = some (some (.ref e4)))
    (te4 : PySem.W.typeIn K (.ref e4) = some (.type "function"))
    (xe4 : FnX K e4 "__init__" "BadWord.__init__" s_BadWordDD_initDD)
    (no4at : PySem.W.findIn K (.ref C4) "at" = some none)
    (E5 : ExK K C5)
    (ae5 : PySem.W.findIn K (.ref C5) "__init__" = some (some (.ref e5)))
    (te5 : PySem.W.typeIn K (.ref e5) = some (.type "function"))
    (xe5 : FnX K e5 "__init__" "BadMachine.__init__" s_BadMachineDD_initDD)
    (no5part : PySem.W.findIn K (.ref C5) "part" = some none)
    (E6 : ExK K C6)
    (ae6 : PySem.W.findIn K (.ref C6) "__init__" = some (some (.ref e6)))
    (te6 : PySem.W.typeIn K (.ref e6) = some (.type "function"))
    (xe6 : FnX K e6 "__init__" "BadClue.__init__" s_BadClueDD_initDD)
    (no6part : PySem.W.findIn K (.ref C6) "part" = some none)
    (E7 : ExK K C7)
    (ae7 : PySem.W.findIn K (.ref C7) "__init__" = some (some (.ref e7)))
    (te7 : PySem.W.typeIn K (.ref e7) = some (.type "function"))
    (xe7 : FnX K e7 "__init__" "BadRule.__init__" s_BadRuleDD_initDD)
    (no7part : PySem.W.findIn K (.ref C7) "part" = some none)
    (E8 : ExK K C8)
    (ae8 : PySem.W.findIn K (.ref C8) "__init__" = some (some (.ref e8)))
    (te8 : PySem.W.typeIn K (.ref e8) = some (.type "function"))
    (xe8 : FnX K e8 "__init__" "BadBook.__init__" s_BadBookDD_initDD)
    (no8at : PySem.W.findIn K (.ref C8) "at" = some none)
    (E9 : ExK K C9)
    (ae9 : PySem.W.findIn K (.ref C9) "__init__" = some (some (.ref e9)))
    (te9 : PySem.W.typeIn K (.ref e9) = some (.type "function"))
    (xe9 : FnX K e9 "__init__" "BadNumber.__init__" s_BadNumberDD_initDD)
    (no9part : PySem.W.findIn K (.ref C9) "part" = some none)
    (E10 : ExK K C10)
    (ae10 : PySem.W.findIn K (.ref C10) "__init__" = some (some (.ref e10)))
    (te10 : PySem.W.typeIn K (.ref e10) = some (.type "function"))
    (xe10 : FnX K e10 "__init__" "NoCell.__init__" s_NoCellDD_initDD)
    (no10at : PySem.W.findIn K (.ref C10) "at" = some none)
    (E11 : ExK K C11)
    (ae11 : PySem.W.findIn K (.ref C11) "__init__" = some (some (.ref e11)))
    (te11 : PySem.W.typeIn K (.ref e11) = some (.type "function"))
    (xe11 : FnX K e11 "__init__" "Unlike.__init__" s_UnlikeDD_initDD)
    (no11part : PySem.W.findIn K (.ref C11) "part" = some none)
    (E12 : ExK K C12)
    (ae12 : PySem.W.findIn K (.ref C12) "__init__" = some (some (.ref e12)))
    (te12 : PySem.W.typeIn K (.ref e12) = some (.type "function"))
    (xe12 : FnX K e12 "__init__" "BadText.__init__" s_BadTextDD_initDD)
    (no12line : PySem.W.findIn K (.ref C12) "line" = some none)
    (no12word : PySem.W.findIn K (.ref C12) "word" = some none)
    (E13 : ExK K C13)
    (ae13 : PySem.W.findIn K (.ref C13) "__init__" = some (some (.ref e13)))
    (te13 : PySem.W.typeIn K (.ref e13) = some (.type "function"))
    (xe13 : FnX K e13 "__init__" "BadSay.__init__" s_BadSayDD_initDD)
    (no13word : PySem.W.findIn K (.ref C13) "word" = some none)
    (E14 : ExK K C14)
    (ae14 : PySem.W.findIn K (.ref C14) "__init__" = some (some (.ref e14)))
    (te14 : PySem.W.typeIn K (.ref e14) = some (.type "function"))
    (xe14 : FnX K e14 "__init__" "Clash.__init__" s_ClashDD_initDD)
    (no14place : PySem.W.findIn K (.ref C14) "place" = some none)
    (E15 : ExK K C15)
    (ae15 : PySem.W.findIn K (.ref C15) "__init__" = some (some (.ref e15)))
    (te15 : PySem.W.typeIn K (.ref e15) = some (.type "function"))
    (xe15 : FnX K e15 "__init__" "TooMany.__init__" s_TooManyDD_initDD)
    (no15what : PySem.W.findIn K (.ref C15) "what" = some none)
    (no15most : PySem.W.findIn K (.ref C15) "most" = some none)
    (E16 : ExK K C16)
    (ae16 : PySem.W.findIn K (.ref C16) "__init__" = some (some (.ref e16)))
    (te16 : PySem.W.typeIn K (.ref e16) = some (.type "function"))
    (xe16 : FnX K e16 "__init__" "NoRule.__init__" s_NoRuleDD_initDD)
    (no16rule : PySem.W.findIn K (.ref C16) "rule" = some none)
    (E17 : ExK K C17)
    (ae17 : PySem.W.findIn K (.ref C17) "__init__" = some (some (.builtin "ValueError.__init__")))
    (E18 : ExK K C18)
    (ae18 : PySem.W.findIn K (.ref C18) "__init__" = some (some (.ref e18)))
    (te18 : PySem.W.typeIn K (.ref e18) = some (.type "function"))
    (xe18 : FnX K e18 "__init__" "NothingTold.__init__" s_NothingToldDD_initDD)
    (no18what : PySem.W.findIn K (.ref C18) "what" = some none)
    (E19 : ExK K C19)
    (ae19 : PySem.W.findIn K (.ref C19) "__init__" = some (some (.ref e19)))
    (te19 : PySem.W.typeIn K (.ref e19) = some (.type "function"))
    (xe19 : FnX K e19 "__init__" "Struck.__init__" s_StruckDD_initDD)
    (no19place : PySem.W.findIn K (.ref C19) "place" = some none)
    (no19number : PySem.W.findIn K (.ref C19) "number" = some none)
    (E20 : ExK K C20)
    (ae20 : PySem.W.findIn K (.ref C20) "__init__" = some (some (.ref e20)))
    (te20 : PySem.W.typeIn K (.ref e20) = some (.type "function"))
    (xe20 : FnX K e20 "__init__" "Barred.__init__" s_BarredDD_initDD)
    (no20place : PySem.W.findIn K (.ref C20) "place" = some none)
    (no20value : PySem.W.findIn K (.ref C20) "value" = some none)
    (kt : ((List.range 21).all fun k => (List.range 24).all fun j => PySem.W.kitOne K (.ref ((fun k => ([C0, C1, C2, C3, C4, C5, C6, C7, C8, C9, C10, C11, C12, C13, C14, C15, C16, C17, C18, C19, C20, C21, C22, C23] : List Addr).getD k 0) k)) (.ref ((fun k => ([C0, C1, C2, C3, C4, C5, C6, C7, C8, C9, C10, C11, C12, C13, C14, C15, C16, C17, C18, C19, C20, C21, C22, C23] : List Addr).getD k 0) j)) == some (subB k j)) = true)
    (kv : ((List.range 21).all fun k => PySem.W.kitOne K (.ref ((fun k => ([C0, C1, C2, C3, C4, C5, C6, C7, C8, C9, C10, C11, C12, C13, C14, C15, C16, C17, C18, C19, C20, C21, C22, C23] : List Addr).getD k 0) k)) (.type "ValueError") == some true) = true) :
    ∃ fd : FuncData, (∀ (s : Shared) (v : Value), BindsTo s fd ⟨[v], []⟩ [("_law_script", v)]) ∧ ∀ base : Heap, K.In base → base.Ns mainGlobals mg → FnOk l.prog w K mg base CX0 7 fa fd ["_law_script"] (spLaw K) := by
  have e := hfa.symm.trans (PySem.W.mg_of X G alaw)
  cases e
  obtain ⟨fdL, FL⟩ := xlaw.get
  have bL : Binds K fdL ["_law_script"] [] := FL.binds (fun _ _ _ _ _ _ us hl => match us, hl with | [_], _ => rfl)
  obtain ⟨zS, tS, eS, qS⟩ := small
  subst qS
  obtain ⟨tM, eM⟩ := most
  have B : Blt mg := ⟨PySem.W.mg_none_of X G blen, PySem.W.mg_none_of X G blist, PySem.W.mg_none_of X G btuple, PySem.W.mg_none_of X G bint, PySem.W.mg_none_of X G bstr, PySem.W.mg_none_of X G bbool, PySem.W.mg_none_of X G babs, PySem.W.mg_none_of X G bsum, PySem.W.mg_none_of X G ball, PySem.W.mg_none_of X G bset, PySem.W.mg_none_of X G brange, PySem.W.mg_none_of X G benumerate, PySem.W.mg_none_of X G bisinstance⟩
  have VV : VF K CValues CCell := ⟨⟨pgValues, hdValues, poValues, saValues⟩, neV, ⟨pgCell, hdCell, poCell, saCell⟩, noValuesletters, noValuesby_number, noCellalphabet, noCellnumber, noCellletters, ⟨_, _, ⟨rdV, gaV⟩, ⟨eM, ⟨tM, rfl⟩⟩⟩⟩
  have TValues : VT K CValues := ⟨⟨pgValues, hdValues, poValues, saValues⟩, haValues, hn, htk, hmValues, kbValues⟩
  have TCell : VT K CCell := ⟨⟨pgCell, hdCell, poCell, saCell⟩, haCell, hn, htk, hmCell, kbCell⟩
  have G0 : Consts mg CValues tS := ⟨PySem.W.mg_of X G eS, PySem.W.mg_of X G gCValues⟩
  have kt1 : ∀ k j, k < 21 → j < 24 → PySem.W.kitOne K (.ref ((fun k => ([C0, C1, C2, C3, C4, C5, C6, C7, C8, C9, C10, C11, C12, C13, C14, C15, C16, C17, C18, C19, C20, C21, C22, C23] : List Addr).getD k 0) k)) (.ref ((fun k => ([C0, C1, C2, C3, C4, C5, C6, C7, C8, C9, C10, C11, C12, C13, C14, C15, C16, C17, C18, C19, C20, C21, C22, C23] : List Addr).getD k 0) j)) = some (subB k j) := fun k j hk hj => eq_of_beq (List.all_eq_true.mp (List.all_eq_true.mp kt k (List.mem_range.mpr hk)) j (List.mem_range.mpr hj))
  have kv1 : ∀ k, k < 21 → PySem.W.kitOne K (.ref ((fun k => ([C0, C1, C2, C3, C4, C5, C6, C7, C8, C9, C10, C11, C12, C13, C14, C15, C16, C17, C18, C19, C20, C21, C22, C23] : List Addr).getD k 0) k)) (.type "ValueError") = some true := fun k hk => eq_of_beq (List.all_eq_true.mp kv k (List.mem_range.mpr hk))
  refine ⟨fdL, fun s v => ?_, fun base _ _ => ?_⟩
  · obtain ⟨oc, od, kV, doc, pm, an, cdv, ct, osl, e1, e2, e3⟩ := FL.ex
    subst e1
    exact .of_eq rfl
  have h0 := has_ex (P := l.prog) (w := w) (base := base) (k := 1) (ps := ["self", "value"]) (ks := ["value"]) (b := false) X G gC0 E0 ae0 te0 xe0 (fun _ _ _ _ _ _ us hl => match us, hl with | [_, _], _ => rfl) (fun _ _ _ _ _ _ self ws hl => match ws, hl with | [_], _ => rfl) fun fd F => ok_BadValues F E0.toOexC no0value
  have h2 := has_ex (P := l.prog) (w := w) (base := base) (k := 1) (ps := ["self", "value"]) (ks := ["value"]) (b := false) X G gC2 E2 ae2 te2 xe2 (fun _ _ _ _ _ _ us hl => match us, hl with | [_, _], _ => rfl) (fun _ _ _ _ _ _ self ws hl => match ws, hl with | [_], _ => rfl) fun fd F => ok_BadCell F E2.toOexC no2value
  have h3 := has_ex (P := l.prog) (w := w) (base := base) (k := 1) (ps := ["self", "at"]) (ks := ["at"]) (b := false) X G gC3 E3 ae3 te3 xe3 (fun _ _ _ _ _ _ us hl => match us, hl with | [_, _], _ => rfl) (fun _ _ _ _ _ _ self ws hl => match ws, hl with | [_], _ => rfl) fun fd F => ok_BadLine F E3.toOexC no3at
  have h4 := has_ex (P := l.prog) (w := w) (base := base) (k := 1) (ps := ["self", "at"]) (ks := ["at"]) (b := false) X G gC4 E4 ae4 te4 xe4 (fun _ _ _ _ _ _ us hl => match us, hl with | [_, _], _ => rfl) (fun _ _ _ _ _ _ self ws hl => match ws, hl with | [_], _ => rfl) fun fd F => ok_BadWord F E4.toOexC no4at
  have h5 := has_ex (P := l.prog) (w := w) (base := base) (k := 1) (ps := ["self", "part"]) (ks := ["part"]) (b := false) X G gC5 E5 ae5 te5 xe5 (fun _ _ _ _ _ _ us hl => match us, hl with | [_, _], _ => rfl) (fun _ _ _ _ _ _ self ws hl => match ws, hl with | [_], _ => rfl) fun fd F => ok_BadMachine F E5.toOexC no5part
  have h6 := has_ex (P := l.prog) (w := w) (base := base) (k := 1) (ps := ["self", "part"]) (ks := ["part"]) (b := false) X G gC6 E6 ae6 te6 xe6 (fun _ _ _ _ _ _ us hl => match us, hl with | [_, _], _ => rfl) (fun _ _ _ _ _ _ self ws hl => match ws, hl with | [_], _ => rfl) fun fd F => ok_BadClue F E6.toOexC no6part
  have h7 := has_ex (P := l.prog) (w := w) (base := base) (k := 1) (ps := ["self", "part"]) (ks := ["part"]) (b := false) X G gC7 E7 ae7 te7 xe7 (fun _ _ _ _ _ _ us hl => match us, hl with | [_, _], _ => rfl) (fun _ _ _ _ _ _ self ws hl => match ws, hl with | [_], _ => rfl) fun fd F => ok_BadRule F E7.toOexC no7part
  have h8 := has_ex (P := l.prog) (w := w) (base := base) (k := 1) (ps := ["self", "at"]) (ks := ["at"]) (b := false) X G gC8 E8 ae8 te8 xe8 (fun _ _ _ _ _ _ us hl => match us, hl with | [_, _], _ => rfl) (fun _ _ _ _ _ _ self ws hl => match ws, hl with | [_], _ => rfl) fun fd F => ok_BadBook F E8.toOexC no8at
  have h9 := has_ex (P := l.prog) (w := w) (base := base) (k := 1) (ps := ["self", "part"]) (ks := ["part"]) (b := false) X G gC9 E9 ae9 te9 xe9 (fun _ _ _ _ _ _ us hl => match us, hl with | [_, _], _ => rfl) (fun _ _ _ _ _ _ self ws hl => match ws, hl with | [_], _ => rfl) fun fd F => ok_BadNumber F E9.toOexC no9part
  have h10 := has_ex (P := l.prog) (w := w) (base := base) (k := 1) (ps := ["self", "at"]) (ks := ["at"]) (b := false) X G gC10 E10 ae10 te10 xe10 (fun _ _ _ _ _ _ us hl => match us, hl with | [_, _], _ => rfl) (fun _ _ _ _ _ _ self ws hl => match ws, hl with | [_], _ => rfl) fun fd F => ok_NoCell F E10.toOexC no10at
  have h11 := has_ex (P := l.prog) (w := w) (base := base) (k := 1) (ps := ["self", "part"]) (ks := ["part"]) (b := false) X G gC11 E11 ae11 te11 xe11 (fun _ _ _ _ _ _ us hl => match us, hl with | [_, _], _ => rfl) (fun _ _ _ _ _ _ self ws hl => match ws, hl with | [_], _ => rfl) fun fd F => ok_Unlike F E11.toOexC no11part
  have h12 := has_ex (P := l.prog) (w := w) (base := base) (k := 1) (ps := ["self", "line", "word"]) (ks := ["word", "line"]) (b := true) X G gC12 E12 ae12 te12 xe12 (fun _ _ _ _ _ _ us hl => match us, hl with | [_, _, _], _ => rfl) (fun _ _ _ _ _ _ self ws hl => match ws, hl with | [_, _], _ => rfl) fun fd F => ok_BadText F E12.toOexC no12line no12word
  have h13 := has_ex (P := l.prog) (w := w) (base := base) (k := 1) (ps := ["self", "word"]) (ks := ["word"]) (b := false) X G gC13 E13 ae13 te13 xe13 (fun _ _ _ _ _ _ us hl => match us, hl with | [_, _], _ => rfl) (fun _ _ _ _ _ _ self ws hl => match ws, hl with | [_], _ => rfl) fun fd F => ok_BadSay F E13.toOexC no13word
  have h14 := has_ex (P := l.prog) (w := w) (base := base) (k := 1) (ps := ["self", "place"]) (ks := ["place"]) (b := false) X G gC14 E14 ae14 te14 xe14 (fun _ _ _ _ _ _ us hl => match us, hl with | [_, _], _ => rfl) (fun _ _ _ _ _ _ self ws hl => match ws, hl with | [_], _ => rfl) fun fd F => ok_Clash F E14.toOexC no14place
  have h15 := has_ex (P := l.prog) (w := w) (base := base) (k := 1) (ps := ["self", "what", "most"]) (ks := ["most", "what"]) (b := true) X G gC15 E15 ae15 te15 xe15 (fun _ _ _ _ _ _ us hl => match us, hl with | [_, _, _], _ => rfl) (fun _ _ _ _ _ _ self ws hl => match ws, hl with | [_, _], _ => rfl) fun fd F => ok_TooMany F E15.toOexC no15what no15most
  have h16 := has_ex (P := l.prog) (w := w) (base := base) (k := 1) (ps := ["self", "rule"]) (ks := ["rule"]) (b := false) X G gC16 E16 ae16 te16 xe16 (fun _ _ _ _ _ _ us hl => match us, hl with | [_, _], _ => rfl) (fun _ _ _ _ _ _ self ws hl => match ws, hl with | [_], _ => rfl) fun fd F => ok_NoRule F E16.toOexC no16rule
  have h18 := has_ex (P := l.prog) (w := w) (base := base) (k := 1) (ps := ["self", "what"]) (ks := ["what"]) (b := false) X G gC18 E18 ae18 te18 xe18 (fun _ _ _ _ _ _ us hl => match us, hl with | [_, _], _ => rfl) (fun _ _ _ _ _ _ self ws hl => match ws, hl with | [_], _ => rfl) fun fd F => ok_NothingTold F E18.toOexC no18what
  have h19 := has_ex (P := l.prog) (w := w) (base := base) (k := 1) (ps := ["self", "place", "number"]) (ks := ["number", "place"]) (b := true) X G gC19 E19 ae19 te19 xe19 (fun _ _ _ _ _ _ us hl => match us, hl with | [_, _, _], _ => rfl) (fun _ _ _ _ _ _ self ws hl => match ws, hl with | [_, _], _ => rfl) fun fd F => ok_Struck F E19.toOexC no19place no19number
  have h20 := has_ex (P := l.prog) (w := w) (base := base) (k := 1) (ps := ["self", "place", "value"]) (ks := ["value", "place"]) (b := true) X G gC20 E20 ae20 te20 xe20 (fun _ _ _ _ _ _ us hl => match us, hl with | [_, _, _], _ => rfl) (fun _ _ _ _ _ _ self ws hl => match ws, hl with | [_, _], _ => rfl) fun fd F => ok_Barred F E20.toOexC no20place no20value
  have EE : EX l.prog w K mg base (fun k => ([C0, C1, C2, C3, C4, C5, C6, C7, C8, C9, C10, C11, C12, C13, C14, C15, C16, C17, C18, C19, C20, C21, C22, C23] : List Addr).getD k 0) := { g0 := PySem.W.mg_of X G gC0, g1 := PySem.W.mg_of X G gC1, g2 := PySem.W.mg_of X G gC2, g3 := PySem.W.mg_of X G gC3, g4 := PySem.W.mg_of X G gC4, g5 := PySem.W.mg_of X G gC5, g6 := PySem.W.mg_of X G gC6, g7 := PySem.W.mg_of X G gC7, g8 := PySem.W.mg_of X G gC8, g9 := PySem.W.mg_of X G gC9, g10 := PySem.W.mg_of X G gC10, g11 := PySem.W.mg_of X G gC11, g12 := PySem.W.mg_of X G gC12, g13 := PySem.W.mg_of X G gC13, g14 := PySem.W.mg_of X G gC14, g15 := PySem.W.mg_of X G gC15, g16 := PySem.W.mg_of X G gC16, g17 := PySem.W.mg_of X G gC17, g18 := PySem.W.mg_of X G gC18, g19 := PySem.W.mg_of X G gC19, g20 := PySem.W.mg_of X G gC20, g21 := PySem.W.mg_of X G gC21, g22 := PySem.W.mg_of X G gC22, g23 := PySem.W.mg_of X G gC23, x0 := h0.1, y0 := h0.2, f0value := no0value, x1 := ⟨E1.toOexC, ae1, PySem.W.mg_of X G gC1⟩, x2 := h2.1, y2 := h2.2, f2value := no2value, x3 := h3.1, y3 := h3.2, f3at := no3at, x4 := h4.1, y4 := h4.2, f4at := no4at, x5 := h5.1, y5 := h5.2, f5part := no5part, x6 := h6.1, y6 := h6.2, f6part := no6part, x7 := h7.1, y7 := h7.2, f7part := no7part, x8 := h8.1, y8 := h8.2, f8at := no8at, x9 := h9.1, y9 := h9.2, f9part := no9part, x10 := h10.1, y10 := h10.2, f10at := no10at, x11 := h11.1, y11 := h11.2, f11part := no11part, x12 := h12.1, y12 := h12.2, f12line := no12line, f12word := no12word, x13 := h13.1, y13 := h13.2, f13word := no13word, x14 := h14.1, y14 := h14.2, f14place := no14place, x15 := h15.1, y15 := h15.2, f15what := no15what, f15most := no15most, x16 := h16.1, y16 := h16.2, f16rule := no16rule, x17 := ⟨E17.toOexC, ae17, PySem.W.mg_of X G gC17⟩, x18 := h18.1, y18 := h18.2, f18what := no18what, x19 := h19.1, y19 := h19.2, f19place := no19place, f19number := no19number, x20 := h20.1, y20 := h20.2, f20place := no20place, f20value := no20value, exk := fun k hk => match k, hk with | 0, _ => E0 | 1, _ => E1 | 2, _ => E2 | 3, _ => E3 | 4, _ => E4 | 5, _ => E5 | 6, _ => E6 | 7, _ => E7 | 8, _ => E8 | 9, _ => E9 | 10, _ => E10 | 11, _ => E11 | 12, _ => E12 | 13, _ => E13 | 14, _ => E14 | 15, _ => E15 | 16, _ => E16 | 17, _ => E17 | 18, _ => E18 | 19, _ => E19 | 20, _ => E20 | n + 21, h => absurd h (by omega), kit := kt1, kitV := kv1 }
  have D_is_letter_of := has_fn (P := l.prog) (w := w) (base := base) (k := 1) (ps := ["letters", "value"]) X G ais_letter_of xis_letter_of (fun _ _ _ _ _ _ us hl => match us, hl with | [_, _], _ => rfl) fun fd F => ok_let F B
  have D_are_unlike_letters := has_fn (P := l.prog) (w := w) (base := base) (k := 2) (ps := ["letters"]) X G aare_unlike_letters xare_unlike_letters (fun _ _ _ _ _ _ us hl => match us, hl with | [_], _ => rfl) fun fd F => ok_unl F B G0 D_is_letter_of
  have D_are_values_letters := has_fn (P := l.prog) (w := w) (base := base) (k := 3) (ps := ["letters"]) X G aare_values_letters xare_values_letters (fun _ _ _ _ _ _ us hl => match us, hl with | [_], _ => rfl) fun fd F => ok_avl F B VV G0 D_are_unlike_letters
  have M_Cell := has_mk (P := l.prog) (w := w) (base := base) (k := 1) (ps := ["self", "alphabet", "number"]) X G gCCell aiCell ifCell mkCell kcCell xiCell (fun _ _ _ _ _ _ us hl => match us, hl with | [_, _, _], _ => rfl) fun fd F => ok_cell F B VV
  have M_Values := has_mk (P := l.prog) (w := w) (base := base) (k := 4) (ps := ["self", "letters"]) X G gCValues aiValues ifValues mkValues kcValues xiValues (fun _ _ _ _ _ _ us hl => match us, hl with | [_, _], _ => rfl) fun fd F => ok_vals F B VV G0 D_are_values_letters M_Cell
  have D_full := has_pr (P := l.prog) (w := w) (mg := mg) (base := base) (k := 1) (ps := ["self"]) ⟨apfull, gpfull, tpfull, rpfull⟩ xpfull (fun _ _ _ _ _ _ us hl => match us, hl with | [_], _ => rfl) fun fd F => ok_full F B VV
  have D_empty := has_pr (P := l.prog) (w := w) (mg := mg) (base := base) (k := 1) (ps := ["self"]) ⟨apempty, gpempty, tpempty, rpempty⟩ xpempty (fun _ _ _ _ _ _ us hl => match us, hl with | [_], _ => rfl) fun fd F => ok_empty F B VV
  have D_law_pen := has_fn (P := l.prog) (w := w) (base := base) (k := 1) (ps := ["_law_script"]) X G alaw_pen xlaw_pen (fun _ _ _ _ _ _ us hl => match us, hl with | [_], _ => rfl) fun fd F => ok_pen F B
  have D_law_draw := has_fn (P := l.prog) (w := w) (base := base) (k := 1) (ps := ["_law_pen_here", "_law_many"]) X G alaw_draw xlaw_draw (fun _ _ _ _ _ _ us hl => match us, hl with | [_, _], _ => rfl) fun fd F => ok_draw F B
  have D_law_pick := has_fn (P := l.prog) (w := w) (base := base) (k := 2) (ps := ["_law_pen_here", "_law_some"]) X G alaw_pick xlaw_pick (fun _ _ _ _ _ _ us hl => match us, hl with | [_, _], _ => rfl) fun fd F => ok_pick F B D_law_draw
  have D_law_value := has_fn (P := l.prog) (w := w) (base := base) (k := 6) (ps := ["_law_pen_here"]) X G alaw_value xlaw_value (fun _ _ _ _ _ _ us hl => match us, hl with | [_], _ => rfl) fun fd F => ok_value F VV TValues TCell D_law_pick M_Values D_full D_empty
  have D_law_inputs := has_fn (P := l.prog) (w := w) (base := base) (k := 3) (ps := ["_law_one", "_law_two"]) X G alaw_inputs xlaw_inputs (fun _ _ _ _ _ _ us hl => match us, hl with | [_, _], _ => rfl) fun fd F => ok_law_inputs F EE
  have D_law_answers := has_fn (P := l.prog) (w := w) (base := base) (k := 3) (ps := ["_law_one", "_law_two"]) X G alaw_answers xlaw_answers (fun _ _ _ _ _ _ us hl => match us, hl with | [_, _], _ => rfl) fun fd F => ok_law_answers F EE
  have D_law_named := has_fn (P := l.prog) (w := w) (base := base) (k := 3) (ps := ["_law_one", "_law_two"]) X G alaw_named xlaw_named (fun _ _ _ _ _ _ us hl => match us, hl with | [_, _], _ => rfl) fun fd F => ok_law_named F EE
  have D_law_kinds := has_fn (P := l.prog) (w := w) (base := base) (k := 2) (ps := ["_law_error"]) X G alaw_kinds xlaw_kinds (fun _ _ _ _ _ _ us hl => match us, hl with | [_], _ => rfl) fun fd F => ok_kinds F B EE
  have D_law_fields := has_fn (P := l.prog) (w := w) (base := base) (k := 2) (ps := ["_law_error"]) X G alaw_fields xlaw_fields (fun _ _ _ _ _ _ us hl => match us, hl with | [_], _ => rfl) fun fd F => ok_fields F B EE
  have D_law_is_same := has_fn (P := l.prog) (w := w) (base := base) (k := 2) (ps := ["_law_heard", "_law_due"]) X G alaw_is_same xlaw_is_same (fun _ _ _ _ _ _ us hl => match us, hl with | [_, _], _ => rfl) fun fd F => ok_same F B
  exact ok_law FL B (PySem.W.mg_none_of X G bValueError) EE D_law_pen D_law_value D_law_answers D_law_named D_law_inputs D_law_is_same D_law_fields D_law_kinds
theorem walk {l : PySem.W.OpenLaw} {q : Program} {loose : List Str} {XP : (Str → Option Value) → Heap → Prop} {YP : World → Heap → Prop} {d : DefRec} {K : Params → PySem.W.Frag} (hn : l.most = some 63) (hdf : d.params.defaults = [])
    (hY : ∀ (w : World) (h : Heap), YP w h → (K w.params).In h)
    (F : ∀ (w : World) (mg : Str → Option Value) (fa : Addr) (h : Heap), (K w.params).In h → h.Ns mainGlobals mg → mg d.name = some (.ref fa) →
      ∃ fd : FuncData, (∀ (s : Shared) (u : Value), BindsTo s fd ⟨[u], []⟩ [("_law_script", u)]) ∧ ∀ base : Heap, (K w.params).In base → base.Ns mainGlobals mg → FnOk l.prog w (K w.params) mg base CX0 7 fa fd ["_law_script"] (spLaw (K w.params))) :
    PySem.W.WalkO q loose XP YP l.row.toRowW d [] (fun f vs => PySem.call f vs) :=
  L2.walk_of (n := 63) (k := 7) (x := "_law_script") (CX := fun _ => CX0) (sp := fun w => spLaw (K w.params)) hn (by decide) hdf ⟨rfl, by decide, by decide⟩ hY F (fun _ _ a ns hl _ hS => ⟨a, ns, rfl, hS, fun _ => rfl⟩) fun _ _ _ _ _ z => z
end
end Toy

open PySem PySem.W PyProof.Rows
set_option maxRecDepth 100000 in
set_option maxHeartbeats 0 in
theorem PySem.Challenge.cw_linestrikes_k99_errors_and_causes_holds : PySem.Challenge.rw_linestrikes_k99_errors_and_causes.Holds := by
  w_on; o_law; k_head; (case hw => w_witness2)
  k_fill
  refine Toy.walk (l := PySem.Challenge.rw_linestrikes_k99_errors_and_causes) rfl rfl (fun w h Y => PySem.W.kIn_of Y) ?F
  case F =>
    intro w mg fa h KX G hmg
    refine' Toy.all_mk KX G hmg ?gC0 ?gC1 ?gC2 ?gC3 ?gC4 ?gC5 ?gC6 ?gC7 ?gC8 ?gC9 ?gC10 ?gC11 ?gC12 ?gC13 ?gC14 ?gC15 ?gC16 ?gC17 ?gC18 ?gC19 ?gC20 ?gC21 ?gC22 ?gC23 ?gCValues ?gCCell ?ais_letter_of ?xis_letter_of ?aare_unlike_letters ?xare_unlike_letters ?aare_values_letters ?xare_values_letters ?alaw_pen ?xlaw_pen ?alaw_draw ?xlaw_draw ?alaw_pick ?xlaw_pick ?alaw_value ?xlaw_value ?alaw_inputs ?xlaw_inputs ?alaw_answers ?xlaw_answers ?alaw_named ?xlaw_named ?alaw_kinds ?xlaw_kinds ?alaw_fields ?xlaw_fields ?alaw_is_same ?xlaw_is_same ?alaw ?xlaw ?aiValues ?ifValues ?xiValues ?mkValues ?kcValues ?pgValues ?hdValues ?poValues ?saValues ?haValues ?hmValues ?kbValues ?aiCell ?ifCell ?xiCell ?mkCell ?kcCell ?pgCell ?hdCell ?poCell ?saCell ?haCell ?hmCell ?kbCell ?noValuesletters ?noValuesby_number ?noCellalphabet ?noCellnumber ?noCellletters ?hn ?htk ?rdV ?gaV ?most ?small ?apfull ?gpfull ?tpfull ?rpfull ?xpfull ?apempty ?gpempty ?tpempty ?rpempty ?xpempty ?neV ?blen ?blist ?btuple ?bint ?bstr ?bbool ?babs ?bsum ?ball ?bset ?brange ?benumerate ?bisinstance ?bValueError ?E0 ?ae0 ?te0 ?xe0 ?no0value ?E1 ?ae1 ?E2 ?ae2 ?te2 ?xe2 ?no2value ?E3 ?ae3 ?te3 ?xe3 ?no3at ?E4 ?ae4 ?te4 ?xe4 ?no4at ?E5 ?ae5 ?te5 ?xe5 ?no5part ?E6 ?ae6 ?te6 ?xe6 ?no6part ?E7 ?ae7 ?te7 ?xe7 ?no7part ?E8 ?ae8 ?te8 ?xe8 ?no8at ?E9 ?ae9 ?te9 ?xe9 ?no9part ?E10 ?ae10 ?te10 ?xe10 ?no10at ?E11 ?ae11 ?te11 ?xe11 ?no11part ?E12 ?ae12 ?te12 ?xe12 ?no12line ?no12word ?E13 ?ae13 ?te13 ?xe13 ?no13word ?E14 ?ae14 ?te14 ?xe14 ?no14place ?E15 ?ae15 ?te15 ?xe15 ?no15what ?no15most ?E16 ?ae16 ?te16 ?xe16 ?no16rule ?E17 ?ae17 ?E18 ?ae18 ?te18 ?xe18 ?no18what ?E19 ?ae19 ?te19 ?xe19 ?no19place ?no19number ?E20 ?ae20 ?te20 ?xe20 ?no20place ?no20value ?kt ?kv
    (case gC0 => k_is)
    (case gC1 => k_is)
    (case gC2 => k_is)
    (case gC3 => k_is)
    (case gC4 => k_is)
    (case gC5 => k_is)
    (case gC6 => k_is)
    (case gC7 => k_is)
    (case gC8 => k_is)
    (case gC9 => k_is)
    (case gC10 => k_is)
    (case gC11 => k_is)
    (case gC12 => k_is)
    (case gC13 => k_is)
    (case gC14 => k_is)
    (case gC15 => k_is)
    (case gC16 => k_is)
    (case gC17 => k_is)
    (case gC18 => k_is)
    (case gC19 => k_is)
    (case gC20 => k_is)
    (case gC21 => k_is)
    (case gC22 => k_is)
    (case gC23 => k_is)
    (case gCValues => k_is)
    (case gCCell => k_is)
    (case ais_letter_of => k_is)
    (case xis_letter_of => (refine' Toy.FnX.mk ?ol ?oc ?ok; (case ol => k_is); (case oc => k_is); (case ok => k_is)))
    (case aare_unlike_letters => k_is)
    (case xare_unlike_letters => (refine' Toy.FnX.mk ?ol ?oc ?ok; (case ol => k_is); (case oc => k_is); (case ok => k_is)))
    (case aare_values_letters => k_is)
    (case xare_values_letters => (refine' Toy.FnX.mk ?ol ?oc ?ok; (case ol => k_is); (case oc => k_is); (case ok => k_is)))
    (case alaw_pen => k_is)
    (case xlaw_pen => (refine' Toy.FnX.mk ?ol ?oc ?ok; (case ol => k_is); (case oc => k_is); (case ok => k_is)))
    (case alaw_draw => k_is)
    (case xlaw_draw => (refine' Toy.FnX.mk ?ol ?oc ?ok; (case ol => k_is); (case oc => k_is); (case ok => k_is)))
    (case alaw_pick => k_is)
    (case xlaw_pick => (refine' Toy.FnX.mk ?ol ?oc ?ok; (case ol => k_is); (case oc => k_is); (case ok => k_is)))
    (case alaw_value => k_is)
    (case xlaw_value => (refine' Toy.FnX.mk ?ol ?oc ?ok; (case ol => k_is); (case oc => k_is); (case ok => k_is)))
    (case alaw_inputs => k_is)
    (case xlaw_inputs => (refine' Toy.FnX.mk ?ol ?oc ?ok; (case ol => k_is); (case oc => k_is); (case ok => k_is)))
    (case alaw_answers => k_is)
    (case xlaw_answers => (refine' Toy.FnX.mk ?ol ?oc ?ok; (case ol => k_is); (case oc => k_is); (case ok => k_is)))
    (case alaw_named => k_is)
    (case xlaw_named => (refine' Toy.FnX.mk ?ol ?oc ?ok; (case ol => k_is); (case oc => k_is); (case ok => k_is)))
    (case alaw_kinds => k_is)
    (case xlaw_kinds => (refine' Toy.FnX.mk ?ol ?oc ?ok; (case ol => k_is); (case oc => k_is); (case ok => k_is)))
    (case alaw_fields => k_is)
    (case xlaw_fields => (refine' Toy.FnX.mk ?ol ?oc ?ok; (case ol => k_is); (case oc => k_is); (case ok => k_is)))
    (case alaw_is_same => k_is)
    (case xlaw_is_same => (refine' Toy.FnX.mk ?ol ?oc ?ok; (case ol => k_is); (case oc => k_is); (case ok => k_is)))
    (case alaw => k_is)
    (case xlaw => (refine' Toy.FnX.mk ?ol ?oc ?ok; (case ol => k_is); (case oc => k_is); (case ok => k_is)))
    (case aiValues => k_is)
    (case ifValues => k_is)
    (case xiValues => (refine' Toy.FnX.mk ?ol ?oc ?ok; (case ol => k_is); (case oc => k_is); (case ok => k_is)))
    (case mkValues => k_is)
    (case kcValues => k_is)
    (case pgValues => k_is)
    (case hdValues => k_is)
    (case poValues => k_is)
    (case saValues => k_is)
    (case haValues => k_is)
    (case hmValues => k_is)
    (case kbValues => kernel_rfl)
    (case aiCell => k_is)
    (case ifCell => k_is)
    (case xiCell => (refine' Toy.FnX.mk ?ol ?oc ?ok; (case ol => k_is); (case oc => k_is); (case ok => k_is)))
    (case mkCell => k_is)
    (case kcCell => k_is)
    (case pgCell => k_is)
    (case hdCell => k_is)
    (case poCell => k_is)
    (case saCell => k_is)
    (case haCell => k_is)
    (case hmCell => k_is)
    (case kbCell => kernel_rfl)
    (case noValuesletters => k_is)
    (case noValuesby_number => k_is)
    (case noCellalphabet => k_is)
    (case noCellnumber => k_is)
    (case noCellletters => k_is)
    (case hn => k_is)
    (case htk => k_is)
    (case rdV => k_is)
    (case gaV => k_is)
    (case most => (refine' Toy.MostX.mk ?z2; (case z2 => k_is)))
    (case small => (refine' Toy.SmallX.mk ?z3 ?z4; (case z3 => k_is); (case z4 => decide +kernel)))
    (case apfull => k_is)
    (case gpfull => k_is)
    (case tpfull => k_is)
    (case rpfull => (refine' Toy.RecX.mk ?z2; (case z2 => k_is)))
    (case xpfull => (refine' Toy.FnX.mk ?ol ?oc ?ok; (case ol => k_is); (case oc => k_is); (case ok => k_is)))
    (case apempty => k_is)
    (case gpempty => k_is)
    (case tpempty => k_is)
    (case rpempty => (refine' Toy.RecX.mk ?z2; (case z2 => k_is)))
    (case xpempty => (refine' Toy.FnX.mk ?ol ?oc ?ok; (case ol => k_is); (case oc => k_is); (case ok => k_is)))
    (case neV => decide)
    (case blen => k_is)
    (case blist => k_is)
    (case btuple => k_is)
    (case bint => k_is)
    (case bstr => k_is)
    (case bbool => k_is)
    (case babs => k_is)
    (case bsum => k_is)
    (case ball => k_is)
    (case bset => k_is)
    (case brange => k_is)
    (case benumerate => k_is)
    (case bisinstance => k_is)
    (case bValueError => k_is)
    (case E0 => (refine' Toy.ExX.mk ?h0 ?h1 ?h2 ?h3 ?h4 ?h5 ?h6 ?h7 ?x1 ?x2 ?s1 ?s2 ?s3 ?s4; (case h0 => k_is); (case h1 => k_is); (case h2 => k_is); (case h3 => k_is); (case h4 => k_is); (case h5 => k_is); (case h6 => k_is); (case h7 => k_is); (case x1 => k_is); (case x2 => decide +kernel); (case s1 => k_is); (case s2 => k_is); (case s3 => k_is); (case s4 => k_is)))
    (case ae0 => k_is)
    (case te0 => k_is)
    (case xe0 => (refine' Toy.FnX.mk ?ol ?oc ?ok; (case ol => k_is); (case oc => k_is); (case ok => k_is)))
    (case no0value => k_is)
    (case E1 => (refine' Toy.ExX.mk ?h0 ?h1 ?h2 ?h3 ?h4 ?h5 ?h6 ?h7 ?x1 ?x2 ?s1 ?s2 ?s3 ?s4; (case h0 => k_is); (case h1 => k_is); (case h2 => k_is); (case h3 => k_is); (case h4 => k_is); (case h5 => k_is); (case h6 => k_is); (case h7 => k_is); (case x1 => k_is); (case x2 => decide +kernel); (case s1 => k_is); (case s2 => k_is); (case s3 => k_is); (case s4 => k_is)))
    (case ae1 => k_is)
    (case E2 => (refine' Toy.ExX.mk ?h0 ?h1 ?h2 ?h3 ?h4 ?h5 ?h6 ?h7 ?x1 ?x2 ?s1 ?s2 ?s3 ?s4; (case h0 => k_is); (case h1 => k_is); (case h2 => k_is); (case h3 => k_is); (case h4 => k_is); (case h5 => k_is); (case h6 => k_is); (case h7 => k_is); (case x1 => k_is); (case x2 => decide +kernel); (case s1 => k_is); (case s2 => k_is); (case s3 => k_is); (case s4 => k_is)))
    (case ae2 => k_is)
    (case te2 => k_is)
    (case xe2 => (refine' Toy.FnX.mk ?ol ?oc ?ok; (case ol => k_is); (case oc => k_is); (case ok => k_is)))
    (case no2value => k_is)
    (case E3 => (refine' Toy.ExX.mk ?h0 ?h1 ?h2 ?h3 ?h4 ?h5 ?h6 ?h7 ?x1 ?x2 ?s1 ?s2 ?s3 ?s4; (case h0 => k_is); (case h1 => k_is); (case h2 => k_is); (case h3 => k_is); (case h4 => k_is); (case h5 => k_is); (case h6 => k_is); (case h7 => k_is); (case x1 => k_is); (case x2 => decide +kernel); (case s1 => k_is); (case s2 => k_is); (case s3 => k_is); (case s4 => k_is)))
    (case ae3 => k_is)
    (case te3 => k_is)
    (case xe3 => (refine' Toy.FnX.mk ?ol ?oc ?ok; (case ol => k_is); (case oc => k_is); (case ok => k_is)))
    (case no3at => k_is)
    (case E4 => (refine' Toy.ExX.mk ?h0 ?h1 ?h2 ?h3 ?h4 ?h5 ?h6 ?h7 ?x1 ?x2 ?s1 ?s2 ?s3 ?s4; (case h0 => k_is); (case h1 => k_is); (case h2 => k_is); (case h3 => k_is); (case h4 => k_is); (case h5 => k_is); (case h6 => k_is); (case h7 => k_is); (case x1 => k_is); (case x2 => decide +kernel); (case s1 => k_is); (case s2 => k_is); (case s3 => k_is); (case s4 => k_is)))
    (case ae4 => k_is)
    (case te4 => k_is)
    (case xe4 => (refine' Toy.FnX.mk ?ol ?oc ?ok; (case ol => k_is); (case oc => k_is); (case ok => k_is)))
    (case no4at => k_is)
    (case E5 => (refine' Toy.ExX.mk ?h0 ?h1 ?h2 ?h3 ?h4 ?h5 ?h6 ?h7 ?x1 ?x2 ?s1 ?s2 ?s3 ?s4; (case h0 => k_is); (case h1 => k_is); (case h2 => k_is); (case h3 => k_is); (case h4 => k_is); (case h5 => k_is); (case h6 => k_is); (case h7 => k_is); (case x1 => k_is); (case x2 => decide +kernel); (case s1 => k_is); (case s2 => k_is); (case s3 => k_is); (case s4 => k_is)))
    (case ae5 => k_is)
    (case te5 => k_is)
    (case xe5 => (refine' Toy.FnX.mk ?ol ?oc ?ok; (case ol => k_is); (case oc => k_is); (case ok => k_is)))
    (case no5part => k_is)
    (case E6 => (refine' Toy.ExX.mk ?h0 ?h1 ?h2 ?h3 ?h4 ?h5 ?h6 ?h7 ?x1 ?x2 ?s1 ?s2 ?s3 ?s4; (case h0 => k_is); (case h1 => k_is); (case h2 => k_is); (case h3 => k_is); (case h4 => k_is); (case h5 => k_is); (case h6 => k_is); (case h7 => k_is); (case x1 => k_is); (case x2 => decide +kernel); (case s1 => k_is); (case s2 => k_is); (case s3 => k_is); (case s4 => k_is)))
    (case ae6 => k_is)
    (case te6 => k_is)
    (case xe6 => (refine' Toy.FnX.mk ?ol ?oc ?ok; (case ol => k_is); (case oc => k_is); (case ok => k_is)))
    (case no6part => k_is)
    (case E7 => (refine' Toy.ExX.mk ?h0 ?h1 ?h2 ?h3 ?h4 ?h5 ?h6 ?h7 ?x1 ?x2 ?s1 ?s2 ?s3 ?s4; (case h0 => k_is); (case h1 => k_is); (case h2 => k_is); (case h3 => k_is); (case h4 => k_is); (case h5 => k_is); (case h6 => k_is); (case h7 => k_is); (case x1 => k_is); (case x2 => decide +kernel); (case s1 => k_is); (case s2 => k_is); (case s3 => k_is); (case s4 => k_is)))
    (case ae7 => k_is)
    (case te7 => k_is)
    (case xe7 => (refine' Toy.FnX.mk ?ol ?oc ?ok; (case ol => k_is); (case oc => k_is); (case ok => k_is)))
    (case no7part => k_is)
    (case E8 => (refine' Toy.ExX.mk ?h0 ?h1 ?h2 ?h3 ?h4 ?h5 ?h6 ?h7 ?x1 ?x2 ?s1 ?s2 ?s3 ?s4; (case h0 => k_is); (case h1 => k_is); (case h2 => k_is); (case h3 => k_is); (case h4 => k_is); (case h5 => k_is); (case h6 => k_is); (case h7 => k_is); (case x1 => k_is); (case x2 => decide +kernel); (case s1 => k_is); (case s2 => k_is); (case s3 => k_is); (case s4 => k_is)))
    (case ae8 => k_is)
    (case te8 => k_is)
    (case xe8 => (refine' Toy.FnX.mk ?ol ?oc ?ok; (case ol => k_is); (case oc => k_is); (case ok => k_is)))
    (case no8at => k_is)
    (case E9 => (refine' Toy.ExX.mk ?h0 ?h1 ?h2 ?h3 ?h4 ?h5 ?h6 ?h7 ?x1 ?x2 ?s1 ?s2 ?s3 ?s4; (case h0 => k_is); (case h1 => k_is); (case h2 => k_is); (case h3 => k_is); (case h4 => k_is); (case h5 => k_is); (case h6 => k_is); (case h7 => k_is); (case x1 => k_is); (case x2 => decide +kernel); (case s1 => k_is); (case s2 => k_is); (case s3 => k_is); (case s4 => k_is)))
    (case ae9 => k_is)
    (case te9 => k_is)
    (case xe9 => (refine' Toy.FnX.mk ?ol ?oc ?ok; (case ol => k_is); (case oc => k_is); (case ok => k_is)))
    (case no9part => k_is)
    (case E10 => (refine' Toy.ExX.mk ?h0 ?h1 ?h2 ?h3 ?h4 ?h5 ?h6 ?h7 ?x1 ?x2 ?s1 ?s2 ?s3 ?s4; (case h0 => k_is); (case h1 => k_is); (case h2 => k_is); (case h3 => k_is); (case h4 => k_is); (case h5 => k_is); (case h6 => k_is); (case h7 => k_is); (case x1 => k_is); (case x2 => decide +kernel); (case s1 => k_is); (case s2 => k_is); (case s3 => k_is); (case s4 => k_is)))
    (case ae10 => k_is)
    (case te10 => k_is)
    (case xe10 => (refine' Toy.FnX.mk ?ol ?oc ?ok; (case ol => k_is); (case oc => k_is); (case ok => k_is)))
    (case no10at => k_is)
    (case E11 => (refine' Toy.ExX.mk ?h0 ?h1 ?h2 ?h3 ?h4 ?h5 ?h6 ?h7 ?x1 ?x2 ?s1 ?s2 ?s3 ?s4; (case h0 => k_is); (case h1 => k_is); (case h2 => k_is); (case h3 => k_is); (case h4 => k_is); (case h5 => k_is); (case h6 => k_is); (case h7 => k_is); (case x1 => k_is); (case x2 => decide +kernel); (case s1 => k_is); (case s2 => k_is); (case s3 => k_is); (case s4 => k_is)))
    (case ae11 => k_is)
    (case te11 => k_is)
    (case xe11 => (refine' Toy.FnX.mk ?ol ?oc ?ok; (case ol => k_is); (case oc => k_is); (case ok => k_is)))
    (case no11part => k_is)
    (case E12 => (refine' Toy.ExX.mk ?h0 ?h1 ?h2 ?h3 ?h4 ?h5 ?h6 ?h7 ?x1 ?x2 ?s1 ?s2 ?s3 ?s4; (case h0 => k_is); (case h1 => k_is); (case h2 => k_is); (case h3 => k_is); (case h4 => k_is); (case h5 => k_is); (case h6 => k_is); (case h7 => k_is); (case x1 => k_is); (case x2 => decide +kernel); (case s1 => k_is); (case s2 => k_is); (case s3 => k_is); (case s4 => k_is)))
    (case ae12 => k_is)
    (case te12 => k_is)
    (case xe12 => (refine' Toy.FnX.mk ?ol ?oc ?ok; (case ol => k_is); (case oc => k_is); (case ok => k_is)))
    (case no12line => k_is)
    (case no12word => k_is)
    (case E13 => (refine' Toy.ExX.mk ?h0 ?h1 ?h2 ?h3 ?h4 ?h5 ?h6 ?h7 ?x1 ?x2 ?s1 ?s2 ?s3 ?s4; (case h0 => k_is); (case h1 => k_is); (case h2 => k_is); (case h3 => k_is); (case h4 => k_is); (case h5 => k_is); (case h6 => k_is); (case h7 => k_is); (case x1 => k_is); (case x2 => decide +kernel); (case s1 => k_is); (case s2 => k_is); (case s3 => k_is); (case s4 => k_is)))
    (case ae13 => k_is)
    (case te13 => k_is)
    (case xe13 => (refine' Toy.FnX.mk ?ol ?oc ?ok; (case ol => k_is); (case oc => k_is); (case ok => k_is)))
    (case no13word => k_is)
    (case E14 => (refine' Toy.ExX.mk ?h0 ?h1 ?h2 ?h3 ?h4 ?h5 ?h6 ?h7 ?x1 ?x2 ?s1 ?s2 ?s3 ?s4; (case h0 => k_is); (case h1 => k_is); (case h2 => k_is); (case h3 => k_is); (case h4 => k_is); (case h5 => k_is); (case h6 => k_is); (case h7 => k_is); (case x1 => k_is); (case x2 => decide +kernel); (case s1 => k_is); (case s2 => k_is); (case s3 => k_is); (case s4 => k_is)))
    (case ae14 => k_is)
    (case te14 => k_is)
    (case xe14 => (refine' Toy.FnX.mk ?ol ?oc ?ok; (case ol => k_is); (case oc => k_is); (case ok => k_is)))
    (case no14place => k_is)
    (case E15 => (refine' Toy.ExX.mk ?h0 ?h1 ?h2 ?h3 ?h4 ?h5 ?h6 ?h7 ?x1 ?x2 ?s1 ?s2 ?s3 ?s4; (case h0 => k_is); (case h1 => k_is); (case h2 => k_is); (case h3 => k_is); (case h4 => k_is); (case h5 => k_is); (case h6 => k_is); (case h7 => k_is); (case x1 => k_is); (case x2 => decide +kernel); (case s1 => k_is); (case s2 => k_is); (case s3 => k_is); (case s4 => k_is)))
    (case ae15 => k_is)
    (case te15 => k_is)
    (case xe15 => (refine' Toy.FnX.mk ?ol ?oc ?ok; (case ol => k_is); (case oc => k_is); (case ok => k_is)))
    (case no15what => k_is)
    (case no15most => k_is)
    (case E16 => (refine' Toy.ExX.mk ?h0 ?h1 ?h2 ?h3 ?h4 ?h5 ?h6 ?h7 ?x1 ?x2 ?s1 ?s2 ?s3 ?s4; (case h0 => k_is); (case h1 => k_is); (case h2 => k_is); (case h3 => k_is); (case h4 => k_is); (case h5 => k_is); (case h6 => k_is); (case h7 => k_is); (case x1 => k_is); (case x2 => decide +kernel); (case s1 => k_is); (case s2 => k_is); (case s3 => k_is); (case s4 => k_is)))
    (case ae16 => k_is)
    (case te16 => k_is)
    (case xe16 => (refine' Toy.FnX.mk ?ol ?oc ?ok; (case ol => k_is); (case oc => k_is); (case ok => k_is)))
    (case no16rule => k_is)
    (case E17 => (refine' Toy.ExX.mk ?h0 ?h1 ?h2 ?h3 ?h4 ?h5 ?h6 ?h7 ?x1 ?x2 ?s1 ?s2 ?s3 ?s4; (case h0 => k_is); (case h1 => k_is); (case h2 => k_is); (case h3 => k_is); (case h4 => k_is); (case h5 => k_is); (case h6 => k_is); (case h7 => k_is); (case x1 => k_is); (case x2 => decide +kernel); (case s1 => k_is); (case s2 => k_is); (case s3 => k_is); (case s4 => k_is)))
    (case ae17 => k_is)
    (case E18 => (refine' Toy.ExX.mk ?h0 ?h1 ?h2 ?h3 ?h4 ?h5 ?h6 ?h7 ?x1 ?x2 ?s1 ?s2 ?s3 ?s4; (case h0 => k_is); (case h1 => k_is); (case h2 => k_is); (case h3 => k_is); (case h4 => k_is); (case h5 => k_is); (case h6 => k_is); (case h7 => k_is); (case x1 => k_is); (case x2 => decide +kernel); (case s1 => k_is); (case s2 => k_is); (case s3 => k_is); (case s4 => k_is)))
    (case ae18 => k_is)
    (case te18 => k_is)
    (case xe18 => (refine' Toy.FnX.mk ?ol ?oc ?ok; (case ol => k_is); (case oc => k_is); (case ok => k_is)))
    (case no18what => k_is)
    (case E19 => (refine' Toy.ExX.mk ?h0 ?h1 ?h2 ?h3 ?h4 ?h5 ?h6 ?h7 ?x1 ?x2 ?s1 ?s2 ?s3 ?s4; (case h0 => k_is); (case h1 => k_is); (case h2 => k_is); (case h3 => k_is); (case h4 => k_is); (case h5 => k_is); (case h6 => k_is); (case h7 => k_is); (case x1 => k_is); (case x2 => decide +kernel); (case s1 => k_is); (case s2 => k_is); (case s3 => k_is); (case s4 => k_is)))
    (case ae19 => k_is)
    (case te19 => k_is)
    (case xe19 => (refine' Toy.FnX.mk ?ol ?oc ?ok; (case ol => k_is); (case oc => k_is); (case ok => k_is)))
    (case no19place => k_is)
    (case no19number => k_is)
    (case E20 => (refine' Toy.ExX.mk ?h0 ?h1 ?h2 ?h3 ?h4 ?h5 ?h6 ?h7 ?x1 ?x2 ?s1 ?s2 ?s3 ?s4; (case h0 => k_is); (case h1 => k_is); (case h2 => k_is); (case h3 => k_is); (case h4 => k_is); (case h5 => k_is); (case h6 => k_is); (case h7 => k_is); (case x1 => k_is); (case x2 => decide +kernel); (case s1 => k_is); (case s2 => k_is); (case s3 => k_is); (case s4 => k_is)))
    (case ae20 => k_is)
    (case te20 => k_is)
    (case xe20 => (refine' Toy.FnX.mk ?ol ?oc ?ok; (case ol => k_is); (case oc => k_is); (case ok => k_is)))
    (case no20place => k_is)
    (case no20value => k_is)
    (case kt => kernel_rfl)
    (case kv => kernel_rfl)

