import PyProof.Rows.All
import Wide.All
import OpenK.AllK
import Wide.FinOn
import HandS.Base
import HandS.Call
import HandS.List
import HandS.Comp
import HandS.Ends
import HandS.Words
import HandS.WordsList
import HandS.OwnEq
import PyProof.InstNe
import HandS.SetKeys
import PyProof.StrWalks
import PyProof.EnumMake
import HandS.Iter
import HandS.Text
import PyProof.ListStr
import PyProof.Draws
import PyProof.WalksEnum
import HandS.ForMost
import HandS.Property
import HandS.IsInst
import HandS.Codes
import HandS.ClsMeth
import HandS.Replace
import HandS.Flow
import HandS.Evl
import HandS.ForExc
import HandS.ExcInit
import HandS.ExcField
import HandS.ExcIs
import HandS.ExcValue
import HandS.MakeKw
import HandS.Exc
import HandS.ExcOwn
import PyProof.ReprRoads
import HandS.MakeKwOnly
import HandS.TupLe
import HandS.RaiseMore
import HandS.Style
import PyProof.NeKinds
import PyProof.CallFns
import KE.KRevSl
import PyProof.SliceStr2
import PyProof.StrLawsRepr
import HandS.WordsExc
import PySem.Challenge.RW_linestrikes_k01_values_made
set_option Elab.async false
set_option linter.all false
set_option maxRecDepth 100000
set_option maxHeartbeats 4000000
namespace PySem.W
open PySem PySem.Calls PyProof.Rows Builtin
section
variable {prog : Program} {w : World} {A : Around} {E : Value → Shared → Prop} {s : Shared} {K : Frag} {x C L f : Addr} {h₀ : Heap} {m : Str → Option Value} {ox : Obj} {od : Option Obj}
theorem slotBound_K {M : Model} {name : Str} {id : String} {args : List Value} {Q : Option Value → Shared → Prop} (X : K.In s.heap) (I : InstAt s.heap x ox C od) (hs : findIn K (.ref C) name = some (some (.builtin id)))
    (hb : ∀ v, bindSpecial (.builtin id) v = pure (.builtin id, [v]))
    (h : wpAny M A (call (.builtin id) (.ref x :: args)) (fun v => Q (some v)) E s) : wpAny M A (callSpecialIfBound? (.ref x) name args) Q E s := by
  simp only [callSpecialIfBound?, bindSpecialIfBound?]
  refine wpAny_holding (wpAny_bind (wpAny_bind (wpAny_bind (I.type.here ((looks_findIn X hs).here ?_)))))
  simp only [hb]
  refine wpAny_bind (wpAny_askSetting (wpAny_ite ?_))
  have fin : wpAny M A (call (.builtin id) ([.ref x] ++ args) >>= fun v => pure (some v)) Q E s := wpAny_bind (wpAny_mono h (fun v s' h' => wpAny_pure h') fun _ _ h' => h')
  split
  · exact wpAny_bind (wpAny_pure (wpAny_pure fin))
  · exact wpAny_tryCatch (wpAny_bind (wpAny_pure (wpAny_pure fin)))
theorem objNe_K {b : Value} {Q : Fin → Shared → Prop} (X : K.In s.heap) (I : InstAt s.heap x ox C od) (hu : A.units < cLine) (hs : findIn K (.ref C) "__eq__" = some (some (.ref f))) (hf : isFn K (.ref f) = true)
    (hcall : wpAny (model prog w) A (call (.ref f) [.ref x, b]) (fun v s' => ∃ k, v = .bool k ∧ Q (.done (.ret (.bool (!k)))) s') E s) :
    wpAny (model prog w) A (Builtin.«object.__ne__» ⟨[.ref x, b], []⟩) Q E s := by
  unfold Builtin.«object.__ne__»
  have hc : wpAny (model prog w) A (callSpecialIfBound? (.ref x) (Str.ofString "__eq__") [b]) (fun r s' => ∃ k, r = some (.bool k) ∧ Q (.done (.ret (.bool (!k)))) s') E s :=
    ifBound_K X I hs hf (wpAny_mono hcall (fun v s' hv => by obtain ⟨k, rfl, q⟩ := hv; exact ⟨k, rfl, q⟩) fun _ _ e => e)
  repeat (first
    | with_reducible refine wpAny_cRoomFor hu ?_
    | (refine wpAny_bind (m := callSpecialIfBound? (.ref x) (Str.ofString "__eq__") [b]) (wpAny_mono hc (fun r s' hr => by
          obtain ⟨k, rfl, hq⟩ := hr
          repeat (first | exact hq | exact wpAny_pure hq | exact wpAny_truthy_bool hq | (refine wpAny_bind (m := truthy (.bool _)) (wpAny_truthy_bool ?_)) | wp_step)) fun _ _ e => e))
    | wp_step)
theorem ne_K {b : Value} {tb : Value} {Q : Value → Shared → Prop} (hu : A.units + 1 < cLine) (F : Fr h₀ L s.heap m) (X₀ : K.In h₀) (I : InstAt s.heap x ox C od) (hb : Looks (model prog w) s.heap (typeOf b) tb) (hn : notFirst K C tb = true)
    (hne : findIn K (.ref C) "__ne__" = some (some (.builtin "object.__ne__"))) (ho : subIn K (.ref C) (.type "object") = some true)
    (hs : findIn K (.ref C) "__eq__" = some (some (.ref f))) (hf : isFn K (.ref f) = true)
    (h : wpAny (model prog w) A.in1 (call (.ref f) [.ref x, b]) (fun v s' => ∃ k, v = .bool k ∧ Q (.bool (!k)) s') E s) : wpAny (model prog w) A (richCompare .NotEq (.ref x) b) Q E s := by
  have X := X₀.keeps F.keep
  have one : wpAny (model prog w) A (tryCompare (.ref x) "__ne__" b) (fun r s' => ∃ v, r = some v ∧ Q v s') E s := by
    unfold tryCompare
    refine wpAny_bind (slotBound_K X I hne PySem.F.cmp_object.ne.bind (wpAny_call (codeAny_call_builtin PySem.F.cmp_object.ne.plain PySem.F.cmpEntry_ne ?_)))
    simp only [checkBuiltinCall, PySem.F.cmpKind_ne, PySem.F.cmpSplit_ne]
    refine wpAny_bind ?_
    unfold isInstance
    refine wpAny_bind (I.type.here ((looks_subIn X ho).here ?_))
    have ha := PySem.F.cmpArgs_ne (.ref x) b
    rw [if_neg (by decide)]
    have fin : wpAny (model prog w) A.in1 (Builtin.«object.__ne__» ⟨[.ref x, b], []⟩) (fun fin s' => match fin with
          | Fin.done f => (match (Except.ok f : Except Value Flow) with
            | Except.ok (Flow.ret v) => wpAny (model prog w) A (match (some v : Option Value) with | some Value.notImplemented => pure none | none => pure none | some v => pure (some v)) (fun r s' => ∃ v, r = some v ∧ Q v s') E s'
            | Except.ok _ => False
            | Except.error e => E e s')
          | Fin.again c' => c'.quiet = true ∧ codeAny (model prog w) A c' (fun r s' => match r with
                  | Except.ok (Flow.ret v) => wpAny (model prog w) A (match (some v : Option Value) with | some Value.notImplemented => pure none | none => pure none | some v => pure (some v)) (fun r s' => ∃ v, r = some v ∧ Q v s') E s'
                  | Except.ok _ => False
                  | Except.error e => E e s') s') (fun e s' => E e s') s := by
      refine objNe_K X I hu hs hf (wpAny_mono h (fun v s' hv => ?_) fun _ _ e => e)
      obtain ⟨k, rfl, q⟩ := hv
      exact ⟨k, rfl, wpAny_pure ⟨_, rfl, q⟩⟩
    cases hsig : Manifest.signature? "object.__ne__" with
    | none => exact wpAny_pure fin
    | some sig =>
      simp only [argsOk, hsig] at ha
      have h2 : Bind.checkArgs "object.__ne__" sig ⟨[.ref x, b], []⟩ = pure () := ha
      show wpAny _ _ (Bind.checkArgs "object.__ne__" sig ⟨[.ref x, b], []⟩) _ _ _
      rw [h2]; exact wpAny_pure fin
  unfold richCompare
  simp only [oneThing_ref]
  refine wpAny_holding (wpAny_bind (wpAny_cRoomFor (Nat.lt_of_succ_lt hu) ?_))
  refine wpAny_bind (I.type.here (wpAny_bind (hb.here ?_)))
  split
  · rename_i q
    have e : subIn K tb (.ref C) = some false := by
      rcases Bool.or_eq_true_iff.mp hn with e | e
      · rw [beq_iff_eq.mp e] at q; simp at q
      · exact beq_iff_eq.mp e
    refine wpAny_bind ((looks_subIn X e).here ?_)
    simp only [Bool.false_eq_true, if_false]
    refine wpAny_bind (wpAny_mono one (fun r s' z => ?_) fun _ _ e => e)
    obtain ⟨v, rfl, hq⟩ := z
    exact wpAny_pure hq
  · refine wpAny_bind (wpAny_pure ?_)
    simp only [Bool.false_eq_true, if_false]
    refine wpAny_bind (wpAny_mono one (fun r s' z => ?_) fun _ _ e => e)
    obtain ⟨v, rfl, hq⟩ := z
    exact wpAny_pure hq
end
end PySem.W

namespace LB
open PySem L2 PyProof.Rows
section
variable {X : Cx} {CX : CXT} {k : Nat} {f C : Addr} {fd : FuncData} {ps : List Str} {sp : Sp} {E : XK}
theorem relV_ne {v : V} {u : Value} (r : RelV v u) : u ≠ .notImplemented := by
  intro e
  subst e
  cases v with
  | non => cases r
  | bl _ => cases r
  | int _ => obtain ⟨t, e⟩ := r; cases e
  | str _ => obtain ⟨t, e⟩ := r; cases e
  | byt _ => obtain ⟨t, e⟩ := r; cases e
  | flt _ => obtain ⟨t, e⟩ := r; cases e
  | ref _ => cases r
  | ty _ => cases r
theorem cmpBack_of {pins : List (Addr × Obj)} {σ : L2.St} {Q : VK} {u : Value} {s : Shared} (h : EP X pins σ Q u s) : PySem.W.CmpBack (EP X pins σ Q) u s := by
  have hn : u ≠ .notImplemented := by
    obtain ⟨v, H', I, r, q⟩ := h
    exact relV_ne r
  cases u <;> first | exact absurd rfl hn | exact h
/-- a def of the class under a special name -/
structure Own (K : PySem.W.Frag) (C f : Addr) (nm : Str) : Prop where
  at_ : PySem.W.findIn K (.ref C) nm = some (some (.ref f))
  fn : PySem.W.isFn K (.ref f) = true
/-- the callee runs, somewhere below -/
theorem run_in1 {pins : List (Addr × Obj)} {σ : L2.St} {H : Hp} {s : Shared} {Q : VK} {us : List Value} {vs : List V} (F : FnOk X.prog X.w X.K X.mg X.base CX k f fd ps sp) (hr : Room (k + 1) X.A) (hb : Binds X.K fd ps []) (hx : Passes CX X E)
    (I : Inv X pins σ H s) (r : Vals vs us) (h : sp vs H Q E) : wpAny (model X.prog X.w) X.A.in1 (call (.ref f) us) (EP X pins σ Q) X.xe s := by
  have hl : us.length = ps.length := by rw [← r.length]; exact F.len _ _ _ _ h
  have hb' := hb s us I.kIn (by rw [List.append_nil]; exact hl)
  rw [List.append_nil] at hb'
  refine wpAny_call (codeAny_mono (F.run X.A.in1 X.stack s H ⟨us, []⟩ us vs Q E hr.in1 I.env0.in1 hb' r h) fun r s' hq => ?_)
  cases r with
  | error e => exact hx pins σ H s e s' I hq
  | ok fl =>
    cases fl with
    | ret u => exact I.after hq
    | next => exact False.elim hq
    | brk => exact False.elim hq
    | cont => exact False.elim hq
theorem inst_of {pins : List (Addr × Obj)} {σ : L2.St} {H : Hp} {s : Shared} {a dx : Addr} {fs : List (Str × V)} (I : Inv X pins σ H s) (ha : H a = some (.ins C dx fs)) :
    ∃ od, PySem.W.InstAt s.heap a (PySem.W.instObj C dx) C (some od) := by
  obtain ⟨mA, J, _⟩ := ins_get I.hok ha
  obtain ⟨od, J, _⟩ := J.look
  exact ⟨od, J⟩
/-- what an own operator of two instances asks -/
def rOwn2 (C D : Addr) (sp : Sp) (E : XK) : R2 := fun x y H Q => ∃ a b dx dy fs gs, x = .ref a ∧ y = .ref b ∧ H a = some (.ins C dx fs) ∧ H b = some (.ins D dy gs) ∧ sp [x, y] H Q E
theorem op_bin {op : Operator} (F : FnOk X.prog X.w X.K X.mg X.base CX k f fd ps sp) (hr : Room k X.A) (hb : Binds X.K fd ps []) (hx : Passes CX X E) (hc : PySem.W.selfFirst X.K C = true)
    (ho : Own X.K C f (PySem.dunder op.info.2)) : OpR X (binaryOp op) (rOwn2 C C sp E) := by
  intro pins s σ H x y v u Q I rx ry hq
  obtain ⟨a, b, dx, dy, fs, gs, rfl, rfl, ha, hb', h⟩ := hq
  cases rx
  cases ry
  obtain ⟨od, J⟩ := inst_of I ha
  obtain ⟨od', J'⟩ := inst_of I hb'
  obtain ⟨m, hF⟩ := I.fr
  refine PySem.W.binop_K hF I.ok.mod.kin J J'.type hc ho.at_ ho.fn (thn ?_ fun _ _ z => cmpBack_of z)
  exact run_fn (us := [.ref a, .ref b]) (vs := [.ref a, .ref b]) (dvs := []) (ds := []) F hr hb .nil hx I (.cons rfl (.cons rfl .nil)) h
theorem op_eqOwn (F : FnOk X.prog X.w X.K X.mg X.base CX k f fd ps sp) (hr : Room k X.A) (hb : Binds X.K fd ps []) (hx : Passes CX X E) (ho : Own X.K C f "__eq__") : OpR X (compareOp .Eq) (rOwn2 C C sp E) := by
  intro pins s σ H x y v u Q I rx ry hq
  obtain ⟨a, b, dx, dy, fs, gs, rfl, rfl, ha, hb', h⟩ := hq
  cases rx
  cases ry
  obtain ⟨od, J⟩ := inst_of I ha
  obtain ⟨od', J'⟩ := inst_of I hb'
  obtain ⟨m, hF⟩ := I.fr
  show wpAny (model X.prog X.w) X.A (richCompare .Eq (.ref a) (.ref b)) (EP X pins σ Q) X.xe s
  refine PySem.W.cmp_K (op := .Eq) (tb := .ref C) hr.units0 hF I.ok.mod.kin J J'.type (by simp [PySem.W.notFirst]) ho.at_ ho.fn (thn ?_ fun _ _ z => cmpBack_of z)
  exact run_fn (us := [.ref a, .ref b]) (vs := [.ref a, .ref b]) (dvs := []) (ds := []) F hr hb .nil hx I (.cons rfl (.cons rfl .nil)) h
/-- what a class must have for != by its own == -/
structure NeOwn (K : PySem.W.Frag) (C : Addr) : Prop where
  ne : PySem.W.findIn K (.ref C) "__ne__" = some (some (.builtin "object.__ne__"))
  sub : PySem.W.subIn K (.ref C) (.type "object") = some true
theorem op_neOwn (F : FnOk X.prog X.w X.K X.mg X.base CX k f fd ps sp) (hr : Room (k + 1) X.A) (hb : Binds X.K fd ps []) (hx : Passes CX X E) (ho : Own X.K C f "__eq__") (hn : NeOwn X.K C) :
    OpR X (compareOp .NotEq) (fun x y H Q => ∃ a b dx dy fs gs, x = .ref a ∧ y = .ref b ∧ H a = some (.ins C dx fs) ∧ H b = some (.ins C dy gs) ∧ sp [x, y] H (fun z H' => ∃ c, z = .bl c ∧ Q (.bl (!c)) H') E) := by
  intro pins s σ H x y v u Q I rx ry hq
  obtain ⟨a, b, dx, dy, fs, gs, rfl, rfl, ha, hb', h⟩ := hq
  cases rx
  cases ry
  obtain ⟨od, J⟩ := inst_of I ha
  obtain ⟨od', J'⟩ := inst_of I hb'
  obtain ⟨m, hF⟩ := I.fr
  show wpAny (model X.prog X.w) X.A (richCompare .NotEq (.ref a) (.ref b)) (EP X pins σ Q) X.xe s
  refine PySem.W.ne_K (tb := .ref C) (Nat.lt_of_le_of_lt (Nat.add_le_add_left (by decide : 1 ≤ 64) _) hr.units) hF I.ok.mod.kin J J'.type (by simp [PySem.W.notFirst]) hn.ne hn.sub ho.at_ ho.fn
    (thn (run_in1 (us := [.ref a, .ref b]) (vs := [.ref a, .ref b]) F hr hb hx I (.cons rfl (.cons rfl .nil)) h) fun u s' z => ?_)
  obtain ⟨w, H', I', r, c, rfl, q⟩ := z
  cases r
  exact ⟨c, rfl, .bl (!c), H', I', rfl, q⟩
theorem un_own {op : UnaryOp} (F : FnOk X.prog X.w X.K X.mg X.base CX k f fd ps sp) (hr : Room k X.A) (hb : Binds X.K fd ps []) (hx : Passes CX X E) (ho : Own X.K C f "__invert__") :
    UnR X (unaryOp .Invert) (fun x H Q => ∃ a dx fs, x = .ref a ∧ H a = some (.ins C dx fs) ∧ sp [x] H Q E) := by
  intro pins s σ H x v Q I rx hq
  obtain ⟨a, dx, fs, rfl, ha, h⟩ := hq
  cases rx
  obtain ⟨od, J⟩ := inst_of I ha
  obtain ⟨m, hF⟩ := I.fr
  refine PySem.W.ksp_inv hF I.ok.mod.kin J ho.at_ ho.fn ?_
  exact run_fn (us := [.ref a]) (vs := [.ref a]) (dvs := []) (ds := []) F hr hb .nil hx I (.cons rfl .nil) h
theorem un_negOwn {op : UnaryOp} (F : FnOk X.prog X.w X.K X.mg X.base CX k f fd ps sp) (hr : Room k X.A) (hb : Binds X.K fd ps []) (hx : Passes CX X E) (ho : Own X.K C f "__neg__") :
    UnR X (unaryOp .USub) (fun x H Q => ∃ a dx fs, x = .ref a ∧ H a = some (.ins C dx fs) ∧ sp [x] H Q E) := by
  intro pins s σ H x v Q I rx hq
  obtain ⟨a, dx, fs, rfl, ha, h⟩ := hq
  cases rx
  obtain ⟨od, J⟩ := inst_of I ha
  obtain ⟨m, hF⟩ := I.fr
  refine PySem.W.ksp_neg hF I.ok.mod.kin J ho.at_ ho.fn ?_
  exact run_fn (us := [.ref a]) (vs := [.ref a]) (dvs := []) (ds := []) F hr hb .nil hx I (.cons rfl .nil) h
/-- e in o, o an instance with its own __contains__ -/
def rIn (C : Addr) (sp : Sp) (E : XK) (g : Bool → Bool) : R2 := fun x y H Q => ∃ b dy gs, y = .ref b ∧ H b = some (.ins C dy gs) ∧ sp [y, x] H (fun z H' => ∃ c, z = .bl c ∧ Q (.bl (g c)) H') E
theorem op_inOwn (F : FnOk X.prog X.w X.K X.mg X.base CX k f fd ps sp) (hr : Room k X.A) (hb : Binds X.K fd ps []) (hx : Passes CX X E) (ho : Own X.K C f "__contains__") : OpR X (compareOp .In) (rIn C sp E id) := by
  intro pins s σ H x y v u Q I rx ry hq
  obtain ⟨b, dy, gs, rfl, hb', h⟩ := hq
  cases ry
  obtain ⟨od', J'⟩ := inst_of I hb'
  obtain ⟨m, hF⟩ := I.fr
  refine PySem.W.in_K hF I.ok.mod.kin J' ho.at_ ho.fn (thn (run_fn (us := [.ref b, v]) (vs := [.ref b, x]) (dvs := []) (ds := []) F hr hb .nil hx I (.cons rfl (.cons rx .nil)) h) fun u s' z => ?_)
  obtain ⟨w, H', I', r, c, rfl, q⟩ := z
  cases r
  exact wpAny_truthy_bool ⟨.bl c, H', I', rfl, q⟩
theorem op_notInOwn (F : FnOk X.prog X.w X.K X.mg X.base CX k f fd ps sp) (hr : Room k X.A) (hb : Binds X.K fd ps []) (hx : Passes CX X E) (ho : Own X.K C f "__contains__") : OpR X (compareOp .NotIn) (rIn C sp E not) := by
  intro pins s σ H x y v u Q I rx ry hq
  obtain ⟨b, dy, gs, rfl, hb', h⟩ := hq
  cases ry
  obtain ⟨od', J'⟩ := inst_of I hb'
  obtain ⟨m, hF⟩ := I.fr
  refine PySem.W.notIn_K hF I.ok.mod.kin J' ho.at_ ho.fn (thn (run_fn (us := [.ref b, v]) (vs := [.ref b, x]) (dvs := []) (ds := []) F hr hb .nil hx I (.cons rfl (.cons rx .nil)) h) fun u s' z => ?_)
  obtain ⟨w, H', I', r, c, rfl, q⟩ := z
  cases r
  exact wpAny_truthy_bool ⟨.bl (!c), H', I', rfl, q⟩
theorem call_lenOwn (F : FnOk X.prog X.w X.K X.mg X.base CX k f fd ps sp) (hr : Room (k + 1) X.A) (hb : Binds X.K fd ps []) (hx : Passes CX X E) (ho : Own X.K C f "__len__") :
    CallR X (.builtin "len") (fun xs H Q => ∃ a dx fs, xs = [.ref a] ∧ H a = some (.ins C dx fs) ∧ sp xs H (fun z H' => ∃ n : Int, z = .int n ∧ 0 ≤ n ∧ n < 2 ^ 63 ∧ Q (.int n) H') E) := by
  intro pins s σ H xs us Q I rx hq
  obtain ⟨a, dx, fs, rfl, ha, h⟩ := hq
  obtain ⟨u, rfl, ru⟩ := vals1 rx
  cases ru
  obtain ⟨od, J⟩ := inst_of I ha
  obtain ⟨m, hF⟩ := I.fr
  refine PySem.W.len_K hF I.ok.mod.kin J ho.at_ ho.fn (thn (run_in1 (us := [.ref a]) (vs := [.ref a]) F hr hb hx I (.cons rfl .nil) h) fun u s' z => ?_)
  obtain ⟨w, H', I', r, n, rfl, h0, h1, q⟩ := z
  obtain ⟨t, rfl⟩ := r
  exact ⟨⟨h0, h1⟩, .int n, H', I'.tok _, ⟨_, rfl⟩, q⟩
/-- the truth of an instance with its own __bool__ -/
def rTruOwn (C : Addr) (sp : Sp) (E : XK) : V → Hp → (Bool → Hp → Prop) → Prop := fun x H Q => ∃ a dx fs, x = .ref a ∧ H a = some (.ins C dx fs) ∧ sp [x] H (fun z H' => ∃ c, z = .bl c ∧ Q c H') E
theorem tru_own (F : FnOk X.prog X.w X.K X.mg X.base CX k f fd ps sp) (hr : Room k X.A) (hb : Binds X.K fd ps []) (hx : Passes CX X E) (ho : Own X.K C f "__bool__") : TruR X (rTruOwn C sp E) := by
  intro pins s σ H x v Q I rx hq
  obtain ⟨a, dx, fs, rfl, ha, h⟩ := hq
  cases rx
  obtain ⟨od, J⟩ := inst_of I ha
  obtain ⟨m, hF⟩ := I.fr
  refine PySem.W.truthy_K hF I.ok.mod.kin J ho.at_ ho.fn (thn (run_fn (us := [.ref a]) (vs := [.ref a]) (dvs := []) (ds := []) F hr hb .nil hx I (.cons rfl .nil) h) fun u s' z => ?_)
  obtain ⟨w, H', I', r, c, rfl, q⟩ := z
  cases r
  exact ⟨H', I', q⟩
/-- a test by a value's truth, whatever rule says it -/
theorem pt_tru {a : Expr} {ta : TE} {r : V → Hp → (Bool → Hp → Prop) → Prop} (hT : TruR X r) (ha : PE X a ta) (he : ∀ whole, isTrue a X.env whole = (do let v ← whole; standAt a.pos; holding [v] (truthy v)) := by intro _; rfl) :
    PT X a (fun σ H Q => ta σ H fun x H1 => r x H1 Q) := by
  refine ⟨fun pins s σ H Q I hw => ?_⟩
  refine isTrue_plain (thn (ha.run pins s σ H _ I hw) fun v s1 ⟨x, H1, I1, r1, q1⟩ => ?_) (he _)
  exact hT pins s1 σ H1 x v Q I1 r1 q1
/-- not e as a value, by e's truth -/
theorem pe_notTru {a : Expr} {ta : TE} {pos : Pos} {r : V → Hp → (Bool → Hp → Prop) → Prop} (hT : TruR X r) (ha : PE X a ta) : PE X (.UnaryOp .Not a pos) (fun σ H Q => ta σ H fun x H1 => r x H1 fun c H2 => Q (.bl (!c)) H2) := by
  refine ⟨fun pins s σ H Q I h => ?_⟩
  refine UnaryOp_ (thn (ha.run pins s σ H _ I h) fun v s1 ⟨x, H1, I1, r1, q1⟩ => ?_)
  exact not_of (thn (hT pins s1 σ H1 x v _ I1 r1 q1) fun c s2 ⟨H2, I2, q2⟩ => ⟨.bl (!c), H2, I2, rfl, q2⟩)
end
end LB

namespace LB
open PySem PyProof.Rows
/-! ### what of a list is met first -/
section
variable {K : Type} [DecidableEq K]
def ddStep (acc : List K) (x : K) : List K := if x ∈ acc then acc else acc ++ [x]
def dd (l : List K) : List K := l.foldl ddStep []
theorem dd_snoc (l : List K) (x : K) : dd (l ++ [x]) = ddStep (dd l) x := by
  unfold dd
  rw [List.foldl_append]
  rfl
theorem dd_mem (l : List K) (k : K) : k ∈ dd l ↔ k ∈ l := by
  suffices h : ∀ (r acc : List K), k ∈ r.foldl ddStep acc ↔ k ∈ acc ∨ k ∈ r by
    have := h l []
    simpa [dd] using this
  intro r
  induction r with
  | nil => intro acc; simp
  | cons a t ih =>
    intro acc
    rw [List.foldl_cons, ih]
    unfold ddStep
    split
    · rename_i h
      constructor
      · rintro (h1 | h1)
        · exact .inl h1
        · exact .inr (List.mem_cons_of_mem _ h1)
      · rintro (h1 | h1)
        · exact .inl h1
        · rcases List.mem_cons.mp h1 with e | h2
          · subst e; exact .inl h
          · exact .inr h2
    · simp only [List.mem_append, List.mem_cons, List.not_mem_nil, or_false, or_assoc]
theorem dd_len_le (l : List K) : (dd l).length ≤ l.length := by
  suffices h : ∀ (r acc : List K), (r.foldl ddStep acc).length ≤ acc.length + r.length by
    simpa [dd] using h l []
  intro r
  induction r with
  | nil => intro acc; simp
  | cons a t ih =>
    intro acc
    rw [List.foldl_cons]
    refine Nat.le_trans (ih _) ?_
    unfold ddStep
    split
    · simp only [List.length_cons]; omega
    · simp only [List.length_append, List.length_cons, List.length_nil]; omega
theorem dd_nodup {l : List K} (h : l.Nodup) : dd l = l := by
  suffices hh : ∀ (r acc : List K), (acc ++ r).Nodup → r.foldl ddStep acc = acc ++ r by
    simpa [dd] using hh l [] (by simpa using h)
  intro r
  induction r with
  | nil => intro acc _; simp
  | cons a t ih =>
    intro acc hn
    rw [List.foldl_cons]
    have ha : a ∉ acc := fun hm => by
      have := List.nodup_append.mp hn
      exact this.2.2 a hm a List.mem_cons_self rfl
    have e : ddStep acc a = acc ++ [a] := if_neg ha
    rw [e, ih _ (by simpa using hn)]
    simp
theorem dd_len_lt {l : List K} (h : ¬ l.Nodup) : (dd l).length < l.length := by
  suffices hh : ∀ (r acc : List K), acc.Nodup → ¬ (acc ++ r).Nodup → (r.foldl ddStep acc).length < acc.length + r.length by
    have := hh l [] (by simp) (by simpa using h)
    simpa [dd] using this
  intro r
  induction r with
  | nil => intro acc h1 h2; simp at h2; exact absurd h1 h2
  | cons a t ih =>
    intro acc h1 h2
    rw [List.foldl_cons]
    by_cases ha : a ∈ acc
    · have e : ddStep acc a = acc := if_pos ha
      rw [e]
      have := (show ∀ (r acc : List K), (r.foldl ddStep acc).length ≤ acc.length + r.length from by
        intro r
        induction r with
        | nil => intro acc; simp
        | cons a t ih =>
          intro acc
          rw [List.foldl_cons]
          refine Nat.le_trans (ih _) ?_
          unfold ddStep
          split
          · simp only [List.length_cons]; omega
          · simp only [List.length_append, List.length_cons, List.length_nil]; omega) t acc
      simp only [List.length_cons]
      omega
    · have e : ddStep acc a = acc ++ [a] := if_neg ha
      rw [e]
      have := ih (acc ++ [a]) (by
        refine List.nodup_append.mpr ⟨h1, by simp, ?_⟩
        intro x hx y hy q
        simp at hy
        subst hy; subst q
        exact ha hx) (by simpa using h2)
      simp only [List.length_append, List.length_cons, List.length_nil] at this ⊢
      omega
theorem dd_any [BEq K] [LawfulBEq K] (l : List K) (k v : K) : (ddStep l v).any (· == k) = (l.any (· == k) || decide (k = v)) := by
  unfold ddStep
  split
  · rename_i h
    by_cases e : k = v
    · subst e
      simp only [decide_true, Bool.or_true]
      exact List.any_eq_true.mpr ⟨k, h, by simp⟩
    · simp [e]
  · rw [List.any_append]
    congr 1
    by_cases e : k = v
    · subst e; simp
    · have e' : (v == k) = false := by simpa using fun q => e q.symm
      simp [e, e']
theorem dd_len [BEq K] [LawfulBEq K] (l : List K) (v : K) : (ddStep l v).length = if l.any (· == v) = true then l.length else l.length + 1 := by
  unfold ddStep
  by_cases h : v ∈ l
  · rw [if_pos h, if_pos (List.any_eq_true.mpr ⟨v, h, by simp⟩)]
  · rw [if_neg h, if_neg (fun q => by obtain ⟨x, hx, e⟩ := List.any_eq_true.mp q; exact h (by rw [← eq_of_beq e]; exact hx))]
    simp
end
section
variable {prog : Program} {w : World} {A : Around} {R : Result → Shared → Prop} {I : Addr} {fp wr : List Addr} {G : Array GenState → Array GenState → Prop} {n : Nat} {P : Nat → Value → Prop} {St : Nat → Shared → Prop}
theorem set_loop (W : WalksS prog w A.in1 I fp wr G n P St) (S : Addr) (hSf : S ∉ fp)
    (vals : List Str) (hval : ∀ i v, P i v → ∃ k t, vals[i]? = some k ∧ v = .str k t) (hvn : vals.length = n) (hb : n + 1 < scanBound) :
    ∀ (k i : Nat) (s : Shared), n - i = k → i ≤ n → St i s →
      s.heap.SetOf (strKind prog w) S (fun k' => (dd (vals.take i)).any (· == k')) (dd (vals.take i)).length →
      (∀ s', Moved (S :: wr) G s s' → s'.heap.SetOf (strKind prog w) S (fun k' => (dd vals).any (· == k')) (dd vals).length → R (.ok (.ret .none)) s') →
      codeAny (model prog w) A (.builtin "set.update.loop" ⟨[.ref S, .ref I], []⟩) R s := by
  have hSw : S ∉ wr := fun h => hSf (W.sub _ h)
  have hsub : ∀ b ∈ wr, b ∈ S :: wr := fun b hb => List.mem_cons_of_mem _ hb
  intro k
  induction k with
  | zero =>
    intro i s hk hi hst hS hR
    have hin : i = n := by omega
    subst hin
    refine codeAny_builtin PyProof.Rows.F.entry_set_update_loop ?_
    rw [Around.under_plainId PyProof.Rows.F.plain_set_update_loop _]
    show wpAny _ A.in1 (pyNext (.ref I) >>= _) _ _ s
    refine wpAny_bind (W.done s _ _ hst fun s' hm => ?_)
    show wpAny _ A.in1 (ret Value.none) _ _ s'
    exact wpAny_pure (hR s' (hm.mono hsub) (by
      rw [← hvn, List.take_length] at hS
      obtain ⟨o, es, ep, t, ho, rest⟩ := hS
      exact ⟨o, es, ep, t, hm.heap S _ hSw ho, rest⟩))
  | succ k ih =>
    intro i s hk hi hst hS hR
    have hlt : i < n := by omega
    refine codeAny_builtin PyProof.Rows.F.entry_set_update_loop ?_
    rw [Around.under_plainId PyProof.Rows.F.plain_set_update_loop _]
    show wpAny _ A.in1 (pyNext (.ref I) >>= _) _ _ s
    refine wpAny_bind (W.item i s _ _ hlt hst fun v s' hP hst' hm => ?_)
    obtain ⟨y, t, hy, rfl⟩ := hval i v hP
    have hS' : s'.heap.SetOf (strKind prog w) S (fun k' => (dd (vals.take i)).any (· == k')) (dd (vals.take i)).length := by
      obtain ⟨o, es, ep, tb, ho, rest⟩ := hS
      exact ⟨o, es, ep, tb, hm.heap S _ hSw ho, rest⟩
    show wpAny _ A.in1 (holding [Value.str y t] (setAdd S (.str y t)) >>= _) _ _ s'
    refine wpAny_bind (wpAny_holding ?_)
    unfold setAdd
    refine wpAny_holding ?_
    refine wpAny_bind ((strKind prog w).pyHash (k := y) (by simp [PySem.strKind, Value.isStrOf]) ?_)
    have hroom : (dd (vals.take i)).length + 1 < scanBound := by have := dd_len_le (vals.take i); have := List.length_take_le i vals; omega
    refine wpAny_setAddHashed_of (knd := strKind prog w) (s := { s' with toks := s'.toks + 1 }) (by simp [PySem.strKind, Value.isStrOf]) rfl hS' hroom fun h' hsb hS2 => ?_
    have hstep : vals.take (i + 1) = vals.take i ++ [y] := by
      have hi' := List.getElem?_eq_some_iff.mp hy
      obtain ⟨h1, e1⟩ := hi'
      rw [List.take_succ_eq_append_getElem h1, e1]
    have hSi : h'.SetOf (strKind prog w) S (fun k' => (dd (vals.take (i + 1))).any (· == k')) (dd (vals.take (i + 1))).length :=
      PyProof.Rows.SetOf_congr hS2 (fun k' => by rw [hstep, dd_snoc, dd_any]) (by rw [hstep, dd_snoc, dd_len])
    refine wpAny_pure ⟨plainId_quiet PyProof.Rows.F.plain_set_update_loop _, ih (i + 1) _ (by omega) hlt (W.frame _ s' _ _ hst' (Nat.le_succ _) fun b hb o e => ?_) hSi fun s'' hm'' hS'' => ?_⟩
    · rw [hsb.2 b (fun h : b = S => hSf (by rw [← h]; exact hb))]; exact e
    · refine hR s'' (Moved.trans W.gtrans ((hm.mono hsub).then_heap (Nat.le_succ _) fun b o hb e => ?_) hm'') hS''
      rw [hsb.2 b (fun h : b = S => hb (by rw [h]; exact List.mem_cons_self))]; exact e
end

theorem str_not_set : isSubtype (.type "str") (.type "set") = pure false := by rw [isSubtype_type]; kernel_rfl
theorem str_not_frozenset : isSubtype (.type "str") (.type "frozenset") = pure false := by rw [isSubtype_type]; kernel_rfl
def signs (x : Str) : List Str := x.cps.toList.map fun c => (⟨#[c]⟩ : Str)
theorem signs_len (x : Str) : (signs x).length = x.cps.size := by simp [signs]
theorem signs_at {x : Str} {i : Nat} {c : Nat} (h : x.cps[i]? = some c) : (signs x)[i]? = some ⟨#[c]⟩ := by
  unfold signs
  rw [List.getElem?_map, Array.getElem?_toList, h]
  rfl
section
variable {prog : Program} {w : World} {A : Around} {E : Value → Shared → Prop} {s : Shared}
/-- set(x), x any thing that is walked as texts -/
theorem call_set_gen {v : Value} {vals : List Str} {Q : Value → Shared → Prop} (hh : A.handled = none) (hb : vals.length + 1 < scanBound)
    (hinit : ∀ (led : Bool) (R : Result → Shared → Prop), 
      (∀ s', (∀ b o, b < s.heap.objs.size → s.heap.get? b = some o → s'.heap.get? b = some o) → s'.gens = s.gens → s'.drawn = s.drawn → s'.os = s.os →
        s'.heap.SetOf (PySem.strKind prog w) s.heap.objs.size (fun k' => (dd vals).any (· == k')) (dd vals).length → R (.ok (.ret .none)) s') →
      (∀ e s', R (.error e) s' = E e s') →
      wpAny (model prog w) A.in1.in1 (Builtin.«set.__init__» ⟨[.ref s.heap.objs.size, v], []⟩) (fun fin s' => match fin with
        | .done f => R (.ok f) s' | .again c' => c'.quiet = true ∧ codeAny (model prog w) A.in1 c' R s') (fun e s' => R (.error e) s') 
        { s with heap := s.heap.push { cls := .type "set", dict := none, data := .set #[] 0 (.fresh 0 0 led) } })
    (h : ∀ (h' : Heap) (tk : Nat), h'.SetOf (PySem.strKind prog w) s.heap.objs.size (fun k' => (dd vals).any (· == k')) (dd vals).length →
      (∀ b o, b < s.heap.objs.size → s.heap.get? b = some o → h'.get? b = some o) → Q (.ref s.heap.objs.size) { s with heap := h', toks := tk }) :
    wpAny (model prog w) A (call (.type "set") [v]) Q E s := by
  obtain ⟨c, tl, hmro⟩ := PySem.F.called_set.mro
  have hmade := PySem.F.called_set.made
  have hsub := PySem.F.called_set.sub
  refine wpAny_call (codeAny_of_tree ?_)
  show wpAny _ _ (callAny (.type "set") _) _ _ _
  refine wpAny_pure ⟨Code.quiet_builtin _ (by decide +kernel), codeAny_builtin PySem.F.entry_type_call ?_⟩
  rw [Around.under_plain (weight_type_call_type "set" [v] []) rfl]
  have h1 := PySem.F.called_set.notType
  have h2 := PySem.F.called_set.canCreate
  have hct := PySem.F.typeCall_set_1 v
  repeat (any_goals (first | assumption | wp_step))

  refine codeAny_mono (code_set_new_1 v (E := E) (Q₁ := fun obj s₁ => ∃ led : Bool, obj = .ref s.heap.objs.size ∧ s₁ = { s with heap := s.heap.push { cls := .type "set", dict := none, data := .set #[] 0 (.fresh 0 0 led) } }) fun led => ⟨led, rfl, rfl⟩) fun r s₁ hr => ?_
  cases r with
  | error e => exact hr
  | ok fl =>
    cases fl with
    | ret obj =>
      obtain ⟨led, rfl, rfl⟩ := hr
      have hS : (s.heap.push { cls := .type "set", dict := none, data := .set #[] 0 (.fresh 0 0 led) }).get? s.heap.objs.size = some { cls := .type "set", dict := none, data := .set #[] 0 (.fresh 0 0 led) } := Heap.get?_push_size _ rfl
      have hT : Shared.TypeIs { s with heap := s.heap.push { cls := .type "set", dict := none, data := .set #[] 0 (.fresh 0 0 led) } } (.ref s.heap.objs.size) "set" := ⟨_, hS, rfl⟩
      have hli := PySem.F.called_set.init.lookup
      have hbi := PySem.F.called_set.init.bind (.ref s.heap.objs.size)
      repeat (any_goals (first | assumption | wp_step))

      refine codeAny_mono (codeAny_call_builtin (R := wants (fun r s₂ => r = .none ∧ (∀ b o, b < s.heap.objs.size → s.heap.get? b = some o → s₂.heap.get? b = some o) ∧ s₂.gens = s.gens ∧ s₂.drawn = s.drawn ∧ s₂.os = s.os ∧
          s₂.heap.SetOf (PySem.strKind prog w) s.heap.objs.size (fun k' => (dd vals).any (· == k')) (dd vals).length) E) PySem.F.called_set.init.plain PySem.F.entry_set_init (check_set_init_1 hT ?_)) fun r₂ s₂ hr₂ => ?_
      · exact hinit led _ (fun s' k g d o S => ⟨rfl, k, g, d, o, S⟩) fun _ _ => rfl
      · cases r₂ with
        | error e => exact hr₂
        | ok fl₂ =>
          cases fl₂ with
          | ret r =>
            obtain ⟨rfl, hk', g1, d1, o1, hS'⟩ := hr₂
            obtain ⟨h', g', d', tk', os'⟩ := s₂
            have eg : g' = s.gens := g1
            have ed : d' = s.drawn := d1
            have eo : os' = s.os := o1
            subst eg; subst ed; subst eo
            repeat (any_goals (first | assumption | wp_step))
            exact h _ _ hS' hk'
          | _ => exact hr₂.elim
    | _ => exact hr.elim
theorem call_set_text {x : Str} {u : Tok} {Q : Value → Shared → Prop} (hh : A.handled = none) (hb : x.cps.size + 1 < scanBound)
    (h : ∀ (h' : Heap) (tk : Nat), h'.SetOf (PySem.strKind prog w) s.heap.objs.size (fun k' => (dd (signs x)).any (· == k')) (dd (signs x)).length →
      (∀ b o, b < s.heap.objs.size → s.heap.get? b = some o → h'.get? b = some o) → Q (.ref s.heap.objs.size) { s with heap := h', toks := tk }) :
    wpAny (model prog w) A (call (.type "set") [.str x u]) Q E s := by
  refine call_set_gen hh (by rw [signs_len]; exact hb) (fun led R hR he => ?_) h
  have hsls := str_not_set
  have hslf := str_not_frozenset
  have hne : (Value.type "str" == Value.type "dict") = false := by decide
  have hS : (s.heap.push { cls := .type "set", dict := none, data := .set #[] 0 (.fresh 0 0 led) }).get? s.heap.objs.size = some { cls := .type "set", dict := none, data := .set #[] 0 (.fresh 0 0 led) } := Heap.get?_push_size _ rfl
  unfold Builtin.«set.__init__» noKeywords Builtin.Frozenset.updateFrom
  generalize hPI : pyIter = PI
  wp_walk
  subst hPI
  have hget : ∀ T : String, ((s.heap.push { cls := .type "set", dict := none, data := .set #[] 0 (.fresh 0 0 led) }).push { cls := .type T, data := .fields #[.str x u, .int 0 0] }).get? s.heap.objs.size
      = some { cls := .type "set", dict := none, data := .set #[] 0 (.fresh 0 0 led) } := fun T => Heap.get?_push_of_some _ hS
  have hsz1 : (s.heap.push { cls := .type "set", dict := none, data := .set #[] 0 (.fresh 0 0 led) }).objs.size = s.heap.objs.size + 1 := Heap.size_push _ _
  have hh3 : A.in1.in1.in1.handled = none := by simp [hh]
  have hSf : s.heap.objs.size ∉ [(s.heap.push { cls := .type "set", dict := none, data := .set #[] 0 (.fresh 0 0 led) }).objs.size] := by
    rw [hsz1]; simp
  have hval : ∀ (i : Nat) (v : Value), SignAt x i v → ∃ k t, (signs x)[i]? = some k ∧ v = .str k t := fun i v ⟨c, u, h1, h2⟩ => ⟨_, u, signs_at h1, h2⟩
  have fin : ∀ (T : String) (s' : Shared), Moved [s.heap.objs.size, (s.heap.push { cls := .type "set", dict := none, data := .set #[] 0 (.fresh 0 0 led) }).objs.size] (fun a b => b = a) { s with heap := (s.heap.push { cls := .type "set", dict := none, data := .set #[] 0 (.fresh 0 0 led) }).push { cls := .type T, data := .fields #[.str x u, .int 0 0] } } s' →
      s'.heap.SetOf (PySem.strKind prog w) s.heap.objs.size (fun k' => (dd (signs x)).any (· == k')) (dd (signs x)).length →
      wpAny (model prog w) A.in1.in1 (pure ()) (fun a s' => wpAny (model prog w) A.in1.in1 ((fun _ => ret Value.none) a) (fun fin s' => match fin with
              | Fin.done f => R (Except.ok f) s'
              | Fin.again c' => c'.quiet = true ∧ codeAny (model prog w) A.in1 c' R s') (fun e s' => R (Except.error e) s') s') (fun e s' => R (Except.error e) s') s' := fun T s' hm hS' => by
    refine wpAny_pure ?_
    show wpAny _ _ (ret Value.none) _ _ _
    refine wpAny_pure (hR s' (fun b o hb e => ?_) hm.gens hm.drawn hm.os hS')
    have hb1 : b ≠ s.heap.objs.size := Nat.ne_of_lt hb
    have hb2 : b ≠ (s.heap.push { cls := .type "set", dict := none, data := .set #[] 0 (.fresh 0 0 led) }).objs.size := by rw [hsz1]; exact Nat.ne_of_lt (Nat.lt_succ_of_lt hb)
    exact hm.heap b o (by simp only [List.mem_cons, List.not_mem_nil, or_false, not_or]; exact ⟨hb1, hb2⟩) (Heap.get?_push_of_some _ (Heap.get?_push_of_some _ e))
  have hS0 : ∀ T : String, ((s.heap.push { cls := .type "set", dict := none, data := .set #[] 0 (.fresh 0 0 led) }).push { cls := .type T, data := .fields #[.str x u, .int 0 0] }).SetOf (PySem.strKind prog w) s.heap.objs.size (fun k' => (dd ((signs x).take 0)).any (· == k')) (dd ((signs x).take 0)).length := fun T =>
    PyProof.Rows.SetOf_congr ((PyProof.Rows.setObjOf_fresh (knd := PySem.strKind prog w) led).setOf (hget T) (by unfold scanBound; omega)) (fun _ => rfl) rfl
  refine wpAny_pyIter_strU ?_
  refine wpAny_bind (wpAny_runValue ?_)
  cases ha : x.cps.all (· < 128)
  · have e : strIterType x = "str_iterator" := by simp [strIterType, ha]
    rw [e]
    exact set_loop ((Walks.strWide hh3 _ x u).toS) s.heap.objs.size hSf (signs x) hval (signs_len x) hb (x.cps.size - 0) 0 _ (by omega) (Nat.zero_le _) ⟨_, Heap.get?_push_size _ rfl, rfl, rfl⟩ (hS0 _) (fun s' hm hS' => fin "str_iterator" s' hm hS')
  · have e : strIterType x = "str_ascii_iterator" := by simp [strIterType, ha]
    rw [e]
    exact set_loop ((Walks.strAscii hh3 _ x u).toS) s.heap.objs.size hSf (signs x) hval (signs_len x) hb (x.cps.size - 0) 0 _ (by omega) (Nat.zero_le _) ⟨_, Heap.get?_push_size _ rfl, rfl, rfl⟩ (hS0 _) (fun s' hm hS' => fin "str_ascii_iterator" s' hm hS')
theorem strs_at2 : ∀ {us : List Value} {xs : List Str}, L2.Vals (xs.map L2.V.str) us → ∀ (i : Nat) (v : Value), us[i]? = some v → ∃ k t, xs[i]? = some k ∧ v = .str k t := fun {us xs} r i v hv => by
  have hl := r.length
  have hi : i < us.length := (List.getElem?_eq_some_iff.mp hv).1
  have hx : i < xs.length := by rw [List.length_map] at hl; omega
  obtain ⟨u, hu, t, e⟩ := r.get (i := i) (x := L2.V.str xs[i]) (by rw [List.getElem?_map, List.getElem?_eq_getElem hx] <;> rfl)
  rw [hv] at hu
  cases hu
  exact ⟨xs[i], t, List.getElem?_eq_getElem hx, e⟩
theorem call_set_listT {l : Addr} {items : Array Value} {xs : List Str} {Q : Value → Shared → Prop} (hh : A.handled = none) (hl : s.heap.IsList l items) (hi : L2.Vals (xs.map L2.V.str) items.toList) (hb : xs.length + 1 < scanBound)
    (h : ∀ (h' : Heap) (tk : Nat), h'.SetOf (PySem.strKind prog w) s.heap.objs.size (fun k' => (dd xs).any (· == k')) (dd xs).length →
      (∀ b o, b < s.heap.objs.size → s.heap.get? b = some o → h'.get? b = some o) → Q (.ref s.heap.objs.size) { s with heap := h', toks := tk }) :
    wpAny (model prog w) A (call (.type "set") [.ref l]) Q E s := by
  refine call_set_gen hh hb (fun led R hR he => ?_) h
  obtain ⟨ol, hol, hcl, nl, hdl⟩ := hl
  obtain ⟨ocls, odict, odata, oslots⟩ := ol
  simp only at hcl hdl
  subst hcl; subst hdl
  have hol' : (s.heap.push { cls := .type "set", dict := none, data := .set #[] 0 (.fresh 0 0 led) }).get? l = some { cls := .type "list", dict := odict, data := .seq items nl, slots := oslots } := Heap.get?_push_of_some _ hol
  have hsls := PySem.F.sub_list_set
  have hslf := PySem.F.sub_list_frozenset
  have hne : (Value.type "list" == Value.type "dict") = false := by decide
  have hl1 : (s.heap.push { cls := .type "set", dict := none, data := .set #[] 0 (.fresh 0 0 led) }).IsList l items := ⟨_, hol', rfl, nl, rfl⟩
  have hS : (s.heap.push { cls := .type "set", dict := none, data := .set #[] 0 (.fresh 0 0 led) }).get? s.heap.objs.size = some { cls := .type "set", dict := none, data := .set #[] 0 (.fresh 0 0 led) } := Heap.get?_push_size _ rfl
  unfold Builtin.«set.__init__» noKeywords Builtin.Frozenset.updateFrom
  generalize hPI : pyIter = PI
  wp_walk
  subst hPI
  refine wpAny_pyIter_list hl1 ?_
  refine wpAny_bind (wpAny_runValue ?_)
  have hlS : l < s.heap.objs.size := Heap.lt_size hol
  have hh3 : A.in1.in1.in1.handled = none := by simp [hh]
  have hsz1 : (s.heap.push { cls := .type "set", dict := none, data := .set #[] 0 (.fresh 0 0 led) }).objs.size = s.heap.objs.size + 1 := Heap.size_push _ _
  have hneI : l ≠ (s.heap.push { cls := .type "set", dict := none, data := .set #[] 0 (.fresh 0 0 led) }).objs.size := by
    rw [hsz1]; exact Nat.ne_of_lt (Nat.lt_succ_of_lt hlS)
  have hSf : s.heap.objs.size ∉ [(s.heap.push { cls := .type "set", dict := none, data := .set #[] 0 (.fresh 0 0 led) }).objs.size, l] := by
    rw [hsz1]; simp only [List.mem_cons, List.not_mem_nil, or_false, not_or]
    exact ⟨Nat.ne_of_lt (Nat.lt_succ_self _), Nat.ne_of_gt hlS⟩
  have hsz : xs.length = items.size := by have := hi.length; rw [List.length_map] at this; simpa using this
  have hget : ((s.heap.push { cls := .type "set", dict := none, data := .set #[] 0 (.fresh 0 0 led) }).push { cls := .type "list_iterator", data := .fields #[.ref l, .int 0 0] }).get? s.heap.objs.size
      = some { cls := .type "set", dict := none, data := .set #[] 0 (.fresh 0 0 led) } := Heap.get?_push_of_some _ hS
  refine set_loop ((Walks.list hh3 _ l hneI items).toS) s.heap.objs.size hSf xs (fun i v hv => strs_at2 hi i v (by rw [Array.getElem?_toList]; exact hv)) hsz (by rw [← hsz]; exact hb) (items.size - 0) 0 _ (by omega) (Nat.zero_le _)
    ⟨⟨_, Heap.get?_push_size _ rfl, rfl, rfl⟩, (hl1.push _)⟩ ?hS0 ?hR
  case hS0 => exact PyProof.Rows.SetOf_congr ((PyProof.Rows.setObjOf_fresh (knd := PySem.strKind prog w) led).setOf hget (by unfold scanBound; omega)) (fun _ => rfl) rfl
  case hR =>
    intro s' hm hS'
    refine wpAny_pure ?_
    show wpAny _ _ (ret Value.none) _ _ _
    refine wpAny_pure (hR s' (fun b o hb e => ?_) hm.gens hm.drawn hm.os hS')
    have hb1 : b ≠ s.heap.objs.size := Nat.ne_of_lt hb
    have hb2 : b ≠ (s.heap.push { cls := .type "set", dict := none, data := .set #[] 0 (.fresh 0 0 led) }).objs.size := by rw [hsz1]; exact Nat.ne_of_lt (Nat.lt_succ_of_lt hb)
    exact hm.heap b o (by simp only [List.mem_cons, List.not_mem_nil, or_false, not_or]; exact ⟨hb1, hb2⟩) (Heap.get?_push_of_some _ (Heap.get?_push_of_some _ e))
end
section
open L2
variable {X : Cx}
/-- len(set(e)), e a text, or a list of texts -/
def tLenSetT (K : PySem.W.Frag) (ta : TE) : TE := fun σ H Q => ta σ H fun x H1 => (∃ z, x = .str z ∧ z.cps.size ≤ 4000 ∧ Q (.int (dd (signs z)).length) H1) ∨
  (∃ (l : Addr) (xs : List Str), x = .ref l ∧ SqL K H1 l (xs.map V.str) ∧ xs.length ≤ 4000 ∧ Q (.int (dd xs).length) H1)
theorem pe_lenSetT {a : Expr} {ta : TE} {p p2 q pos : Pos} (hc : X.calm = true) (hg : Gl X "len") (hm : X.mg "len" = none) (hg2 : Gl X "set") (hm2 : X.mg "set" = none) (ha : PE X a ta)
    (na : starEach [a] X.env = (false, eval a X.env) :: starEach [] X.env := by rfl) : PE X (.Call (.Name "len" p) [.Call (.Name "set" p2) [a] [] q] [] pos) (tLenSetT X.K ta) := by
  refine ⟨fun pins s σ H Q I h => ?_⟩
  refine Call_ (ld_blt I hg hm boot_len ?_)
  refine PyProof.Rows.callWith_builtin1 (PyProof.Rows.args_cons ?_ rfl) rfl rfl
  refine Call_ (ld_blt I hg2 hm2 boot_set ?_)
  refine PyProof.Rows.callWith_type1 (PyProof.Rows.args_cons (thn (ha.run pins s σ H _ I h) fun v s1 ⟨x, H1, I1, r1, q1⟩ => PyProof.Rows.args_nil ?_) na) na rfl
  have fin : ∀ (vals : List Str), vals.length ≤ 4000 → Q (.int (dd vals).length) H1 → ∀ (h' : Heap) (tk : Nat), h'.SetOf (PySem.strKind X.prog X.w) s1.heap.objs.size (fun k' => (dd vals).any (· == k')) (dd vals).length →
      (∀ b o, b < s1.heap.objs.size → s1.heap.get? b = some o → h'.get? b = some o) →
      wpAny (model X.prog X.w) X.A (spliced (backTo pos (starEach [] X.env))) (fun vs s₂ => wpAny (model X.prog X.w) X.A (call (.builtin "len") (Value.ref s1.heap.objs.size :: vs)) (EP X pins σ Q) X.xe s₂) X.xe { s1 with heap := h', toks := tk } := fun vals hv q h' tk hS hk => by
    refine PyProof.Rows.args_nil ?_
    have hl := dd_len_le vals
    obtain ⟨o, es, ep, t, ho, hex, hd, _, _, _, hf, hn⟩ := hS
    have I2 : Inv X pins σ H1 { s1 with heap := h', toks := tk } := I1.kept fun b o e => hk b o (Heap.lt_size e) e
    refine call_len_set ho hex hd hf (by rw [hn] <;> omega) ⟨.int (dd vals).length, H1, I2.tok _, ⟨_, by rw [hn]⟩, q⟩
  rcases q1 with ⟨z, rfl, hz, q1⟩ | ⟨l, xs, rfl, hq, hz, q1⟩
  · obtain ⟨t, rfl⟩ := r1
    exact call_set_text (I1.ok.hd hc) (by unfold scanBound; omega) fun h' tk hS hk => fin _ (by rw [signs_len]; exact hz) q1 h' tk hS hk
  · cases r1
    obtain ⟨its, r, pl, _⟩ := I1.list hq
    exact call_set_listT (I1.ok.hd hc) pl.isList (by simpa using r) (by unfold scanBound; omega) fun h' tk hS hk => fin _ hz q1 h' tk hS hk
end
end LB

namespace LB
open PySem L2 PyProof.Rows
section
variable {X : Cx}
/-- list(x), x a text -/
theorem call_list_text (hc : X.calm = true) : CallR X (.type "list") (fun xs H Q => ∃ z : Str, xs = [.str z] ∧ z.cps.size ≤ sizeLine ∧ ∀ p, H p = none → Q (.ref p) (upd H p (.lst ((signs z).map V.str)))) := by
  intro pins s σ H xs us Q I rx hq
  obtain ⟨z, rfl, hz, q⟩ := hq
  obtain ⟨u, rfl, t, rfl⟩ := vals1 rx
  refine call_list_str (I.ok.hd hc) z t (fun h' tk acc' c' hk hS hacc => ?_) hz
  obtain ⟨hsz, hat⟩ := hacc
  have gen : ∀ (cs : List Nat) (us : List Value), cs.length = us.length → (∀ (i : Nat) (c : Nat) (u : Value), cs[i]? = some c → us[i]? = some u → ∃ t, u = Value.str ⟨#[c]⟩ t) → Vals ((cs.map fun c => (⟨#[c]⟩ : Str)).map V.str) us := by
    intro cs
    induction cs with
    | nil => intro us hl _; cases us with
      | nil => exact .nil
      | cons _ _ => simp at hl
    | cons c r ih => intro us hl h; cases us with
      | nil => simp at hl
      | cons u us =>
        refine .cons ?_ (ih us (by simpa using hl) fun i c' u' h1 h2 => h (i + 1) c' u' (by simpa using h1) (by simpa using h2))
        obtain ⟨t, e⟩ := h 0 c u rfl rfl
        exact ⟨t, e⟩
  have rv : Vals ((signs z).map V.str) acc'.toList := gen z.cps.toList acc'.toList (by simp [hsz]) fun i c u h1 h2 => by
    obtain ⟨c', u', h3, h4⟩ := hat i u (by rw [← Array.getElem?_toList]; exact h2)
    rw [← Array.getElem?_toList, h1] at h3
    cases h3
    exact ⟨u', h4⟩
  have new : ObjOk X.prog X.w (upd H s.heap.objs.size (.lst ((signs z).map V.str))) h' s.heap.objs.size (.lst ((signs z).map V.str)) :=
    ⟨by rw [List.length_map, signs_len]; exact hz, acc'.toList, c', rv, by rw [hS]⟩
  exact ⟨.ref s.heap.objs.size, _, I.laid (t' := tk) hk (Nat.le_refl _) new, rfl, q _ (I.hok.fresh (Nat.le_refl _))⟩
/-! ### enumerate(text) -/
/-- the i-th sign of x, in a new pair -/
def IteS (x : Str) : It :=
  ⟨fun i _ => i < x.cps.size, fun i H v H' => ∃ T c, v = .ref T ∧ H T = none ∧ x.cps[i]? = some c ∧ H' = upd H T (.tup [.int (i : Nat), .str ⟨#[c]⟩]), fun i _ => x.cps.size ≤ i⟩
theorem draws_of {prog : Program} {w : World} {A : Around} (hh : A.handled = none) (it : Addr) (x : Str) (t : Tok) {ty : String} (hty : ty = "str_ascii_iterator" ∨ ty = "str_iterator") :
    Draws prog w A it [it] x.cps.size (SignAt x) (fun i h => h.IsStrIter it ty x t i) := by
  rcases hty with e | e
  · rw [e]; exact Draws.strAscii hh it x t
  · rw [e]; exact Draws.strWide hh it x t
theorem turn_enumS {P : Program} {w : World} {K : PySem.W.Frag} {elts : List Expr} {kk : Nat} {tpos : Pos} (x : Str) (t : Tok) (e it : Addr) {ty : String} (hty : ty = "str_ascii_iterator" ∨ ty = "str_iterator") :
    Turn P w K (.Tuple elts kk tpos) (IteS x) [e, it] e (fun i h => (∃ old, IsEnum h e it ((i : Nat) : Int) old) ∧ (i ≤ x.cps.size ∧ h.IsStrIter it ty x t i) ∧ e ≠ it) where
  mem := by simp
  obj := fun i h st b hb => by
    obtain ⟨⟨old, he⟩, ⟨_, o, ho, hc, hd⟩, _⟩ := st
    have e' : b = e ∨ b = it := by simpa using hb
    rcases e' with z | z
    · rw [z]; exact ⟨_, he, fun v q => nomatch q⟩
    · rw [z]; exact ⟨o, ho, fun v q => by rw [hd] at q; cases q⟩
  keep := fun i h h' st k => let ⟨⟨old, he⟩, ⟨hle, o, ho, r⟩, hne⟩ := st; ⟨⟨old, k e (by simp) _ he⟩, ⟨hle, o, k it (by simp) o ho, r⟩, hne⟩
  item := by
    intro X hP hw hK hc i pins s σ H E I hf st hg
    subst hP hw hK
    obtain ⟨⟨old, he⟩, ⟨_, hit⟩, hne⟩ := st
    have hlt : i < x.cps.size := hg
    have hel : e < s.heap.objs.size := Heap.lt_size he
    have hil : it < s.heap.objs.size := by obtain ⟨_, q, _⟩ := hit; exact Heap.lt_size q
    refine wpAny_pyNext_enum_itemD (draws_of (by simpa using I.ok.hd hc) it x t hty) he hit hlt hne (by simpa using hne) fun y h' tk hy ho hit' hT hsz hk => ?_
    obtain ⟨c, u, hcx, rfl⟩ := hy
    refine ⟨_, rfl, wpAny_letOwnedTupleGo_enum (s := { s with heap := h', toks := tk + 1 }) ho fun h'' he' sb => ?_⟩
    have hT2 : h''.get? s.heap.objs.size = some { cls := .type "tuple", data := .seq #[.int i tk, .str ⟨#[c]⟩ u] } := (sb.2 _ (Nat.ne_of_gt hel)).trans hT
    have new : ObjOk X.prog X.w (upd H s.heap.objs.size (.tup [.int (i : Nat), .str ⟨#[c]⟩])) h'' s.heap.objs.size (.tup [.int (i : Nat), .str ⟨#[c]⟩]) :=
      ⟨by show 2 ≤ sizeLine; decide, [.int i tk, .str ⟨#[c]⟩ u], .cons ⟨_, rfl⟩ (.cons ⟨_, rfl⟩ .nil), ⟨_, hT2, rfl, _, rfl⟩⟩
    have I1 : Inv X pins σ (upd H s.heap.objs.size (.tup [.int (i : Nat), .str ⟨#[c]⟩])) { s with heap := h'', toks := tk + 1 } :=
      I.turnedNew (ch := [e, it]) (fun b ob hb q => (sb.2 b (fun z => hb (by simp [z]))).trans (hk b ob (fun z => hb (by simp [z])) (fun z => hb (by simp [z])) q)) hf (Nat.le_refl _) new
    obtain ⟨oi, hoi, ri⟩ := hit'
    refine ⟨.ref s.heap.objs.size, _, I1, rfl, ⟨_, c, rfl, I.hok.fresh (Nat.le_refl _), hcx, rfl⟩, ⟨⟨Value.str ⟨#[c]⟩ u, ?_⟩, ⟨hlt, oi, (sb.2 it (Ne.symm hne)).trans hoi, ri⟩, hne⟩, fun b hb => ?_⟩
    · have e1 : ((i + 1 : Nat) : Int) = (i : Int) + 1 := by omega
      rw [e1]; exact he'
    · have hb' : b < s.heap.objs.size := by
        have e' : b = e ∨ b = it := by simpa using hb
        rcases e' with z | z
        · rw [z]; exact hel
        · rw [z]; exact hil
      rw [upd_ne (Nat.ne_of_lt hb')]
      exact (hf b hb).1
  done := by
    intro X hP hw hK hc i pins s σ H E I hf st hg
    subst hP hw hK
    obtain ⟨⟨old, he⟩, ⟨hle, hit⟩, hne⟩ := st
    have e1 : i = x.cps.size := Nat.le_antisymm hle hg
    subst e1
    obtain ⟨f0, f1, f2, f3, f4, f5⟩ := hf it (by simp)
    exact wpAny_pyNext_enum_endD (draws_of (by simpa using I.ok.hd hc) it x t hty) he hit fun h' eb => ⟨rfl, I.turned (t' := s.toks) (fun b o hb q => eb b o hb q) f0 f1 f3 f4 f5⟩
  self := fun A i s Q E st h => let ⟨⟨_, he⟩, _⟩ := st; wpAny_pyIter_enum he h
def iEnumS (ta : TA) : TI := fun σ H R => ta σ H fun vs H1 => ∃ x, vs = [.str x] ∧ R (IteS x) H1
theorem pi_enumS {X : Cx} {e : Expr} {ta : TA} {p pos tpos : Pos} {elts : List Expr} {kk : Nat} (hg : Gl X "enumerate") (hm : X.mg "enumerate" = none) (ha : PA X [e] ta) (hs : starEach [e] X.env = [(false, eval e X.env)] := by rfl) :
    PI X (.Tuple elts kk tpos) (.Call (.Name "enumerate" p) [e] [] pos) (iEnumS ta) := by
  refine ⟨fun pins s σ H R I h => ?_⟩
  refine Call_ (ld_blt I hg hm boot_enumerate (PyProof.Rows.callWith_type1 (thn (ha.run pos pins s σ H _ I h) fun us s1 ⟨vs, H1, I1, r1, q1⟩ => ?_) hs rfl))
  obtain ⟨x, ex, q⟩ := q1
  subst ex
  cases r1 with
  | cons r rr =>
    cases rr
    obtain ⟨t, rfl⟩ := r
    refine call_enumerate_str fun h' he hit hsz hk => wpAny_pyIter_enum he ?_
    have I2 : Inv X pins σ H1 { s1 with heap := h' } := I1.kept (t' := s1.toks) hk
    have hty : strIterType x = "str_ascii_iterator" ∨ strIterType x = "str_iterator" := by
      unfold strIterType
      split
      · exact .inl rfl
      · exact .inr rfl
    refine ⟨s1.heap.objs.size + 1, [s1.heap.objs.size + 1, s1.heap.objs.size], _, _, H1, rfl, I2, turn_enumS x t (s1.heap.objs.size + 1) s1.heap.objs.size hty, ⟨⟨.none, he⟩, ⟨Nat.zero_le _, hit⟩, Nat.succ_ne_self _⟩, fun b hb => ?_, q⟩
    have e' : b = s1.heap.objs.size + 1 ∨ b = s1.heap.objs.size := by simpa using hb
    have hle : s1.heap.objs.size ≤ b := by
      rcases e' with z | z
      · rw [z]; exact Nat.le_add_right _ _
      · rw [z]; exact Nat.le_refl _
    exact I1.fpOk hle (I1.hok.fresh hle)
/-- the reading of a comprehension over enumerate(text) -/
theorem lc_enumS {x : Str} {g : TG} {tt : TT} {te : TE} {vs : List Nat} {σ : L2.St} {H1 : Hp} {D : Addr} {Qd : Hp → Prop} (Pv : Nat → Hp → Prop) (h0 : Pv 0 (upd H1 D (.lst [])))
    (hs : ∀ i c T H, x.cps[i]? = some c → Pv i H → H T = none → g (.ref T) (wipe σ vs) (upd H T (.tup [.int (i : Nat), .str ⟨#[c]⟩])) fun σ2 H2 => wipe σ2 vs = wipe σ vs ∧ tt σ2 H2 fun b H3 =>
      if b = true then te σ2 H3 fun y H4 => ∃ acc, H4 D = some (.lst acc) ∧ acc.length < sizeLine ∧ Pv (i + 1) (upd H4 D (.lst (acc ++ [y]))) else Pv (i + 1) H3) (hd : ∀ H, Pv x.cps.size H → Qd H) :
    ∃ W : Nat → Nat → Hp → Prop, (∃ m, W 0 m (upd H1 D (.lst []))) ∧ ∀ i m H, W i m H →
      ((IteS x).stop i H ∧ Qd H) ∨ ((IteS x).go i H ∧ ∃ Nx : Hp → Prop, (∀ H', Nx H' → ∃ m', m' < m ∧ W (i + 1) m' H') ∧ ∀ y H', (IteS x).yld i H y H' → g y (wipe σ vs) H' fun σ2 H2 => wipe σ2 vs = wipe σ vs ∧ tt σ2 H2 fun b H3 =>
        if b = true then te σ2 H3 fun y H4 => ∃ acc, H4 D = some (.lst acc) ∧ acc.length < sizeLine ∧ Nx (upd H4 D (.lst (acc ++ [y]))) else Nx H3) := by
  refine ⟨fun i m H => m = x.cps.size - i ∧ i ≤ x.cps.size ∧ Pv i H, ⟨x.cps.size, by simp, Nat.zero_le _, h0⟩, ?_⟩
  rintro i m H ⟨rfl, hi, p⟩
  by_cases hlt : i < x.cps.size
  · refine .inr ⟨hlt, Pv (i + 1), fun H' p' => ⟨x.cps.size - (i + 1), by omega, rfl, hlt, p'⟩, fun y H' yl => ?_⟩
    obtain ⟨T, c, e, hT, hc, eH⟩ := yl
    subst e; subst eH
    exact hs i c T H hc p hT
  · have e : i = x.cps.size := by omega
    subst e
    exact .inl ⟨Nat.le_refl _, hd H p⟩
/-- the reading of a comprehension over a text's signs -/
theorem lc_str {x : Str} {g : TG} {tt : TT} {te : TE} {vs : List Nat} {σ : L2.St} {H1 : Hp} {D : Addr} {Qd : Hp → Prop} (Pv : Nat → Hp → Prop) (h0 : Pv 0 (upd H1 D (.lst [])))
    (hs : ∀ i c H, x.cps[i]? = some c → Pv i H → g (.str ⟨#[c]⟩) (wipe σ vs) H fun σ2 H2 => wipe σ2 vs = wipe σ vs ∧ tt σ2 H2 fun b H3 =>
      if b = true then te σ2 H3 fun y H4 => ∃ acc, H4 D = some (.lst acc) ∧ acc.length < sizeLine ∧ Pv (i + 1) (upd H4 D (.lst (acc ++ [y]))) else Pv (i + 1) H3) (hd : ∀ H, Pv x.cps.size H → Qd H) :
    ∃ W : Nat → Nat → Hp → Prop, (∃ m, W 0 m (upd H1 D (.lst []))) ∧ ∀ i m H, W i m H →
      ((Its x).stop i H ∧ Qd H) ∨ ((Its x).go i H ∧ ∃ Nx : Hp → Prop, (∀ H', Nx H' → ∃ m', m' < m ∧ W (i + 1) m' H') ∧ ∀ y H', (Its x).yld i H y H' → g y (wipe σ vs) H' fun σ2 H2 => wipe σ2 vs = wipe σ vs ∧ tt σ2 H2 fun b H3 =>
        if b = true then te σ2 H3 fun y H4 => ∃ acc, H4 D = some (.lst acc) ∧ acc.length < sizeLine ∧ Nx (upd H4 D (.lst (acc ++ [y]))) else Nx H3) := by
  refine ⟨fun i m H => m = x.cps.size - i ∧ i ≤ x.cps.size ∧ Pv i H, ⟨x.cps.size, by simp, Nat.zero_le _, h0⟩, ?_⟩
  rintro i m H ⟨rfl, hi, p⟩
  by_cases hlt : i < x.cps.size
  · refine .inr ⟨hlt, Pv (i + 1), fun H' p' => ⟨x.cps.size - (i + 1), by omega, rfl, hlt, p'⟩, fun y H' yl => ?_⟩
    obtain ⟨eH, c, hc, e⟩ := yl
    subst e; subst eH
    exact hs i c _ hc p
  · have e : i = x.cps.size := by omega
    subst e
    exact .inl ⟨Nat.le_refl _, hd H p⟩
end
end LB

namespace LB
open PySem L2 PyProof.Rows
/-! ### defs as they stand, defs that keep a promise -/
/-- the def stands in the module under its name, and binds as many arguments as it has parameters -/
def RawFn (K : PySem.W.Frag) (mg : Str → Option Value) (x : Str) (st : Stmt) (ps : List Str) : Prop :=
  ∃ (f : Addr) (fd : FuncData), Fun K x x st f fd ∧ mg x = some (.ref f) ∧ Binds K fd ps []
/-- .. in the class at C -/
def RawMe (K : PySem.W.Frag) (C : Addr) (x qual : Str) (st : Stmt) (ps : List Str) : Prop :=
  ∃ (f : Addr) (fd : FuncData), Fun K x qual st f fd ∧ Own K C f x ∧ Binds K fd ps []
/-- .. as a property of the class at C -/
def RawPr (K : PySem.W.Frag) (C : Addr) (x qual : Str) (st : Stmt) (ps : List Str) : Prop :=
  ∃ (p f : Addr) (fd : FuncData), Fun K x qual st f fd ∧ PropOf K C x p f ∧ Binds K fd ps []
section
variable (P : Program) (w : World) (K : PySem.W.Frag) (mg : Str → Option Value) (base : Heap) (CX : CXT) (k : Nat)
def HasFn (x : Str) (ps : List Str) (sp : Sp) : Prop :=
  ∃ (f : Addr) (fd : FuncData), FnOk P w K mg base CX k f fd ps sp ∧ mg x = some (.ref f) ∧ PySem.W.keepIn K (.ref f) = true ∧ Binds K fd ps []
def HasMe (C : Addr) (x : Str) (ps : List Str) (sp : Sp) : Prop :=
  ∃ (f : Addr) (fd : FuncData), FnOk P w K mg base CX k f fd ps sp ∧ Own K C f x ∧ PySem.W.keepIn K (.ref f) = true ∧ Binds K fd ps []
def HasPr (C : Addr) (x : Str) (ps : List Str) (sp : Sp) : Prop :=
  ∃ (p f : Addr) (fd : FuncData), FnOk P w K mg base CX k f fd ps sp ∧ PropOf K C x p f ∧ Binds K fd ps []
/-- a class whose __init__ keeps a promise -/
def HasMk (C : Addr) (x : Str) (ps : List Str) (sp : Sp) : Prop :=
  ∃ (f : Addr) (fd : FuncData), FnOk P w K mg base CX k f fd ps sp ∧ Mk K C f ∧ mg x = some (.ref C) ∧ Binds K fd ps []
end
section
variable {X : Cx} {CX : CXT} {k : Nat} {C : Addr} {ps : List Str} {sp : Sp} {E : XK} {x m : Str} {p pos apos : Pos} {e o : Expr} {es : List Expr} {ta : TE} {t : TA}
theorem pe_fn (h : HasFn X.prog X.w X.K X.mg X.base CX k x ps sp) (hr : Room k X.A) (hx : Passes CX X E) (ha : PA X (e :: es) t) (hg : Gl X x := by rfl) (hdb : (x == ("__debug__" : Str)) = false := by decide)
    (he : starEach (e :: es) X.env = (false, eval e X.env) :: starEach es X.env := by rfl) (hpl : (backTo pos (starEach es X.env)).any (·.1) = false := by rfl) : PE X (.Call (.Name x p) (e :: es) [] pos) (tCall sp [] E t) := by
  obtain ⟨f, fd, F, hm, hk, hb⟩ := h
  exact pe_call F hr hg hm hk hb .nil hx ha hdb he hpl
theorem pe_mk (h : HasMk X.prog X.w X.K X.mg X.base CX k C x ps sp) (hr : Room (k + 1) X.A) (hx : Passes CX X E) (ha : PA X (e :: es) t) (hg : Gl X x := by rfl) (hdb : (x == ("__debug__" : Str)) = false := by decide)
    (he : starEach (e :: es) X.env = (false, eval e X.env) :: starEach es X.env := by rfl) (hpl : (backTo pos (starEach es X.env)).any (·.1) = false := by rfl) : PE X (.Call (.Name x p) (e :: es) [] pos) (tMake C sp [] E t) := by
  obtain ⟨f, fd, F, M, hm, hb⟩ := h
  exact pe_make M F hr hg hm hb .nil hx ha hdb he hpl
theorem pe_me {pl : Sem Bool} (he : PE X o ta) (h : HasMe X.prog X.w X.K X.mg X.base CX k C m ps sp) (c : Cls X.K C) (hr : Room k X.A) (hx : Passes CX X E) (ha : PA X (e :: es) t)
    (hst : starEach (e :: es) X.env = (false, eval e X.env) :: starEach es X.env := by rfl) (hpl : (backTo pos (starEach es X.env)).any (·.1) = false := by rfl)
    (ht : eval (.Call (.Attribute o m apos) (e :: es) [] pos) X.env = (do
      let ov ← eval o X.env
      standAt apos.atName
      let (f, first) ← holding [ov] (getMethod ov m pl)
      callWith pos f first (backTo pos (starEach (e :: es) X.env)) (backToKw pos (keywordEach [] X.env))) := by rfl) : PE X (.Call (.Attribute o m apos) (e :: es) [] pos) (tMeth C m sp [] E ta t) := by
  obtain ⟨f, fd, F, O, hk, hb⟩ := h
  exact pe_meth he c ⟨O.at_, O.fn, hk⟩ F hr hb .nil hx ha hst hpl ht
theorem pe_pr (he : PE X o ta) (h : HasPr X.prog X.w X.K X.mg X.base CX k C m ps sp) (c : Cls X.K C) (hr : Room (k + 1) X.A) (hx : Passes CX X.nox E) (hab : attributeBase o m X.env (eval o X.env) = eval o X.env) : PE X (.Attribute o m pos) (tProp C sp [] E ta) := by
  obtain ⟨p, f, fd, F, hp, hb⟩ := h
  exact L2.pe_prop he c hp F hr hb .nil hx hab
end
/-- the built-in names that the module does not have -/
structure Blt (mg : Str → Option Value) : Prop where
  n_len : mg "len" = none
  n_list : mg "list" = none
  n_tuple : mg "tuple" = none
  n_int : mg "int" = none
  n_str : mg "str" = none
  n_bool : mg "bool" = none
  n_abs : mg "abs" = none
  n_sum : mg "sum" = none
  n_all : mg "all" = none
  n_set : mg "set" = none
  n_range : mg "range" = none
  n_enumerate : mg "enumerate" = none
  n_isinstance : mg "isinstance" = none
end LB

namespace LB
open PySem L2 PyProof.Rows
/-! ### the drawing of a law -/
/-- the pen at p: its script's list at q, the turn, what is left of a great number -/
structure PenAt (H : Hp) (p q : Addr) (ns : List Int) (i r : Int) : Prop where
  pen : H p = some (.lst [.ref q, .int i, .int r])
  lst : H q = some (.lst (ns.map V.int))
  i0 : 0 ≤ i
  ne : p ≠ q
/-- all but the pen is as it was -/
def But (p : Addr) (H H' : Hp) : Prop := ∀ b o, H b = some o → b ≠ p → H' b = some o
theorem But.refl {p : Addr} {H : Hp} : But p H H := fun _ _ h _ => h
theorem But.trans {p : Addr} {H H1 H2 : Hp} (a : But p H H1) (b : But p H1 H2) : But p H H2 := fun c o h n => b c o (a c o h n) n
theorem But.of_same {p : Addr} {H H' : Hp} (s : Same H H') : But p H H' := fun b o h _ => s b o h
theorem But.upd {p : Addr} {o : HO} {H : Hp} : But p H (upd H p o) := fun b u h n => by rw [upd_ne n]; exact h
theorem But.new {p a : Addr} {o : HO} {H : Hp} (n : H a = none) : But p H (L2.upd H a o) := fun b u h _ => by rw [upd_ne (ne_of_none h n)]; exact h
theorem But.free {p : Addr} {H H' : Hp} (e : But p H H') {l : Addr} (h : H' l = none) (hl : l ≠ p) : H l = none := by
  cases q : H l with
  | none => rfl
  | some o =>
    rw [e l o q hl] at h
    cases h
def spPen (K : PySem.W.Frag) : Sp := fun vs H Q _ => ∃ (a : Addr) (ns : List Int), vs = [.ref a] ∧ SqL K H a (ns.map V.int) ∧
  ∀ (p q : Addr) (ms : List Int) (H' : Hp), Same H H' → H p = none → PenAt H' p q ms 0 0 → Q (.ref p) H'
def spDraw : Sp := fun vs H Q _ => ∃ (p q : Addr) (ns : List Int) (i r n : Int), vs = [.ref p, .int n] ∧ PenAt H p q ns i r ∧ 0 < n ∧ n < 1000000 ∧ i < 1000000 ∧
  ∀ (d i' r' : Int) (H' : Hp), 0 ≤ d → d < n → i' ≤ i + 1 → PenAt H' p q ns i' r' → But p H H' → Q (.int d) H'
theorem cut_ints (ns : List Int) (a b : Option Int) : ∃ ms : List Int, cutV (ns.map V.int) a b = ms.map V.int :=
  ⟨(ns.drop (HT.sIx (ns.map V.int).length 0 a)).take (HT.sIx (ns.map V.int).length (ns.map V.int).length b - HT.sIx (ns.map V.int).length 0 a), by
    unfold cutV
    rw [List.map_take, List.map_drop]⟩
theorem mixA {x m c e i : Int} (hm : 0 < m) (hm2 : m < 4294967296) (hi : 0 ≤ i) (hi2 : i < 1000000) (hc : 0 ≤ c) (hc2 : c < 1000000) (he : 0 ≤ e) (he2 : e < 1000000) : (x % m + c * i + e).natAbs < 2 ^ 64 := by
  have h1 := Int.emod_nonneg x (Int.ne_of_gt hm)
  have h2 := Int.emod_lt_of_pos x hm
  have h3 : 0 ≤ c * i := Int.mul_nonneg hc hi
  have h4 : c * i ≤ 1000000 * i := Int.mul_le_mul_of_nonneg_right (by omega) hi
  omega
theorem mixB {x m a b c e i : Int} (hm : 0 < m) (hm2 : m < 4294967296) (hi : 0 ≤ i) (hi2 : i < 1000000) (ha : 0 ≤ a) (ha2 : a < 100) (hb : 0 ≤ b) (hb2 : b < 1000000) (hc : 0 ≤ c) (hc2 : c < 1000000) (he : 0 ≤ e) (he2 : e < 1000000) :
    (x % m * (a * i + b) + c * i * i + e).natAbs < 2 ^ 64 := by
  have h1 := Int.emod_nonneg x (Int.ne_of_gt hm)
  have h2 := Int.emod_lt_of_pos x hm
  generalize x % m = y at h1 h2 ⊢
  have h3 : 0 ≤ a * i := Int.mul_nonneg ha hi
  have h4 : a * i ≤ 100 * i := Int.mul_le_mul_of_nonneg_right (by omega) hi
  generalize a * i = z at h3 h4 ⊢
  have h5 : 0 ≤ y * (z + b) := Int.mul_nonneg h1 (by omega)
  have h6 : y * (z + b) ≤ 4294967296 * (z + b) := Int.mul_le_mul_of_nonneg_right (by omega) (by omega)
  have h7 : 0 ≤ c * i := Int.mul_nonneg hc hi
  have h8 : c * i ≤ 1000000 * i := Int.mul_le_mul_of_nonneg_right (by omega) hi
  generalize c * i = u at h7 h8 ⊢
  have h9 : 0 ≤ u * i := Int.mul_nonneg h7 hi
  have h10 : u * i ≤ u * 1000000 := Int.mul_le_mul_of_nonneg_left (by omega) h7
  omega
theorem mixC {c i : Int} (hi : 0 ≤ i) (hi2 : i < 1000000) (hc : 0 ≤ c) (hc2 : c < 1000000) : CMul (c * i) i := by
  have h7 : 0 ≤ c * i := Int.mul_nonneg hc hi
  have h8 : c * i ≤ 1000000 * i := Int.mul_le_mul_of_nonneg_right (by omega) hi
  exact .inl ⟨by omega, by omega⟩
theorem mixD {x m y : Int} (hm : 0 < m) (hm2 : m < 4294967296) : CMul (x % m) y := by
  have h1 := Int.emod_nonneg x (Int.ne_of_gt hm)
  have h2 := Int.emod_lt_of_pos x hm
  exact .inl ⟨by omega, by omega⟩
theorem PenAt.one {H : Hp} {p q : Addr} {ns : List Int} {i r i' r' : Int} (h : PenAt H p q ns i r) (h0 : 0 ≤ i') : PenAt (upd H p (.lst [.ref q, .int i', .int r'])) p q ns i' r' :=
  ⟨upd_same, by rw [upd_ne h.ne.symm]; exact h.lst, h0, h.ne⟩
theorem PenAt.same {H H' : Hp} {p q : Addr} {ns : List Int} {i r : Int} (h : PenAt H p q ns i r) (s : Same H H') : PenAt H' p q ns i r := ⟨s _ _ h.pen, s _ _ h.lst, h.i0, h.ne⟩
theorem same_new {H : Hp} {a : Addr} {o : HO} (n : H a = none) : Same H (upd H a o) := fun b u h => by rw [upd_ne (ne_of_none h n)]; exact h
theorem dp_ints {K : PySem.W.Frag} {H : Hp} {q : Addr} {ns : List Int} (h : SqL K H q (ns.map V.int)) : Dp K H (.ref q) (.list (ns.map PyData.int)) := by
  refine Dp.lst h ?_
  clear h
  induction ns with
  | nil => exact .nil
  | cons a r ih => exact .cons (.int a) ih
theorem shaped_ints (ns : List Int) : SeqAt.shaped (.list (ns.map PyData.int)) = true := by
  have h1 : ∀ ns : List Int, PyData.canLayAll0 (ns.map PyData.int) = true := fun ns => by
    induction ns with
    | nil => rfl
    | cons a r ih => exact ih
  have h2 : ∀ ns : List Int, PyData.depthAll (ns.map PyData.int) = 0 := fun ns => by
    induction ns with
    | nil => rfl
    | cons a r ih => show max 0 (PyData.depthAll (r.map PyData.int)) = 0; rw [ih]; rfl
  unfold SeqAt.shaped
  show (PyData.canLayAll0 (ns.map PyData.int) && decide (PyData.depthAll (ns.map PyData.int) + 1 ≤ 64)) = true
  rw [h1, h2]
  rfl
/-- an item at a rest -/
theorem at_rest {ns : List Int} {i : Int} (h : ns ≠ []) : ∃ d, atI (ns.map V.int) (i % ((ns.map V.int).length : Int)) = some (.int d) := by
  have hl : 0 < (ns.map V.int).length := by
    rw [List.length_map]
    exact List.length_pos_iff.mpr h
  have h1 := Int.emod_nonneg i (b := ((ns.map V.int).length : Int)) (by omega)
  have h2 := Int.emod_lt_of_pos i (b := ((ns.map V.int).length : Int)) (by omega)
  obtain ⟨j, ej⟩ : ∃ j : Nat, i % ((ns.map V.int).length : Int) = (j : Int) := ⟨(i % ((ns.map V.int).length : Int)).toNat, by omega⟩
  have hj : j < ns.length := by rw [List.length_map] at h2 ej; omega
  exact ⟨ns[j], at_of ej (by rw [List.getElem?_map, List.getElem?_eq_getElem hj]; rfl)⟩
end LB

namespace PySem.HandSPX
open PySem PySem.W
section
variable {prog : Program} {w : World} {A : Around} {E : Value → Shared → Prop} {R : Result → Shared → Prop} {h : Heap} {g : Array GenState} {d : Drawn} {t : Nat} {os : OsState}
variable {nm q : Str} {C N : Addr} {bs bm bmB : List Value} {hdct : Bool} {sn : List Str} {sub : List Value} {ab : Bool} {col : Option Bool} {dd : Option Addr} {k0 k1 k2 k3 k5 : Option Value} {B newId initId : String}
/-- an own class's new exception, whatever the names of what it is given -/
theorem lbx_check {M : Model} (F : ExcBaseFacts B newId initId bmB) (hT : ∀ X : String, bm.contains (.type X) = bmB.contains (.type X)) {rest : List Value} {kw : List (Str × Value)} {Q : Unit → Shared → Prop}
    (hC : h.get? C = some (excClassObj nm q C N bs bm hdct sn sub ab col dd k0 k1 k2 k3 k5 newId)) (hq : Q () ⟨h, g, d, t, os⟩) : wpAny M A (checkBuiltinCall newId ⟨.ref C :: rest, kw⟩) Q E ⟨h, g, d, t, os⟩ := by
  have hcont : (Value.ref C :: bm).contains (.type B) = true := by rw [List.contains_cons, hT, F.hasB, Bool.or_true]
  have hstar := F.noStar
  simp only [checkBuiltinCall, F.newKind, F.newSplit, F.newRow]
  repeat (first | refine wpAny_loadPart_at hC ?_ | (refine wpAny_isSubtype_exc hC ?_; rw [hcont]) | refine wpAny_staticBase_exc hC ?_ | refine wpAny_madeBy_exc hC ?_ | simp only [bne_self_eq_false, Bool.false_eq_true, if_false] | wp_step)
  exact hq
theorem lbx_new (F : ExcBaseFacts B newId initId bmB) (hT : ∀ X : String, bm.contains (.type X) = bmB.contains (.type X)) {rest : List Value} {kw : List (Str × Value)}
    (hC : h.get? C = some (excClassObj nm q C N bs bm hdct sn sub ab col dd k0 k1 k2 k3 k5 newId))
    (hq : R (.ok (.ret (.ref (h.objs.size + 1)))) ⟨(h.push (W.kdv_tup rest)).push (excO C h.objs.size), g, d, t, os⟩) (hrest : rest.length ≤ sizeLine) :
    codeAny (model prog w) A (.builtin newId ⟨.ref C :: rest, kw⟩) R ⟨h, g, d, t, os⟩ := by
  have hends := F.ends
  have hcB : (Value.ref C :: bm).contains (.type B) = true := by rw [List.contains_cons, hT, F.hasB, Bool.or_true]
  have hcA : (Value.ref C :: bm).contains (.type "AttributeError") = false := by rw [List.contains_cons, hT, F.noAttr]; rfl
  have hcN : (Value.ref C :: bm).contains (.type "NameError") = false := by rw [List.contains_cons, hT, F.noName]; rfl
  refine codeAny_builtinAt F.entry ?_
  unfold Builtin.«BaseException.__new__»
  refine wpAt_bind ?_
  show wpAt _ _ _ (stack >>= _) _ _ _
  refine wpAt_bind (wpAt_stack fun p below => wpAt_of_wpAny ?_)
  wp_walk
  refine wpAt_of_wpAny ?_
  rw [F.owner]
  repeat (first | with_reducible refine wpAny_madeHere_exc F.canon hC ?_ | with_reducible refine wpAny_loadPart_at hC ?_ | (with_reducible refine wpAny_isSubtype_exc hC ?_; first | rw [hcB] | rw [hcA] | rw [hcN]) | wp_step)
  show R _ _
  rw [Heap.size_push]
  exact hq
theorem lbx_type_call (F : ExcBaseFacts B newId initId bmB) (hT : ∀ X : String, bm.contains (.type X) = bmB.contains (.type X)) {rest : List Value} {kw : List (Str × Value)} {fI : Addr} {Q : Fin → Shared → Prop}
    (hC : h.get? C = some (excClassObj nm q C N bs bm hdct sn sub ab col dd k0 k1 k2 k3 k5 newId))
    (hi : W.Looks (model prog w) h (typeLookup (.ref C) "__init__") (some (.ref fI))) (hb : ∀ self, W.Looks (model prog w) h (bindSpecial (.ref fI) self) (.ref fI, [self])) (hrest : rest.length ≤ sizeLine)
    (hq : codeAny (model prog w) A (.call (.ref fI) ⟨.ref (h.objs.size + 1) :: rest, kw⟩)
      (fun r s' => match r with | .ok (.ret v) => v = .none ∧ Q (.done (.ret (.ref (h.objs.size + 1)))) s' | .ok _ => False | .error e => E e s')
      ⟨(h.push (W.kdv_tup rest)).push (excO C h.objs.size), g, d, t, os⟩) :
    wpAny (model prog w) A (Builtin.«type.__call__» ⟨.ref C :: rest, kw⟩) Q E ⟨h, g, d, t, os⟩ := by
  repeat (first | with_reducible refine wpAny_loadPart_at hC ?_ | with_reducible refine wpAny_madeBy_exc hC ?_ | wp_step)
  refine codeAny_call_builtin_code (Code.quiet_builtin _ F.quiet) (lbx_check F hT hC ?_)
  refine lbx_new F hT hC ?_ hrest
  show wpAny _ _ _ _ _ _
  have k : ∀ b o, h.get? b = some o → ((h.push (W.kdv_tup rest)).push (excO C h.objs.size)).get? b = some o := fun b o e => Heap.get?_push_of_some _ (Heap.get?_push_of_some _ e)
  have hC₁ := k _ _ hC
  have hget : ((h.push (W.kdv_tup rest)).push (excO C h.objs.size)).get? (h.objs.size + 1) = some (excO C h.objs.size) := by heap_get
  have hcC : (Value.ref C :: bm).contains (.ref C) = true := by simp
  have i1 := hi.keeps k
  have b1 := (hb (.ref (h.objs.size + 1))).keeps k
  unfold isInstance
  repeat (first | with_reducible refine wpAny_loadPart_at hget ?_ | (with_reducible refine wpAny_isSubtype_exc hC₁ ?_; rw [hcC]) | wp_step)
  show wpAny _ _ (typeLookup (.ref C) _) _ _ _
  refine i1.at ?_
  refine wpAny_holding (wpAny_bind (b1.at ?_))
  refine wpAny_bind (wpAny_call (codeAny_mono hq fun r s' z => ?_))
  rcases r with e | (v | _ | _ | _) <;> first | exact z | exact z.elim | skip
  obtain ⟨rfl, z⟩ := z
  first
    | exact wpAny_pure (wpAny_pure z)
    | (wp_walk; exact z)
theorem lbx_call (F : ExcBaseFacts B newId initId bmB) (hT : ∀ X : String, bm.contains (.type X) = bmB.contains (.type X)) {rest : List Value} {kw : List (Str × Value)} {fI : Addr}
    (hC : h.get? C = some (excClassObj nm q C N bs bm hdct sn sub ab col dd k0 k1 k2 k3 k5 newId))
    (hi : W.Looks (model prog w) h (typeLookup (.ref C) "__init__") (some (.ref fI))) (hb : ∀ self, W.Looks (model prog w) h (bindSpecial (.ref fI) self) (.ref fI, [self])) (hrest : rest.length ≤ sizeLine)
    (hq : codeAny (model prog w) (A.under (.builtin "type.__call__" ⟨.ref C :: rest, kw⟩)) (.call (.ref fI) ⟨.ref (h.objs.size + 1) :: rest, kw⟩) (W.InitBack (h.objs.size + 1) R)
      ⟨(h.push (W.kdv_tup rest)).push (excO C h.objs.size), g, d, t, os⟩) :
    codeAny (model prog w) A (.call (.ref C) ⟨rest, kw⟩) R ⟨h, g, d, t, os⟩ := by
  have f1 := tc_lookup
  have f2 := tc_bind (.ref C)
  have hTy : (⟨h, g, d, t, os⟩ : Shared).TypeIs (.ref C) "type" := ⟨_, hC, rfl⟩
  refine codeAny_of_tree ?_
  show wpAny _ _ (callAny (.ref C) _) _ _ _
  repeat (any_goals (first | assumption | with_reducible refine wpAny_loadPart_at hC ?_ | wp_step))
  refine ⟨rfl, ?_⟩
  refine codeAny_call_builtin_at (Code.quiet_builtin _ (by decide +kernel)) entry_typeCall (wpAny_check_type_call_sub hC (lbx_type_call F hT hC hi hb hrest ?_))
  refine codeAny_mono hq fun r s' z => ?_
  rcases r with e | (v | _ | _ | _) <;> exact z
end
end PySem.HandSPX

namespace PySem.W
open PySem Builtin
section
variable {prog : Program} {w : World} {A : Around} {E : Value → Shared → Prop} {s : Shared} {K : Frag} {x D : Addr} {ox : Obj} {od : Option Obj}
theorem lbx_class {Q : Option Value → Shared → Prop} (hga : findIn K (.ref D) "__getattribute__" = some (some (.builtin "BaseException.__getattribute__"))) (hgt : findIn K (.ref D) "__getattr__" = some none) (hsub : subIn K (.ref D) (.type "BaseException") = some true)
    (hdct : hasDictIn K D = true) (ha : findIn K (.ref D) "__class__" = some (some (.builtin "object.__class__")))
    (hn : specialIn K (.builtin "object.__class__") "__get__" = some (some (.builtin "getset_descriptor.__get__"))) (htk : takesIn K (.builtin "object.__class__") = some true) (hm : mroIn K D (.type "object") = some true)
    (X : K.In s.heap) (I : InstAt s.heap x ox D od) (h : Q (some (.ref D)) { s with toks := s.toks + 1 }) : wpAny (model prog w) A (getAttr? (.ref x) "__class__") Q E s := by
  have hf : findObj K D od "__class__" = some (.bind (.builtin "getset_descriptor.__get__") (.builtin "object.__class__")) := by
    have hc : (clsIn K D).isSome = true := by obtain ⟨cd, hc, _⟩ := any_some hdct; rw [hc]; rfl
    cases od with
    | none => exact findObj_dataN hc ha hn htk
    | some _ => exact findObj_data hc ha hn htk
  obtain ⟨hp, g, d, t, os⟩ := s
  have L0 := I.type (M := model prog w)
  have L1 := looks_findIn (M := model prog w) X hga
  have L2 := looks_findIn (M := model prog w) X hgt
  have L3 := looks_find (M := model prog w) X I hf
  have sub : Looks (model prog w) hp (isInstance (.ref x) (.type "BaseException")) true := L0.andThen (looks_subIn X hsub)
  have hx0 : (false && onTheHeap (Value.builtin "BaseException.__getattribute__")) = false := rfl
  have hx2 : (Value.builtin "BaseException.__getattribute__" == Value.builtin "object.__getattribute__") = false := by decide +kernel
  have hx1 : (onTheHeap (Value.ref D) && Value.builtin "BaseException.__getattribute__" == Value.builtin "object.__getattribute__") = false := by rw [hx2]; rfl
  unfold getAttr? getAttrBy? getAttrBy
  refine wpAny_bind (wpAny_mkText (wpAny_bind (wpAny_attempt (wpAny_holding (wpAny_bind (L0.at (wpAny_bind (L1.at ?_))))))))
  show wpAny _ _ (if (onTheHeap (Value.ref D) && Value.builtin "BaseException.__getattribute__" == Value.builtin "object.__getattribute__") = true then _ else _) _ _ _
  rw [hx1, if_neg Bool.false_ne_true]
  unfold getAttrByItsOwn hookBefore
  refine wpAny_bind ?_
  rw [if_pos (show onTheHeap (Value.ref D) = true from rfl)]
  refine L2.at ?_
  refine wpAny_bind (wpAny_attempt (wpAny_holding ?_))
  unfold callGetattribute
  rw [hx0, if_neg Bool.false_ne_true]
  unfold boundAndCalled
  rw [PySem.F.excAttr_ValueError.ga.bind (.ref x)]
  refine wpAny_bind (wpAny_pure ?_)
  show wpAny _ _ (call (.builtin "BaseException.__getattribute__") [.ref x, .str "__class__" t]) _ _ _
  refine wpAny_call (codeAny_call_builtin PySem.F.excAttr_ValueError.ga.plain PySem.F.entry_bexc_ga ?_)
  refine @check_slot (model prog w) _ _ ⟨hp, g, d, t + 1, os⟩ "BaseException.__getattribute__" "BaseException" "__getattribute__" (.ref x) [.str "__class__" t] [] _ (by decide +kernel) (by decide +kernel) sub (PySem.F.args_bexc_ga (.ref x) (.str "__class__" t)) ?_
  unfold Builtin.«object.__getattribute__»
  refine wpAny_bind (wpAny_of_eq (a := ((Value.ref x : Value), [Value.str "__class__" t])) (by first | rfl | (simp only [slotArgs]; rfl)) ?_)
  refine wpAny_bind (wpAny_pure (wpAny_bind (L0.at (wpAny_bind (L3.at ?_)))))
  show wpAny _ _ (holding [Value.builtin "object.__class__"] (call (.builtin "getset_descriptor.__get__") [.builtin "object.__class__", .ref x, .ref D]) >>= ret) _ _ _
  refine wpAny_bind (wpAny_holding (wpAny_call (class_get (s := ⟨hp, g, d, t + 1, os⟩) (ox := ox) (od := od) X I hm ?_)))
  refine wpAny_pure ?_
  show wpAny _ _ (handedOut (.ref D)) _ _ _
  rw [handedOut_of (v := .ref D) rfl]
  first
    | exact wpAny_pure (wpAny_pure h)
    | exact wpAny_pure h
    | exact wpAny_pure (wpAny_bind (wpAny_pure (wpAny_pure h)))
theorem lbx_kit (hga : findIn K (.ref D) "__getattribute__" = some (some (.builtin "BaseException.__getattribute__"))) (hgt : findIn K (.ref D) "__getattr__" = some none) (hsub : subIn K (.ref D) (.type "BaseException") = some true) (hdct : hasDictIn K D = true) (ha : findIn K (.ref D) "__class__" = some (some (.builtin "object.__class__")))
    (hn : specialIn K (.builtin "object.__class__") "__get__" = some (some (.builtin "getset_descriptor.__get__"))) (htk : takesIn K (.builtin "object.__class__") = some true) (hm : mroIn K D (.type "object") = some true) :
    KitX K (.ref x) (.ref D) (fun h => InstAt h x ox D od) where
  ty := fun _ _ _ I => I.type
  it := fun _ _ X _ => by
    obtain ⟨cdD, hcD, _⟩ := any_some hdct
    unfold clsIn at hcD
    split at hcD
    · rename_i c' d' cd' sl' ho
      intro A' Q' E' s' k q
      unfold isType loadHead
      exact wpAny_bind (wpAny_loadPart (k _ _ (X _ _ ho)) (wpAny_pure q))
    · cases hcD
  ne := fun h tp dd its n sl X htp => by
    obtain ⟨cdD, hcD, _⟩ := any_some hdct
    refine Bool.eq_false_iff.mpr fun q => ?_
    have e : D = tp := Value.ref.inj (beq_iff_eq.mp q)
    subst e
    unfold clsIn at hcD
    split at hcD
    · rename_i c' d' cd' sl' ho
      have z := (X _ _ ho).symm.trans htp
      cases z
    · cases hcD
  ca := fun X I k => lbx_class hga hgt hsub hdct ha hn htk hm X I k
end
end PySem.W

namespace PySem.HandSPX
open PySem PySem.W
section
variable {prog : Program} {w : World} {A : Around} {E : Value → Shared → Prop} {R : Result → Shared → Prop} {h : Heap} {g : Array GenState} {d : Drawn} {t : Nat} {os : OsState}
variable {nm q : Str} {C N : Addr} {bs bm bmB : List Value} {hdct : Bool} {sn : List Str} {sub : List Value} {ab : Bool} {col : Option Bool} {dd : Option Addr} {k0 k1 k2 k3 k5 : Option Value} {B newId initId : String}
/-- a class without an __init__ of its own, called with nothing -/
theorem lbx_type_call0 (F : ExcBaseFacts B newId initId bmB) (hT : ∀ X : String, bm.contains (.type X) = bmB.contains (.type X)) {Q : Fin → Shared → Prop}
    (hC : h.get? C = some (excClassObj nm q C N bs bm hdct sn sub ab col dd k0 k1 k2 k3 k5 newId))
    (hi : W.Looks (model prog w) h (typeLookup (.ref C) "__init__") (some (.builtin initId)))
    (hq : ∀ h' t1, (∀ b o, h.get? b = some o → h'.get? b = some o) → h'.get? (h.objs.size + 1) = some (excO C t1) → Q (.done (.ret (.ref (h.objs.size + 1)))) ⟨h', g, d, t, os⟩) :
    wpAny (model prog w) A (Builtin.«type.__call__» ⟨[.ref C], []⟩) Q E ⟨h, g, d, t, os⟩ := by
  repeat (first | with_reducible refine wpAny_loadPart_at hC ?_ | with_reducible refine wpAny_madeBy_exc hC ?_ | wp_step)
  refine codeAny_call_builtin_code (Code.quiet_builtin _ F.quiet) (lbx_check F hT hC ?_)
  refine lbx_new (rest := []) F hT hC ?_ (Nat.zero_le _)
  show wpAny _ _ _ _ _ _
  have k : ∀ b o, h.get? b = some o → ((h.push (W.kdv_tup [])).push (excO C h.objs.size)).get? b = some o := fun b o e => Heap.get?_push_of_some _ (Heap.get?_push_of_some _ e)
  have hC₁ := k _ _ hC
  have hget : ((h.push (W.kdv_tup [])).push (excO C h.objs.size)).get? (h.objs.size + 1) = some (excO C h.objs.size) := by heap_get
  have hcC : (Value.ref C :: bm).contains (.ref C) = true := by simp
  have i1 := hi.keeps k
  have b1 := F.init.bind (.ref (h.objs.size + 1))
  unfold isInstance
  repeat (first | with_reducible refine wpAny_loadPart_at hget ?_ | (with_reducible refine wpAny_isSubtype_exc hC₁ ?_; rw [hcC]) | wp_step)
  show wpAny _ _ (typeLookup (.ref C) _) _ _ _
  refine i1.at ?_
  refine wpAny_holding ?_
  simp only [b1]
  refine wpAny_bind (wpAny_pure ?_)
  have fin : codeAny (model prog w) A (.call (.builtin initId) ⟨[.ref (h.objs.size + 1)], []⟩) (fun r s' => match r with | .ok (.ret v) => v = .none ∧ Q (.done (.ret (.ref (h.objs.size + 1)))) s' | .ok _ => False | .error e => E e s')
      ⟨(h.push (W.kdv_tup [])).push (excO C h.objs.size), g, d, t, os⟩ :=
    init_base (rest := []) F hT hC₁ hget (Nat.zero_le _) fun h' t1 k2 he => ⟨rfl, hq h' t1 (fun b o e => k2 b o (Nat.ne_of_lt (Nat.lt_succ_of_lt (Heap.lt_size e))) (k b o e)) he⟩
  refine wpAny_bind (wpAny_call (codeAny_mono fin fun r s' z => ?_))
  rcases r with e | (v | _ | _ | _) <;> first | exact z | exact z.elim | skip
  obtain ⟨rfl, z⟩ := z
  first
    | exact wpAny_pure (wpAny_pure z)
    | (wp_walk; exact z)
theorem lbx_call0 (F : ExcBaseFacts B newId initId bmB) (hT : ∀ X : String, bm.contains (.type X) = bmB.contains (.type X))
    (hC : h.get? C = some (excClassObj nm q C N bs bm hdct sn sub ab col dd k0 k1 k2 k3 k5 newId))
    (hi : W.Looks (model prog w) h (typeLookup (.ref C) "__init__") (some (.builtin initId)))
    (hq : ∀ h' t1, (∀ b o, h.get? b = some o → h'.get? b = some o) → h'.get? (h.objs.size + 1) = some (excO C t1) → R (.ok (.ret (.ref (h.objs.size + 1)))) ⟨h', g, d, t, os⟩) :
    codeAny (model prog w) A (.call (.ref C) ⟨[], []⟩) R ⟨h, g, d, t, os⟩ := by
  have f1 := tc_lookup
  have f2 := tc_bind (.ref C)
  have hTy : (⟨h, g, d, t, os⟩ : Shared).TypeIs (.ref C) "type" := ⟨_, hC, rfl⟩
  refine codeAny_of_tree ?_
  show wpAny _ _ (callAny (.ref C) _) _ _ _
  repeat (any_goals (first | assumption | with_reducible refine wpAny_loadPart_at hC ?_ | wp_step))
  refine ⟨rfl, ?_⟩
  exact codeAny_call_builtin_at (Code.quiet_builtin _ (by decide +kernel)) entry_typeCall (wpAny_check_type_call_sub hC (lbx_type_call0 F hT hC hi hq))
end
end PySem.HandSPX
namespace LB
open PySem L2 PyProof.Rows
section
variable {X : Cx} {CX : CXT} {x : Str} {C fI : Addr} {k : Nat} {fd : FuncData} {ps ks : List Str} {sp : Sp} {e : Expr} {es : List Expr} {kws : List Keyword} {ta tk : TA} {p pos : Pos}
/-- an own class of errors whose __init__ is a def of the text that keeps sp -/
def HasEx (P : Program) (w : World) (K : PySem.W.Frag) (mg : Str → Option Value) (base : Heap) (CX : CXT) (k : Nat) (C : Addr) (x : Str) (ps : List Str) (sp : Sp) : Prop :=
  ∃ (f : Addr) (fd : FuncData), OexC K C ∧ PySem.W.findIn K (.ref C) "__init__" = some (some (.ref f)) ∧ PySem.W.typeIn K (.ref f) = some (.type "function") ∧ FnOk P w K mg base CX k f fd ps sp ∧ mg x = some (.ref C) ∧
    (∀ us : List Value, us.length = ps.length → bindArgs fd ⟨us, []⟩ = pure (ps.zip us)) ∧ Binds K fd ps []
/-- C(e, ..) as a value -/
def tExV (C : Addr) (sp : Sp) (ta : TA) : TE := fun σ H Q => ta σ H fun vs H1 => vs.length ≤ 1000 ∧ ∀ a, H1 a = none → sp (.ref a :: vs) (upd H1 a (exo a C none)) (fun v H2 => v = .non ∧ Q (.ref a) H2) E0
theorem pe_exv (h : HasEx X.prog X.w X.K X.mg X.base CX0 k C x ps sp) (hr : Room (k + 1) X.A) (ha : PA X (e :: es) ta) (hg : Gl X x := by rfl)
    (hdb : (x == ("__debug__" : Str)) = false := by decide) (he : starEach (e :: es) X.env = (false, eval e X.env) :: starEach es X.env := by rfl) (hpl : (backTo pos (starEach es X.env)).any (·.1) = false := by rfl) :
    PE X (.Call (.Name x p) (e :: es) [] pos) (tExV C sp ta) := by
  obtain ⟨f, fd, T, iC, tI, F1, hm, _, hb⟩ := h
  refine ⟨fun pins s σ H Q I h => ?_⟩
  obtain ⟨nm, q, N, bs, bm, sn, sub, ab, col, dd, k0, k1, k2, k3, k5, hC, hbm⟩ := T.cls
  refine wpAny_Call_Name_kw (ld_glob I hg hm ?_ hdb)
  refine PySem.W.callWith_K (h₀ := X.base) I.ok.mod.kin T.kC (thn (ha.run pos pins s σ H _ I h) fun us s1 ⟨vs, H1, I1, r1, hz, q1⟩ => ⟨I1.kIn, ?_⟩) he hpl
  obtain ⟨hp, g, dr, tk, os⟩ := s1
  have hsz : hp.objs.size ≤ hp.objs.size + 1 := Nat.le_succ _
  have hn : H1 (hp.objs.size + 1) = none := I1.hok.fresh hsz
  have hq := q1 (hp.objs.size + 1) hn
  have kk : ∀ b o, hp.get? b = some o → ((hp.push (PySem.W.kdv_tup us)).push (PySem.HandSPX.excO C hp.objs.size)).get? b = some o := fun b o e => Heap.get?_push_of_some _ (Heap.get?_push_of_some _ e)
  have hget : ((hp.push (PySem.W.kdv_tup us)).push (PySem.HandSPX.excO C hp.objs.size)).get? (hp.objs.size + 1) = some (PySem.HandSPX.excO C hp.objs.size) := by heap_get
  have I2 : Inv X pins σ (upd H1 (hp.objs.size + 1) (exo (hp.objs.size + 1) C none)) ⟨(hp.push (PySem.W.kdv_tup us)).push (PySem.HandSPX.excO C hp.objs.size), g, dr, tk, os⟩ := I1.laid (t' := tk) kk hsz (exo_ok hget)
  have r2 : Vals (V.ref (hp.objs.size + 1) :: vs) (Value.ref (hp.objs.size + 1) :: us) := .cons rfl r1
  have hl : (Value.ref (hp.objs.size + 1) :: us).length = ps.length := by
    rw [← r2.length]
    exact F1.len _ _ _ _ hq
  have hus : us.length ≤ sizeLine := by
    rw [← Paired.length r1, sizeLine_eq]
    omega
  have hb' := hb _ (Value.ref (hp.objs.size + 1) :: us) I2.kIn (by rw [List.append_nil]; exact hl)
  rw [List.append_nil] at hb'
  refine wpAny_call (PySem.HandSPX.lbx_call (kw := []) F.excBase_ValueError (fun Y => PySem.HandSPX.refsVE_contains Y bm hbm) (I1.kIn _ _ hC) (PySem.W.looks_findIn I1.kIn iC) (fun self => PySem.W.bind_fn I1.kIn self tI) hus
    (codeAny_mono (F1.run _ X.stack _ _ ⟨Value.ref (hp.objs.size + 1) :: us, []⟩ (Value.ref (hp.objs.size + 1) :: us) _ _ E0 (hr.make C us []) (I2.env0.make C us []) hb' r2 hq) fun r s' hq' => ?_))
  cases r with
  | error er => exact False.elim hq'
  | ok fl =>
    cases fl with
    | ret u =>
      obtain ⟨v, H', I', rv, ev, q2⟩ := I2.after hq'
      subst ev
      cases rv
      exact ⟨rfl, .ref (hp.objs.size + 1), H', I', rfl, q2⟩
    | next => exact False.elim hq'
    | brk => exact False.elim hq'
    | cont => exact False.elim hq'
/-- how the names that are given stand in the parameters' order -/
def swapIf {α : Type} (b : Bool) : List α → List α
  | [x, y] => if b then [y, x] else [x, y]
  | l => l
theorem swapIf_rel {b : Bool} {zs : List V} {ws : List Value} (r : Vals zs ws) : Vals (swapIf b zs) (swapIf b ws) := by
  cases r with
  | nil => exact .nil
  | cons r1 t =>
    cases t with
    | nil => exact .cons r1 .nil
    | cons r2 t2 =>
      cases t2 with
      | nil => cases b with
        | true => exact .cons r2 (.cons r1 .nil)
        | false => exact .cons r1 (.cons r2 .nil)
      | cons r3 t3 => exact .cons r1 (.cons r2 (.cons r3 t3))
/-- .. and its __init__ takes these names so -/
def HasExK (P : Program) (w : World) (K : PySem.W.Frag) (mg : Str → Option Value) (base : Heap) (CX : CXT) (k : Nat) (C : Addr) (x : Str) (ps ks : List Str) (b : Bool) (sp : Sp) : Prop :=
  ∃ (f : Addr) (fd : FuncData), OexC K C ∧ PySem.W.findIn K (.ref C) "__init__" = some (some (.ref f)) ∧ PySem.W.typeIn K (.ref f) = some (.type "function") ∧ FnOk P w K mg base CX k f fd ps sp ∧ mg x = some (.ref C) ∧
    (∀ (self : Value) (ws : List Value), ws.length = ks.length → bindArgs fd ⟨[self], ks.zip ws⟩ = pure (ps.zip (self :: swapIf b ws)))
def tExVK (C : Addr) (b : Bool) (n : Nat) (sp : Sp) (tk : TA) : TE := fun σ H Q => tk σ H fun zs H1 => zs.length = n ∧ ∀ a, H1 a = none → sp (.ref a :: swapIf b zs) (upd H1 a (exo a C none)) (fun v H2 => v = .non ∧ Q (.ref a) H2) E0
theorem pe_exvK {b : Bool} (h : HasExK X.prog X.w X.K X.mg X.base CX0 k C x ps ks b sp) (hr : Room (k + 1) X.A) (hkw : PK X kws tk) (hg : Gl X x := by rfl) (hall : (backToKw pos (keywordEach kws X.env)).all (·.1.isSome) = true := by rfl) (hks : (backToKw pos (keywordEach kws X.env)).filterMap (·.1) = ks := by rfl)
    (hdb : (x == ("__debug__" : Str)) = false := by decide) (hpl : ((backTo pos (starEach [] X.env)).any (·.1) || (backToKw pos (keywordEach kws X.env)).any (·.1.isNone)) = false := by rfl) :
    PE X (.Call (.Name x p) [] kws pos) (tExVK C b ks.length sp tk) := by
  obtain ⟨f, fd, T, iC, tI, F1, hm, hb⟩ := h
  refine ⟨fun pins s σ H Q I h => ?_⟩
  obtain ⟨nm, q, N, bs, bm, sn, sub, ab, col, dd, k0, k1, k2, k3, k5, hC, hbm⟩ := T.cls
  refine wpAny_Call_Name_kw (ld_glob I hg hm ?_ hdb)
  refine PySem.W.callWith_KW0 (h₀ := X.base) I.ok.mod.kin T.kC hall (thn (hkw.run pos pins s σ H _ I h) fun us s1 ⟨vs, H1, I1, r1, hz, q1⟩ => ⟨I1.kIn, ?_⟩) hpl
  rw [hks]
  obtain ⟨hp, g, dr, tk, os⟩ := s1
  have hsz : hp.objs.size ≤ hp.objs.size + 1 := Nat.le_succ _
  have hn : H1 (hp.objs.size + 1) = none := I1.hok.fresh hsz
  have hq := q1 (hp.objs.size + 1) hn
  have kk : ∀ b o, hp.get? b = some o → ((hp.push (PySem.W.kdv_tup [])).push (PySem.HandSPX.excO C hp.objs.size)).get? b = some o := fun b o e => Heap.get?_push_of_some _ (Heap.get?_push_of_some _ e)
  have hget : ((hp.push (PySem.W.kdv_tup [])).push (PySem.HandSPX.excO C hp.objs.size)).get? (hp.objs.size + 1) = some (PySem.HandSPX.excO C hp.objs.size) := by heap_get
  have I2 : Inv X pins σ (upd H1 (hp.objs.size + 1) (exo (hp.objs.size + 1) C none)) ⟨(hp.push (PySem.W.kdv_tup [])).push (PySem.HandSPX.excO C hp.objs.size), g, dr, tk, os⟩ := I1.laid (t' := tk) kk hsz (exo_ok hget)
  have r2 : Vals (V.ref (hp.objs.size + 1) :: swapIf b vs) (Value.ref (hp.objs.size + 1) :: swapIf b us) := .cons rfl (swapIf_rel r1)
  have hb' := hb (Value.ref (hp.objs.size + 1)) us (by rw [← Paired.length r1]; exact hz)
  refine wpAny_call (PySem.HandSPX.lbx_call (rest := []) (kw := ks.zip us) F.excBase_ValueError (fun Y => PySem.HandSPX.refsVE_contains Y bm hbm) (I1.kIn _ _ hC) (PySem.W.looks_findIn I1.kIn iC) (fun self => PySem.W.bind_fn I1.kIn self tI) (Nat.zero_le _)
    (codeAny_mono (F1.run _ X.stack _ _ ⟨[Value.ref (hp.objs.size + 1)], ks.zip us⟩ (Value.ref (hp.objs.size + 1) :: swapIf b us) _ _ E0 (hr.make C [] (ks.zip us)) (I2.env0.make C [] (ks.zip us)) (.of_eq hb') r2 hq) fun r s' hq' => ?_))
  cases r with
  | error er => exact False.elim hq'
  | ok fl =>
    cases fl with
    | ret u =>
      obtain ⟨v, H', I', rv, ev, q2⟩ := I2.after hq'
      subst ev
      cases rv
      exact ⟨rfl, .ref (hp.objs.size + 1), H', I', rfl, q2⟩
    | next => exact False.elim hq'
    | brk => exact False.elim hq'
    | cont => exact False.elim hq'
/-- a class of errors without an __init__ of its own, called with nothing -/
def HasEx0 (K : PySem.W.Frag) (mg : Str → Option Value) (C : Addr) (x : Str) : Prop :=
  OexC K C ∧ PySem.W.findIn K (.ref C) "__init__" = some (some (.builtin "ValueError.__init__")) ∧ mg x = some (.ref C)
def tExV0 (C : Addr) : TE := fun _ H Q => ∀ a, H a = none → Q (.ref a) (upd H a (exo a C none))
theorem pe_exv0 (h : HasEx0 X.K X.mg C x) (hg : Gl X x := by rfl) (hdb : (x == ("__debug__" : Str)) = false := by decide) : PE X (.Call (.Name x p) [] [] pos) (tExV0 C) := by
  obtain ⟨T, iC, hm⟩ := h
  refine ⟨fun pins s σ H Q I h => ?_⟩
  obtain ⟨nm, q, N, bs, bm, sn, sub, ab, col, dd, k0, k1, k2, k3, k5, hC, hbm⟩ := T.cls
  refine wpAny_Call_Name_kw (ld_glob I hg hm ?_ hdb)
  refine PySem.W.callWith_K0 I.kIn T.kC ?_
  show wpAny _ _ (call (.ref C) []) _ _ _
  obtain ⟨hp, g, dr, tk, os⟩ := s
  have hsz : hp.objs.size ≤ hp.objs.size + 1 := Nat.le_succ _
  refine wpAny_call (PySem.HandSPX.lbx_call0 F.excBase_ValueError (fun Y => PySem.HandSPX.refsVE_contains Y bm hbm) (I.kIn _ _ hC) (PySem.W.looks_findIn I.kIn iC) fun h' t1 k he => ?_)
  exact ⟨.ref (hp.objs.size + 1), _, I.laid (t' := tk) k hsz (exo_ok he), rfl, h _ (I.hok.fresh hsz)⟩
/-! ### isinstance of an error, its fields -/
/-- what is asked of a class of errors -/
structure ExK (K : PySem.W.Frag) (C : Addr) : Prop extends ExcC K C, OexC K C
theorem exo_inst {pins : List (Addr × Obj)} {σ : L2.St} {H : Hp} {s : Shared} {a : Addr} {d : Option Addr} (I : Inv X pins σ H s) (ha : H a = some (exo a C d)) (hd : ∀ dd, d = some dd → ∃ fs, H dd = some (exd dd fs)) :
    ∃ ox od, PySem.W.InstAt s.heap a ox C od := by
  obtain ⟨t1, he⟩ := exo_at I.hok ha
  cases d with
  | none => exact ⟨_, none, he, rfl, rfl, trivial⟩
  | some dd =>
    obtain ⟨fs, hf⟩ := hd dd rfl
    obtain ⟨mA, hns, _⟩ := exd_at I.hok hf
    obtain ⟨od, ho, _⟩ := lookIn_ns hns
    exact ⟨_, some od, he, rfl, rfl, ho⟩
def rIsO (K : PySem.W.Frag) (C : Addr) : List V → Hp → VK → Prop := fun xs H Q => ∃ (a : Addr) (d : Option Addr) (c : V) (cv : Value) (b : Bool), xs = [.ref a, c] ∧ H a = some (exo a C d) ∧ (∀ dd, d = some dd → ∃ fs, H dd = some (exd dd fs)) ∧
  ClsV c cv ∧ PySem.W.kitOne K (.ref C) cv = some b ∧ Q (.bl b) H
theorem call_isO : CallR X (.builtin "isinstance") (fun xs H Q => ∃ C, ExK X.K C ∧ rIsO X.K C xs H Q) := by
  intro pins s σ H xs us Q I r h
  obtain ⟨C, T, a, d, c, cv, b, rfl, ha, hd, hc, e, q⟩ := h
  obtain ⟨u1, u2, rfl, r1, r2⟩ := vals2 r
  cases r1
  have e2 := hc.eq r2
  subst e2
  obtain ⟨ox, od, J⟩ := exo_inst I ha hd
  exact PySem.W.kia_one (PySem.W.lbx_kit T.hg T.hk T.hs T.hd T.ha T.hn T.ht T.hm) I.kIn J e (fun z => nomatch z) fun tk => ⟨.bl b, H, I.tok tk, rfl, q⟩
theorem call_isOT : CallR X (.builtin "isinstance") (fun xs H Q => ∃ (C : Addr) (a : Addr) (d : Option Addr) (tp : Addr) (cs : List V) (ws : List Value) (b : Bool), ExK X.K C ∧ xs = [.ref a, .ref tp] ∧ H a = some (exo a C d) ∧ (∀ dd, d = some dd → ∃ fs, H dd = some (exd dd fs)) ∧
    H tp = some (.tup cs) ∧ Paired ClsV cs ws ∧ PySem.W.kitAny X.K (.ref C) ws = some b ∧ Q (.bl b) H) := by
  intro pins s σ H xs us Q I r h
  obtain ⟨C, a, d, tp, cs, ws, b, T, rfl, ha, hd, hT, k, e, q⟩ := h
  obtain ⟨u1, u2, rfl, r1, r2⟩ := vals2 r
  cases r1
  cases r2
  obtain ⟨ox, od, J⟩ := exo_inst I ha hd
  obtain ⟨_, its, rv, o, h1, h2, n, h3⟩ := (show ObjOk X.prog X.w H s.heap tp (.tup cs) from I.hok tp _ hT)
  have e3 := ClsV.all k rv
  subst e3
  obtain ⟨oc, od', dt, sl⟩ := o
  simp only at h2 h3
  subst h2 h3
  exact PySem.W.kia_tup (PySem.W.lbx_kit T.hg T.hk T.hs T.hd T.ha T.hn T.ht T.hm) I.kIn J h1 e (fun z => nomatch z) fun tk => ⟨.bl b, H, I.tok tk, rfl, q⟩
/-- e.n, e an error -/
def tExF (K : PySem.W.Frag) (n : Str) (te : TE) : TE := fun σ H Q => te σ H fun x H1 => ∃ (a C dd : Addr) (fs : List (Str × V)) (v : V), x = .ref a ∧ ExK K C ∧ PySem.W.findIn K (.ref C) n = some none ∧ H1 a = some (exo a C (some dd)) ∧ H1 dd = some (exd dd fs) ∧ fs.lookup n = some v ∧ Q v H1
theorem pe_exf {n : Str} {o : Expr} {te : TE} (he : PE X o te) (hb : attributeBase o n X.env (eval o X.env) = eval o X.env := by rfl) : PE X (.Attribute o n pos) (tExF X.K n te) := by
  refine ⟨fun pins s σ H Q I h => ?_⟩
  refine attr_of hb (thn (he.run pins s σ H _ I h) fun u s1 hh => ?_)
  obtain ⟨x, H1, I1, rx, a, C, dd, fs, v, ex, T, hno, ha, hf, l, q⟩ := hh
  subst ex
  obtain rfl : u = Value.ref a := rx
  obtain ⟨t1, hee⟩ := exo_at I1.hok ha
  obtain ⟨mA, hns, hr⟩ := exd_at I1.hok hf
  obtain ⟨od, ho, hl⟩ := lookIn_ns hns
  obtain ⟨u, hu, ru⟩ := RelO.some_of (v := v) (o := mA n) (by rw [← l]; exact hr n)
  have J : PySem.W.InstAt s1.heap a _ C (some od) := ⟨hee, rfl, rfl, ho⟩
  exact HandSPX.exc_get I1.kIn J T.hg T.hk T.hs (PySem.W.findObj_own T.hd hno rfl (by rw [hl, hu])) (handed_of ru) ⟨v, H1, I1.tok _, ru, q⟩
end
end LB

namespace LB
open PySem L2 PyProof.Rows
/-! ### values and cells -/
/-- the letters a to z -/
def small : List Nat := (List.range 26).map (· + 97)
/-- two to four different letters a to z -/
structure Good (z : Str) : Prop where
  lo : 2 ≤ z.cps.size
  hi : z.cps.size ≤ 4
  az : ∀ c ∈ z.cps.toList, c ∈ small
  nd : z.cps.toList.Nodup
/-- the letters of a cell: those at the bits of its number -/
def subL (z : Str) (n i : Nat) : List Nat := ((List.range i).filter fun k => n.testBit k).map fun k => z.cps.getD k 0
def cellT (z : Str) (n : Nat) : Str := ⟨(subL z n z.cps.size).toArray⟩
/-- the attributes of a cell, of values -/
def cellF (p : Addr) (n : Int) (t : Str) : List (Str × V) := putF "letters" (.str t) (putF "number" (.int n) (putF "alphabet" (.ref p) []))
def valF (z : Str) (t : Addr) : List (Str × V) := putF "by_number" (.ref t) (putF "letters" (.str z) [])
theorem cellF_let {p : Addr} {n : Int} {t : Str} : (cellF p n t).lookup ("letters" : Str) = some (.str t) := by
  unfold cellF; rw [lookup_putF, if_pos rfl]
theorem cellF_num {p : Addr} {n : Int} {t : Str} : (cellF p n t).lookup ("number" : Str) = some (.int n) := by
  unfold cellF; rw [lookup_putF, if_neg (by decide +kernel), lookup_putF, if_pos rfl]
theorem cellF_alp {p : Addr} {n : Int} {t : Str} : (cellF p n t).lookup ("alphabet" : Str) = some (.ref p) := by
  unfold cellF; rw [lookup_putF, if_neg (by decide +kernel), lookup_putF, if_neg (by decide +kernel), lookup_putF, if_pos rfl]
theorem valF_let {z : Str} {t : Addr} : (valF z t).lookup ("letters" : Str) = some (.str z) := by
  unfold valF; rw [lookup_putF, if_neg (by decide +kernel), lookup_putF, if_pos rfl]
theorem valF_by {z : Str} {t : Addr} : (valF z t).lookup ("by_number" : Str) = some (.ref t) := by
  unfold valF; rw [lookup_putF, if_pos rfl]
theorem cellF_no {p : Addr} {n : Int} {t m : Str} (h1 : ¬ m = "letters") (h2 : ¬ m = "number") (h3 : ¬ m = "alphabet") : (cellF p n t).lookup m = none := by
  unfold cellF; rw [lookup_putF, if_neg h1, lookup_putF, if_neg h2, lookup_putF, if_neg h3]; rfl
theorem valF_no {z m : Str} {t : Addr} (h1 : ¬ m = "by_number") (h2 : ¬ m = "letters") : (valF z t).lookup m = none := by
  unfold valF; rw [lookup_putF, if_neg h1, lookup_putF, if_neg h2]; rfl
/-- a cell at c: of the values at p with the letters z, the one of the number n; CC: the class -/
def CellAt (CC : Addr) (H : Hp) (c p : Addr) (z : Str) (n : Nat) : Prop := ∃ dc, H c = some (.ins CC dc (cellF p n (cellT z n)))
/-- values at p with the letters z, their cells at cs -/
structure ValsAt (CV CC : Addr) (H : Hp) (p : Addr) (z : Str) (cs : List Addr) : Prop where
  ob : ∃ dx t, H p = some (.ins CV dx (valF z t)) ∧ H t = some (.tup (cs.map V.ref))
  good : Good z
  len : cs.length = 2 ^ z.cps.size
  cell : ∀ i c, cs[i]? = some c → CellAt CC H c p z i
theorem CellAt.same {CC : Addr} {H H' : Hp} {c p : Addr} {z : Str} {n : Nat} (h : CellAt CC H c p z n) (s : Same H H') : CellAt CC H' c p z n := let ⟨dc, e⟩ := h; ⟨dc, s _ _ e⟩
theorem ValsAt.same {CV CC : Addr} {H H' : Hp} {p : Addr} {z : Str} {cs : List Addr} (h : ValsAt CV CC H p z cs) (s : Same H H') : ValsAt CV CC H' p z cs :=
  ⟨let ⟨dx, t, e1, e2⟩ := h.ob; ⟨dx, t, s _ _ e1, s _ _ e2⟩, h.good, h.len, fun i c e => (h.cell i c e).same s⟩
theorem subL_succ (z : Str) (n i : Nat) : subL z n (i + 1) = subL z n i ++ (if n.testBit i then [z.cps.getD i 0] else []) := by
  unfold subL
  rw [List.range_succ, List.filter_append, List.map_append]
  congr 1
  by_cases h : n.testBit i = true
  · rw [if_pos h, List.filter_cons, if_pos h]; rfl
  · rw [if_neg h, List.filter_cons, if_neg h]; rfl
theorem subL_len (z : Str) (n i : Nat) : (subL z n i).length ≤ i := by
  unfold subL
  rw [List.length_map]
  exact Nat.le_trans (List.length_filter_le _ _) (by rw [List.length_range]; exact Nat.le_refl _)
/-- the signs of codes -/
def sgs (l : List Nat) : List Str := l.map fun c => (⟨#[c]⟩ : Str)
theorem sgs_append (a b : List Nat) : sgs (a ++ b) = sgs a ++ sgs b := by simp [sgs]
theorem join_sgs (l : List Nat) : Txt.join Str.empty (sgs l) = ⟨l.toArray⟩ := by
  show PySem.Builtin.Str.glued Str.empty (sgs l) = _
  unfold PySem.Builtin.Str.glued
  have go : ∀ (r : List Nat) (acc : Array Nat), (sgs r).foldl (fun acc p => acc ++ (Str.empty : Str).cps ++ p.cps) acc = acc ++ r.toArray := by
    intro r
    induction r with
    | nil => intro acc; simp [sgs]
    | cons c r ih =>
      intro acc
      show (sgs r).foldl _ (acc ++ (#[] : Array Nat) ++ #[c]) = _
      rw [ih, Array.append_empty]
      simp
  congr 1
  cases l with
  | nil => rfl
  | cons c r =>
    show (sgs r).foldl _ #[c] = _
    rw [go]
    simp
/-- a bit of a number, as the program asks it -/
theorem bit_shift (n k : Nat) : Builtin.bitAnd ((n : Int) / 2 ^ ((k : Int)).toNat) 1 = if n.testBit k then 1 else 0 := by
  have e : ((n : Int) / 2 ^ ((k : Int)).toNat) = ((n / 2 ^ k : Nat) : Int) := by
    rw [Int.toNat_natCast]
    exact (Int.natCast_ediv n (2 ^ k)).symm ▸ by simp
  rw [e, PyProof.Rows.bitAnd_pp (Int.natCast_nonneg _) (by omega), Int.toNat_natCast]
  show (((n / 2 ^ k) &&& 1 : Nat) : Int) = _
  rw [Nat.and_one_is_mod]
  have h := Nat.testBit_eq_decide_div_mod_eq (x := n) (i := k)
  by_cases hb : n.testBit k = true
  · rw [if_pos hb]
    rw [hb] at h
    have := of_decide_eq_true h.symm
    rw [this]; rfl
  · rw [if_neg hb]
    have hb' : n.testBit k = false := by simpa using hb
    rw [hb'] at h
    have := of_decide_eq_false h.symm
    have h2 : n / 2 ^ k % 2 = 0 := by omega
    rw [h2]; rfl
end LB

namespace LB
open PySem L2 PyProof.Rows
/-! ### rules inside of a comprehension: what they read is read in the def around it -/
def tTr (K : PySem.W.Frag) (ta : TE) : TT := fun σ H Q => ta σ H fun x H' => ∃ k, TruV K x H' k ∧ Q k H'
section
variable {X : Cx} {s : Shared} {H : Hp} {sc : Scope} {ev : Env} {fp : List Addr} {a b o e : Expr} {ta tb te : TE} {pos : Pos} {f : Str}
theorem pg_tupB {es : List Expr} {k : Nat} {t : TGs} {n : Nat} (hc : (X.blk s H sc ev fp).calm = true) (h : PGs (X.blk s H sc ev fp) es t)
    (hn : (assignEach es (X.blk s H sc ev fp).env).length = n := by rfl) (hst : (assignEach es (X.blk s H sc ev fp).env).findIdx? (·.1) = none := by rfl) : PG (X.blk s H sc ev fp) (.Tuple es k pos) (gTup X.K n t) := pg_tup hc h hn hst
theorem pt_truthB (ha : PE (X.blk s H sc ev fp) a ta) (he : ∀ whole, isTrue a (X.blk s H sc ev fp).env whole = (do let v ← whole; standAt a.pos; holding [v] (truthy v))) :
    PT (X.blk s H sc ev fp) a (tTr X.K ta) := pt_truth ha he
theorem pe_fldB (he : PE (X.blk s H sc ev fp) e ta) (hb : attributeBase e f (X.blk s H sc ev fp).env (eval e (X.blk s H sc ev fp).env) = eval e (X.blk s H sc ev fp).env) : PE (X.blk s H sc ev fp) (.Attribute e f pos) (tFld X.K ta f) := pe_fld he hb
theorem ix_listB : IxR (X.blk s H sc ev fp) (rIxL X.K) := ix_list
theorem ix_tupB : IxR (X.blk s H sc ev fp) (rIxT X.K) := ix_tup
theorem sl_listB : SlR (X.blk s H sc ev fp) (rSlL X.K) := sl_list
theorem call_lenB : CallR (X.blk s H sc ev fp) (.builtin "len") (fun xs H Q => ∃ x n, xs = [x] ∧ LenV X.K x H n ∧ Q (.int n) H) := call_len
theorem call_isiB : CallR (X.blk s H sc ev fp) (.builtin "isinstance") (rIsi X.K) := call_isi
theorem call_isOB : CallR (X.blk s H sc ev fp) (.builtin "isinstance") (fun xs H Q => ∃ C, ExK X.K C ∧ rIsO X.K C xs H Q) := call_isO
theorem op_eqDB (hu : X.A.units + 64 < cLine) : OpR (X.blk s H sc ev fp) (compareOp .Eq) (rEqD X.K) := op_eqD hu
theorem op_neDB (hu : X.A.units + 64 < cLine) : OpR (X.blk s H sc ev fp) (compareOp .NotEq) (rNeD X.K) := op_neD hu
end
end LB

namespace LB
open PySem L2 PyProof.Rows
/-! ### == of lists whose items are the same -/
def DRef : Eqv := fun x y _ => ∃ a, x = .ref a ∧ y = .ref a
theorem eqG_ref {X : Cx} : EqG X 0 DRef := by
  intro A pins s σ H x y u v sb I rx ry d
  obtain ⟨a, rfl, rfl⟩ := d
  cases rx
  cases ry
  exact PySem.SeqAt.EqAt.same _ X.prog X.w X.xe _ ⟨rfl, H, I, Ext.rfl'⟩
def DSm : Eqv := fun x y H => DFlat x y H ∨ DRef x y H
theorem mon_sm : Mon DSm := Mon.or mon_flat fun _ _ _ _ _ d => d
theorem op_eqSm {X : Cx} (hr : Room 1 X.A) : OpR X (compareOp .Eq) (rEqG (DList DSm)) := op_eqG (rcG_list mon_sm (eqG_flat.or eqG_ref)) hr
theorem eqV_refl {x : V} (h : flatV x = true) : eqV x x = true := by
  cases x <;> first | rfl | exact beq_self_eq_true _ | cases h
theorem prs_same {xs : List V} {H : Hp} (h : ∀ x ∈ xs, flatV x = true ∨ ∃ a, x = .ref a) : Prs DSm xs xs H :=
  ⟨rfl, fun i x y h1 h2 => by
    rw [h1] at h2
    cases h2
    rcases h x (List.mem_of_getElem? h1) with f | ⟨a, e⟩
    · exact .inl ⟨f, f, eqV_refl f⟩
    · exact .inr ⟨a, e, e⟩⟩
/-! ### values that may stand in an error -/
theorem TyX.keep {K : PySem.W.Frag} {H H' : Hp} {a : Addr} {t : Value} (h : TyX K H (.ref a) t) (k : ∀ o, H a = some o → H' a = some o) : TyX K H' (.ref a) t := by
  cases h with
  | base b =>
    cases b with
    | lst e => exact .base (.lst (k _ e))
    | frz e => exact .base (.frz (k _ e))
    | tup e => exact .base (.tup (k _ e))
    | dK e => exact .base (.dK (k _ e))
    | dT e => exact .base (.dT (k _ e))
    | ins e cl ha hn htk hm => exact .base (.ins (k _ e) cl ha hn htk hm)
  | set e => exact .set (k _ e)
  | kList e c => exact .kList e c
  | kTuple e c => exact .kTuple e c
  | kDict e c => exact .kDict e c
  | fTuple e => exact .fTuple (k _ e)
  | fDict e => exact .fDict (k _ e)
/-- a value of which it is known whether it is a bool -/
def Tame (K : PySem.W.Frag) (p : Addr) (H : Hp) (x : V) : Prop := (flatV x = true ∨ ∃ a, x = .ref a ∧ a ≠ p) ∧ ∃ t b, TyX K H x t ∧ PySem.W.kitOne K t (.type "bool") = some b
theorem Tame.but {K : PySem.W.Frag} {p : Addr} {H H' : Hp} {x : V} (h : Tame K p H x) (b : But p H H') : Tame K p H' x := by
  obtain ⟨f, t, c, ty, k⟩ := h
  refine ⟨f, t, c, ?_, k⟩
  rcases f with f | ⟨a, rfl, n⟩
  · cases x with
    | non => cases ty with | base b => cases b; exact .base .non
    | bl y => cases ty with | base b => cases b; exact .base (.bl y)
    | int y => cases ty with | base b => cases b; exact .base (.int y)
    | str y => cases ty with | base b => cases b; exact .base (.str y)
    | byt y => cases f
    | flt y => cases f
    | ref y => cases f
    | ty y => cases f
  · exact LB.TyX.keep ty fun o e => b _ _ e n
theorem Tame.flat {K : PySem.W.Frag} {p : Addr} {H : Hp} {x : V} (h : Tame K p H x) : flatV x = true ∨ ∃ a, x = .ref a := h.1.imp id fun ⟨a, e, _⟩ => ⟨a, e⟩
/-! ### errors on the abstract heap -/
/-- an error of the class C at a, with these attributes (the last one first) -/
def ErrAt (H : Hp) (a C : Addr) (fs : List (Str × V)) : Prop := ∃ d, H a = some (exo a C d) ∧ ((d = none ∧ fs = []) ∨ ∃ dd, d = some dd ∧ H dd = some (exd dd fs))
theorem ErrAt.same {H H' : Hp} {a C : Addr} {fs : List (Str × V)} (h : ErrAt H a C fs) (s : Same H H') : ErrAt H' a C fs :=
  let ⟨d, e, k⟩ := h
  ⟨d, s _ _ e, k.imp id fun ⟨dd, e1, e2⟩ => ⟨dd, e1, s _ _ e2⟩⟩
theorem ErrAt.dd {H : Hp} {a C : Addr} {fs : List (Str × V)} (h : ErrAt H a C fs) : ∃ d, H a = some (exo a C d) ∧ ∀ dd, d = some dd → ∃ fs, H dd = some (exd dd fs) :=
  let ⟨d, e, k⟩ := h
  ⟨d, e, fun dd q => by
    rcases k with ⟨e1, _⟩ | ⟨d1, e1, e2⟩
    · rw [e1] at q; cases q
    · rw [e1] at q; cases q; exact ⟨fs, e2⟩⟩
theorem ErrAt.fld {H : Hp} {a C : Addr} {f : Str} {v : V} {fs : List (Str × V)} (h : ErrAt H a C ((f, v) :: fs)) : ∃ dd, H a = some (exo a C (some dd)) ∧ H dd = some (exd dd ((f, v) :: fs)) :=
  let ⟨d, e, k⟩ := h
  k.elim (fun ⟨_, z⟩ => by cases z) fun ⟨dd, e1, e2⟩ => ⟨dd, e1 ▸ e, e2⟩
/-- C.__init__(self, f), C.__init__(self, f, g) -/
def spE1 (C : Addr) (f : Str) : Sp := fun vs H Q _ => ∃ a x, vs = [.ref a, x] ∧ H a = some (exo a C none) ∧ ∀ H', But a H H' → ErrAt H' a C [(f, x)] → Q .non H'
def spE2 (C : Addr) (f g : Str) : Sp := fun vs H Q _ => ∃ a x y, vs = [.ref a, x, y] ∧ H a = some (exo a C none) ∧ ∀ H', But a H H' → ErrAt H' a C [(g, y), (f, x)] → Q .non H'
end LB

namespace LB
open PySem L2 PySem.Spec PyProof.Rows
/-! ### an error that is kept behind the clause that caught it -/
/-- at e: an error of the class at C that has been raised, its dict at d -/
def exr (e C : Addr) (d : Option Addr) : HO := .ext fun h => ∃ (o : Obj) (vs : Array Value), h.get? e = some o ∧ o.cls = .ref C ∧ o.dict = d ∧ o.data = .fields vs
theorem exr_ok {P : Program} {w : World} {H : Hp} {h : Heap} {e C : Addr} {d : Option Addr} {o : Obj} {vs : Array Value} (he : h.get? e = some o) (h1 : o.cls = .ref C) (h2 : o.dict = d) (h3 : o.data = .fields vs) : ObjOk P w H h e (exr e C d) :=
  ⟨⟨o, vs, he, h1, h2, h3⟩, ⟨o, he⟩, fun _ _ z k => let ⟨o', vs', q, r⟩ := z; ⟨o', vs', k _ q, r⟩⟩
theorem exr_at {P : Program} {w : World} {H : Hp} {h : Heap} {e C : Addr} {d : Option Addr} (hok : HOk P w H h) (he : H e = some (exr e C d)) : ∃ (o : Obj) (vs : Array Value), h.get? e = some o ∧ o.cls = .ref C ∧ o.dict = d ∧ o.data = .fields vs := by
  have x : ObjOk P w H h e (.ext fun h => ∃ (o : Obj) (vs : Array Value), h.get? e = some o ∧ o.cls = .ref C ∧ o.dict = d ∧ o.data = .fields vs) := hok e _ he
  exact x.1
section
variable {X : Cx} {pins : List (Addr × Obj)} {σ : L2.St} {H : Hp} {s : Shared}
/-- a pinned error that is newer than the body is tracked -/
theorem track {a C : Addr} {oe : Obj} {d : Option Addr} {vs : Array Value} (I : Inv X ((a, oe) :: pins) σ H s) (hc : oe.cls = .ref C) (hdd : oe.dict = d) (hv : oe.data = .fields vs) (new : X.s_0.heap.get? a = none) (fresh : ∀ p ∈ X.pn ++ pins, p.1 ≠ a) :
    Inv X pins σ (upd H a (exr a C d)) s := by
  obtain ⟨ea, na, nL, nF, _⟩ := I.pin (a, oe) (List.mem_append_right _ List.mem_cons_self)
  have old : ∀ {b o}, X.s_0.heap.get? b = some o → b ≠ a := fun {b o} e z => by rw [z, new] at e; cases e
  have trk : ∀ {b o}, H b = some o → b ≠ a := fun {b o} e => ne_of_none e na
  refine ⟨I.ok, I.os, I.bare, ⟨I.base.keep, I.base.slot, fun b o e n x => ?_, I.base.there, fun b xs e => ?_, fun b o u e => ?_, fun b ps e => ?_⟩, I.loc, I.cell, ?_, fun x c e => ?_, fun p hp => ?_, fun b u e => ?_, I.len⟩
  · rw [upd_ne (old e)]; exact I.base.free b o e n x
  · have q := I.base.tups b xs e
    rw [upd_ne (trk q)]; exact q
  · have q := I.base.frzs b o u e
    rw [upd_ne (trk q)]; exact q
  · obtain ⟨more, q⟩ := I.base.tbls b ps e
    exact ⟨more, by rw [upd_ne (trk q)]; exact q⟩
  · rw [upd_ne nL.symm]; exact I.free
  · have cne : c ≠ a := fun z => by
      obtain ⟨v, q⟩ := I.cell x c e
      subst z
      have q' := q
      rw [Heap.IsCell, ea] at q'
      obtain ⟨o', q1, q2⟩ := q'
      cases q1
      have q3 : oe.data = .cell v := q2
      rw [q3] at hv
      cases hv
    rw [upd_ne cne]; exact I.freeC x c e
  · obtain ⟨q1, q2, q3⟩ := I.pin p (by
      rcases List.mem_append.mp hp with h | h
      · exact List.mem_append_left _ h
      · exact List.mem_append_right _ (List.mem_cons_of_mem _ h))
    exact ⟨q1, by rw [upd_ne (fresh p hp)]; exact q2, q3⟩
  · by_cases hb : b = a
    · subst hb
      rw [upd_same] at e
      cases e
      exact exr_ok ea hc hdd hv
    · rw [upd_ne hb] at e
      exact (I.hok b u e).stay (fun _ _ _ q => q) (fun c q => by rw [upd_ne (trk q)]; exact q) fun c xs q => by rw [upd_ne (trk q)]; exact q
end
/-- what is asked of each error of the body: the clause takes it; behind its suite the error stands at its address -/
def wKp (K : PySem.W.Frag) (c : Value) (i : Nat) (ts : Addr → Value → Option Addr → TS) (D : Ends) : WX := fun cls d σ H => PySem.W.exmOne K cls c = some true ∧ ∃ C, cls = .ref C ∧
  ∀ a, H a = none → ts a cls d { nx := fun σ' H' => D.nx (σ'.set i none) (upd H' a (exr a C d)), rt := fun _ _ => False, bk := fun _ _ => False, ct := fun _ _ => False } (σ.set i (some (.ref a))) H
section
variable {X : Cx} {x n : Str} {c : Value} {i : Nat} {body suite : List Stmt} {b0 : Stmt} {np pos pos' : Pos} {tb : WX → TS} {ts : Addr → Value → Option Addr → TS}
theorem ps_try_keep (hst : X.stack = X.env :: X.outer) (hfrm : X.env.frame = some X.env.locals) (nex : X.ex = []) (nd : X.N.Nodup) (hi : X.N[i]? = some n) (hloc : X.env.kindOf n = some .local) (nm : Names X x c)
    (hbody : ∀ (W : WX) (pn : List (Addr × Obj)) (xe : Value → Shared → Prop), Takes (X.tr pn xe) W → PassesOwn (model X.prog X.w) X.A X.env xe → PSs (X.tr pn xe) body (tb W))
    (hsuite : ∀ (a : Addr) (oe : Obj) (cls : Value) (d : Option Addr) (pn : List (Addr × Obj)), Zc cls d oe → (∃ vs, oe.data = .fields vs) → PSs (X.suite a ((a, oe) :: pn)) (b0 :: suite) (ts a cls d)) :
    PS X (.Try body [.ExceptHandler (some (.Name x np)) (some n) (b0 :: suite) pos'] [] [] pos) (fun D σ H => tb (wKp X.K c i ts D) D σ H) := by
  refine ⟨fun pins s σ H D I hh => wpAny_Try_except ?_⟩
  have stk : X.A.frames = some (X.env :: X.outer) := by rw [I.ok.frames, hst]
  refine wpAny_mono ((hbody (wKp X.K c i ts D) (X.pn ++ pins) _ (fun u s' raised => ?_) PassesOwn.looking).run [] s σ H D (I.toTry _) hh) (fun f s1 r => ?_) (fun e s1 z => z)
  · obtain ⟨a, B, sI, p0, σ', H', cls, d, rfl, Jt, ground, grow, sky, na, os, bare, hex, C, rfl, cont⟩ := raised
    have J : Inv X pins σ' H' sI := Jt.ofTry I.ok
    rw [show (X.tr (X.pn ++ pins) _).stack = X.env :: X.outer from hst] at sky
    refine Sky.land Zc.steady stk hfrm sky fun h3 fl3 g3 => ?_
    have J3 : Inv X pins σ' H' { s' with heap := h3 } := J.landed ground fl3.1 (grow.trans g3) os bare
    obtain ⟨o3, v3, e3, z3, d3⟩ := fl3.there
    have out : ∀ {o : Obj} {vs : Array Value} {h : Heap}, HandSPX.FlyingZ B (X.env :: X.outer) a (Zc (.ref C) d) h → h.get? a = some o → o.data = .fields vs → a ∉ frs (X.env :: X.outer) := fun {o vs h} fl e dd hm => by
      obtain ⟨_, o', e', q⟩ := fl.2.2.1.mem hm
      rw [e] at e'
      cases e'
      exact q _ dd
    have nfr := out fl3 e3 d3
    have nL : a ≠ X.env.locals := fun z => nfr (List.mem_filterMap.mpr ⟨X.env, List.mem_cons_self, by rw [hfrm, z]⟩)
    have nF : a ∉ X.fs := fun hm => by
      obtain ⟨e, he, q⟩ := List.mem_filterMap.mp hm
      exact nfr (List.mem_filterMap.mpr ⟨e, List.mem_cons_of_mem _ he, q⟩)
    -- the error is newer than the state the body left
    have newI : sI.heap.get? a = none := by
      cases e : sI.heap.get? a with
      | none => rfl
      | some o =>
        have := ground a o e (by rw [show (X.tr (X.pn ++ pins) _).stack = X.env :: X.outer from hst]; exact nfr)
        rw [fl3.2.1] at this
        cases this
    have new0 : X.s_0.heap.get? a = none := by
      cases e : X.s_0.heap.get? a with
      | none => rfl
      | some o =>
        by_cases hx : a ∈ X.ex
        · rw [nex] at hx
          cases hx
        · obtain ⟨o', q⟩ := J.base.there a o e hx
          rw [newI] at q
          cases q
    have freshp : ∀ p ∈ X.pn ++ pins, p.1 ≠ a := fun p hp z => by
      have q := (J.pin p hp).1
      rw [z, newI] at q
      cases q
    have S3 := J3.suite e3 d3 na nL nF
    have LT : PySem.W.Looks (model X.prog X.w) h3 (typeOf (.ref a)) (.ref C) := fun A Q E s k q => wpAny_typeOf_ref (k _ _ e3) (by rw [z3.1]; exact q)
    refine wpAny_handleBy_cons (codeAny_handlers_test ?_) (by intro q; cases q)
    have test : ∀ {Q : Value → Shared → Prop} {E : Value → Shared → Prop}, Q c { s' with heap := h3 } → wpAny (model X.prog X.w) (X.A.mark (some (.ref a))) (eval (.Name x np) X.env) Q E { s' with heap := h3 } := fun {Q E} q => by
      obtain ⟨hg, hdb, hm⟩ := nm
      rcases hm with hm | ⟨hm, hv, hnn⟩
      · exact ld_glob (X := X.suite a ((a, o3) :: (X.pn ++ pins))) S3 hg hm q hdb
      · exact ld_blt (X := X.suite a ((a, o3) :: (X.pn ++ pins))) S3 hg hm hv q hnn hdb
    refine test ((PySem.W.exm_one (M := model X.prog X.w) J3.kIn LT hex).here ?_)
    refine codeAny_handlers_suite_as (HandSPX.lands_againZ fl3 fun h4 fl4 g4 => ?_)
    have J4 : Inv X pins σ' H' { s' with heap := h4 } := J.landed ground fl4.1 ((grow.trans g3).trans g4) os bare
    obtain ⟨o4, v4, e4, z4, d4⟩ := fl4.there
    refine store_ok (X := X.suite a ((a, o4) :: (X.pn ++ pins))) (v := .ref a) (J4.suite e4 d4 na nL nF) nd hi (.inl hloc) rfl (fun s5 S5 => ?_) (.inr hloc)
    refine wpAny_mono ((hsuite a o4 (.ref C) d (X.pn ++ pins) z4 ⟨_, d4⟩).run [] s5 _ H' _ S5 (cont a na)) (fun f s6 r => ?_) (fun _ _ z => False.elim z)
    cases f with
    | brk => exact False.elim (let ⟨_, _, _, q⟩ := r; q)
    | cont => exact False.elim (let ⟨_, _, _, q⟩ := r; q)
    | ret u => exact False.elim (let ⟨_, _, _, _, _, q⟩ := r; q)
    | next =>
      obtain ⟨σ6, H6, S6, q6⟩ := r
      have K6 : Inv X ((a, o4) :: pins) σ6 H6 s6 := ⟨I.ok, S6.os, S6.bare, S6.base, S6.loc, S6.cell, S6.free, S6.freeC, fun p hp => S6.pin p (List.mem_append_left _ (by
        rcases List.mem_append.mp hp with h | h
        · exact List.mem_cons_of_mem _ (List.mem_append_left _ h)
        · rcases List.mem_cons.mp h with h | h
          · rw [h]; exact List.mem_cons_self
          · exact List.mem_cons_of_mem _ (List.mem_append_right _ h))), S6.hok, S6.len⟩
      exact gone_ok K6 nd hi hloc fun s7 J7 => ⟨_, _, track J7 z4.1 z4.2 d4 new0 freshp, q6⟩
  · cases f with
    | next =>
      obtain ⟨σ', H', J', q⟩ := r
      exact wpAny_execs_nil ⟨σ', H', J'.ofTry I.ok, q⟩
    | brk =>
      obtain ⟨σ', H', J', q⟩ := r
      exact ⟨σ', H', J'.ofTry I.ok, q⟩
    | cont =>
      obtain ⟨σ', H', J', q⟩ := r
      exact ⟨σ', H', J'.ofTry I.ok, q⟩
    | ret u =>
      obtain ⟨v, σ', H', J', rr, q⟩ := r
      exact ⟨v, σ', H', J'.ofTry I.ok, rr, q⟩
end
section
variable {X : Cx}
/-- a kept error of the class C at a: its attributes fs, none where d is none -/
def KeptAt (H : Hp) (a C : Addr) (d : Option Addr) (fs : List (Str × V)) : Prop := H a = some (exr a C d) ∧ ((d = none ∧ fs = []) ∨ ∃ dd, d = some dd ∧ H dd = some (.xd fs))
theorem KeptAt.same {H H' : Hp} {a C : Addr} {d : Option Addr} {fs : List (Str × V)} (h : KeptAt H a C d fs) (s : Same H H') : KeptAt H' a C d fs := ⟨s _ _ h.1, h.2.imp id fun ⟨dd, e1, e2⟩ => ⟨dd, e1, s _ _ e2⟩⟩
theorem kept_inst {pins : List (Addr × Obj)} {σ : L2.St} {H : Hp} {s : Shared} {a C : Addr} {d : Option Addr} {fs : List (Str × V)} (I : Inv X pins σ H s) (h : KeptAt H a C d fs) : ∃ ox od, PySem.W.InstAt s.heap a ox C od := by
  obtain ⟨o, vs, he, h1, h2, h3⟩ := exr_at I.hok h.1
  have hn : PySem.W.notCls o = true := by unfold PySem.W.notCls; rw [h3]
  rcases h.2 with ⟨rfl, _⟩ | ⟨dd, rfl, hf⟩
  · exact ⟨o, none, he, h1, hn, by rw [h2]; trivial⟩
  · obtain ⟨mA, hns, _⟩ := (show ∃ mA, s.heap.Ns1 dd mA ∧ ∀ f, RelO (fs.lookup f) (mA f) from I.hok dd _ hf)
    obtain ⟨od, ho, _⟩ := lookIn_ns hns
    exact ⟨o, some od, he, h1, hn, by rw [h2]; exact ho⟩
def rIsR (K : PySem.W.Frag) : List V → Hp → VK → Prop := fun xs H Q => ∃ (C a : Addr) (d : Option Addr) (fs : List (Str × V)) (c : V) (cv : Value) (b : Bool), ExK K C ∧ xs = [.ref a, c] ∧ KeptAt H a C d fs ∧ ClsV c cv ∧ PySem.W.kitOne K (.ref C) cv = some b ∧ Q (.bl b) H
theorem call_isR : CallR X (.builtin "isinstance") (rIsR X.K) := by
  intro pins s σ H xs us Q I r h
  obtain ⟨C, a, d, fs, c, cv, b, T, rfl, ha, hc, e, q⟩ := h
  obtain ⟨u1, u2, rfl, r1, r2⟩ := vals2 r
  cases r1
  have e2 := hc.eq r2
  subst e2
  obtain ⟨ox, od, J⟩ := kept_inst I ha
  exact PySem.W.kia_one (PySem.W.lbx_kit T.hg T.hk T.hs T.hd T.ha T.hn T.ht T.hm) I.kIn J e (fun z => nomatch z) fun tk => ⟨.bl b, H, I.tok tk, rfl, q⟩
def rIsRT (K : PySem.W.Frag) : List V → Hp → VK → Prop := fun xs H Q => ∃ (C a : Addr) (d : Option Addr) (fs : List (Str × V)) (tp : Addr) (cs : List V) (ws : List Value) (b : Bool), ExK K C ∧ xs = [.ref a, .ref tp] ∧ KeptAt H a C d fs ∧ H tp = some (.tup cs) ∧ Paired ClsV cs ws ∧ PySem.W.kitAny K (.ref C) ws = some b ∧ Q (.bl b) H
theorem call_isRT : CallR X (.builtin "isinstance") (rIsRT X.K) := by
  intro pins s σ H xs us Q I r h
  obtain ⟨C, a, d, fs, tp, cs, ws, b, T, rfl, ha, hT, k, e, q⟩ := h
  obtain ⟨u1, u2, rfl, r1, r2⟩ := vals2 r
  cases r1
  cases r2
  obtain ⟨ox, od, J⟩ := kept_inst I ha
  obtain ⟨_, its, rv, o, h1, h2, n, h3⟩ := (show ObjOk X.prog X.w H s.heap tp (.tup cs) from I.hok tp _ hT)
  have e3 := ClsV.all k rv
  subst e3
  obtain ⟨oc, od', dt, sl⟩ := o
  simp only at h2 h3
  subst h2 h3
  exact PySem.W.kia_tup (PySem.W.lbx_kit T.hg T.hk T.hs T.hd T.ha T.hn T.ht T.hm) I.kIn J h1 e (fun z => nomatch z) fun tk => ⟨.bl b, H, I.tok tk, rfl, q⟩
/-- e.n, e a kept error -/
def tExR (K : PySem.W.Frag) (n : Str) (te : TE) : TE := fun σ H Q => te σ H fun x H1 => ∃ (a C dd : Addr) (fs : List (Str × V)) (v : V), x = .ref a ∧ ExK K C ∧ PySem.W.findIn K (.ref C) n = some none ∧ H1 a = some (exr a C (some dd)) ∧ H1 dd = some (.xd fs) ∧ fs.lookup n = some v ∧ Q v H1
theorem pe_exr {n : Str} {o : Expr} {te : TE} {pos : Pos} (he : PE X o te) (hb : attributeBase o n X.env (eval o X.env) = eval o X.env := by rfl) : PE X (.Attribute o n pos) (tExR X.K n te) := by
  refine ⟨fun pins s σ H Q I h => ?_⟩
  refine attr_of hb (thn (he.run pins s σ H _ I h) fun u s1 hh => ?_)
  obtain ⟨x, H1, I1, rx, a, C, dd, fs, v, ex, T, hno, ha, hf, l, q⟩ := hh
  subst ex
  obtain rfl : u = Value.ref a := rx
  obtain ⟨o1, vs, hee, h1, h2, h3⟩ := exr_at I1.hok ha
  obtain ⟨mA, hns, hr⟩ := (show ∃ mA, s1.heap.Ns1 dd mA ∧ ∀ f, RelO (fs.lookup f) (mA f) from I1.hok dd _ hf)
  obtain ⟨od, ho, hl⟩ := lookIn_ns hns
  obtain ⟨u, hu, ru⟩ := RelO.some_of (v := v) (o := mA n) (by rw [← l]; exact hr n)
  have hn : PySem.W.notCls o1 = true := by unfold PySem.W.notCls; rw [h3]
  have J : PySem.W.InstAt s1.heap a o1 C (some od) := ⟨hee, h1, hn, by rw [h2]; exact ho⟩
  exact HandSPX.exc_get I1.kIn J T.hg T.hk T.hs (PySem.W.findObj_own T.hd hno rfl (by rw [hl, hu])) (handed_of ru) ⟨v, H1, I1.tok _, ru, q⟩
end
end LB

namespace LB
open PySem L2 PySem.Spec PyProof.Rows
/-! ### calls that may raise, inside of a try or on the way out; raising an own error -/
section
variable {X : Cx} {CX : CXT} {k : Nat} {C : Addr} {ps : List Str} {sp : Sp} {E : L2.St → XK} {x : Str} {p pos : Pos} {e : Expr} {es : List Expr} {t : TA}
theorem pe_fnS (h : HasFn X.prog X.w X.K X.mg X.base CX k x ps sp) (hr : Room k X.A) (hx : ∀ σ, PassesAt CX X σ (E σ)) (ha : PA X (e :: es) t) (hg : Gl X x := by rfl) (hdb : (x == ("__debug__" : Str)) = false := by decide)
    (he : starEach (e :: es) X.env = (false, eval e X.env) :: starEach es X.env := by rfl) (hpl : (backTo pos (starEach es X.env)).any (·.1) = false := by rfl) : PE X (.Call (.Name x p) (e :: es) [] pos) (tCallS sp E t) := by
  obtain ⟨f, fd, F, hm, hk, hb⟩ := h
  exact pe_callS F hr hg hm hk hb hx ha hdb he hpl
/-- C(..) of a class whose __init__ may raise -/
def tMakeS (C : Addr) (sp : Sp) (E : L2.St → XK) (t : TA) : TE := fun σ H Q => t σ H fun vs H1 => ∀ x dx, H1 x = none → H1 dx = none → dx ≠ x → sp (.ref x :: vs) (upd (upd H1 dx (.own x)) x (.ins C dx [])) (fun v H2 => v = .non ∧ Q (.ref x) H2) (E σ)
theorem pe_mkS (h : HasMk X.prog X.w X.K X.mg X.base CX k C x ps sp) (hr : Room (k + 1) X.A) (hx : ∀ σ, PassesAt CX X σ (E σ)) (ha : PA X (e :: es) t) (hg : Gl X x := by rfl) (hdb : (x == ("__debug__" : Str)) = false := by decide)
    (he : starEach (e :: es) X.env = (false, eval e X.env) :: starEach es X.env := by rfl) (hpl : (backTo pos (starEach es X.env)).any (·.1) = false := by rfl) : PE X (.Call (.Name x p) (e :: es) [] pos) (tMakeS C sp E t) := by
  obtain ⟨f, fd, F, M, hm, hb⟩ := h
  refine ⟨fun pins s σ H Q I hw => wpAny_Call_Name_kw (ld_glob I hg hm (PySem.W.callWith_K (h₀ := X.base) I.ok.mod.kin M.kp (thn (ha.run pos pins s σ H _ I hw) fun us s1 ⟨vs, H1, I1, r, q⟩ => ⟨I1.kIn, ?_⟩) he hpl) hdb)⟩
  have n1 := I1.hok.fresh (a := s1.heap.objs.size + 1) (Nat.le_succ _)
  have n0 := I1.hok.fresh (a := s1.heap.objs.size) (Nat.le_refl _)
  have pre := q _ _ n1 n0 (Nat.ne_of_lt (Nat.lt_succ_self _))
  have J := Inv.made (C := C) I1
  have rr : Vals (V.ref (s1.heap.objs.size + 1) :: vs) (Value.ref (s1.heap.objs.size + 1) :: us) := .cons rfl r
  have nn : (Value.ref (s1.heap.objs.size + 1) :: us).length = ps.length := rr.length.symm.trans (F.len _ _ _ _ pre)
  have bb := hb _ (Value.ref (s1.heap.objs.size + 1) :: us) J.kIn (by rw [List.append_nil]; exact nn)
  rw [List.append_nil] at bb
  have go := F.run _ X.stack _ _ ⟨Value.ref (s1.heap.objs.size + 1) :: us, []⟩ (Value.ref (s1.heap.objs.size + 1) :: us) _ _ (E σ) (hr.make C us []) (J.env0.make C us []) bb rr pre
  refine wpAny_call (make_map (f := f) I1.kIn M.makes M.init (beq_iff_eq.mp M.fn) (codeAny_mono go fun o s2 end_ => ?_))
  cases o with
  | error er => exact hx σ pins _ _ er s2 J end_
  | ok fl =>
    cases fl with
    | next => exact False.elim end_
    | brk => exact False.elim end_
    | cont => exact False.elim end_
    | ret u =>
      obtain ⟨v, H3, J3, rv, ev, z⟩ := J.after end_
      subst ev
      exact ⟨rv, V.ref (s1.heap.objs.size + 1), H3, J3, rfl, z⟩
/-- C.__init__(self, f), the error's dict being new -/
def spX1 (C : Addr) (f : Str) : Sp := fun vs H Q _ => ∃ a x, vs = [.ref a, x] ∧ H a = some (exo a C none) ∧ ∀ H' d, But a H H' → H d = none → d ≠ a → H' a = some (exo a C (some d)) → H' d = some (exd d [(f, x)]) → Q .non H'
/-- raise C(e), C's own __init__ keeping spX1: the error's dict and its attribute -/
theorem ps_raise1 {W : WX} {n : Str} (h : HasEx X.prog X.w X.K X.mg X.base CX0 k C x ps (spX1 C n)) (hc : X.calm = true) (tk : Takes X W) (hr : Room (k + 1) X.A) (ha : PA X [e] t) (hm1 : ∀ (σ : L2.St) (H : Hp) (Q R : List V → Hp → Prop), (∀ vs H1, Q vs H1 → R vs H1) → t σ H Q → t σ H R) {ppos : Pos} (hg : Gl X x := by rfl)
    (hdb : (x == ("__debug__" : Str)) = false := by decide) (he : starEach [e] X.env = (false, eval e X.env) :: starEach [] X.env := by rfl) (hpl : (backTo pos (starEach [] X.env)).any (·.1) = false := by rfl) :
    PS X (.Raise (some (.Call (.Name x p) [e] [] pos)) none ppos) (fun _ σ H => t σ H fun vs H1 => ∃ v, vs = [v] ∧ ∀ d H', Same H1 H' → H' d = some (.xd [(n, v)]) → W (.ref C) (some d) σ H') := by
  obtain ⟨f, fd, T, iC, tI, F1, hm, _, hb⟩ := h
  refine ⟨fun pins s σ H D I hw => (ps_raise hc tk (pmk_oex (dvs := []) T iC tI F1 hr hb .nil pass0 hg hm ha hdb he hpl)).run pins s σ H D I (hm1 σ H _ _ (fun vs H1 z => ?_) hw)⟩
  obtain ⟨v, rfl, q⟩ := z
  refine ⟨by show 1 ≤ 1000; decide, fun a na => ⟨a, v, rfl, upd_same, fun H2 d b nd ne ea ed => ⟨rfl, d, _, ea, ed, ?_, ?_⟩⟩⟩
  · rw [upd_ne ne] at nd
    exact nd
  · refine q d _ (fun c o e => ?_) upd_same
    rw [upd_ne ne] at nd
    have n1 : c ≠ a := ne_of_none e na
    rw [upd_ne (ne_of_none e nd), del_ne n1]
    exact b c o (by rw [upd_ne n1]; exact e) n1
end
end LB

namespace LB
open PySem L2 PyProof.Rows
section
variable {X : Cx} {s : Shared} {H : Hp} {sc : Scope} {ev : Env} {fp : List Addr} {o e : Expr} {es : List Expr} {to : TE} {t : TA} {name : Str} {apos cpos : Pos} {T id : String} {r : V → List V → Hp → VK → Prop}
/-- o.name(e, ..) inside of a comprehension -/
theorem pe_bmB (pa : PlainAttrs T) (slot : Slot T name id) (hty : typeOf (.builtin id) = pure (.type "method_descriptor")) (hm : MtR (X.blk s H sc ev fp) id r) (ho : PE (X.blk s H sc ev fp) o to) (ha : PA (X.blk s H sc ev fp) (e :: es) t)
    (h1 : attributeBase o name (X.blk s H sc ev fp).env (eval o (X.blk s H sc ev fp).env) = eval o (X.blk s H sc ev fp).env := by rfl)
    (h2 : ((backTo cpos (starEach (e :: es) (X.blk s H sc ev fp).env)).all (fun x => !x.1) && (backToKw cpos (keywordEach [] (X.blk s H sc ev fp).env)).all (fun x => x.1.isSome) && decide ((e :: es).length + ([] : List Keyword).length + (if ([] : List Keyword).isEmpty then 0 else 1) < 30)) = true := by rfl)
    (h3 : (apos.endLine == cpos.line) = true := by rfl) (h4 : starEach (e :: es) (X.blk s H sc ev fp).env = (false, eval e (X.blk s H sc ev fp).env) :: starEach es (X.blk s H sc ev fp).env := by rfl) (h5 : (backTo cpos (starEach es (X.blk s H sc ev fp).env)).any (·.1) = false := by rfl) :
    PE (X.blk s H sc ev fp) (.Call (.Attribute o name apos) (e :: es) [] cpos) (tBM X.K T r to t) := pe_bm pa slot hty hm ho ha h1 h2 h3 h4 h5
end
end LB

namespace LB
open PySem L2 PyProof.Rows
/-! ### repr of lists, tuples and what they hold; defs that ask it -/
section
variable {X : Cx}
/-- repr(x), x data; nothing else is being shown -/
theorem call_reprD (hg : X.A.guards = some []) (hu : X.A.units + 64 < cLine) : CallR X (.builtin "repr") (fun xs H Q => ∃ (a : Addr) (d : PyData), xs = [.ref a] ∧ Dp X.K H (.ref a) d ∧ d.showable = true ∧ d.hasDict = false ∧ d.depth ≤ 50 ∧ d.shown.length ≤ sizeLine ∧ Q (.str d.shown) H) := by
  intro pins s σ H xs us Q I r h
  obtain ⟨a, d, rfl, dp, hs, hd, hz, hl, q⟩ := h
  obtain ⟨u, rfl, ru⟩ := vals1 r
  cases ru
  obtain ⟨as, rd⟩ := Dp.reads I d _ _ dp rfl
  exact repr_of_reads' rd hs (fun e => by rw [hd] at e; cases e) hg (by omega) (fun _ _ e => e) (fun h' u tk k => ⟨.str d.shown, H, I.kept k, ⟨u, rfl⟩, q⟩) hl
end
/-- what FnOk says, where nothing is being shown around the call -/
structure FnG (P : Program) (w : World) (K : PySem.W.Frag) (mg : Str → Option Value) (base : Heap) (CX : CXT) (k : Nat) (f : Addr) (fd : FuncData) (ps : List Str) (sp : Sp) : Prop where
  size : ∀ vs H Q E, sp vs H Q E → vs.length = ps.length
  goes : ∀ (A : Around) (outer : List Env) (s : Shared) (H : Hp) (args : Args) (us : List Value) (vs : List V) (Q : VK) (E : XK), Room k A → A.guards = some [] → Env0 P w K mg base A outer s H → BindsTo s fd args (ps.zip us) → Vals vs us → sp vs H Q E →
    codeAny (model P w) A (.call (.ref f) args) (CR CX outer P w H s Q E) s
theorem FnG.of {P : Program} {w : World} {K : PySem.W.Frag} {mg : Str → Option Value} {base : Heap} {CX : CXT} {k : Nat} {f : Addr} {fd : FuncData} {ps : List Str} {sp : Sp} (F : FnOk P w K mg base CX k f fd ps sp) : FnG P w K mg base CX k f fd ps sp :=
  ⟨F.len, fun A outer s H args us vs Q E hr _ e b r h => F.run A outer s H args us vs Q E hr e b r h⟩
section
variable {X : Cx} {CX : CXT} {k : Nat} {f : Addr} {fd : FuncData} {ps : List Str} {sp : Sp} {E : XK} {x : Str} {p pos : Pos} {e : Expr} {es : List Expr} {t : TA}
theorem run_fnG {pins : List (Addr × Obj)} {σ : L2.St} {H : Hp} {s : Shared} {Q : VK} {us : List Value} {vs : List V} (F : FnG X.prog X.w X.K X.mg X.base CX k f fd ps sp) (hr : Room k X.A) (hg : X.A.guards = some []) (hb : Binds X.K fd ps []) (hx : Passes CX X E)
    (I : Inv X pins σ H s) (r : Vals vs us) (h : sp vs H Q E) : wpAny (model X.prog X.w) X.A (call (.ref f) us) (EP X pins σ Q) X.xe s := by
  have hl : us.length = ps.length := r.length.symm.trans (F.size _ _ _ _ h)
  have bb := hb s us I.kIn (by rw [List.append_nil]; exact hl)
  rw [List.append_nil] at bb
  refine wpAny_call (codeAny_mono (F.goes X.A X.stack s H ⟨us, []⟩ us vs Q E hr hg I.env0 bb r h) fun o s2 end_ => ?_)
  cases o with
  | error er => exact hx pins σ H s er s2 I end_
  | ok fl =>
    cases fl with
    | ret u => exact I.after end_
    | next => exact False.elim end_
    | brk => exact False.elim end_
    | cont => exact False.elim end_
/-- a def of which FnG is known -/
def HasFnG (P : Program) (w : World) (K : PySem.W.Frag) (mg : Str → Option Value) (base : Heap) (CX : CXT) (k : Nat) (x : Str) (ps : List Str) (sp : Sp) : Prop :=
  ∃ (f : Addr) (fd : FuncData), FnG P w K mg base CX k f fd ps sp ∧ mg x = some (.ref f) ∧ PySem.W.keepIn K (.ref f) = true ∧ Binds K fd ps []
theorem pe_fnG (h : HasFnG X.prog X.w X.K X.mg X.base CX k x ps sp) (hr : Room k X.A) (hgd : X.A.guards = some []) (hx : Passes CX X E) (ha : PA X (e :: es) t) (hg : Gl X x := by rfl) (hdb : (x == ("__debug__" : Str)) = false := by decide)
    (he : starEach (e :: es) X.env = (false, eval e X.env) :: starEach es X.env := by rfl) (hpl : (backTo pos (starEach es X.env)).any (·.1) = false := by rfl) : PE X (.Call (.Name x p) (e :: es) [] pos) (tCall sp [] E t) := by
  obtain ⟨f, fd, F, hm, hk, hb⟩ := h
  refine ⟨fun pins s σ H Q I hw => wpAny_Call_Name_kw (ld_glob I hg hm (PySem.W.callWith_K (h₀ := X.base) I.ok.mod.kin hk (thn (ha.run pos pins s σ H _ I hw) fun us s1 ⟨vs, H1, I1, r, q⟩ => ⟨I1.kIn, ?_⟩) he hpl) hdb)⟩
  exact run_fnG F hr hgd hb hx I1 r (by have q' : sp (vs ++ []) H1 Q E := q; rw [List.append_nil] at q'; exact q')
end
/-- a def as it stands keeps FnG: its body is read with the guards known -/
theorem okG {P : Program} {w : World} {K : PySem.W.Frag} {mg : Str → Option Value} {base : Heap} {x qual : Str} {st : Stmt} {f : Addr} {fd : FuncData} {N ps : List Str} {k : Nat} {sp : Sp} (F : Fun K x qual st f fd) (S : FnScope N ps (defScope st)) (len : ∀ vs H Q E, sp vs H Q E → vs.length = ps.length)
    (hbody : ∀ (cdv : Value) (A : Around) (outer : List Env) (s : Shared) (H : Hp) (vs : List V) (Q : VK) (E : XK), Room k (A.deeper (envOfC qual (defScope st) s.heap.objs.size f cdv)) → A.guards = some [] → sp vs H Q E →
      ∃ t, PSs (cxOf CX0 P w K mg base N qual (defScope st) f cdv A outer s H E).nox (defBody st) t ∧ t { nx := fun _ H' => Q .non H', rt := Q } (start N vs) H) : FnG P w K mg base CX0 (k + 1) f fd ps sp := by
  obtain ⟨oc, od, kV, doc, pm, an, cdv, ct, osl, rfl, lk, hcd⟩ := F.ex
  refine ⟨len, fun A outer s H args us vs Q E hr hg e0 hb r hsp => ?_⟩
  have nn := len _ _ _ _ hsp
  have up : ∀ b o, base.get? b = some o → s.heap.get? b = some o := fun b o e => (e0.bs b o e).1
  have KX : K.In s.heap := e0.mod.kin.keeps up
  refine codeAny_call_function hr.depth (KX _ _ lk) rfl S.co S.gen rfl (PySem.W.codeRec_of KX hcd) (hb _ _ _ _ ?_)
  refine wpAny_newFunctionEnv_cells S.kind (fun y hy => (S.par y.1 (List.of_mem_zip (a := y.1) (b := y.2) hy).1).imp id fun q => ⟨q, PySem.W.cellsFrom_some _ _ _ (.inl q)⟩) fun env he s1 sb => ?_
  subst he
  refine ⟨(e0.mod.nolimit.keeps up).keeps sb.toInCall.keep, codeAny_func ?_⟩
  obtain ⟨t, body, reading⟩ := hbody cdv A outer s H vs Q E (hr.deeper _) hg hsp
  have I := inv_start (CX := CX0) (mg := mg) (E := E) S hr.hd e0 nn r sb
  refine wpAny_mono (body.nox.run [] s1 (start N vs) H _ I reading) (fun fl s2 z => ?_) fun _ _ z => z
  cases fl with
  | brk => exact False.elim (let ⟨_, _, _, q⟩ := z; q)
  | cont => exact False.elim (let ⟨_, _, _, q⟩ := z; q)
  | next =>
    obtain ⟨σ2, H2, J, q⟩ := z
    exact ⟨V.non, H2, J.os, J.bare, J.base, J.hok, rfl, q⟩
  | ret u =>
    obtain ⟨v, σ2, H2, J, rv, q⟩ := z
    exact ⟨v, H2, J.os, J.bare, J.base, J.hok, rv, q⟩
end LB

namespace LB
open PySem L2 PySem.Spec PyProof.Rows
/-! ### the law's head, from a promise whose guards are known -/
/-- the call of the law at a heap H in which at most the script is tracked -/
theorem head_core {P : Program} {w : World} {K : PySem.W.Frag} {mg mb : Str → Option Value} {k : Nat} {fa a : Addr} {fd : FuncData} {x : Str} {sp : Sp} {s1 : Shared} {vs : List Value} {H : Hp}
    (kin : K.In s1.heap) (gl : s1.heap.Ns mainGlobals mg) (bl : s1.heap.Ns builtinsNs mb) (bb : ∀ y : Str, y ≠ "__name__" → mb y = bootBuiltins y) (nolim : s1.heap.NoLimit) (gens : s1.gens = #[]) (room : Room k callerA)
    (script : s1.heap.get? a = some { cls := .type "list", data := .seq vs.toArray })
    (F : ∀ base : Heap, K.In base → base.Ns mainGlobals mg → FnG P w K mg base CX0 k fa fd [x] sp) (binds : ∀ (s : Shared) (u : Value), BindsTo s fd ⟨[u], []⟩ [(x, u)])
    (only : Only H) (promise : sp [.ref a] H (fun v _ => v = .bl true) E0) (ok : HOk P w H s1.heap) (track : ∀ b, H b ≠ none → b = a) (free : H a ≠ none → K.lookup a = none) :
    codeAny (model P w) callerA (.call (.ref fa) ⟨[.ref a], []⟩) (fun r s' => r = .ok (.ret (.bool true)) ∧ OldK s1.heap s'.heap ∧ s'.os = s1.os ∧ AllBare s'.gens) s1 := by
  have un : ∀ {b}, b ≠ a → H b = none := fun {b} n => Classical.byContradiction fun z => n (track b z)
  have hid : ∀ {b o}, s1.heap.get? b = some o → H b = none → (hidT s1.heap H).get? b = some o := fun e n => hidT_get e n
  have ns : ∀ {b : Addr} {m : Str → Option Value}, s1.heap.Ns b m → (hidT s1.heap H).Ns b m := fun {b m} ⟨o, es, ep, e, d, r⟩ =>
    ⟨o, es, ep, hid e (un fun z => by rw [z, script] at e; cases e; cases (show Data.seq vs.toArray _ = Data.dict es ep from d)), d, r⟩
  have kb : K.In (hidT s1.heap H) := fun b o e => hid (kin b o e) (Classical.byContradiction fun z => by
    have eb := track b z
    rw [eb] at z e
    rw [free z] at e
    cases e)
  have md : Mod K mg (hidT s1.heap H) := ⟨kb, ns gl, ⟨mb, ns bl, bb⟩, let ⟨mc, q1, q2⟩ := nolim; ⟨mc, ns q1, q2⟩⟩
  have env : Env0 P w K mg (hidT s1.heap H) callerA [] s1 H := ⟨rfl, md, fun b o e => of_hidT e, Nat.le_of_eq (hidT_size _ _), trivial, fun b hb => (List.not_mem_nil hb).elim, ok, .of_eq gens⟩
  have go := (F _ kb (ns gl)).goes callerA [] s1 H ⟨[.ref a], []⟩ [.ref a] [.ref a] _ _ room rfl env (binds s1 (.ref a)) (.cons rfl .nil) promise
  refine codeAny_mono go fun r s' z => ?_
  match r, z with
  | .error e, z => exact z.elim
  | .ok .next, z => exact False.elim z
  | .ok .brk, z => exact False.elim z
  | .ok .cont, z => exact False.elim z
  | .ok (.ret u), z =>
    obtain ⟨v, H', os, bare, base, ok', rv, rfl⟩ := z
    obtain rfl : u = Value.bool true := rv
    refine ⟨rfl, OldK.of_keep fun b o e => ?_, os, bare⟩
    rcases only b with n | ⟨ob, xs, n⟩
    · exact base.keep b o e n (fun z => List.not_mem_nil z) (by simp)
    · obtain ⟨e1, _⟩ := ok b _ n
      obtain ⟨e2, _⟩ := ok' b _ (base.frzs b ob _ n)
      rw [e] at e1
      cases e1
      exact e2
/-- .. at the heap behind the top: the script is tracked, or it is an object of the module -/
theorem head_call {P : Program} {w : World} {K : PySem.W.Frag} {mg mb : Str → Option Value} {k : Nat} {fa a : Addr} {fd : FuncData} {x : Str} {sp : Sp} {s1 : Shared} {vs : List Value} {ns : List Int}
    (kin : K.In s1.heap) (gl : s1.heap.Ns mainGlobals mg) (bl : s1.heap.Ns builtinsNs mb) (bb : ∀ y : Str, y ≠ "__name__" → mb y = bootBuiltins y) (nolim : s1.heap.NoLimit) (gens : s1.gens = #[]) (room : Room k callerA)
    (script : s1.heap.get? a = some { cls := .type "list", data := .seq vs.toArray }) (are : IntsAre vs ns) (few : ns.length ≤ sizeLine)
    (F : ∀ base : Heap, K.In base → base.Ns mainGlobals mg → FnG P w K mg base CX0 k fa fd [x] sp) (binds : ∀ (s : Shared) (u : Value), BindsTo s fd ⟨[u], []⟩ [(x, u)])
    (promise : ∀ H : Hp, Only H → SqL K H a (ns.map V.int) → sp [.ref a] H (fun v _ => v = .bl true) E0) :
    codeAny (model P w) callerA (.call (.ref fa) ⟨[.ref a], []⟩) (fun r s' => r = .ok (.ret (.bool true)) ∧ OldK s1.heap s'.heap ∧ s'.os = s1.os ∧ AllBare s'.gens) s1 := by
  have rv := vals_ints are
  by_cases hk : K.lookup a = none
  · let H : Hp := fun b => if b = a then some (.frz { cls := .type "list", data := .seq vs.toArray } (.lst (ns.map V.int))) else none
    have at_ : H a = some (.frz { cls := .type "list", data := .seq vs.toArray } (.lst (ns.map V.int))) := if_pos rfl
    have else_ : ∀ {b}, b ≠ a → H b = none := fun n => if_neg n
    have only : Only H := fun b => by
      by_cases e : b = a
      · rw [e]; exact .inr ⟨_, _, at_⟩
      · exact .inl (else_ e)
    refine head_core kin gl bl bb nolim gens room script F binds only (promise H only (.inl (.inr ⟨_, at_⟩))) (fun b u e => ?_) (fun b n => Classical.byContradiction fun z => n (else_ z)) fun _ => hk
    by_cases eb : b = a
    · subst eb
      rw [at_] at e
      cases e
      exact ⟨script, by rw [List.length_map]; exact few, vs, _, rv, script⟩
    · rw [else_ eb] at e
      cases e
  · obtain ⟨o, ho⟩ := Option.ne_none_iff_exists'.mp hk
    have e := kin a o ho
    rw [script] at e
    cases e
    have only : Only fun _ => none := fun _ => .inl rfl
    exact head_core kin gl bl bb nolim gens room script F binds only (promise _ only (.inr ⟨_, vs.toArray, _, ho, rfl, rfl, rfl, by rw [List.size_toArray, are.length]; exact few, by simpa using rv⟩)) (fun b u z => by cases z) (fun b z => absurd rfl z) fun z => absurd rfl z
/-- the goal that k_head leaves, from a promise whose guards are known -/
theorem walk_ofG {l : PySem.W.OpenLaw} {n k : Nat} {q : Program} {loose : List Str} {XP : (Str → Option Value) → Heap → Prop} {YP : World → Heap → Prop} {d : DefRec} {K : Params → PySem.W.Frag} {sp : World → Sp} {x : Str}
    (most : l.most = some n) (few : n ≤ sizeLine) (plain : d.params.defaults = []) (room : Room k callerA) (kin : ∀ (w : World) (h : Heap), YP w h → (K w.params).In h)
    (F : ∀ (w : World) (mg : Str → Option Value) (fa : Addr) (h : Heap), (K w.params).In h → h.Ns mainGlobals mg → mg d.name = some (.ref fa) →
      ∃ fd : FuncData, (∀ (s : Shared) (u : Value), BindsTo s fd ⟨[u], []⟩ [(x, u)]) ∧ ∀ base : Heap, (K w.params).In base → base.Ns mainGlobals mg → FnG l.prog w (K w.params) mg base CX0 k fa fd [x] (sp w))
    (promise : ∀ (w : World) (H : Hp) (a : Addr) (ns : List Int), ns.length ≤ n → Only H → SqL (K w.params) H a (ns.map V.int) → sp w [.ref a] H (fun v _ => v = .bl true) E0) :
    PySem.W.WalkO q loose XP YP l.row.toRowW d [] (fun f vs => PySem.call f vs) :=
  Att.attach_call most plain fun w s0 s1 mg mb fa o pm cd doc a vs ns G Y ho hd hcd hmg hobj hints hlen hg => by
    obtain ⟨fd, hb, hF⟩ := F w mg fa _ (kin w _ Y) G.T.g hmg
    exact head_call (kin w _ Y) G.T.g G.T.b G.T.builtins G.T.nolimit hg room hobj hints (Nat.le_trans hlen few) hF hb fun H hO hS => promise w H a ns hlen hO hS
end LB

namespace LB
open PySem L2 PySem.Spec PyProof.Rows
/-! ### what k01 and k04 still ask -/
theorem passC {X : Cx} : Passes (L2.CX X.prog X.w) X E0 := fun _ _ _ _ _ _ _ h => let ⟨_, _, _, _, _, _, _, _, _, _, _, _, e⟩ := h; e.elim
section
variable {X : Cx}
/-- repr of a bool -/
theorem call_repr_bl : CallR X (.builtin "repr") (fun xs H Q => ∃ b : Bool, xs = [.bl b] ∧ Q (.str (if b then "True" else "False")) H) := by
  intro pins s σ H xs us Q I r h
  obtain ⟨b, rfl, q⟩ := h
  obtain ⟨u, rfl, ru⟩ := vals1 r
  cases ru
  exact PySem.P.repr_of_bool ⟨.str _, H, I.tok _, ⟨_, rfl⟩, q⟩
/-- an instance with its own == against a text or None -/
theorem op_eqOwnX {CX : CXT} {k : Nat} {f C : Addr} {fd : FuncData} {ps : List Str} {sp : Sp} {E : XK} (F : FnOk X.prog X.w X.K X.mg X.base CX k f fd ps sp) (hr : Room k X.A) (hb : Binds X.K fd ps []) (hx : Passes CX X E) (ho : Own X.K C f "__eq__")
    (ns : PySem.W.notFirst X.K C (.type "str") = true) (nn : PySem.W.notFirst X.K C (.type "NoneType") = true) :
    OpR X (compareOp .Eq) (fun x y H Q => ∃ a dx fs, x = .ref a ∧ H a = some (.ins C dx fs) ∧ ((∃ z, y = .str z) ∨ y = .non) ∧ sp [x, y] H Q E) := by
  intro pins s σ H x y v u Q I rx ry hq
  obtain ⟨a, dx, fs, rfl, ha, hy, h⟩ := hq
  cases rx
  obtain ⟨od, J⟩ := inst_of I ha
  obtain ⟨m, hF⟩ := I.fr
  show wpAny (model X.prog X.w) X.A (richCompare .Eq (.ref a) u) (EP X pins σ Q) X.xe s
  rcases hy with ⟨z, rfl⟩ | rfl
  · obtain ⟨t, rfl⟩ := ry
    refine PySem.W.cmp_K (op := .Eq) (tb := .type "str") hr.units0 hF I.ok.mod.kin J (PySem.W.Looks.of_pure rfl) ns ho.at_ ho.fn (thn ?_ fun _ _ z => cmpBack_of z)
    exact run_fn (us := [.ref a, .str z t]) (vs := [.ref a, .str z]) (dvs := []) (ds := []) F hr hb .nil hx I (.cons rfl (.cons ⟨t, rfl⟩ .nil)) h
  · cases ry
    refine PySem.W.cmp_K (op := .Eq) (tb := .type "NoneType") hr.units0 hF I.ok.mod.kin J (PySem.W.Looks.of_pure rfl) nn ho.at_ ho.fn (thn ?_ fun _ _ z => cmpBack_of z)
    exact run_fn (us := [.ref a, .none]) (vs := [.ref a, .non]) (dvs := []) (ds := []) F hr hb .nil hx I (.cons rfl (.cons rfl .nil)) h
/-- (x,) != (x,), x a scalar or an object -/
theorem op_neT1 (hu : X.A.units + 64 < cLine) : OpR X (compareOp .NotEq) (fun x y H Q => ∃ a b z, x = .ref a ∧ y = .ref b ∧ SqT X.K H a [z] ∧ SqT X.K H b [z] ∧ (flatV z = true ∨ ∃ c, z = .ref c) ∧ Q (.bl false) H) := by
  intro pins s σ H x y v u Q I rx ry hq
  obtain ⟨a, b, z, rfl, rfl, ha, hb, hz, q⟩ := hq
  cases rx
  cases ry
  obtain ⟨its, r, e, _⟩ := I.tuple ha
  obtain ⟨its2, r2, e2, _⟩ := I.tuple hb
  obtain ⟨u1, rfl, ru1⟩ := vals1 r
  obtain ⟨u2, rfl, ru2⟩ := vals1 r2
  have he : SeqAt.EqAt X.A.in1 s u1 u2 true := by
    rcases hz with f | ⟨c, rfl⟩
    · have := eqAt_V (A := X.A.in1) (s := s) ru1 ru2 f f
      rw [eqV_refl f] at this
      exact this
    · cases ru1
      cases ru2
      exact SeqAt.EqAt.same _
  refine SeqAt.RcNeAt.tuples e e2 (by omega) (e := fun _ => true) (fun j h1 h2 => ?_) X.prog X.w X.xe _ ?_
  · have : j = 0 := by
      have : j < 1 := h1
      omega
    subst this
    exact he
  · exact ⟨.bl false, H, I, rfl, q⟩
end
/-- a class whose __init__ keeps a promise, made with keywords alone -/
def HasMkK (P : Program) (w : World) (K : PySem.W.Frag) (mg : Str → Option Value) (base : Heap) (CX : CXT) (k : Nat) (C : Addr) (x : Str) (ps ks : List Str) (g : List Value → List Value → List Value) (gV : List V → List V → List V) (sp : Sp) : Prop :=
  ∃ (f : Addr) (fd : FuncData), FnOk P w K mg base CX k f fd ps sp ∧ Mk K C f ∧ mg x = some (.ref C) ∧ KBn K fd ps 1 ks g gV
section
variable {X : Cx} {CX : CXT} {k : Nat} {C : Addr} {ps ks : List Str} {sp : Sp} {E : XK} {x : Str} {p pos : Pos} {kws : List Keyword} {tk : TA} {g : List Value → List Value → List Value} {gV : List V → List V → List V}
theorem pe_mkK0 (h : HasMkK X.prog X.w X.K X.mg X.base CX k C x ps ks g gV sp) (hr : Room (k + 1) X.A) (hx : Passes CX X E) (hkw : PK X kws tk) (hg : Gl X x := by rfl)
    (hall : (backToKw pos (keywordEach kws X.env)).all (·.1.isSome) = true := by rfl) (hks : (backToKw pos (keywordEach kws X.env)).filterMap (·.1) = ks := by rfl) (hdb : (x == ("__debug__" : Str)) = false := by decide)
    (hpl : ((backTo pos (starEach [] X.env)).any (·.1) || (backToKw pos (keywordEach kws X.env)).any (·.1.isNone)) = false := by rfl) :
    PE X (.Call (.Name x p) [] kws pos) (tMakeK C 0 ks.length sp gV E tNil tk) := by
  obtain ⟨f, fd, F, M, hm, hb⟩ := h
  exact pe_makeK0 M F hr hg hm hb hx hkw hall hks hdb hpl
end
/-! ### text[::-1] -/
def revS (z : Str) : Str := ⟨z.cps.toList.reverse.toArray⟩
theorem rev_indices (n : Nat) : Builtin.Str.strSliceIndices none none (-1) n = (List.range n).reverse := by
  show PySem.sliceRange ((n : Int) - 1) (-1) (-1) = _
  rw [PySem.W.krv_sliceRange, PySem.W.krv_range]
theorem rev_pick (z : Str) : (⟨((Builtin.Str.strSliceIndices none none (-1) z.length).filterMap (z.cps[·]?)).toArray⟩ : Str) = revS z := by
  unfold revS
  show (⟨((Builtin.Str.strSliceIndices none none (-1) z.cps.size).filterMap (z.cps[·]?)).toArray⟩ : Str) = _
  rw [rev_indices, List.filterMap_reverse, PySem.W.krv_all]
def tRevS (te : TE) : TE := fun σ H Q => te σ H fun x H1 => ∃ z : Str, x = .str z ∧ z.length ≤ sizeLine ∧ Q (.str (revS z)) H1
theorem pe_revS {X : Cx} {e : Expr} {te : TE} {k : Nat} {p1 p2 p3 pos : Pos} (he : PE X e te) : PE X (.Subscript e (.Slice none none (some (.UnaryOp .USub (.Constant (.int 1) k p1) p2)) p3) pos) (tRevS te) := by
  refine ⟨fun pins s σ H Q I h => ?_⟩
  refine Subscript_ (thn (he.run pins s σ H _ I h) fun v s1 ⟨x, H1, I1, r1, q1⟩ => ?_)
  obtain ⟨z, ex, hz, q⟩ := q1
  subst ex
  obtain ⟨tz, rfl⟩ := r1
  have hst : PO X (some (.UnaryOp .USub (.Constant (.int 1) k p1) p2)) (tPart (tUn (rU fun i => .int (-i)) (tC (.int 1)))) := po_some (pe_un un_neg pe_int)
  refine wpAny_Slice (thn (po_none.run pins s1 σ H1 (fun o H2 => o = none ∧ H2 = H1) I1 ⟨rfl, rfl⟩) fun vl s2 ⟨l, H2, I2, pl, el, e2⟩ => ?_)
  subst el e2
  refine thn (po_none.run pins s2 σ H2 (fun o H3 => o = none ∧ H3 = H2) I2 ⟨rfl, rfl⟩) fun vu s3 ⟨u, H3, I3, pu, eu, e3⟩ => ?_
  subst eu e3
  refine thn (hst.run pins s3 σ H3 (fun o H4 => o = some (-1) ∧ H4 = H3) I3 ⟨1, rfl, -1, rfl, rfl, rfl⟩) fun vs s4 ⟨o, H4, I4, ps, eo, e4⟩ => ?_
  subst eo e4
  have I5 : Inv X pins σ H4 { s4 with heap := s4.heap.push { cls := .type "slice", data := .fields #[vl, vu, vs] } } := I4.kept (t' := s4.toks) fun b ob q => Heap.get?_push_of_some _ q
  obtain ⟨l, rfl, hl⟩ := IsPart.raw pl
  obtain ⟨u, rfl, hu⟩ := IsPart.raw pu
  obtain ⟨st, rfl, hs⟩ := IsPart.raw ps
  obtain ⟨ts, rfl⟩ : ∃ ts, st = some (-1, ts) := by
    rcases st with _ | ⟨i, ts⟩
    · cases hs
    · obtain rfl : i = -1 := by injection hs
      exact ⟨ts, rfl⟩
  have el : l = none := by cases l <;> first | rfl | cases hl
  have eu : u = none := by cases u <;> first | rfl | cases hu
  subst el eu
  show wpAny (model X.prog X.w) X.A (subscriptTail e (.Slice none none (some (.UnaryOp .USub (.Constant (.int 1) k p1) p2)) p3) (.str z tz) (.ref s4.heap.objs.size)) (EP X pins σ Q) X.xe _
  refine tail_any (ops := [.str z tz, .ref s4.heap.objs.size]) (typeIs_str _ _ _) (F.slot_str_getitem.lookup) ?_ (by with_unfolding_all rfl)
  refine wpAny_getItem_str_slice (l := none) (u := none) (st := some (-1, ts)) ⟨_, Heap.get?_push_size _ rfl, rfl, rfl⟩ rfl ?_
  show Made.post (if ((-1 : Int) == 1 && (Builtin.Str.strSliceIndices none none (-1) z.length).length == z.length) = true then Made.val (.str z tz)
    else Made.str ⟨((Builtin.Str.strSliceIndices none none (-1) z.length).filterMap (z.cps[·]?)).toArray⟩) (EP X pins σ Q) _
  rw [if_neg (by simp), rev_pick]
  refine ⟨?_, .str _, H4, I5.tok _, ⟨_, rfl⟩, q⟩
  show (z.cps.toList.reverse.toArray).size ≤ sizeLine
  have : z.cps.size ≤ sizeLine := hz
  simpa using this
end LB

namespace LB
open PySem L2 PySem.Spec PyProof.Rows
/-! ### own methods under special names, from HasMe -/
section
variable {X : Cx} {CX : CXT} {k : Nat} {C : Addr} {ps : List Str} {sp : Sp} {E : XK}
theorem call_lenMe (h : HasMe X.prog X.w X.K X.mg X.base CX k C "__len__" ps sp) (hr : Room (k + 1) X.A) (hx : Passes CX X E) :
    CallR X (.builtin "len") (fun xs H Q => ∃ a dx fs, xs = [.ref a] ∧ H a = some (.ins C dx fs) ∧ sp xs H (fun z H' => ∃ n : Int, z = .int n ∧ 0 ≤ n ∧ n < 2 ^ 63 ∧ Q (.int n) H') E) := by
  obtain ⟨f, fd, F, O, _, hb⟩ := h
  exact call_lenOwn F hr hb hx O
theorem op_inMe (h : HasMe X.prog X.w X.K X.mg X.base CX k C "__contains__" ps sp) (hr : Room k X.A) (hx : Passes CX X E) : OpR X (compareOp .In) (rIn C sp E id) := by
  obtain ⟨f, fd, F, O, _, hb⟩ := h
  exact op_inOwn F hr hb hx O
theorem op_notInMe (h : HasMe X.prog X.w X.K X.mg X.base CX k C "__contains__" ps sp) (hr : Room k X.A) (hx : Passes CX X E) : OpR X (compareOp .NotIn) (rIn C sp E not) := by
  obtain ⟨f, fd, F, O, _, hb⟩ := h
  exact op_notInOwn F hr hb hx O
theorem op_eqMe (h : HasMe X.prog X.w X.K X.mg X.base CX k C "__eq__" ps sp) (hr : Room k X.A) (hx : Passes CX X E) : OpR X (compareOp .Eq) (rOwn2 C C sp E) := by
  obtain ⟨f, fd, F, O, _, hb⟩ := h
  exact op_eqOwn F hr hb hx O
theorem op_eqMeX (h : HasMe X.prog X.w X.K X.mg X.base CX k C "__eq__" ps sp) (hr : Room k X.A) (hx : Passes CX X E) (ns : PySem.W.notFirst X.K C (.type "str") = true) (nn : PySem.W.notFirst X.K C (.type "NoneType") = true) :
    OpR X (compareOp .Eq) (fun x y H Q => ∃ a dx fs, x = .ref a ∧ H a = some (.ins C dx fs) ∧ ((∃ z, y = .str z) ∨ y = .non) ∧ sp [x, y] H Q E) := by
  obtain ⟨f, fd, F, O, _, hb⟩ := h
  exact op_eqOwnX F hr hb hx O ns nn
theorem op_neMe (h : HasMe X.prog X.w X.K X.mg X.base CX k C "__eq__" ps sp) (hr : Room (k + 1) X.A) (hx : Passes CX X E) (hn : NeOwn X.K C) :
    OpR X (compareOp .NotEq) (fun x y H Q => ∃ a b dx dy fs gs, x = .ref a ∧ y = .ref b ∧ H a = some (.ins C dx fs) ∧ H b = some (.ins C dy gs) ∧ sp [x, y] H (fun z H' => ∃ c, z = .bl c ∧ Q (.bl (!c)) H') E) := by
  obtain ⟨f, fd, F, O, _, hb⟩ := h
  exact op_neOwn F hr hb hx O hn
end
/-- for over a text -/
theorem for_str {x : Str} {g : TG} {tb : TS} {D : Ends} {σ : L2.St} {H : Hp} (Pv : Nat → L2.St → Hp → Prop) (h0 : Pv 0 σ H)
    (hs : ∀ (i : Nat) (c : Nat) σ H, x.cps[i]? = some c → Pv i σ H → g (.str ⟨#[c]⟩) σ H fun σ2 H2 => tb { D with nx := Pv (i + 1), ct := Pv (i + 1), bk := D.nx } σ2 H2) (hd : ∀ σ H, Pv x.cps.size σ H → D.nx σ H) :
    ∃ W : Nat → Nat → L2.St → Hp → Prop, (∃ m, W 0 m σ H) ∧ ∀ i m σ H, W i m σ H →
      ((Its x).stop i H ∧ D.nx σ H) ∨ ((Its x).go i H ∧ ∃ N : L2.St → Hp → Prop, (∀ σ' H', N σ' H' → ∃ m', m' < m ∧ W (i + 1) m' σ' H') ∧ ∀ v H', (Its x).yld i H v H' → g v σ H' fun σ2 H2 => tb { D with nx := N, ct := N, bk := D.nx } σ2 H2) := by
  refine ⟨fun i m σ H => m = x.cps.size - i ∧ i ≤ x.cps.size ∧ Pv i σ H, ⟨x.cps.size, by simp, Nat.zero_le _, h0⟩, ?_⟩
  rintro i m σ H ⟨rfl, hi, p⟩
  by_cases hlt : i < x.cps.size
  · refine .inr ⟨hlt, Pv (i + 1), fun σ' H' p' => ⟨x.cps.size - (i + 1), by omega, rfl, hlt, p'⟩, fun v H' y => ?_⟩
    obtain ⟨e, c, hc, ev⟩ := y
    subst e ev
    exact hs i c σ _ hc p
  · have e : i = x.cps.size := by omega
    subst e
    exact .inl ⟨Nat.le_refl _, hd σ H p⟩
/-! ### how long a repr is -/
theorem repr_len {z : Str} (h : PyData.strOk z = true) : (reprText z).length ≤ 10 * z.length + 2 := StrLaws.reprText_len z fun c hc => by
  unfold PyData.strOk at h
  rw [← Array.all_toList, List.all_eq_true] at h
  have := h c hc
  have : c < 1114112 := by simpa using this
  exact Nat.lt_of_lt_of_le this (by decide)
theorem dig1_len (n : Nat) (h : n < 10) : ((toString (n : Int) : String) : Str).length = 1 := by
  match n, h with
  | 0, _ => rfl
  | 1, _ => rfl
  | 2, _ => rfl
  | 3, _ => rfl
  | 4, _ => rfl
  | 5, _ => rfl
  | 6, _ => rfl
  | 7, _ => rfl
  | 8, _ => rfl
  | 9, _ => rfl
end LB

namespace LB
open PySem L2 PySem.Spec PyProof.Rows
/-! ### from facts of the written part to what the defs promise -/
def FnX (K : PySem.W.Frag) (f : Addr) (x qual : Str) (st : Stmt) : Prop := (∃ (oc : Value) (od : Option Addr) (kV dc pm : Value) (an : Option Addr) (cd ct : Value) (sl : Array (Option Value)),
  K.lookup f = some ⟨oc, od, .func (PySem.W.fnOf x qual (defArgs st) (defBody st) (defScope st) .none kV dc pm an cd ct), sl⟩ ∧ PySem.W.codeIn K cd qual = true) ∧ PySem.W.keepIn K (.ref f) = true
theorem FnX.mk {K : PySem.W.Frag} {f : Addr} {x qual : Str} {st : Stmt} {oc : Value} {od : Option Addr} {kV dc pm : Value} {an : Option Addr} {cd ct : Value} {sl : Array (Option Value)}
    (l : K.lookup f = some ⟨oc, od, .func (PySem.W.fnOf x qual (defArgs st) (defBody st) (defScope st) .none kV dc pm an cd ct), sl⟩) (c : PySem.W.codeIn K cd qual = true) (k : PySem.W.keepIn K (.ref f) = true) : FnX K f x qual st := ⟨⟨_, _, _, _, _, _, _, _, _, l, c⟩, k⟩
def MostX (K : PySem.W.Frag) (CV : Addr) : Prop := ∃ t, PySem.W.findCls K (.ref CV) (.type "type") "MOST" = some (.val (.int 4 t))
theorem MostX.mk {K : PySem.W.Frag} {CV : Addr} {t : Tok} (h : PySem.W.findCls K (.ref CV) (.type "type") "MOST" = some (.val (.int 4 t))) : MostX K CV := ⟨t, h⟩
def TextX (K : PySem.W.Frag) (n z0 : Str) : Prop := ∃ z t, PySem.W.nsIn K mainGlobals n = some (some (.str z t)) ∧ z = z0
theorem TextX.mk {K : PySem.W.Frag} {n z0 z : Str} {t : Tok} (h : PySem.W.nsIn K mainGlobals n = some (some (.str z t))) (e : z = z0) : TextX K n z0 := ⟨z, t, h, e⟩
def RecX (K : PySem.W.Frag) (p g : Addr) : Prop := ∃ rest, PySem.W.recIn K p "property" = some (.ref g :: rest)
theorem RecX.mk {K : PySem.W.Frag} {p g : Addr} {rest : List Value} (h : PySem.W.recIn K p "property" = some (.ref g :: rest)) : RecX K p g := ⟨rest, h⟩
theorem ExX.mk {K : PySem.W.Frag} {C : Addr} {nm q : Str} {N : Addr} {bs bm : List Value} {sn : List Str} {sub : List Value} {ab : Bool} {col : Option Bool} {dd : Option Addr} {k0 k1 k2 k3 k5 : Option Value}
    (hg : PySem.W.findIn K (.ref C) "__getattribute__" = some (some (.builtin "BaseException.__getattribute__")))
    (hk : PySem.W.findIn K (.ref C) "__getattr__" = some none)
    (hs : PySem.W.subIn K (.ref C) (.type "BaseException") = some true)
    (hd : PySem.W.hasDictIn K C = true)
    (ha : PySem.W.findIn K (.ref C) "__class__" = some (some (.builtin "object.__class__")))
    (hn : PySem.W.specialIn K (.builtin "object.__class__") "__get__" = some (some (.builtin "getset_descriptor.__get__")))
    (ht : PySem.W.takesIn K (.builtin "object.__class__") = some true)
    (hm : PySem.W.mroIn K C (.type "object") = some true)
    (x1 : K.lookup C = some (excClassObj nm q C N bs bm true sn sub ab col dd k0 k1 k2 k3 k5 "ValueError.__new__")) (x2 : PySem.HandSPX.refsVE bm = true)
    (sa : PySem.W.findIn K (.ref C) "__setattr__" = some (some (.builtin "object.__setattr__"))) (e1 : PySem.W.subIn K (.ref C) (.type "BaseException") = some true) (e2 : PySem.W.typeIn K (.ref C) = some (.type "type")) (e3 : PySem.W.keepIn K (.ref C) = true) : ExK K C :=
  ⟨⟨hg, hk, hs, hd, ha, hn, ht, hm⟩, ⟨⟨_, _, _, _, _, _, _, _, _, _, _, _, _, _, _, x1, x2⟩, sa, e1, e2, e3⟩⟩
section
variable {P : Program} {w : World} {K : PySem.W.Frag} {mg : Str → Option Value} {base : Heap} {h : Heap} {CX : CXT}
theorem FnX.get {f : Addr} {x qual : Str} {st : Stmt} (F : FnX K f x qual st) : ∃ fd, Fun K x qual st f fd := let ⟨⟨_, _, _, _, _, _, _, _, _, l, c⟩, k⟩ := F; ⟨_, fun_mk l c k⟩
theorem FnX.kp {f : Addr} {x qual : Str} {st : Stmt} (F : FnX K f x qual st) : PySem.W.keepIn K (.ref f) = true := F.2
theorem has_fn {f : Addr} {x : Str} {st : Stmt} {ps : List Str} {k : Nat} {sp : Sp} (X : K.In h) (G : h.Ns mainGlobals mg) (a : PySem.W.nsIn K mainGlobals x = some (some (.ref f))) (F : FnX K f x x st)
    (hb : ∀ (kV doc pm : Value) (an : Option Addr) (cdv ct : Value) (us : List Value), us.length = ps.length → bindArgs (PySem.W.fnOf x x (defArgs st) (defBody st) (defScope st) .none kV doc pm an cdv ct) ⟨us, []⟩ = pure (ps.zip us))
    (ok : ∀ fd, Fun K x x st f fd → FnOk P w K mg base CX k f fd ps sp) : HasFn P w K mg base CX k x ps sp :=
  let ⟨fd, F'⟩ := F.get
  ⟨f, fd, ok fd F', PySem.W.mg_of X G a, F.kp, F'.binds hb⟩
theorem has_mk {C f : Addr} {x qual : Str} {st : Stmt} {ps : List Str} {k : Nat} {sp : Sp} (X : K.In h) (G : h.Ns mainGlobals mg) (g : PySem.W.nsIn K mainGlobals x = some (some (.ref C))) (a : PySem.W.findIn K (.ref C) "__init__" = some (some (.ref f)))
    (i : PySem.W.isFn K (.ref f) = true) (m : PySem.W.makesIn K C = true) (kc : PySem.W.keepIn K (.ref C) = true) (F : FnX K f "__init__" qual st)
    (hb : ∀ (kV doc pm : Value) (an : Option Addr) (cdv ct : Value) (us : List Value), us.length = ps.length → bindArgs (PySem.W.fnOf "__init__" qual (defArgs st) (defBody st) (defScope st) .none kV doc pm an cdv ct) ⟨us, []⟩ = pure (ps.zip us))
    (ok : ∀ fd, Fun K "__init__" qual st f fd → FnOk P w K mg base CX k f fd ps sp) : HasMk P w K mg base CX k C x ps sp :=
  let ⟨fd, F'⟩ := F.get
  ⟨f, fd, ok fd F', ⟨m, a, i, kc⟩, PySem.W.mg_of X G g, F'.binds hb⟩
theorem has_pr {C p f : Addr} {x qual : Str} {st : Stmt} {ps : List Str} {k : Nat} {sp : Sp} (q : PropOf K C x p f) (F : FnX K f x qual st)
    (hb : ∀ (kV doc pm : Value) (an : Option Addr) (cdv ct : Value) (us : List Value), us.length = ps.length → bindArgs (PySem.W.fnOf x qual (defArgs st) (defBody st) (defScope st) .none kV doc pm an cdv ct) ⟨us, []⟩ = pure (ps.zip us))
    (ok : ∀ fd, Fun K x qual st f fd → FnOk P w K mg base CX k f fd ps sp) : HasPr P w K mg base CX k C x ps sp :=
  let ⟨fd, F'⟩ := F.get
  ⟨p, f, fd, ok fd F', q, F'.binds hb⟩
theorem has_ex {C f : Addr} {x qual : Str} {st : Stmt} {ps ks : List Str} {b : Bool} {k : Nat} {sp : Sp} (X : K.In h) (G : h.Ns mainGlobals mg) (g : PySem.W.nsIn K mainGlobals x = some (some (.ref C))) (T : ExK K C) (a : PySem.W.findIn K (.ref C) "__init__" = some (some (.ref f)))
    (t : PySem.W.typeIn K (.ref f) = some (.type "function")) (F : FnX K f "__init__" qual st)
    (hb : ∀ (kV doc pm : Value) (an : Option Addr) (cdv ct : Value) (us : List Value), us.length = ps.length → bindArgs (PySem.W.fnOf "__init__" qual (defArgs st) (defBody st) (defScope st) .none kV doc pm an cdv ct) ⟨us, []⟩ = pure (ps.zip us))
    (hk : ∀ (kV doc pm : Value) (an : Option Addr) (cdv ct : Value) (self : Value) (ws : List Value), ws.length = ks.length → bindArgs (PySem.W.fnOf "__init__" qual (defArgs st) (defBody st) (defScope st) .none kV doc pm an cdv ct) ⟨[self], ks.zip ws⟩ = pure (ps.zip (self :: swapIf b ws)))
    (ok : ∀ fd, Fun K "__init__" qual st f fd → FnOk P w K mg base CX0 k f fd ps sp) : HasEx P w K mg base CX0 k C x ps sp ∧ HasExK P w K mg base CX0 k C x ps ks b sp := by
  obtain ⟨⟨oc, od, kV, dc, pm, an, cd, ct, sl, l, c⟩, kp⟩ := F
  have F' := fun_mk (st := st) l c kp
  exact ⟨⟨f, _, T.toOexC, a, t, ok _ F', PySem.W.mg_of X G g, fun us hl => hb kV dc pm an cd ct us hl, F'.binds hb⟩, ⟨f, _, T.toOexC, a, t, ok _ F', PySem.W.mg_of X G g, fun self ws hl => hk kV dc pm an cd ct self ws hl⟩⟩
theorem has_fnG {f : Addr} {x : Str} {st : Stmt} {ps : List Str} {k : Nat} {sp : Sp} (X : K.In h) (G : h.Ns mainGlobals mg) (a : PySem.W.nsIn K mainGlobals x = some (some (.ref f))) (F : FnX K f x x st)
    (hb : ∀ (kV doc pm : Value) (an : Option Addr) (cdv ct : Value) (us : List Value), us.length = ps.length → bindArgs (PySem.W.fnOf x x (defArgs st) (defBody st) (defScope st) .none kV doc pm an cdv ct) ⟨us, []⟩ = pure (ps.zip us))
    (ok : ∀ fd, Fun K x x st f fd → FnG P w K mg base CX k f fd ps sp) : HasFnG P w K mg base CX k x ps sp :=
  let ⟨fd, F'⟩ := F.get
  ⟨f, fd, ok fd F', PySem.W.mg_of X G a, F.kp, F'.binds hb⟩
theorem has_me {C f : Addr} {x qual : Str} {st : Stmt} {ps : List Str} {k : Nat} {sp : Sp} (a : PySem.W.findIn K (.ref C) x = some (some (.ref f))) (i : PySem.W.isFn K (.ref f) = true) (F : FnX K f x qual st)
    (hb : ∀ (kV doc pm : Value) (an : Option Addr) (cdv ct : Value) (us : List Value), us.length = ps.length → bindArgs (PySem.W.fnOf x qual (defArgs st) (defBody st) (defScope st) .none kV doc pm an cdv ct) ⟨us, []⟩ = pure (ps.zip us))
    (ok : ∀ fd, Fun K x qual st f fd → FnOk P w K mg base CX k f fd ps sp) : HasMe P w K mg base CX k C x ps sp :=
  let ⟨fd, F'⟩ := F.get
  ⟨f, fd, ok fd F', ⟨a, i⟩, F.kp, F'.binds hb⟩
/-- C(k = v, ..), all keywords in the parameters' order -/
theorem has_mkK {C f : Addr} {x qual : Str} {st : Stmt} {ps ks : List Str} {k : Nat} {sp : Sp} (X : K.In h) (G : h.Ns mainGlobals mg) (g : PySem.W.nsIn K mainGlobals x = some (some (.ref C))) (a : PySem.W.findIn K (.ref C) "__init__" = some (some (.ref f)))
    (i : PySem.W.isFn K (.ref f) = true) (m : PySem.W.makesIn K C = true) (kc : PySem.W.keepIn K (.ref C) = true) (F : FnX K f "__init__" qual st)
    (hb : ∀ (kV doc pm : Value) (an : Option Addr) (cdv ct : Value) (us ws : List Value), us.length = 1 → ws.length = ks.length → bindArgs (PySem.W.fnOf "__init__" qual (defArgs st) (defBody st) (defScope st) .none kV doc pm an cdv ct) ⟨us, ks.zip ws⟩ = pure (ps.zip (us ++ ws)))
    (ok : ∀ fd, Fun K "__init__" qual st f fd → FnOk P w K mg base CX k f fd ps sp) : HasMkK P w K mg base CX k C x ps ks (fun us ws => us ++ ws) (fun vs zs => vs ++ zs) sp := by
  obtain ⟨fd, F'⟩ := F.get
  refine ⟨f, fd, ok fd F', ⟨m, a, i, kc⟩, PySem.W.mg_of X G g, ⟨fun s us ws _ h1 h2 => ?_, fun r1 r2 => r1.append r2⟩⟩
  obtain ⟨oc, od, kV, doc, pm, an, cdv, ct, osl, e1, e2, e3⟩ := F'.ex
  subst e1
  exact .of_eq (hb kV doc pm an cdv ct us ws h1 h2)
end
end LB

namespace K1
open PySem L2 LB PyProof.Rows
def top (i : Nat) : Stmt := PySem.Challenge.pw_linestrikes_k01_values_made.main.body.getD i (.Pass ⟨0, 0, 0, 0⟩)
abbrev s_BadValuesDD_initDD : Stmt := inClass (top 4) 0
theorem sc_BadValuesDD_initDD : FnScope ["self", "value"] ["self", "value"] (defScope s_BadValuesDD_initDD) := ⟨rfl, rfl, rfl, by decide +kernel, rfl, by decide +kernel, by decide +kernel⟩
abbrev s_is_letter_of : Stmt := top 12
theorem sc_is_letter_of : FnScope ["letters", "value"] ["letters", "value"] (defScope s_is_letter_of) := ⟨rfl, rfl, rfl, by decide +kernel, rfl, by decide +kernel, by decide +kernel⟩
abbrev s_are_unlike_letters : Stmt := top 19
theorem sc_are_unlike_letters : FnScope ["letters", "letter"] ["letters"] (defScope s_are_unlike_letters) := ⟨rfl, rfl, rfl, by decide +kernel, rfl, by decide +kernel, by decide +kernel⟩
abbrev s_ValuesDD_initDD : Stmt := inClass (top 16) 1
theorem sc_ValuesDD_initDD : FnScope ["self", "letters", "number"] ["self", "letters"] (defScope s_ValuesDD_initDD) := ⟨rfl, rfl, rfl, by decide +kernel, rfl, by decide +kernel, by decide +kernel⟩
abbrev s_CellDD_initDD : Stmt := inClass (top 17) 0
theorem sc_CellDD_initDD : FnScope ["self", "alphabet", "number", "k", "letter"] ["self", "alphabet", "number"] (defScope s_CellDD_initDD) := ⟨rfl, rfl, rfl, by decide +kernel, rfl, by decide +kernel, by decide +kernel⟩
abbrev s_Values_full : Stmt := inClass (top 16) 5
theorem sc_Values_full : FnScope ["self"] ["self"] (defScope s_Values_full) := ⟨rfl, rfl, rfl, by decide +kernel, rfl, by decide +kernel, by decide +kernel⟩
abbrev s_Values_empty : Stmt := inClass (top 16) 6
theorem sc_Values_empty : FnScope ["self"] ["self"] (defScope s_Values_empty) := ⟨rfl, rfl, rfl, by decide +kernel, rfl, by decide +kernel, by decide +kernel⟩
abbrev s_are_values_letters : Stmt := top 18
theorem sc_are_values_letters : FnScope ["letters"] ["letters"] (defScope s_are_values_letters) := ⟨rfl, rfl, rfl, by decide +kernel, rfl, by decide +kernel, by decide +kernel⟩

def isLet (L : Str) : V → Bool
  | .str z => decide (z.cps.size = 1) && decide (z.cps.getD 0 0 ∈ L.cps.toList)
  | _ => false
/-- a value of which it is known whether it is a text -/
def TextOr (K : PySem.W.Frag) (H : Hp) (x : V) : Prop := (∃ z : Str, x = .str z ∧ z.cps.size ≤ sizeLine) ∨ (∃ t, TyX K H x t ∧ PySem.W.kitOne K t (.type "str") = some false ∧ ∀ z, x ≠ .str z)
def spLet (K : PySem.W.Frag) : Sp := fun vs H Q _ => ∃ (L : Str) (x : V), vs = [.str L, x] ∧ TextOr K H x ∧ Q (.bl (isLet L x)) H

def SM : Str := ⟨small.toArray⟩
structure Consts (mg : Str → Option Value) (CV : Addr) (ts : Tok) : Prop where
  small : mg "SMALL_LETTERS" = some (.str SM ts)
  mgV : mg "Values" = some (.ref CV)
theorem same_upd {H H1 : Hp} {D : Addr} {o : HO} (h : Same H H1) (n : H D = none) : Same H (upd H1 D o) := fun b u e => by rw [upd_ne (ne_of_none e n)]; exact h b u e
def spUnl : Sp := fun vs H Q _ => ∃ z : Str, vs = [.str z] ∧ Good z ∧ ∀ H', Same H H' → Q (.bl true) H'
theorem isLet_small {c : Nat} (h : c ∈ small) : isLet SM (.str ⟨#[c]⟩) = true := by
  show (decide ((#[c] : Array Nat).size = 1) && decide ((#[c] : Array Nat).getD 0 0 ∈ (small.toArray).toList)) = true
  have : c ∈ (small.toArray).toList := by simpa using h
  simpa using this
theorem signs_nd {z : Str} (h : z.cps.toList.Nodup) : (LB.signs z).Nodup := by
  unfold LB.signs
  exact List.Pairwise.map _ (fun a b hab e => hab (by injection e with e; injection e with e; injection e)) h

structure VF (K : PySem.W.Frag) (CV CC : Addr) : Prop where
  cv : Cls K CV
  ne : CV ≠ CC
  cc : Cls K CC
  vl : NoAttr K CV "letters"
  vb : NoAttr K CV "by_number"
  ca : NoAttr K CC "alphabet"
  cn : NoAttr K CC "number"
  cl : NoAttr K CC "letters"
  most : ∃ mc u, ClX.CRead K CV mc ∧ ClX.CVal K CV mc "MOST" (.int 4) u
def spCell (CV CC : Addr) : Sp := fun vs H Q _ => ∃ (c p dc dx : Addr) (fs : List (Str × V)) (z : Str) (n : Nat), vs = [.ref c, .ref p, .int n] ∧ H c = some (.ins CC dc []) ∧ H p = some (.ins CV dx fs) ∧ fs.lookup ("letters" : Str) = some (.str z) ∧ Good z ∧ c ≠ p ∧
  ∀ H', But c H H' → H' c = some (.ins CC dc (cellF p n (cellT z n))) → Q .non H'
theorem But.same_of {p : Addr} {H H1 H2 : Hp} (a : But p H H1) (b : Same H1 H2) : But p H H2 := fun c o h n => b c o (a c o h n)
theorem sgs_len (l : List Nat) : (sgs l).length = l.length := by simp [sgs]

def spVals (CV CC : Addr) : Sp := fun vs H Q _ => ∃ (v dv : Addr) (z : Str), vs = [.ref v, .str z] ∧ H v = some (.ins CV dv []) ∧ Good z ∧ ∀ H' cs, But v H H' → ValsAt CV CC H' v z cs → Q .non H'
theorem same_upd' {p : Addr} {H H1 : Hp} {D : Addr} {o : HO} (h : But p H H1) (n : H D = none) : But p H (L2.upd H1 D o) := fun b u e k => by rw [upd_ne (ne_of_none e n)]; exact h b u e k
theorem But.at {p : Addr} {H H' : Hp} (a : But p H H') (b : Addr) {o : HO} (h : H b = some o) (n : b ≠ p) : H' b = some o := a b o h n
/-- n cells stand -/
structure CellsAt (CC : Addr) (H : Hp) (p : Addr) (z : Str) (n : Nat) (cs : List Addr) : Prop where
  len : cs.length = n
  cell : ∀ i c, cs[i]? = some c → CellAt CC H c p z i
theorem CellsAt.but {CC : Addr} {H H' : Hp} {p q : Addr} {z : Str} {n : Nat} {cs : List Addr} (h : CellsAt CC H p z n cs) (b : But q H H') (hq : ∀ i : Nat, cs[i]? ≠ some q) : CellsAt CC H' p z n cs :=
  ⟨h.len, fun i c e => let ⟨dc, k⟩ := h.cell i c e; ⟨dc, b _ _ k fun q' => hq i (q' ▸ e)⟩⟩

theorem one_var1 (σ : L2.St) (H : Hp) (Q R : List V → Hp → Prop) (k : ∀ vs H1, Q vs H1 → R vs H1) (h : tCons (tVar 1) tNil σ H Q) : tCons (tVar 1) tNil σ H R := let ⟨v, e, q⟩ := h; ⟨v, e, k _ _ q⟩
/-- two to four different letters a to z, as the program asks it -/
def isGood : V → Bool
  | .str z => decide (2 ≤ z.cps.size) && decide (z.cps.size ≤ 4) && (z.cps.toList.all fun c => decide (c ∈ small)) && decide z.cps.toList.Nodup
  | _ => false
theorem isGood_iff {z : Str} : isGood (.str z) = true ↔ Good z := by
  unfold isGood
  simp only [Bool.and_eq_true, decide_eq_true_eq, List.all_eq_true]
  exact ⟨fun ⟨⟨⟨a, b⟩, c⟩, d⟩ => ⟨a, b, c, d⟩, fun h => ⟨⟨⟨h.lo, h.hi⟩, h.az⟩, h.nd⟩⟩
/-- every sign is a letter, no two alike -/
def unl (z : Str) : Bool := (z.cps.toList.all fun c => decide (c ∈ small)) && decide z.cps.toList.Nodup
theorem isGood_str (z : Str) : isGood (.str z) = (decide (2 ≤ z.cps.size) && (decide (z.cps.size ≤ 4) && unl z)) := by
  show (decide (2 ≤ z.cps.size) && decide (z.cps.size ≤ 4) && (z.cps.toList.all fun c => decide (c ∈ small)) && decide z.cps.toList.Nodup) = _
  unfold unl
  rw [Bool.and_assoc, Bool.and_assoc]
def spUnlG : Sp := fun vs H Q _ => ∃ z : Str, vs = [.str z] ∧ z.cps.size ≤ 4 ∧ ∀ H', Same H H' → Q (.bl (unl z)) H'
/-- Values(letters): values, or BadValues -/
def spValsR (K : PySem.W.Frag) (CV CC CB : Addr) : Sp := fun vs H Q E => ∃ (v dv : Addr) (x : V), vs = [.ref v, x] ∧ H v = some (.ins CV dv []) ∧ TextOr K H x ∧
  (∀ z, x = .str z → Good z → ∀ H' cs, But v H H' → ValsAt CV CC H' v z cs → Q .non H') ∧ (isGood x = false → ∀ d H', Same H H' → H' d = some (.xd [("value", x)]) → E (.ref CB) (some d) H')
theorem isLet_sign {c : Nat} : isLet SM (.str ⟨#[c]⟩) = decide (c ∈ small) := by
  show (decide ((#[c] : Array Nat).size = 1) && decide ((#[c] : Array Nat).getD 0 0 ∈ (small.toArray).toList)) = _
  have : (small.toArray).toList = small := by simp
  rw [this]
  show (true && decide (c ∈ small)) = _
  rw [Bool.true_and]
theorem signs_nd' {z : Str} (h : ¬ z.cps.toList.Nodup) : ¬ (LB.signs z).Nodup := fun q => h (by
  unfold LB.signs at q
  exact List.Pairwise.of_map (S := fun a b => a ≠ b) (fun c => (⟨#[c]⟩ : Str)) (fun a b hab e => hab (by rw [e])) q)
section
variable {P : Program} {w : World} {K : PySem.W.Frag} {mg : Str → Option Value} {base : Heap}
theorem ok_BadValuesX {C : Addr} {f : Addr} {fd : FuncData} (F : Fun K "__init__" "BadValues.__init__" s_BadValuesDD_initDD f fd) (T : OexC K C) (hf : PySem.W.findIn K (.ref C) "value" = some none) : FnOk P w K mg base CX0 1 f fd ["self", "value"] (spX1 C "value") := by
  refine F.ok sc_BadValuesDD_initDD (fun vs H Q E h => ?_) (fun cdv A outer s H vs Q E hr h => ?_)
  · obtain ⟨a, x, rfl, _⟩ := h
    rfl
  · obtain ⟨a, x, rfl, ha, k⟩ := h
    refine ⟨_, (pss_one (ps_ost (pv 0) (pv 1))), ?_⟩
    exact ⟨_, rfl, _, rfl, a, C, rfl, T, hf, .inl ⟨ha, fun dx hd ne => k _ dx ((But.new hd).trans .upd) hd ne upd_same (by rw [upd_ne ne, upd_same])⟩⟩
theorem ok_unlG {CV : Addr} {ts : Tok} {f : Addr} {fd : FuncData} (F : Fun K "are_unlike_letters" "are_unlike_letters" s_are_unlike_letters f fd) (B : Blt mg) (G : Consts mg CV ts) (D_is_letter_of : HasFn P w K mg base CX0 1 "is_letter_of" ["letters", "value"] (spLet K)) :
    FnOk P w K mg base CX0 2 f fd ["letters"] spUnlG := by
  refine F.ok sc_are_unlike_letters (fun vs H Q E h => ?_) (fun cdv A outer s H vs Q E hr h => ?_)
  · obtain ⟨z, rfl, _⟩ := h
    rfl
  · obtain ⟨z, rfl, gz, k⟩ := h
    refine ⟨_, (pss_one (ps_ret (pe_and (pe_callB (cr_all rfl) (by rfl) B.n_all (by decide +kernel) (pa_cons (pe_lc rfl sc_are_unlike_letters.nd (pi_str (pv 0)) (blkOk_by (own := [("letter", 1)]) (N := ["letters", "letter"]) (sc := defScope s_are_unlike_letters) (by decide +kernel)) (fun _ _ _ _ _ => (pg_name (i := 1) sc_are_unlike_letters.nd rfl (.inl rfl))) (fun _ _ _ _ _ => pts_nil) (fun _ _ _ _ _ => (pe_fn D_is_letter_of (hr.mono (by decide)) pass0 (pa_cons (pe_glob (v := .str SM) rfl G.small ⟨_, rfl⟩) (pa_cons (pv 1) pa_nil))))) pa_nil)) (pe_one (pe_cmpR op_eq (pe_lenSetT rfl (by rfl) B.n_len (by rfl) B.n_set (pv 0)) (pe_callB call_len (by rfl) B.n_len (by decide +kernel) (pa_cons (pv 0) pa_nil)) (nomark _)))))), ?_⟩
    refine ⟨_, rfl, z, rfl, fun D hD => ?_⟩
    refine lc_str (fun i H' => H' D = some (.lst (((z.cps.toList.take i).map fun c => decide (c ∈ small)).map V.bl)) ∧ Same H H') ⟨by rw [upd_same]; rfl, same_new hD⟩ (fun i c H1 hc h1 => ?_) (fun H1 h1 => ?_)
    · refine ⟨rfl, ?_⟩
      refine ⟨_, rfl, SM, _, rfl, .inl ⟨_, rfl, by show 1 ≤ sizeLine; decide⟩, ?_⟩
      rw [isLet_sign]
      have hc' : z.cps.toList[i]? = some c := by rw [Array.getElem?_toList]; exact hc
      refine ⟨_, h1.1, ?_, ?_, same_upd h1.2 hD⟩
      · show _ < sizeLine
        have : 4 < sizeLine := by decide
        rw [List.length_map, List.length_map, List.length_take]
        have : z.cps.toList.length ≤ 4 := gz
        omega
      · rw [upd_same, List.take_add_one, hc', List.map_append, List.map_append]
        rfl
    · refine ⟨_, _, rfl, SqL.of h1.1, ?_⟩
      have e0 : ((z.cps.toList.take z.cps.size).map fun c => decide (c ∈ small)).all id = z.cps.toList.all fun c => decide (c ∈ small) := by
        rw [List.take_of_length_le (by simp), List.all_map]
        rfl
      refine ⟨_, congrArg V.bl e0, ?_⟩
      refine ite2 (fun ha => ?_) (fun ha => ?_)
      · refine ⟨_, rfl, .inl ⟨z, rfl, by omega, ?_⟩⟩
        refine ⟨_, rfl, _, _, rfl, ⟨Nat.le_trans (show z.length ≤ 4 from gz) (by decide), rfl⟩, rfl, ?_⟩
        have e1 : decide (V.int ((dd (LB.signs z)).length : Nat) = V.int (z.length : Nat)) = unl z := by
          unfold unl
          rw [ha, Bool.true_and]
          by_cases hn : z.cps.toList.Nodup
          · rw [dd_nodup (signs_nd hn), signs_len, decide_eq_true hn]
            exact decide_eq_true rfl
          · rw [decide_eq_false hn]
            have := dd_len_lt (signs_nd' hn)
            rw [signs_len] at this
            refine decide_eq_false fun q => ?_
            injection q with q
            have : z.length = z.cps.size := rfl
            omega
        show Q (.bl (decide (V.int ((dd (LB.signs z)).length : Nat) = V.int (z.length : Nat)))) H1
        rw [e1]
        exact k H1 h1.2
      · have e1 : unl z = false := by
          unfold unl
          have : (z.cps.toList.all fun c => decide (c ∈ small)) = false := by simpa using ha
          rw [this, Bool.false_and]
        have := k H1 h1.2
        rw [e1] at this
        exact this
end
end K1

namespace K1
open PySem L2 LB PyProof.Rows
section
variable {P : Program} {w : World} {K : PySem.W.Frag} {mg : Str → Option Value} {base : Heap}
theorem ok_cell {CV CC : Addr} {f : Addr} {fd : FuncData} (F : Fun K "__init__" "Cell.__init__" s_CellDD_initDD f fd) (B : Blt mg) (VV : VF K CV CC) :
    FnOk P w K mg base CX0 1 f fd ["self", "alphabet", "number"] (spCell CV CC) := by
  refine F.ok sc_CellDD_initDD (fun vs H Q E h => ?_) (fun cdv A outer s H vs Q E hr h => ?_)
  · obtain ⟨c, p, dc, dx, fs, z, n, rfl, _⟩ := h
    rfl
  · obtain ⟨c, p, dc, dx, fs, z, n, rfl, hc, hp, hl, gz, ne, k⟩ := h
    refine ⟨_, (pss_cons (ps_fld (pv 0) (pv 1) rfl)
      (pss_cons (ps_fld (pv 0) (pv 2) rfl)
      (pss_one (ps_fld (pv 0) (pe_join pe_str (pe_lc rfl sc_CellDD_initDD.nd (pi_enumS (by rfl) B.n_enumerate (pa_cons (pe_fld (pv 1) rfl) pa_nil)) (blkOk_by (own := [("k", 3), ("letter", 4)]) (N := ["self", "alphabet", "number", "k", "letter"]) (sc := defScope s_CellDD_initDD) (by decide +kernel)) (fun _ _ _ _ _ => (pg_tupB (n := 2) rfl (pgs_cons (pg_name (i := 3) sc_CellDD_initDD.nd rfl (.inl rfl)) (pgs_cons (pg_name (i := 4) sc_CellDD_initDD.nd rfl (.inl rfl)) pgs_nil)))) (fun _ _ _ _ _ => (pts_one (pt_truthB (pe_op op_and (pe_op op_shr (pv 2) (pv 3)) pe_int) (by intro _; rfl)))) (fun _ _ _ _ _ => (pv 4)))) rfl)))), ?_⟩
    refine ⟨_, rfl, _, rfl, c, CC, dc, [], rfl, hc, VV.cc, VV.ca, by decide, ?_⟩
    refine ⟨_, rfl, _, rfl, c, CC, dc, _, rfl, upd_same, VV.cc, VV.cn, by show 1 < 1000; decide, ?_⟩
    have b2 : But c H (upd (upd H c (.ins CC dc (putF "alphabet" (.ref p) []))) c (.ins CC dc (putF "number" (.int n) (putF "alphabet" (.ref p) [])))) := But.upd.trans .upd
    refine ⟨⟨_, rfl⟩, _, rfl, p, CV, dx, fs, _, rfl, b2 _ _ hp ne.symm, VV.cv, VV.vl, hl, z, rfl, fun D hD => ?_⟩
    have h2 := upd_same (a := c) (o := HO.ins CC dc (putF "number" (.int n) (putF "alphabet" (.ref p) []))) (H := upd H c (.ins CC dc (putF "alphabet" (.ref p) [])))
    generalize (upd (upd H c (.ins CC dc (putF "alphabet" (.ref p) []))) c (.ins CC dc (putF "number" (.int n) (putF "alphabet" (.ref p) [])))) = H2 at b2 hD h2 ⊢
    refine lc_enumS (fun i H' => H' D = some (.lst ((sgs (subL z n i)).map V.str)) ∧ Same H2 H') ⟨upd_same, same_new hD⟩ (fun i x T H1 hx h1 hT => ?_) (fun H1 h1 => ?_)
    · refine ⟨T, _, rfl, SqT.of upd_same, rfl, ?_⟩
      refine ⟨_, _, rfl, _, _, rfl, rfl, rfl, ?_⟩
      have h1' : Same H2 (upd H1 T (.tup [.int (i : Nat), .str ⟨#[x]⟩])) := h1.2.trans (same_new hT)
      have hDT : D ≠ T := ne_of_none h1.1 hT
      have h1D : upd H1 T (.tup [.int (i : Nat), .str ⟨#[x]⟩]) D = some (.lst ((sgs (subL z n i)).map V.str)) := by rw [upd_ne hDT]; exact h1.1
      refine ⟨_, rfl, _, rfl, _, _, rfl, rfl, Int.natCast_nonneg _, _, _, rfl, rfl, ?_⟩
      show ∃ k, TruV K (V.int (Builtin.bitAnd ((n : Int) / 2 ^ ((i : Int)).toNat) 1)) _ k ∧ _
      rw [bit_shift]
      refine ⟨n.testBit i, ?_, ?_⟩
      · cases n.testBit i <;> exact rfl
      have ez : z.cps.getD i 0 = x := by rw [Array.getD_eq_getD_getElem?, hx]; rfl
      have hi : i < z.cps.size := (Array.getElem?_eq_some_iff.mp hx).1
      have hl5 : ((sgs (subL z n i)).map V.str).length < sizeLine := by
        rw [List.length_map, sgs_len]
        have := subL_len z n i
        have := gz.hi
        have : 4 < sizeLine := by decide
        omega
      cases hb : n.testBit i with
      | true =>
        refine ⟨_, rfl, _, h1D, hl5, ?_, same_upd h1' hD⟩
        rw [upd_same, subL_succ, if_pos hb, sgs_append, List.map_append, ez]
        rfl
      | false =>
        refine ⟨?_, h1'⟩
        rw [h1D, subL_succ, if_neg (by rw [hb]; decide), List.append_nil]
    · refine ⟨_, D, sgs (subL z n z.cps.size), rfl, rfl, .inl (SqL.of h1.1), ?_, ?_⟩
      · show (((sgs (subL z n z.cps.size)).map (·.length)).sum + (sgs (subL z n z.cps.size)).length * 0) ≤ 16777216
        have e : ∀ l : List Nat, ((sgs l).map (·.length)).sum = l.length := by
          intro l
          induction l with
          | nil => rfl
          | cons c r ih => show 1 + ((sgs r).map (·.length)).sum = _; rw [ih, List.length_cons]; omega
        rw [e]
        have := subL_len z n z.cps.size
        have := gz.hi
        omega
      show tVar 0 _ _ _
      have ej : Txt.join (Str.ofString "") (sgs (subL z n z.cps.size)) = cellT z n := join_sgs _
      rw [ej]
      refine ⟨_, rfl, c, CC, dc, _, rfl, h1.2 _ _ h2, VV.cc, VV.cl, by show 2 < 1000; decide, ?_⟩
      refine k _ (But.trans (But.same_of (H1 := H2) b2 h1.2) But.upd) ?_
      rw [upd_same]
      rfl
theorem ok_let {f : Addr} {fd : FuncData} (F : Fun K "is_letter_of" "is_letter_of" s_is_letter_of f fd) (B : Blt mg) : FnOk P w K mg base CX0 1 f fd ["letters", "value"] (spLet K) := by
  refine F.ok sc_is_letter_of (fun vs H Q E h => ?_) (fun cdv A outer s H vs Q E hr h => ?_)
  · obtain ⟨L, x, rfl, _⟩ := h
    rfl
  · obtain ⟨L, x, rfl, hx, k⟩ := h
    refine ⟨_, (pss_one (ps_ret (pe_and (pe_callB call_isi (by rfl) B.n_isinstance (by decide +kernel) (pa_cons (pv 1) (pa_cons (pe_bltn (v := .ty "str") (by rfl) B.n_str (by decide +kernel) rfl) pa_nil))) (pe_and (pe_cmpR op_eq (pe_callB call_len (by rfl) B.n_len (by decide +kernel) (pa_cons (pv 1) pa_nil)) pe_int (nomark _)) (pe_one (pe_cmpR op_in_sign (pv 1) (pv 0) (by rfl))))))), ?_⟩
    rcases hx with ⟨z, rfl, hz⟩ | ⟨t, ty, hk, hn⟩
    · refine ⟨_, rfl, _, _, _, _, true, rfl, .ty "str", .base (.str z), kit_ty (by decide +kernel), true, rfl, iteT ?_⟩
      refine ⟨_, rfl, _, _, rfl, ⟨hz, rfl⟩, rfl, _, rfl, ?_⟩
      have e1 : decide (V.int (z.cps.size : Nat) = V.int 1) = decide (z.cps.size = 1) := by
        by_cases h : z.cps.size = 1
        · rw [h]; rfl
        · rw [decide_eq_false h, decide_eq_false fun q => h (by injection q with q; omega)]
      show if decide (V.int (z.cps.size : Nat) = V.int 1) = true then _ else _
      rw [e1]
      refine ite2 (fun c => ?_) (fun c => ?_)
      · have c' : z.cps.size = 1 := of_decide_eq_true c
        have ez : z = ⟨#[z.cps.getD 0 0]⟩ := by
          obtain ⟨a⟩ := z
          have h1 : a.size = 1 := c'
          obtain ⟨l⟩ := a
          match l, h1 with
          | [y], _ => rfl
        refine ⟨.str z, rfl, _, rfl, z.cps.getD 0 0, L, by rw [← ez], rfl, ?_⟩
        have k' : Q (.bl (decide (z.cps.size = 1) && decide (z.cps.getD 0 0 ∈ L.cps.toList))) H := k
        rw [c, Bool.true_and] at k'
        exact k'
      · have k' : Q (.bl (decide (z.cps.size = 1) && decide (z.cps.getD 0 0 ∈ L.cps.toList))) H := k
        have c' : decide (z.cps.size = 1) = false := by simpa using c
        rw [c', Bool.false_and] at k'
        exact k'
    · refine ⟨_, rfl, _, _, _, _, false, rfl, .ty "str", ty, hk, false, rfl, iteF ?_⟩
      have e : isLet L x = false := by
        cases x <;> first | rfl | exact absurd rfl (hn _)
      rw [← e]
      exact k
/-- whether any value is letters of values -/
def spAvlR (K : PySem.W.Frag) : Sp := fun vs H Q _ => ∃ x : V, vs = [x] ∧ TextOr K H x ∧ ∀ H', Same H H' → Q (.bl (isGood x)) H'
theorem ok_avlR {CV CC : Addr} {ts : Tok} {f : Addr} {fd : FuncData} (F : Fun K "are_values_letters" "are_values_letters" s_are_values_letters f fd) (B : Blt mg) (VV : VF K CV CC) (G : Consts mg CV ts)
    (D_are_unlike_letters : HasFn P w K mg base CX0 2 "are_unlike_letters" ["letters"] spUnlG) : FnOk P w K mg base CX0 3 f fd ["letters"] (spAvlR K) := by
  refine F.ok sc_are_values_letters (fun vs H Q E h => ?_) (fun cdv A outer s H vs Q E hr h => ?_)
  · obtain ⟨x, rfl, _⟩ := h
    rfl
  · obtain ⟨x, rfl, hx, k⟩ := h
    refine ⟨_, (pss_one (ps_ret (pe_and (pe_callB call_isi (by rfl) B.n_isinstance (by decide +kernel) (pa_cons (pv 0) (pa_cons (pe_bltn (v := .ty "str") (by rfl) B.n_str (by decide +kernel) rfl) pa_nil))) (pe_and (pe_chain op_le op_le pe_int (pe_callB call_len (by rfl) B.n_len (by decide +kernel) (pa_cons (pv 0) pa_nil)) (ClX.pe_cval (pe_glob (v := .ref _) rfl G.mgV rfl) rfl)) (pe_one (pe_fn D_are_unlike_letters (hr.mono (by decide)) pass0 (pa_cons (pv 0) pa_nil))))))), ?_⟩
    rcases hx with ⟨z, rfl, hz⟩ | ⟨t, ty, hk, hn⟩
    · have zl : z.length ≤ sizeLine := hz
      refine ⟨_, rfl, _, _, _, _, true, rfl, .ty "str", .base (.str z), kit_ty (by decide +kernel), true, rfl, iteT ?_⟩
      have k0 := k H (Same.refl H)
      rw [isGood_str] at k0
      by_cases c2 : 2 ≤ z.cps.size
      case neg =>
        have d2 : decide ((2 : Int) ≤ (z.length : Nat)) = false := decide_eq_false (by show ¬ (2 : Int) ≤ ((z.cps.size : Nat) : Int); omega)
        rw [decide_eq_false c2] at k0
        exact ⟨_, rfl, _, _, rfl, ⟨zl, rfl⟩, _, _, rfl, rfl, false, congrArg V.bl d2, iteF ⟨false, rfl, iteF k0⟩⟩
      case pos =>
      have d2 : decide ((2 : Int) ≤ (z.length : Nat)) = true := decide_eq_true (by show (2 : Int) ≤ ((z.cps.size : Nat) : Int); omega)
      refine ⟨_, rfl, _, _, rfl, ⟨zl, rfl⟩, _, _, rfl, rfl, true, congrArg V.bl d2, iteT ?_⟩
      obtain ⟨mc, u, cr, cv⟩ := VV.most
      by_cases c4 : z.cps.size ≤ 4
      case neg =>
        have d4 : decide (((z.length : Nat) : Int) ≤ 4) = false := decide_eq_false (by show ¬ ((z.cps.size : Nat) : Int) ≤ 4; omega)
        rw [decide_eq_true c2, decide_eq_false c4] at k0
        exact ⟨CV, mc, _, u, rfl, cr, cv, _, _, rfl, rfl, false, congrArg V.bl d4, iteF k0⟩
      case pos =>
      have d4 : decide (((z.length : Nat) : Int) ≤ 4) = true := decide_eq_true (by show ((z.cps.size : Nat) : Int) ≤ 4; omega)
      refine ⟨CV, mc, _, u, rfl, cr, cv, _, _, rfl, rfl, true, congrArg V.bl d4, iteT ?_⟩
      refine ⟨_, rfl, z, rfl, c4, fun H1 s1 => ?_⟩
      have k1 := k H1 s1
      rw [isGood_str, decide_eq_true c2, decide_eq_true c4] at k1
      exact k1
    · have e : isGood x = false := by
        cases x <;> first | rfl | exact absurd rfl (hn _)
      have k0 := k H (Same.refl H)
      rw [e] at k0
      exact ⟨_, rfl, _, _, _, _, false, rfl, .ty "str", ty, hk, false, rfl, iteF k0⟩
theorem ok_valsR {CV CC CB : Addr} {ts : Tok} {f : Addr} {fd : FuncData} (F : Fun K "__init__" "Values.__init__" s_ValuesDD_initDD f fd) (B : Blt mg) (VV : VF K CV CC) (G : Consts mg CV ts)
    (D_are_values_letters : HasFn P w K mg base CX0 3 "are_values_letters" ["letters"] (spAvlR K)) (M_Cell : HasMk P w K mg base CX0 1 CC "Cell" ["self", "alphabet", "number"] (spCell CV CC)) (X_BadValues : HasEx P w K mg base CX0 1 CB "BadValues" ["self", "value"] (spX1 CB "value")) :
    FnOk P w K mg base (L2.CX P w) 4 f fd ["self", "letters"] (spValsR K CV CC CB) := by
  refine F.okX sc_ValuesDD_initDD (fun vs H Q E h => ?_) (fun cdv A outer s H vs Q E hr h => ?_)
  · obtain ⟨v, dv, x, rfl, _⟩ := h
    rfl
  · obtain ⟨v, dv, x, rfl, hv, hx, k, kr⟩ := h
    refine ⟨_, (pss_cons (ps_if (pt_not (pt_val (pe_fn D_are_values_letters (hr.mono (by decide)) pass0 (pa_cons (pv 1) pa_nil)))) (pss_one (ps_raise1 X_BadValues rfl (takes_of rfl rfl rfl rfl) (hr.mono (by decide)) (pa_cons (pv 1) pa_nil) one_var1)) pss_nil)
      (pss_cons (ps_fld (pv 0) (pv 1) rfl)
      (pss_one (ps_fld (pv 0) (pe_callTy call_tuple_of (by rfl) B.n_tuple (by decide +kernel) (pa_cons (pe_lc rfl sc_ValuesDD_initDD.nd (pi_range1 (by rfl) B.n_range (pa_cons (pe_op op_shl pe_int (pe_callB call_len (by rfl) B.n_len (by decide +kernel) (pa_cons (pv 1) pa_nil))) pa_nil)) (blkOk_by (own := [("number", 2)]) (N := ["self", "letters", "number"]) (sc := defScope s_ValuesDD_initDD) (by decide +kernel)) (fun _ _ _ _ _ => (pg_name (i := 2) sc_ValuesDD_initDD.nd rfl (.inl rfl))) (fun _ _ _ _ _ => pts_nil) (fun _ _ _ _ _ => (pe_mk M_Cell (hr.mono (by decide)) pass0 (pa_cons (pv 0) (pa_cons (pv 2) pa_nil))))) pa_nil)) rfl)))), ?_⟩
    refine ⟨_, rfl, x, rfl, hx, fun H1 s1 => ?_⟩
    cases hu : isGood x with
    | false =>
      refine ⟨false, rfl, ?_⟩
      exact ⟨_, rfl, _, rfl, fun d H' s e => kr hu d H' (s1.trans s) e⟩
    | true =>
    refine ⟨true, rfl, ?_⟩
    obtain ⟨z, rfl⟩ : ∃ z, x = .str z := by
      cases x with
      | str z => exact ⟨z, rfl⟩
      | _ => cases hu
    have hz : z.cps.size ≤ sizeLine := Nat.le_trans (isGood_iff.mp hu).hi (by decide)
    have gz : Good z := isGood_iff.mp hu
    have lo := gz.lo
    have hi := gz.hi
    have zl : z.length ≤ sizeLine := hz
    have k := k z rfl gz
    refine ⟨_, rfl, _, rfl, v, CV, dv, [], rfl, s1 _ _ hv, VV.cv, VV.vl, by decide, ?_⟩
    have b2 : But v H (upd H1 v (.ins CV dv (putF "letters" (.str z) []))) := (But.of_same s1).trans .upd
    have h2 := upd_same (a := v) (o := HO.ins CV dv (putF "letters" (.str z) [])) (H := H1)
    generalize (upd H1 v (.ins CV dv (putF "letters" (.str z) []))) = H2 at b2 h2 ⊢
    have pw2 : ((1 : Int) * 2 ^ ((z.length : Nat) : Int).toNat) = ((2 ^ z.cps.size : Nat) : Int) := by
      rw [Int.toNat_natCast, Int.one_mul]
      show (2 : Int) ^ z.cps.size = _
      simp
    have p16 : 2 ^ z.cps.size ≤ 2 ^ 4 := Nat.pow_le_pow_right (by decide) hi
    have p16i : ((2 ^ z.cps.size : Nat) : Int) ≤ 16 := Int.ofNat_le.mpr p16
    have p16j : (0 : Int) ≤ ((2 ^ z.cps.size : Nat) : Int) := Int.natCast_nonneg _
    refine ⟨_, rfl, _, _, rfl, ⟨zl, rfl⟩, _, _, rfl, rfl, ⟨Int.natCast_nonneg _, by show ((z.cps.size : Nat) : Int) ≤ 1000000; omega, by decide⟩, ((2 ^ z.cps.size : Nat) : Int), by rw [← pw2], Int.le_trans (by decide) p16j, Int.lt_of_le_of_lt p16i (by decide), ?_⟩
    rw [Int.toNat_natCast]
    intro D hD
    refine lc_range (fun i H' => ∃ cs : List Addr, H' D = some (.lst (cs.map V.ref)) ∧ H' v = some (.ins CV dv (putF "letters" (.str z) [])) ∧ But v H2 H' ∧ CellsAt CC H' v z i cs) ⟨[], upd_same, same_new hD _ _ h2, But.new hD, rfl, fun i c e => by cases e⟩ (fun i H3 hi h3 => ?_) (fun H3 h3 => ?_)
    · obtain ⟨cs, hD3, hv3, b3, c3⟩ := h3
      refine ⟨rfl, ?_⟩
      refine ⟨_, rfl, _, rfl, fun x dx hx hdx hne => ?_⟩
      have vx : v ≠ x := ne_of_none hv3 hx
      have vdx : v ≠ dx := ne_of_none hv3 hdx
      refine ⟨x, v, dx, dv, _, z, i, by rw [Int.zero_add]; rfl, upd_same, by rw [upd_ne vx, upd_ne vdx]; exact hv3, by rw [lookup_putF, if_pos rfl], gz, vx.symm, fun H4 b4 hx4 => ⟨rfl, ?_⟩⟩
      have s4 : Same H3 H4 := fun b o e => b4 b o (by rw [upd_ne (ne_of_none e hx), upd_ne (ne_of_none e hdx)]; exact e) (ne_of_none e hx)
      have xD : x ≠ D := (ne_of_none hD3 hx).symm
      have vD : v ≠ D := fun q => by rw [q, hD3] at hv3; cases hv3
      have len : (cs.map V.ref).length < sizeLine := by
        rw [List.length_map, c3.len]
        exact Nat.lt_of_lt_of_le (Nat.lt_of_lt_of_le hi p16) (by decide)
      refine ⟨_, s4 _ _ hD3, len, cs ++ [x], by rw [upd_same, List.map_append]; rfl, by rw [upd_ne vD]; exact s4 _ _ hv3, ?_, by rw [List.length_append, c3.len]; rfl, fun j c e => ?_⟩
      · exact fun b o e n => same_upd' (But.same_of (H1 := H3) b3 s4) hD b o e n
      · by_cases hj : j < cs.length
        · rw [List.getElem?_append_left hj] at e
          obtain ⟨dc, q⟩ := c3.cell j c e
          refine ⟨dc, ?_⟩
          rw [upd_ne (fun q' => by rw [q', hD3] at q; cases q)]
          exact s4 _ _ q
        · rw [List.getElem?_append_right (Nat.le_of_not_lt hj)] at e
          have hj0 : j - cs.length = 0 := by
            cases hjj : j - cs.length with
            | zero => rfl
            | succ m => rw [hjj] at e; cases e
          rw [hj0] at e
          have ex : x = c := by cases e; rfl
          have ej : j = i := by have := c3.len; omega
          subst ex; subst ej
          refine ⟨dx, ?_⟩
          rw [upd_ne xD]
          exact hx4
    · obtain ⟨cs, hD3, hv3, b3, c3⟩ := h3
      refine ⟨D, _, rfl, .inl ⟨SqL.of hD3, fun l hl => ?_⟩⟩
      have vl : v ≠ l := ne_of_none hv3 hl
      refine ⟨_, rfl, v, CV, dv, _, rfl, by rw [upd_ne vl]; exact hv3, VV.cv, VV.vb, by show 1 < 1000; decide, ?_⟩
      refine k _ cs ((b2.trans b3).trans ((But.new hl).trans .upd)) ⟨⟨dv, l, upd_same, by rw [upd_ne vl.symm, upd_same]⟩, gz, c3.len, fun j c e => ?_⟩
      obtain ⟨dc, q⟩ := c3.cell j c e
      refine ⟨dc, ?_⟩
      rw [upd_ne (fun q' => by rw [q', hv3] at q; injection q with q; injection q with q1 q2 q3; exact VV.ne q1), upd_ne (ne_of_none q hl)]
      exact q
end
end K1

namespace K1
open PySem L2 LB PyProof.Rows
abbrev s_law_heard : Stmt := top 26
theorem sc_law_heard : FnScope ["_law_value", "_law_caught", "_law_is_one", "error"] ["_law_value"] (defScope s_law_heard) := ⟨rfl, rfl, rfl, by decide +kernel, rfl, by decide +kernel, by decide +kernel⟩

def spHeard (K : PySem.W.Frag) (CV CC : Addr) : Sp := fun vs H Q _ => ∃ x : V, vs = [x] ∧ TextOr K H x ∧ (∀ z, x = .str z → Good z → ∀ H' p v cs, Same H H' → H' p = some (.lst [.ref v]) → ValsAt CV CC H' v z cs → Q (.ref p) H') ∧
  (isGood x = false → ∀ H' p, Same H H' → H' p = some (.tup [x]) → Q (.ref p) H')
structure HF (K : PySem.W.Frag) (CB CCe CNa CNu CUn CLE : Addr) : Prop where
  ex : ExK K CB
  fv : PySem.W.findIn K (.ref CB) "value" = some none
  le : PySem.W.exmOne K (.ref CB) (.ref CLE) = some true
  bv : PySem.W.kitOne K (.ref CB) (.ref CB) = some true
  ve : PySem.W.kitOne K (.ref CB) (.type "ValueError") = some true
  no : PySem.W.kitAny K (.ref CB) [.ref CCe, .ref CNa, .ref CNu, .ref CUn] = some false
section
variable {P : Program} {w : World} {K : PySem.W.Frag} {mg : Str → Option Value} {base : Heap}
theorem TextOr.same {H H' : Hp} {x : V} (h : TextOr K H x) (s : Same H H') : TextOr K H' x := by
  rcases h with h | ⟨t, ty, k, n⟩
  · exact .inl h
  · refine .inr ⟨t, ?_, k, n⟩
    cases x with
    | ref a => exact LB.TyX.keep ty fun o e => s _ _ e
    | non => cases ty with | base b => cases b; exact .base .non
    | bl y => cases ty with | base b => cases b; exact .base (.bl y)
    | int y => cases ty with | base b => cases b; exact .base (.int y)
    | str y => exact absurd rfl (n y)
    | byt y => cases ty with
      | base b => cases b
      | byt _ => exact .byt y
    | flt y => cases ty with | base b => cases b; exact .base (.flt y)
    | ty y => cases ty with | base b => cases b
theorem ok_heard {CV CC CB CCe CNa CNu CUn CLE : Addr} {f : Addr} {fd : FuncData} (F : Fun K "_law_heard" "_law_heard" s_law_heard f fd) (B : Blt mg) (HH : HF K CB CCe CNa CNu CUn CLE) (nVE : mg "ValueError" = none)
    (gBV : mg "BadValues" = some (.ref CB)) (gCe : mg "BadCell" = some (.ref CCe)) (gNa : mg "BadNames" = some (.ref CNa)) (gNu : mg "BadNumber" = some (.ref CNu)) (gUn : mg "Unlike" = some (.ref CUn)) (gLE : mg "LineError" = some (.ref CLE))
    (M_Values : HasMk P w K mg base (L2.CX P w) 4 CV "Values" ["self", "letters"] (spValsR K CV CC CB)) : FnOk P w K mg base CX0 6 f fd ["_law_value"] (spHeard K CV CC) := by
  refine F.ok sc_law_heard (fun vs H Q E h => ?_) (fun cdv A outer s H vs Q E hr h => ?_)
  · obtain ⟨x, rfl, _⟩ := h
    rfl
  · obtain ⟨x, rfl, hx, kg, kb⟩ := h
    have hr4 : Room 5 _ := hr
    refine ⟨_, (pss_cons (ps_set (i := 1) sc_law_heard.nd rfl (.inl rfl) pe_non)
      (pss_cons (ps_try_keep (i := 3) (tb := fun W => tRet (tLst (tCons (tMakeS CV (spValsR K CV CC CB) (WE W) (tCons (tVar 0) tNil)) tNil))) (ts := fun _ _ _ => tAsg (tVar 3) (gName 1)) rfl rfl rfl sc_law_heard.nd rfl rfl ⟨rfl, by decide, Or.inl gLE⟩
        (fun W pn xe tk _ => pss_one (ps_ret (pe_lst (by exact (pa_cons (pe_mkS M_Values hr4 (fun σ => passAt tk σ) (by exact (pa_cons (pv 0) pa_nil))) pa_nil)))))
        (fun a oe cls d pn hz hf => pss_one (ps_set (i := 1) sc_law_heard.nd rfl (.inl rfl) (by exact (pv 3)))))
      (pss_cons (ps_set (i := 2) sc_law_heard.nd rfl (.inl rfl) (pe_and (pe_callB call_isR (by rfl) B.n_isinstance (by decide +kernel) (pa_cons (pv 1) (pa_cons (pe_glob (v := .ref _) rfl gBV rfl) pa_nil))) (pe_one (pe_callB call_isR (by rfl) B.n_isinstance (by decide +kernel) (pa_cons (pv 1) (pa_cons (pe_bltn (v := .ty "ValueError") (by rfl) nVE (by decide +kernel) rfl) pa_nil))))))
      (pss_cons (ps_if (PW.pt (pw_or (pt_not (pt_val (pv 2))) (pw_or1 (pt_val (pe_callB call_isRT (by rfl) B.n_isinstance (by decide +kernel) (pa_cons (pv 1) (pa_cons (pe_tup (pa_cons (pe_glob (v := .ref _) rfl gCe rfl) (pa_cons (pe_glob (v := .ref _) rfl gNa rfl) (pa_cons (pe_glob (v := .ref _) rfl gNu rfl) (pa_cons (pe_glob (v := .ref _) rfl gUn rfl) pa_nil))))) pa_nil))))))) (pss_one (ps_ret pe_str)) pss_nil)
      (pss_one (ps_ret (pe_tup (pa_cons (pe_exr (pv 1)) pa_nil)))))))), ?_⟩
    refine ⟨_, rfl, fun v dv hv hdv ne => ⟨v, dv, x, rfl, upd_same, ?_, ?_, ?_⟩⟩
    · exact hx.same fun b o e => by rw [upd_ne (ne_of_none e hv), upd_ne (ne_of_none e hdv)]; exact e
    · intro z e gz H' cs b hv'
      have s1 : Same H H' := fun c o e => b c o (by rw [upd_ne (ne_of_none e hv), upd_ne (ne_of_none e hdv)]; exact e) (ne_of_none e hv)
      exact ⟨rfl, by show 1 ≤ sizeLine; decide, fun p hp => kg z e gz _ p v cs (s1.trans (same_new hp)) upd_same (hv'.same (same_new hp))⟩
    · intro hb d H' s0 ed
      have s1 : Same H H' := fun c o e => s0 c o (by rw [upd_ne (ne_of_none e hv), upd_ne (ne_of_none e hdv)]; exact e)
      refine ⟨HH.le, CB, rfl, fun a na => ?_⟩
      refine ⟨_, rfl, ?_⟩
      have sa : Same H' (upd H' a (exr a CB (some d))) := same_new na
      have ka : KeptAt (upd H' a (exr a CB (some d))) a CB (some d) [("value", x)] := ⟨upd_same, .inr ⟨d, rfl, sa _ _ ed⟩⟩
      refine ⟨_, rfl, CB, a, some d, _, _, _, true, HH.ex, rfl, ka, .own _, HH.bv, true, rfl, ?_⟩
      refine ⟨_, rfl, CB, a, some d, _, _, _, true, HH.ex, rfl, ka, .ty "ValueError", HH.ve, ?_⟩
      refine ⟨_, rfl, true, rfl, ?_⟩
      refine ⟨_, rfl, by show 4 ≤ sizeLine; decide, fun tp htp => ?_⟩
      have kt := ka.same (same_new (o := HO.tup [.ref CCe, .ref CNa, .ref CNu, .ref CUn]) htp)
      refine ⟨CB, a, some d, _, tp, _, _, false, HH.ex, rfl, kt, upd_same, .cons (.own _) (.cons (.own _) (.cons (.own _) (.cons (.own _) .nil))), HH.no, false, rfl, ?_⟩
      obtain ⟨e1, e2⟩ := kt
      rcases e2 with ⟨z, _⟩ | ⟨dd, z, e2⟩
      · cases z
      cases z
      refine ⟨_, rfl, a, CB, d, _, x, rfl, HH.ex, HH.fv, e1, e2, rfl, by show 1 ≤ sizeLine; decide, fun p hp => ?_⟩
      exact kb hb _ p (((s1.trans sa).trans (same_new htp)).trans (same_new hp)) upd_same
end
end K1

namespace K1
open PySem L2 LB PyProof.Rows
abbrev s_law_pen : Stmt := top 22
theorem sc_law_pen : FnScope ["_law_script"] ["_law_script"] (defScope s_law_pen) := ⟨rfl, rfl, rfl, by decide +kernel, rfl, by decide +kernel, by decide +kernel⟩
abbrev s_law_draw : Stmt := top 23
theorem sc_law_draw : FnScope ["_law_pen_here", "_law_limit", "_law_at", "_law_cell", "_law_blended", "_law_digit", "_law_great"] ["_law_pen_here", "_law_limit"] (defScope s_law_draw) := ⟨rfl, rfl, rfl, by decide +kernel, rfl, by decide +kernel, by decide +kernel⟩
abbrev s_law_pick : Stmt := top 24
theorem sc_law_pick : FnScope ["_law_pen_here", "_law_some"] ["_law_pen_here", "_law_some"] (defScope s_law_pick) := ⟨rfl, rfl, rfl, by decide +kernel, rfl, by decide +kernel, by decide +kernel⟩

section
variable {P : Program} {w : World} {K : PySem.W.Frag} {mg : Str → Option Value} {base : Heap}
theorem ok_pen {f : Addr} {fd : FuncData} (F : Fun K "_law_pen" "_law_pen" s_law_pen f fd) (B : Blt mg) : FnOk P w K mg base CX0 1 f fd ["_law_script"] (spPen K) := by
  refine F.ok sc_law_pen (fun vs H Q E h => ?_) (fun cdv A outer s H vs Q E hr h => ?_)
  · obtain ⟨a, ns, rfl, _⟩ := h
    rfl
  · obtain ⟨a, ns, rfl, hS, k⟩ := h
    refine ⟨_, (pss_one (ps_ret (pe_lst (pa_cons (pe_callTy call_list_of (by rfl) B.n_list (by decide +kernel) (pa_cons (pe_slice sl_list (pv 0) po_none (po_some pe_int)) pa_nil)) (pa_cons pe_int (pa_cons pe_int pa_nil)))))), ?_⟩
    refine ⟨_, rfl, _, rfl, a, _, rfl, hS, fun p1 n1 => ?_⟩
    refine ⟨p1, _, rfl, .inl (SqL.of upd_same), fun l hl => ⟨by show 3 ≤ sizeLine; decide, fun p hp => ?_⟩⟩
    obtain ⟨ms, e⟩ := cut_ints ns none (some 63)
    have s1 := same_new (o := .lst (cutV (ns.map V.int) none (some 63))) n1
    have s2 : Same _ (upd (upd H p1 (.lst (cutV (ns.map V.int) none (some 63)))) l (.lst (cutV (ns.map V.int) none (some 63)))) := same_new hl
    have ne : p ≠ l := (ne_of_none upd_same hp).symm
    exact k p l ms _ ((s1.trans s2).trans (same_new hp)) ((s1.trans s2).free hp) ⟨upd_same, by rw [upd_ne ne.symm, upd_same, e], Int.le_refl _, ne⟩
theorem ok_draw {f : Addr} {fd : FuncData} (F : Fun K "_law_draw" "_law_draw" s_law_draw f fd) (B : Blt mg) : FnOk P w K mg base CX0 1 f fd ["_law_pen_here", "_law_limit"] spDraw := by
  refine F.ok sc_law_draw (fun vs H Q E h => ?_) (fun cdv A outer s H vs Q E hr h => ?_)
  · obtain ⟨p, q, ns, i, r, n, rfl, _⟩ := h
    rfl
  · obtain ⟨p, q, ns, i, r, n, rfl, hp, hn, hn2, hi, k⟩ := h
    refine ⟨_, (pss_cons (ps_if (pt_cmpR op_gt (pe_ix ix_list (pv 0) pe_int (fun _ _ => rfl)) pe_int (nomark _)) (pss_cons (ps_set (i := 5) sc_law_draw.nd rfl (.inl rfl) (pe_op op_mod (pe_callTy call_int1 (by rfl) B.n_int (by decide +kernel) (pa_cons (pe_ix ix_list (pv 0) pe_int (fun _ _ => rfl)) pa_nil)) (pv 1)))
      (pss_cons (ps_asg (pe_op op_fdiv (pe_callTy call_int1 (by rfl) B.n_int (by decide +kernel) (pa_cons (pe_ix ix_list (pv 0) pe_int (fun _ _ => rfl)) pa_nil)) (pv 1)) (pg_sub (pv 0) pe_int set_list))
      (pss_one (ps_ret (pv 5))))) pss_nil)
      (pss_cons (ps_set (i := 2) sc_law_draw.nd rfl (.inl rfl) (pe_ix ix_list (pv 0) pe_int (fun _ _ => rfl)))
      (pss_cons (ps_asg (pe_op op_add (pv 2) pe_int) (pg_sub (pv 0) pe_int set_list))
      (pss_cons (ps_set (i := 3) sc_law_draw.nd rfl (.inl rfl) (pe_op op_add (pe_op op_mul pe_int (pv 2)) pe_int))
      (Evl.pss_cut (ps_if (pt_cmpR (op_neD hr.units) (pe_ix ix_list (pv 0) pe_int (fun _ _ => rfl)) (pe_lst pa_nil) (nomark _)) (pss_one (ps_set (i := 3) sc_law_draw.nd rfl (.inl rfl) (pe_ix ix_list (pe_ix ix_list (pv 0) pe_int (fun _ _ => rfl)) (pe_op op_mod (pe_callTy call_int1 (by rfl) B.n_int (by decide +kernel) (pa_cons (pv 2) pa_nil)) (pe_callB call_len (by rfl) B.n_len (by decide +kernel) (pa_cons (pe_ix ix_list (pv 0) pe_int (fun _ _ => rfl)) pa_nil))) (fun _ _ => rfl)))) pss_nil)
      (Evl.pss_cut (ps_if (PW.pt (pw_and (pt_cmpR op_lt (pv 2) (pe_callB call_len (by rfl) B.n_len (by decide +kernel) (pa_cons (pe_ix ix_list (pv 0) pe_int (fun _ _ => rfl)) pa_nil)) (nomark _)) (pw_and1 (pt_cmpR op_ge (pe_callB call_abs (by rfl) B.n_abs (by decide +kernel) (pa_cons (pv 3) pa_nil)) (pe_op op_pow pe_int pe_int) (nomark _))))) (pss_cons (ps_set (i := 6) sc_law_draw.nd rfl (.inl rfl) (pe_op op_add (pe_op op_mul pe_int (pe_op op_sub (pe_callB call_abs (by rfl) B.n_abs (by decide +kernel) (pa_cons (pv 3) pa_nil)) (pe_op op_pow pe_int pe_int))) (pe_callTy call_int1 (by rfl) B.n_int (by decide +kernel) (pa_cons (pe_cmpR op_lt (pv 3) pe_int (nomark _)) pa_nil))))
      (pss_cons (ps_asg (pe_op op_fdiv (pe_callTy call_int1 (by rfl) B.n_int (by decide +kernel) (pa_cons (pv 6) pa_nil)) (pv 1)) (pg_sub (pv 0) pe_int set_list))
      (pss_one (ps_ret (pe_op op_mod (pe_callTy call_int1 (by rfl) B.n_int (by decide +kernel) (pa_cons (pv 6) pa_nil)) (pv 1)))))) pss_nil)
      (pss_cons (ps_set (i := 4) sc_law_draw.nd rfl (.inl rfl) (pe_op op_mod (pe_callTy call_int1 (by rfl) B.n_int (by decide +kernel) (pa_cons (pe_op op_pow (pe_op op_add (pe_op op_add (pe_op op_mod (pe_callTy call_int1 (by rfl) B.n_int (by decide +kernel) (pa_cons (pv 3) pa_nil)) pe_int) (pe_op op_mul pe_int (pv 2))) pe_int) pe_int) pa_nil)) pe_int))
      (pss_cons (ps_set (i := 4) sc_law_draw.nd rfl (.inl rfl) (pe_op op_mod (pe_callTy call_int1 (by rfl) B.n_int (by decide +kernel) (pa_cons (pe_op op_pow (pe_op op_add (pe_op op_add (pe_op op_mul (pv 4) (pe_op op_add (pe_op op_mul pe_int (pv 2)) pe_int)) (pe_op op_mul (pe_op op_mul pe_int (pv 2)) (pv 2))) pe_int) pe_int) pa_nil)) pe_int))
      (pss_one (ps_ret (pe_op op_mod (pe_callTy call_int1 (by rfl) B.n_int (by decide +kernel) (pa_cons (pe_op op_fdiv (pv 4) pe_int) pa_nil)) (pv 1)))))))))))), ?_⟩
    refine ⟨_, rfl, p, _, _, _, rfl, rfl, SqL.of hp.pen, rfl, _, _, rfl, rfl, _, rfl, ?_⟩
    refine ite2 (fun c => ?_) (fun c => ?_)
    · refine ⟨_, rfl, p, _, _, _, rfl, rfl, SqL.of hp.pen, rfl, .inl ⟨_, rfl, _, rfl, _, _, rfl, rfl, hn, ?_⟩⟩
      refine ⟨_, rfl, p, _, _, _, rfl, rfl, SqL.of hp.pen, rfl, .inl ⟨_, rfl, _, rfl, _, _, rfl, rfl, ⟨hn, by omega⟩, ?_⟩⟩
      refine ⟨_, rfl, p, _, _, 2, rfl, rfl, hp.pen, rfl, ?_⟩
      refine ⟨_, rfl, ?_⟩
      exact k _ i _ _ (Int.emod_nonneg _ (by omega)) (Int.emod_lt_of_pos _ hn) (by omega) (hp.one hp.i0) .upd
    · refine ⟨_, rfl, p, _, _, _, rfl, rfl, SqL.of hp.pen, rfl, ?_⟩
      refine ⟨_, rfl, _, _, rfl, rfl, _, rfl, p, _, _, 1, rfl, rfl, hp.pen, rfl, ?_⟩
      have h1 := hp.one (i' := i + 1) (r' := r) (by have := hp.i0; omega)
      have b1 : But p H (upd H p (.lst [.ref q, .int (i + 1), .int r])) := .upd
      refine ⟨_, rfl, _, _, rfl, rfl, .inl ⟨by decide, by decide⟩, _, _, rfl, rfl, ?_⟩
      refine ⟨fun σ H' => ∃ d : Int, σ = [some (.ref p), some (.int n), some (.int i), some (.int d), none, none, none] ∧ PenAt H' p q ns (i + 1) r ∧ But p H H', ?_, ?_⟩
      · refine ⟨_, rfl, p, _, _, _, rfl, rfl, SqL.of h1.pen, rfl, by show 0 ≤ sizeLine; decide, fun l hl => ?_⟩
        have h2 : PenAt _ p q ns (i + 1) r := h1.same (same_new (o := .lst []) hl)
        have b2 : But p H _ := b1.trans (.new (o := .lst []) hl)
        refine ⟨_, _, dp_ints (SqL.of h2.lst), .lst (SqL.of upd_same) .nil, shaped_ints _, by rfl, _, rfl, ?_⟩
        cases ns with
        | nil => exact iteF ⟨_, rfl, h2, b2⟩
        | cons x xs =>
          refine iteT ?_
          obtain ⟨d, hd⟩ := at_rest (ns := x :: xs) (i := i) (fun z => by cases z)
          refine ⟨_, rfl, p, _, _, _, rfl, rfl, SqL.of h2.pen, rfl, _, rfl, .inl ⟨_, rfl, _, rfl, p, _, _, _, rfl, rfl, SqL.of h2.pen, rfl, _, _, rfl, .inl ⟨_, SqL.of h2.lst, rfl⟩, _, _, rfl, rfl, ?_, q, _, _, _, rfl, rfl, SqL.of h2.lst, hd, ?_⟩⟩
          · show (0 : Int) < (((x :: xs).map V.int).length : Int)
            rw [List.length_map, List.length_cons]
            omega
          · exact ⟨d, rfl, h2, b2⟩
      · rintro σ H' ⟨d, rfl, h2, b2⟩
        refine ⟨fun σ H2 => σ = [some (.ref p), some (.int n), some (.int i), some (.int d), none, none, none] ∧ H2 = H', ?_, ?_⟩
        · refine ⟨_, rfl, _, rfl, p, _, _, _, rfl, rfl, SqL.of h2.pen, rfl, _, _, rfl, .inl ⟨_, SqL.of h2.lst, rfl⟩, _, _, rfl, rfl, _, rfl, ?_⟩
          refine ite2 (fun c1 => ?_) (fun c1 => iteF ⟨rfl, rfl⟩)
          refine ⟨_, rfl, _, rfl, _, _, rfl, rfl, ⟨by decide, by decide, by decide⟩, _, _, rfl, rfl, _, rfl, ?_⟩
          refine ite2 (fun c2 => ?_) (fun c2 => ⟨rfl, rfl⟩)
          refine ⟨_, rfl, _, rfl, _, _, rfl, rfl, ⟨by decide, by decide, by decide⟩, _, _, rfl, rfl, _, _, rfl, rfl, .inl ⟨by decide, by decide⟩, _, rfl, _, _, rfl, rfl, .inr ⟨_, rfl, _, _, rfl, rfl, ?_⟩⟩
          refine ⟨_, rfl, .inl ⟨_, rfl, _, rfl, _, _, rfl, rfl, ⟨hn, by omega⟩, ?_⟩⟩
          refine ⟨_, rfl, p, _, _, 2, rfl, rfl, h2.pen, rfl, ?_⟩
          refine ⟨_, rfl, .inl ⟨_, rfl, _, rfl, _, _, rfl, rfl, hn, ?_⟩⟩
          exact k _ (i + 1) _ _ (Int.emod_nonneg _ (by omega)) (Int.emod_lt_of_pos _ hn) (by omega) (h2.one h2.i0) (b2.trans .upd)
        · rintro σ H2 ⟨rfl, rfl⟩
          have i0 := hp.i0
          refine ⟨_, rfl, .inl ⟨_, rfl, _, _, rfl, rfl, (by show (0 : Int) < _; decide), _, rfl, _, _, rfl, rfl, .inl ⟨by decide, by decide⟩, _, _, rfl, rfl, _, _, rfl, rfl, _, _, rfl, rfl, ⟨by decide, by decide, mixA (by decide) (by decide) i0 hi (by decide) (by decide) (by decide) (by decide)⟩, ?_⟩⟩
          refine .inl ⟨_, rfl, _, _, rfl, rfl, (by show (0 : Int) < _; decide), ?_⟩
          refine ⟨_, rfl, _, rfl, _, _, rfl, rfl, .inl ⟨by decide, by decide⟩, _, _, rfl, rfl, _, _, rfl, rfl, mixD (by decide) (by decide), _, rfl, _, _, rfl, rfl, .inl ⟨by decide, by decide⟩, _, rfl, _, _, rfl, rfl, mixC i0 hi (by decide) (by decide), _, _, rfl, rfl, _, _, rfl, rfl, _, _, rfl, rfl, ⟨by decide, by decide, mixB (by decide) (by decide) i0 hi (by decide) (by decide) (by decide) (by decide) (by decide) (by decide) (by decide) (by decide)⟩, ?_⟩
          refine .inl ⟨_, rfl, _, _, rfl, rfl, (by show (0 : Int) < _; decide), ?_⟩
          refine ⟨_, rfl, _, _, rfl, rfl, ⟨by decide, by decide⟩, .inl ⟨_, rfl, _, rfl, _, _, rfl, rfl, hn, ?_⟩⟩
          exact k _ (i + 1) _ _ (Int.emod_nonneg _ (by omega)) (Int.emod_lt_of_pos _ hn) (by omega) h2 b2
end
end K1

namespace K1
open PySem L2 LB PyProof.Rows
abbrev s_law_letters : Stmt := top 25
theorem sc_law_letters : FnScope ["_law_pen_here", "_law_pool", "_law_turn"] ["_law_pen_here"] (defScope s_law_letters) := ⟨rfl, rfl, rfl, by decide +kernel, rfl, by decide +kernel, by decide +kernel⟩

def spPick : Sp := fun vs H Q _ => ∃ (p l q : Addr) (xs : List V) (ns : List Int) (i r : Int), vs = [.ref p, .ref l] ∧ H l = some (.lst xs) ∧ 0 < xs.length ∧ xs.length < 1000 ∧ PenAt H p q ns i r ∧ i < 1000000 ∧ l ≠ p ∧
  ∀ x ∈ xs, ∀ i' r' H', But p H H' → PenAt H' p q ns i' r' → i' ≤ i + 1 → Q x H'
def spLetters : Sp := fun vs H Q _ => ∃ (p q : Addr) (ns : List Int) (i r : Int), vs = [.ref p] ∧ PenAt H p q ns i r ∧ i < 900000 ∧
  ∀ z i' r' H', But p H H' → PenAt H' p q ns i' r' → i' ≤ i + 6 → Good z → Q (.str z) H'
theorem small_signs : (LB.signs (Str.ofString "abcdefghijklmnopqrstuvwxyz")).map V.str = (sgs small).map V.str := by decide +kernel
theorem erase_perm : ∀ (l : List Nat) (n : Nat) (h : n < l.length), List.Perm (l[n] :: l.eraseIdx n) l
  | x :: l, 0, _ => List.Perm.refl _
  | x :: l, n + 1, h => (List.Perm.swap x _ _).trans (List.Perm.cons x (erase_perm l n (Nat.lt_of_succ_lt_succ h)))
  | [], n, h => absurd h (Nat.not_lt_zero n)
theorem erase_map {α β : Type} (f : α → β) : ∀ (l : List α) (n : Nat), (l.map f).eraseIdx n = (l.eraseIdx n).map f
  | [], _ => rfl
  | x :: l, 0 => rfl
  | x :: l, n + 1 => congrArg (f x :: ·) (erase_map f l n)
theorem small_nd : small.Nodup := by decide +kernel
theorem seq_ix {d : Nat} {n : Nat} (h : d < n) : seqIndex? (d : Int) n = some d := by
  unfold seqIndex?
  have h1 : ¬ ((d : Int) < 0) := by omega
  simp only [h1, if_false]
  have h2 : (0 : Int) ≤ (d : Int) ∧ (d : Int) < (n : Int) := by omega
  simp [h2.2]
section
variable {P : Program} {w : World} {K : PySem.W.Frag} {mg : Str → Option Value} {base : Heap}
/-- the letters drawn so far at D, those left at l -/
def Drawn (H : Hp) (D l p q : Addr) (ns : List Int) (i0 : Int) (n : Nat) : Prop := ∃ (acc rest : List Nat) (i r : Int), acc.length = n ∧ acc.length + rest.length = 26 ∧ (acc ++ rest).Nodup ∧ (∀ c ∈ acc ++ rest, c ∈ small) ∧
  H D = some (.lst ((sgs acc).map V.str)) ∧ H l = some (.lst ((sgs rest).map V.str)) ∧ PenAt H p q ns i r ∧ i ≤ i0 + n
theorem ok_letters {f : Addr} {fd : FuncData} (F : Fun K "_law_letters" "_law_letters" s_law_letters f fd) (B : Blt mg) (D_law_draw : HasFn P w K mg base CX0 1 "_law_draw" ["_law_pen_here", "_law_limit"] spDraw) (D_law_pick : HasFn P w K mg base CX0 2 "_law_pick" ["_law_pen_here", "_law_some"] spPick) :
    FnOk P w K mg base CX0 3 f fd ["_law_pen_here"] spLetters := by
  refine F.ok sc_law_letters (fun vs H Q E h => ?_) (fun cdv A outer s H vs Q E hr h => ?_)
  · obtain ⟨p, q, ns, i, r, rfl, _⟩ := h
    rfl
  · obtain ⟨p, q, ns, i, r, rfl, hp, hi, k⟩ := h
    refine ⟨_, (pss_cons (ps_set (i := 1) sc_law_letters.nd rfl (.inr rfl) (pe_callTy (call_list_text rfl) (by rfl) B.n_list (by decide +kernel) (pa_cons pe_str pa_nil)))
      (pss_one (ps_ret (pe_join pe_str (pe_lc rfl sc_law_letters.nd (pi_range1 (by rfl) B.n_range (pa_cons (pe_fn D_law_pick (hr.mono (by decide)) pass0 (pa_cons (pv 0) (pa_cons (pe_lst (pa_cons pe_int (pa_cons pe_int (pa_cons pe_int (pa_cons pe_int pa_nil))))) pa_nil))) pa_nil)) (blkOk_by (own := [("_law_turn", 2)]) (N := ["_law_pen_here", "_law_pool", "_law_turn"]) (sc := defScope s_law_letters) (by decide +kernel)) (fun _ _ _ _ _ => (pg_name (i := 2) sc_law_letters.nd rfl (.inl rfl))) (fun _ _ _ _ _ => pts_nil) (fun _ _ _ _ _ => (pe_bmB PySem.F.plainAttrs_list PySem.F.slot_list_pop PySem.F.type_list_pop mt_popAt (pv 1) (pa_cons (pe_fn D_law_draw (hr.mono (by decide)) pass0 (pa_cons (pv 0) (pa_cons (pe_callB call_lenB (by rfl) B.n_len (by decide +kernel) (pa_cons (pv 1) pa_nil)) pa_nil))) pa_nil)))))))), ?_⟩
    refine ⟨_, rfl, by decide, fun pl hpl => ?_⟩
    have s1 := same_new (o := HO.lst ((LB.signs (Str.ofString "abcdefghijklmnopqrstuvwxyz")).map V.str)) hpl
    have e1 : upd H pl (HO.lst ((LB.signs (Str.ofString "abcdefghijklmnopqrstuvwxyz")).map V.str)) pl = some (.lst ((sgs small).map V.str)) := by rw [upd_same, small_signs]
    have npl : pl ≠ p := (ne_of_none hp.pen hpl).symm
    generalize upd H pl (HO.lst ((LB.signs (Str.ofString "abcdefghijklmnopqrstuvwxyz")).map V.str)) = H1 at s1 e1 ⊢
    refine ⟨⟨_, rfl⟩, ?_⟩
    refine ⟨_, rfl, by show 4 ≤ sizeLine; decide, fun l4 hl4 => ?_⟩
    have s2 := s1.trans (same_new (o := HO.lst [.int 2, .int 2, .int 3, .int 4]) hl4)
    refine ⟨p, l4, q, _, ns, i, r, rfl, upd_same, by decide, by decide, hp.same s2, by omega, (ne_of_none (s1 _ _ hp.pen) hl4).symm, fun x hx i2 r2 H2 b2 hp2 hi2 => ?_⟩
    obtain ⟨m, rfl, m2, m4⟩ : ∃ m : Nat, x = .int (m : Nat) ∧ 2 ≤ m ∧ m ≤ 4 := by
      simp only [List.mem_cons, List.mem_nil_iff, or_false] at hx
      rcases hx with rfl | rfl | rfl | rfl
      · exact ⟨2, rfl, by decide, by decide⟩
      · exact ⟨2, rfl, by decide, by decide⟩
      · exact ⟨3, rfl, by decide, by decide⟩
      · exact ⟨4, rfl, by decide, by decide⟩
    refine ⟨(m : Nat), rfl, by omega, by omega, ?_⟩
    rw [Int.toNat_natCast]
    intro D hD
    have el2 : H2 pl = some (.lst ((sgs small).map V.str)) := b2 _ _ (same_new hl4 _ _ e1) npl
    have bH : But p H H2 := But.trans (But.of_same s2) b2
    refine lc_range (lo := 0) (n := m) (fun j H' => Drawn H' D pl p q ns i2 j ∧ But p H H') ⟨⟨[], small, i2, r2, rfl, by decide, small_nd, fun c h => h, upd_same, same_new hD _ _ el2, hp2.same (same_new hD), by omega⟩, But.trans bH (.new hD)⟩ (fun j H3 hj h3 => ?_) (fun H3 h3 => ?_)
    · obtain ⟨⟨acc, rest, i3, r3, a1, a2, a3, a4, a5, a6, a7, a8⟩, b3⟩ := h3
      refine ⟨rfl, ?_⟩
      refine ⟨_, rfl, .inl ⟨rfl, _, SqL.of a6⟩, ?_⟩
      refine ⟨_, rfl, _, rfl, _, _, rfl, .inl ⟨_, SqL.of a6, rfl⟩, p, q, ns, i3, r3, _, rfl, a7, ?_, ?_, by omega, fun d i4 r4 H4 d0 d1 hi4 hp4 b4 => ?_⟩
      · rw [List.length_map, sgs_len]; omega
      · rw [List.length_map, sgs_len]; omega
      · rw [List.length_map, sgs_len] at d1
        obtain ⟨dn, rfl⟩ : ∃ dn : Nat, d = (dn : Int) := ⟨d.toNat, by omega⟩
        have hdn : dn < rest.length := by omega
        have Dp : D ≠ p := fun e => by rw [e, a7.pen] at a5; injection a5 with a5; injection a5 with a5; cases acc <;> cases a5
        refine ⟨pl, _, _, dn, .str ⟨#[rest[dn]]⟩, rfl, rfl, b4 _ _ a6 npl, by omega, by omega, seq_ix (by rw [List.length_map, sgs_len]; exact hdn), ?_, ?_⟩
        · rw [List.getElem?_map]; unfold sgs; rw [List.getElem?_map, List.getElem?_eq_getElem hdn]; rfl
        · have nD : pl ≠ D := ne_of_none el2 hD
          have pm : List.Perm ((acc ++ [rest[dn]]) ++ rest.eraseIdx dn) (acc ++ rest) := by
            rw [List.append_assoc]
            exact List.Perm.append_left acc (erase_perm rest dn hdn)
          have ee : ((sgs rest).map V.str).eraseIdx dn = (sgs (rest.eraseIdx dn)).map V.str := by
            unfold sgs
            rw [List.map_map, List.map_map, erase_map]
          have h5 : upd H4 pl (.lst (((sgs rest).map V.str).eraseIdx dn)) D = some (.lst ((sgs acc).map V.str)) := by rw [upd_ne nD.symm]; exact b4 _ _ a5 Dp
          have b5 : But p H (upd H4 pl (.lst (((sgs rest).map V.str).eraseIdx dn))) := fun c o e n => by rw [upd_ne (ne_of_none e hpl)]; exact b4 _ _ (b3 _ _ e n) n
          refine ⟨_, h5, ?_, ⟨acc ++ [rest[dn]], rest.eraseIdx dn, i4, r4, by rw [List.length_append, a1]; rfl, by rw [List.length_append, List.length_eraseIdx_of_lt hdn]; show acc.length + 1 + (rest.length - 1) = 26; omega, pm.nodup_iff.mpr a3, fun c hc => a4 c (pm.mem_iff.mp hc), ?_, ?_, ?_, by omega⟩, ?_⟩
          · rw [List.length_map, sgs_len]
            have : 26 < sizeLine := by decide
            omega
          · rw [upd_same, sgs_append, List.map_append]; rfl
          · rw [upd_ne nD, upd_same, ee]
          · have c1 : PenAt (upd H4 pl (.lst (((sgs rest).map V.str).eraseIdx dn))) p q ns i4 r4 := ⟨by rw [upd_ne npl.symm]; exact hp4.pen, by
              rw [upd_ne (fun z => by
                have := hp.lst
                rw [z, hpl] at this
                cases this)]
              exact hp4.lst, hp4.i0, hp4.ne⟩
            exact ⟨by rw [upd_ne Dp.symm]; exact c1.pen, by
              rw [upd_ne (fun z => by
                have := hp2.lst
                rw [z, hD] at this
                cases this)]
              exact c1.lst, c1.i0, c1.ne⟩
          · exact fun c o e n => by
              have n2 : c ≠ D := ne_of_none (bH _ _ e n) hD
              rw [upd_ne n2]
              exact b5 c o e n
    · obtain ⟨⟨acc, rest, i3, r3, a1, a2, a3, a4, a5, a6, a7, a8⟩, b3⟩ := h3
      refine ⟨_, D, sgs acc, rfl, rfl, .inl (SqL.of a5), ?_, ?_⟩
      · have e : ∀ l : List Nat, ((sgs l).map (·.length)).sum = l.length := by
          intro l
          induction l with
          | nil => rfl
          | cons c r ih => show 1 + ((sgs r).map (·.length)).sum = _; rw [ih, List.length_cons]; omega
        show ((sgs acc).map (·.length)).sum + (sgs acc).length * 0 ≤ 16777216
        rw [e]
        omega
      · show Q (.str (Txt.join (Str.ofString "") (sgs acc))) H3
        have ej : Txt.join (Str.ofString "") (sgs acc) = ⟨acc.toArray⟩ := join_sgs _
        rw [ej]
        exact k _ i3 r3 H3 b3 a7 (by omega) ⟨by show 2 ≤ acc.length; omega, by show acc.length ≤ 4; omega, fun c hc => a4 c (List.mem_append_left _ (by simpa using hc)), by
          have := (List.nodup_append.mp a3).1
          simpa using this⟩
end
end K1

namespace K1
open PySem L2 LB PyProof.Rows
abbrev s_ValuesDD_lenDD : Stmt := inClass (top 16) 2
theorem sc_ValuesDD_lenDD : FnScope ["self"] ["self"] (defScope s_ValuesDD_lenDD) := ⟨rfl, rfl, rfl, by decide +kernel, rfl, by decide +kernel, by decide +kernel⟩
abbrev s_ValuesDD_containsDD : Stmt := inClass (top 16) 3
theorem sc_ValuesDD_containsDD : FnScope ["self", "x"] ["self", "x"] (defScope s_ValuesDD_containsDD) := ⟨rfl, rfl, rfl, by decide +kernel, rfl, by decide +kernel, by decide +kernel⟩
abbrev s_ValuesDD_eqDD : Stmt := inClass (top 16) 4
theorem sc_ValuesDD_eqDD : FnScope ["self", "other"] ["self", "other"] (defScope s_ValuesDD_eqDD) := ⟨rfl, rfl, rfl, by decide +kernel, rfl, by decide +kernel, by decide +kernel⟩

structure VT (K : PySem.W.Frag) (C : Addr) : Prop where
  cl : Cls K C
  ha : PySem.W.findIn K (.ref C) "__class__" = some (some (.builtin "object.__class__"))
  hn : PySem.W.specialIn K (.builtin "object.__class__") "__get__" = some (some (.builtin "getset_descriptor.__get__"))
  htk : PySem.W.takesIn K (.builtin "object.__class__") = some true
  hm : PySem.W.mroIn K C (.type "object") = some true
theorem VT.ty {K : PySem.W.Frag} {H : Hp} {C : Addr} (T : VT K C) {a dx : Addr} {fs : List (Str × V)} (e : H a = some (.ins C dx fs)) : TyX K H (.ref a) (.ref C) := .base (.ins e T.cl T.ha T.hn T.htk T.hm)
/-- which types are values, texts, lists -/
structure KV (K : PySem.W.Frag) (CV : Addr) : Prop where
  vt : VT K CV
  vv : PySem.W.kitOne K (.ref CV) (.ref CV) = some true
  sv : PySem.W.kitOne K (.type "str") (.ref CV) = some false
  nv : PySem.W.kitOne K (.type "NoneType") (.ref CV) = some false
  vs : PySem.W.kitOne K (.ref CV) (.type "str") = some false
def spLenV (CV : Addr) : Sp := fun vs H Q _ => ∃ (v dx : Addr) (fs : List (Str × V)) (z : Str), vs = [.ref v] ∧ H v = some (.ins CV dx fs) ∧ fs.lookup ("letters" : Str) = some (.str z) ∧ z.length ≤ sizeLine ∧ Q (.int (z.cps.size : Nat)) H
def spInV (K : PySem.W.Frag) (CV : Addr) : Sp := fun vs H Q _ => ∃ (v dx : Addr) (fs : List (Str × V)) (z : Str) (x : V), vs = [.ref v, x] ∧ H v = some (.ins CV dx fs) ∧ fs.lookup ("letters" : Str) = some (.str z) ∧ TextOr K H x ∧ Q (.bl (isLet z x)) H
def spEqV (CV : Addr) : Sp := fun vs H Q _ => ∃ (v dx : Addr) (fs : List (Str × V)) (z : Str) (y : V), vs = [.ref v, y] ∧ H v = some (.ins CV dx fs) ∧ fs.lookup ("letters" : Str) = some (.str z) ∧
  ((∃ (u du : Addr) (gs : List (Str × V)) (z2 : Str), y = .ref u ∧ H u = some (.ins CV du gs) ∧ gs.lookup ("letters" : Str) = some (.str z2) ∧ Q (.bl (decide (z = z2))) H) ∨ (((∃ t, y = .str t) ∨ y = .non) ∧ Q (.bl false) H))
theorem dec_str {a b : Str} : decide (V.str a = V.str b) = decide (a = b) := by
  by_cases h : a = b
  · rw [h]; exact (decide_eq_true rfl).trans (decide_eq_true rfl).symm
  · rw [decide_eq_false h, decide_eq_false fun q => h (by injection q)]
section
variable {P : Program} {w : World} {K : PySem.W.Frag} {mg : Str → Option Value} {base : Heap}
theorem ok_pick {f : Addr} {fd : FuncData} (F : Fun K "_law_pick" "_law_pick" s_law_pick f fd) (B : Blt mg) (D_law_draw : HasFn P w K mg base CX0 1 "_law_draw" ["_law_pen_here", "_law_limit"] spDraw) : FnOk P w K mg base CX0 2 f fd ["_law_pen_here", "_law_some"] spPick := by
  refine F.ok sc_law_pick (fun vs H Q E h => ?_) (fun cdv A outer s H vs Q E hr h => ?_)
  · obtain ⟨p, l, q, xs, ns, i, r, rfl, _⟩ := h
    rfl
  · obtain ⟨p, l, q, xs, ns, i, r, rfl, hl, h0, hz, hp, hi, hn, k⟩ := h
    refine ⟨_, (pss_one (ps_ret (pe_ix ix_list (pv 1) (pe_fn D_law_draw (hr.mono (by decide)) pass0 (pa_cons (pv 0) (pa_cons (pe_callB call_len (by rfl) B.n_len (by decide +kernel) (pa_cons (pv 1) pa_nil)) pa_nil))) (fun _ _ => rfl)))), ?_⟩
    refine ⟨_, rfl, _, rfl, _, rfl, _, _, rfl, .inl ⟨xs, SqL.of hl, rfl⟩, p, q, ns, i, r, _, rfl, hp, by omega, by omega, hi, fun d i' r' H' d0 d1 hi' hp' b => ?_⟩
    obtain ⟨n, rfl⟩ : ∃ n : Nat, d = (n : Int) := ⟨d.toNat, by omega⟩
    have hn' : n < xs.length := by omega
    exact ⟨l, xs, _, _, rfl, rfl, SqL.of (b _ _ hl hn), atI_nat (List.getElem?_eq_getElem hn'), k _ (List.getElem_mem hn') i' r' H' b hp' hi'⟩
theorem ok_lenV {CV CC : Addr} {f : Addr} {fd : FuncData} (F : Fun K "__len__" "Values.__len__" s_ValuesDD_lenDD f fd) (B : Blt mg) (VV : VF K CV CC) : FnOk P w K mg base CX0 1 f fd ["self"] (spLenV CV) := by
  refine F.ok sc_ValuesDD_lenDD (fun vs H Q E h => ?_) (fun cdv A outer s H vs Q E hr h => ?_)
  · obtain ⟨v, dx, fs, z, rfl, _⟩ := h
    rfl
  · obtain ⟨v, dx, fs, z, rfl, hv, hl, hz, k⟩ := h
    refine ⟨_, (pss_one (ps_ret (pe_callB call_len (by rfl) B.n_len (by decide +kernel) (pa_cons (pe_fld (pv 0) rfl) pa_nil)))), ?_⟩
    exact ⟨_, rfl, v, CV, dx, fs, _, rfl, hv, VV.cv, VV.vl, hl, _, _, rfl, ⟨hz, rfl⟩, k⟩
theorem ok_inV {CV CC : Addr} {f : Addr} {fd : FuncData} (F : Fun K "__contains__" "Values.__contains__" s_ValuesDD_containsDD f fd) (B : Blt mg) (VV : VF K CV CC) (D_is_letter_of : HasFn P w K mg base CX0 1 "is_letter_of" ["letters", "value"] (spLet K)) : FnOk P w K mg base CX0 2 f fd ["self", "x"] (spInV K CV) := by
  refine F.ok sc_ValuesDD_containsDD (fun vs H Q E h => ?_) (fun cdv A outer s H vs Q E hr h => ?_)
  · obtain ⟨v, dx, fs, z, x, rfl, _⟩ := h
    rfl
  · obtain ⟨v, dx, fs, z, x, rfl, hv, hl, hx, k⟩ := h
    refine ⟨_, (pss_one (ps_ret (pe_fn D_is_letter_of (hr.mono (by decide)) pass0 (pa_cons (pe_fld (pv 0) rfl) (pa_cons (pv 1) pa_nil))))), ?_⟩
    exact ⟨_, rfl, v, CV, dx, fs, _, rfl, hv, VV.cv, VV.vl, hl, _, rfl, z, x, rfl, hx, k⟩
theorem ok_eqV {CV CC : Addr} {ts : Tok} {f : Addr} {fd : FuncData} (F : Fun K "__eq__" "Values.__eq__" s_ValuesDD_eqDD f fd) (B : Blt mg) (VV : VF K CV CC) (G : Consts mg CV ts) (KV : KV K CV) : FnOk P w K mg base CX0 1 f fd ["self", "other"] (spEqV CV) := by
  refine F.ok sc_ValuesDD_eqDD (fun vs H Q E h => ?_) (fun cdv A outer s H vs Q E hr h => ?_)
  · obtain ⟨v, dx, fs, z, y, rfl, _⟩ := h
    rfl
  · obtain ⟨v, dx, fs, z, y, rfl, hv, hl, hy⟩ := h
    refine ⟨_, (pss_one (ps_ret (pe_and (pe_callB call_isi (by rfl) B.n_isinstance (by decide +kernel) (pa_cons (pv 1) (pa_cons (pe_glob (v := .ref _) rfl G.mgV rfl) pa_nil))) (pe_one (pe_cmpR op_eq (pe_fld (pv 0) rfl) (pe_fld (pv 1) rfl) (nomark _)))))), ?_⟩
    rcases hy with ⟨u, du, gs, z2, rfl, hu, hl2, k⟩ | ⟨hy, k⟩
    · refine ⟨_, rfl, _, _, _, _, true, rfl, .own _, KV.vt.ty hu, KV.vv, true, rfl, iteT ?_⟩
      refine ⟨_, rfl, v, CV, dx, fs, _, rfl, hv, VV.cv, VV.vl, hl, _, rfl, u, CV, du, gs, _, rfl, hu, VV.cv, VV.vl, hl2, rfl, ?_⟩
      rw [dec_str]
      exact k
    · rcases hy with ⟨t, rfl⟩ | rfl
      · exact ⟨_, rfl, _, _, _, _, false, rfl, .own _, .base (.str t), KV.sv, false, rfl, iteF k⟩
      · exact ⟨_, rfl, _, _, _, _, false, rfl, .own _, .base .non, KV.nv, false, rfl, iteF k⟩
end
end K1

namespace K1
open PySem L2 LB PyProof.Rows
abbrev s_law_is : Stmt := top 27
theorem sc_law_is : FnScope ["_law_thing", "_law_sign", "_law_k"] ["_law_thing"] (defScope s_law_is) := ⟨rfl, rfl, rfl, by decide +kernel, rfl, by decide +kernel, by decide +kernel⟩
abbrev s_law_bent : Stmt := top 28
theorem sc_law_bent : FnScope ["_law_pen_here", "_law_word", "_law_at", "_law_sign"] ["_law_pen_here", "_law_word"] (defScope s_law_bent) := ⟨rfl, rfl, rfl, by decide +kernel, rfl, by decide +kernel, by decide +kernel⟩

def spIs : Sp := fun vs H Q _ => ∃ z : Str, vs = [.str z] ∧ z.cps.size ≤ 1000 ∧ PyData.strOk z = true ∧ ∀ H', Same H H' → Q (.bl (isGood (.str z))) H'
def spBent : Sp := fun vs H Q _ => ∃ (p q : Addr) (ns : List Int) (i r : Int) (z : Str), vs = [.ref p, .str z] ∧ PenAt H p q ns i r ∧ i < 900000 ∧ 1 ≤ z.cps.size ∧ z.cps.size ≤ 100 ∧ PyData.strOk z = true ∧
  ∀ y i' r' H', But p H H' → PenAt H' p q ns i' r' → i' ≤ i + 4 → y.cps.size ≤ 2 * z.cps.size + 2 → PyData.strOk y = true → Q (.str y) H'
theorem abc_small : (Str.ofString "abcdefghijklmnopqrstuvwxyz").cps.toList = small := by decide +kernel
def notS (c : Nat) : Bool := !decide (c ∈ small)
def dupAt (l : List Nat) (k : Nat) : Bool := decide (l.getD k 0 ∈ l.take k)
theorem filter_take {l : List Nat} {p : Nat → Bool} {i c : Nat} (h : l[i]? = some c) : (l.take (i + 1)).filter p = (l.take i).filter p ++ (if p c then [c] else []) := by
  rw [List.take_add_one, h, List.filter_append]
  congr 1
  show List.filter p [c] = _
  by_cases q : p c = true
  · rw [if_pos q, List.filter_cons, if_pos q]; rfl
  · rw [if_neg q, List.filter_cons, if_neg q]; rfl
theorem filter_range {p : Nat → Bool} {i : Nat} : (List.range (i + 1)).filter p = (List.range i).filter p ++ (if p i then [i] else []) := by
  rw [List.range_succ, List.filter_append]
  congr 1
  by_cases q : p i = true
  · rw [if_pos q, List.filter_cons, if_pos q]; rfl
  · rw [if_neg q, List.filter_cons, if_neg q]; rfl
theorem dup_nil {l : List Nat} : ((List.range l.length).filter (dupAt l)) = [] ↔ l.Nodup := by
  rw [List.filter_eq_nil_iff]
  constructor
  · intro h
    rw [List.nodup_iff_pairwise_ne, List.pairwise_iff_getElem]
    intro i j hi hj hij e
    refine h j (List.mem_range.mpr hj) ?_
    unfold dupAt
    rw [decide_eq_true_iff, List.getD_eq_getElem?_getD, List.getElem?_eq_getElem hj]
    show l[j] ∈ l.take j
    rw [← e]
    refine List.mem_iff_getElem.mpr ⟨i, by rw [List.length_take]; omega, by rw [List.getElem_take]⟩
  · intro h k hk
    have hk' := List.mem_range.mp hk
    unfold dupAt
    rw [decide_eq_true_iff, List.getD_eq_getElem?_getD, List.getElem?_eq_getElem hk']
    show ¬ l[k] ∈ l.take k
    intro q
    obtain ⟨i, hi, e⟩ := List.mem_iff_getElem.mp q
    rw [List.length_take] at hi
    rw [List.getElem_take] at e
    rw [List.nodup_iff_pairwise_ne, List.pairwise_iff_getElem] at h
    exact h i k (by omega) hk' (by omega) e
theorem dp_strs {K : PySem.W.Frag} {H : Hp} {q : Addr} {ns : List Str} (h : SqL K H q (ns.map V.str)) : Dp K H (.ref q) (.list (ns.map PyData.str)) := by
  refine Dp.lst h ?_
  clear h
  induction ns with
  | nil => exact .nil
  | cons a r ih => exact .cons (.str a) ih
theorem shaped_strs {ns : List Str} (h : ∀ z ∈ ns, PyData.strOk z = true) : SeqAt.shaped (.list (ns.map PyData.str)) = true := by
  have h1 : ∀ ns : List Str, (∀ z ∈ ns, PyData.strOk z = true) → PyData.canLayAll0 (ns.map PyData.str) = true := fun ns => by
    induction ns with
    | nil => intro _; rfl
    | cons a r ih =>
      intro h
      rw [List.map_cons, PyData.canLayAll0, ih fun z hz => h z (List.mem_cons_of_mem _ hz), PyData.canLay0, h a List.mem_cons_self]
      rfl
  have h2 : ∀ ns : List Str, PyData.depthAll (ns.map PyData.str) = 0 := fun ns => by
    induction ns with
    | nil => rfl
    | cons a r ih => show max 0 (PyData.depthAll (r.map PyData.str)) = 0; rw [ih]; rfl
  unfold SeqAt.shaped
  rw [Bool.and_eq_true]
  exact ⟨h1 ns h, by rw [decide_eq_true_iff]; show PyData.depthAll (ns.map PyData.str) + 1 ≤ 64; rw [h2]; decide⟩
theorem strOk_iff {z : Str} : PyData.strOk z = true ↔ ∀ c ∈ z.cps.toList, c < 0x110000 := by
  unfold PyData.strOk
  rw [← Array.all_toList, List.all_eq_true]
  simp
theorem strOk_sgs {l : List Nat} (h : ∀ c ∈ l, c < 0x110000) : ∀ z ∈ sgs l, PyData.strOk z = true := by
  intro z hz
  unfold sgs at hz
  obtain ⟨c, hc, rfl⟩ := List.mem_map.mp hz
  rw [strOk_iff]
  intro d hd
  have : d = c := by simpa using hd
  rw [this]
  exact h c hc
theorem iteP {c A B : Prop} [Decidable c] (h : c) (q : A) : if c then A else B := by rw [if_pos h]; exact q
theorem iteN {c A B : Prop} [Decidable c] (h : ¬ c) (q : B) : if c then A else B := by rw [if_neg h]; exact q
theorem eqv_nil {ds : List PyData} : PyData.eqv (.list ds) (.list []) = ds.isEmpty := by cases ds <;> rfl
theorem cut_take {z : Str} {k : Nat} : (cutS z none (some (k : Int))).cps.toList = z.cps.toList.take k := by
  unfold cutS
  show ((z.cps.toList.drop 0).take (HT.sIx z.length z.length (some (k : Int)) - 0)) = _
  rw [HT.sIx_nat, List.drop_zero, Nat.sub_zero]
  show z.cps.toList.take (min k z.cps.size) = _
  rw [← Array.length_toList, ← List.take_take, List.take_length]
section
variable {P : Program} {w : World} {K : PySem.W.Frag} {mg : Str → Option Value} {base : Heap}
theorem ok_is {f : Addr} {fd : FuncData} (F : Fun K "_law_is" "_law_is" s_law_is f fd) (B : Blt mg) : FnOk P w K mg base CX0 1 f fd ["_law_thing"] spIs := by
  refine F.ok sc_law_is (fun vs H Q E h => ?_) (fun cdv A outer s H vs Q E hr h => ?_)
  · obtain ⟨z, rfl, _⟩ := h
    rfl
  · obtain ⟨z, rfl, hz, so, k⟩ := h
    have hzl : z.length ≤ sizeLine := Nat.le_trans (show z.length ≤ 1000 from hz) (by decide)
    refine ⟨_, (pss_cons (ps_if (PW.pt (pw_or (pt_not (pt_val (pe_callB call_isi (by rfl) B.n_isinstance (by decide +kernel) (pa_cons (pv 0) (pa_cons (pe_bltn (v := .ty "str") (by rfl) B.n_str (by decide +kernel) rfl) pa_nil))))) (pw_or1 (pt_not (pt_chain op_le op_le pe_int (pe_callB call_len (by rfl) B.n_len (by decide +kernel) (pa_cons (pv 0) pa_nil)) pe_int))))) (pss_one (ps_ret pe_bl)) pss_nil)
      (pss_cons (ps_if (pt_cmpR (op_neD hr.units) (pe_lc rfl sc_law_is.nd (pi_str (pv 0)) (blkOk_by (own := [("_law_sign", 1)]) (N := ["_law_thing", "_law_sign", "_law_k"]) (sc := defScope s_law_is) (by decide +kernel)) (fun _ _ _ _ _ => (pg_name (i := 1) sc_law_is.nd rfl (.inl rfl))) (fun _ _ _ _ _ => (pts_one (pt_cmpR op_notIn_sign (pv 1) pe_str (by rfl)))) (fun _ _ _ _ _ => (pv 1))) (pe_lst pa_nil) (nomark _)) (pss_one (ps_ret pe_bl)) pss_nil)
      (pss_one (ps_ret (pe_cmpR (op_eqD hr.units) (pe_lc rfl sc_law_is.nd (pi_range1 (by rfl) B.n_range (pa_cons (pe_callB call_len (by rfl) B.n_len (by decide +kernel) (pa_cons (pv 0) pa_nil)) pa_nil)) (blkOk_by (own := [("_law_k", 2)]) (N := ["_law_thing", "_law_sign", "_law_k"]) (sc := defScope s_law_is) (by decide +kernel)) (fun _ _ _ _ _ => (pg_name (i := 2) sc_law_is.nd rfl (.inl rfl))) (fun _ _ _ _ _ => (pts_one (pt_cmpR op_in_sign (pe_ix ix_str (pv 0) (pv 2) (fun _ _ => rfl)) (pe_slice sl_str (pv 0) po_none (po_some (pv 2))) (by rfl)))) (fun _ _ _ _ _ => (pv 2))) (pe_lst pa_nil) (nomark _)))))), ?_⟩
    refine ⟨_, rfl, _, _, _, _, true, rfl, .ty "str", .base (.str z), kit_ty (by decide +kernel), true, rfl, ?_⟩
    by_cases c2 : 2 ≤ z.cps.size
    case neg =>
      have d2 : decide ((2 : Int) ≤ (z.length : Nat)) = false := decide_eq_false (by show ¬ (2 : Int) ≤ ((z.cps.size : Nat) : Int); omega)
      refine ⟨_, rfl, _, _, rfl, ⟨hzl, rfl⟩, _, _, rfl, rfl, false, congrArg V.bl d2, iteF ⟨false, rfl, ?_⟩⟩
      have := k H (Same.refl H)
      rw [isGood_str, decide_eq_false c2] at this
      exact this
    case pos =>
    have d2 : decide ((2 : Int) ≤ (z.length : Nat)) = true := decide_eq_true (by show (2 : Int) ≤ ((z.cps.size : Nat) : Int); omega)
    refine ⟨_, rfl, _, _, rfl, ⟨hzl, rfl⟩, _, _, rfl, rfl, true, congrArg V.bl d2, iteT ?_⟩
    by_cases c4 : z.cps.size ≤ 4
    case neg =>
      have d4 : decide (((z.length : Nat) : Int) ≤ 4) = false := decide_eq_false (by show ¬ ((z.cps.size : Nat) : Int) ≤ 4; omega)
      refine ⟨_, _, rfl, rfl, false, congrArg V.bl d4, ?_⟩
      have := k H (Same.refl H)
      rw [isGood_str, decide_eq_true c2, decide_eq_false c4] at this
      exact this
    case pos =>
    have d4 : decide (((z.length : Nat) : Int) ≤ 4) = true := decide_eq_true (by show ((z.cps.size : Nat) : Int) ≤ 4; omega)
    refine ⟨_, _, rfl, rfl, true, congrArg V.bl d4, ?_⟩
    have k : ∀ H', Same H H' → Q (.bl (unl z)) H' := fun H' s => by
      have := k H' s
      rw [isGood_str, decide_eq_true c2, decide_eq_true c4] at this
      exact this
    refine ⟨_, rfl, z, rfl, fun D hD => ?_⟩
    refine lc_str (fun i H' => H' D = some (.lst ((sgs ((z.cps.toList.take i).filter notS)).map V.str)) ∧ Same H H') ⟨by rw [upd_same]; rfl, same_new hD⟩ (fun i c H1 hc h1 => ?_) (fun H1 h1 => ?_)
    · refine ⟨rfl, ?_⟩
      have hc' : z.cps.toList[i]? = some c := by rw [Array.getElem?_toList]; exact hc
      refine ⟨_, rfl, c, _, rfl, rfl, _, rfl, ?_⟩
      rw [abc_small]
      have e0 := filter_take (p := notS) hc'
      by_cases hn : notS c = true
      · refine iteP hn ?_
        refine ⟨_, rfl, _, h1.1, ?_, ?_, same_upd h1.2 hD⟩
        · rw [List.length_map, sgs_len]
          have h5 : ((z.cps.toList.take i).filter notS).length ≤ (z.cps.toList.take i).length := List.length_filter_le _ _
          have h6 : (z.cps.toList.take i).length ≤ 4 := by rw [List.length_take]; have : z.cps.toList.length = z.cps.size := Array.length_toList; omega
          have : 4 < sizeLine := by decide
          omega
        · rw [upd_same, e0, if_pos hn, sgs_append, List.map_append]; rfl
      · refine iteN hn ?_
        rw [e0, if_neg hn, List.append_nil]
        exact h1
    · have et : z.cps.toList.take z.cps.size = z.cps.toList := List.take_of_length_le (by simp)
      rw [et] at h1
      have lows := strOk_iff.mp so
      refine ⟨by decide, fun n6 hn6 => ?_⟩
      have nD : D ≠ n6 := ne_of_none h1.1 hn6
      have s2 : Same H (upd H1 n6 (.lst [])) := h1.2.trans (same_new hn6)
      refine ⟨_, _, dp_strs (SqL.of (by rw [upd_ne nD]; exact h1.1)), .lst (SqL.of upd_same) .nil, shaped_strs (strOk_sgs fun c hc => lows c (List.mem_filter.mp hc).1), by rfl, _, rfl, ?_⟩
      rw [eqv_nil]
      generalize upd H1 n6 (.lst []) = H2 at s2 ⊢
      by_cases hb : (z.cps.toList.filter notS) = []
      case neg =>
        refine iteP (by
          rw [Bool.not_eq_true']
          cases hq : z.cps.toList.filter notS with
          | nil => exact absurd hq hb
          | cons x r => rfl) ?_
        have e1 : unl z = false := by
          unfold unl
          rw [Bool.and_eq_false_iff]
          left
          rw [List.all_eq_false]
          obtain ⟨c, hm⟩ := List.exists_mem_of_ne_nil _ hb
          obtain ⟨hc, hn⟩ := List.mem_filter.mp hm
          refine ⟨c, hc, ?_⟩
          unfold notS at hn
          simpa using hn
        have := k H2 s2
        rw [e1] at this
        exact this
      case pos =>
      refine iteN (by rw [hb]; decide) ?_
      have all : (z.cps.toList.all fun c => decide (c ∈ small)) = true := by
        rw [List.all_eq_true]
        intro c hc
        have := (List.filter_eq_nil_iff.mp hb) c hc
        unfold notS at this
        simpa using this
      refine ⟨_, rfl, _, _, rfl, ⟨hzl, rfl⟩, ((z.cps.size : Nat) : Int), rfl, by omega, by omega, ?_⟩
      rw [Int.toNat_natCast]
      intro D2 hD2
      refine lc_range (lo := 0) (n := z.cps.size) (fun i H' => H' D2 = some (.lst ((((List.range i).filter (dupAt z.cps.toList)).map fun k : Nat => (k : Int)).map V.int)) ∧ Same H H') ⟨by rw [upd_same]; rfl, s2.trans (same_new hD2)⟩ (fun i H3 hi h3 => ?_) (fun H3 h3 => ?_)
      · rw [Int.zero_add]
        refine ⟨rfl, ?_⟩
        have hi' : i < z.cps.toList.length := by rw [Array.length_toList]; exact hi
        refine ⟨_, rfl, _, rfl, z, _, _, rfl, rfl, hzl, atI_nat (List.getElem?_eq_getElem hi'), _, rfl, _, rfl, _, rfl, z, rfl, hzl, _, _, rfl, rfl, _, rfl, ?_⟩
        rw [cut_take]
        have ed : decide (z.cps.toList[i] ∈ z.cps.toList.take i) = dupAt z.cps.toList i := by
          unfold dupAt
          rw [List.getD_eq_getElem?_getD, List.getElem?_eq_getElem hi']
          rfl
        rw [ed]
        have e0 := filter_range (p := dupAt z.cps.toList) (i := i)
        by_cases hn : dupAt z.cps.toList i = true
        · refine iteP hn ?_
          refine ⟨_, rfl, _, h3.1, ?_, ?_, same_upd h3.2 (s2.free hD2)⟩
          · rw [List.length_map, List.length_map]
            have h5 : ((List.range i).filter (dupAt z.cps.toList)).length ≤ (List.range i).length := List.length_filter_le _ _
            rw [List.length_range] at h5
            have : 4 < sizeLine := by decide
            omega
          · rw [upd_same, e0, if_pos hn, List.map_append, List.map_append]; rfl
        · refine iteN hn ?_
          rw [e0, if_neg hn, List.append_nil]
          exact h3
      · refine ⟨by decide, fun n7 hn7 => ?_⟩
        have nD7 : D2 ≠ n7 := ne_of_none h3.1 hn7
        refine ⟨_, _, dp_ints (SqL.of (by rw [upd_ne nD7]; exact h3.1)), .lst (SqL.of upd_same) .nil, shaped_ints _, by rfl, ?_⟩
        rw [eqv_nil]
        have e1 : ((((List.range z.cps.size).filter (dupAt z.cps.toList)).map fun k : Nat => (k : Int)).map PyData.int).isEmpty = unl z := by
          unfold unl
          rw [all, Bool.true_and]
          have := dup_nil (l := z.cps.toList)
          rw [Array.length_toList] at this
          by_cases hq : ((List.range z.cps.size).filter (dupAt z.cps.toList)) = []
          · rw [hq, decide_eq_true (this.mp hq)]; rfl
          · rw [decide_eq_false fun q => hq (this.mpr q)]
            cases hc : ((List.range z.cps.size).filter (dupAt z.cps.toList)) with
            | nil => exact absurd hc hq
            | cons x r => rfl
        rw [e1]
        exact k _ (h3.2.trans (same_new hn7))
theorem ok_bent {f : Addr} {fd : FuncData} (F : Fun K "_law_bent" "_law_bent" s_law_bent f fd) (B : Blt mg) (D_law_draw : HasFn P w K mg base CX0 1 "_law_draw" ["_law_pen_here", "_law_limit"] spDraw) (D_law_pick : HasFn P w K mg base CX0 2 "_law_pick" ["_law_pen_here", "_law_some"] spPick) :
    FnOk P w K mg base CX0 3 f fd ["_law_pen_here", "_law_word"] spBent := by
  refine F.ok sc_law_bent (fun vs H Q E h => ?_) (fun cdv A outer s H vs Q E hr h => ?_)
  · obtain ⟨p, q, ns, i, r, z, rfl, _⟩ := h
    rfl
  · obtain ⟨p, q, ns, i, r, z, rfl, hp, hi, z1, z2, so, k⟩ := h
    have hzl : z.length ≤ sizeLine := Nat.le_trans (show z.length ≤ 100 from z2) (by decide)
    refine ⟨_, (pss_cons (ps_set (i := 2) sc_law_bent.nd rfl (.inl rfl) (pe_fn D_law_draw (hr.mono (by decide)) pass0 (pa_cons (pv 0) (pa_cons (pe_op op_add (pe_callB call_len (by rfl) B.n_len (by decide +kernel) (pa_cons (pv 1) pa_nil)) pe_int) pa_nil))))
      (pss_cons (ps_set (i := 3) sc_law_bent.nd rfl (.inl rfl) (pe_fn D_law_pick (hr.mono (by decide)) pass0 (pa_cons (pv 0) (pa_cons (pe_lst (pa_cons pe_str (pa_cons pe_str (pa_cons pe_str (pa_cons pe_str (pa_cons pe_str (pa_cons pe_str (pa_cons pe_str (pa_cons pe_str (pa_cons (pe_ix ix_str (pv 1) pe_int (fun _ _ => rfl)) (pa_cons (pe_ix ix_str (pv 1) (pe_un un_neg pe_int) (fun _ _ => rfl)) (pa_cons pe_str (pa_cons pe_str pa_nil))))))))))))) pa_nil))))
      (pss_cons (ps_if (pt_cmpR op_eq (pe_fn D_law_draw (hr.mono (by decide)) pass0 (pa_cons (pv 0) (pa_cons pe_int pa_nil))) pe_int (nomark _)) (pss_one (ps_ret (pe_op op_add_str (pe_slice sl_str (pv 1) po_none (po_some (pv 2))) (pe_slice sl_str (pv 1) (po_some (pe_op op_add (pv 2) pe_int)) po_none)))) pss_nil)
      (pss_one (ps_ret (pe_op op_add_str (pe_op op_add_str (pe_slice sl_str (pv 1) po_none (po_some (pv 2))) (pv 3)) (pe_slice sl_str (pv 1) (po_some (pe_op op_add (pv 2) (pe_fn D_law_draw (hr.mono (by decide)) pass0 (pa_cons (pv 0) (pa_cons pe_int pa_nil))))) po_none))))))), ?_⟩
    have z1' : 0 < z.cps.toList.length := by rw [Array.length_toList]; exact z1
    have lows := strOk_iff.mp so
    obtain ⟨c0, hc0⟩ : ∃ c, z.cps.toList[0]? = some c := ⟨_, List.getElem?_eq_getElem z1'⟩
    obtain ⟨cl, hcl, hml⟩ : ∃ c, atI z.cps.toList (-1) = some c ∧ c ∈ z.cps.toList := by
      have e := List.dropLast_concat_getLast (l := z.cps.toList) (by intro e; rw [e] at z1'; exact absurd z1' (by decide))
      exact ⟨_, by conv => lhs; rw [← e]
                   exact atI_last _ _, List.getLast_mem _⟩
    refine ⟨_, rfl, _, rfl, _, _, rfl, ⟨hzl, rfl⟩, _, _, rfl, rfl, p, q, ns, i, r, _, rfl, hp, ?_, ?_, by omega, fun d i1 r1 H1 d0 d1 hi1 hp1 b1 => ?_⟩
    · have := Int.natCast_nonneg z.length
      omega
    · have : z.length ≤ 100 := z2
      omega
    refine ⟨_, rfl, _, rfl, z, _, c0, rfl, rfl, hzl, atI_nat (j := 0) hc0, _, rfl, _, rfl, z, _, cl, rfl, rfl, hzl, hcl, by show 12 ≤ sizeLine; decide, fun l hl => ?_⟩
    have lp : l ≠ p := (ne_of_none hp1.pen hl).symm
    refine ⟨p, l, q, _, ns, i1, r1, rfl, upd_same, (show (0 : Nat) < 12 by decide), (show (12 : Nat) < 1000 by decide), hp1.same (same_new hl), by omega, lp, fun x hx i2 r2 H2 b2 hp2 hi2 => ?_⟩
    obtain ⟨y, rfl, y2, yo⟩ : ∃ y : Str, x = .str y ∧ y.cps.size ≤ 2 ∧ PyData.strOk y = true := by
      simp only [List.mem_cons, List.mem_nil_iff, or_false] at hx
      have one : ∀ c, c ∈ z.cps.toList → PyData.strOk ⟨#[c]⟩ = true := fun c hc => strOk_iff.mpr fun d hd => by
        have : d = c := by simpa using hd
        rw [this]
        exact lows c hc
      rcases hx with rfl | rfl | rfl | rfl | rfl | rfl | rfl | rfl | rfl | rfl | rfl | rfl
      · exact ⟨_, rfl, by decide +kernel, by decide +kernel⟩
      · exact ⟨_, rfl, by decide +kernel, by decide +kernel⟩
      · exact ⟨_, rfl, by decide +kernel, by decide +kernel⟩
      · exact ⟨_, rfl, by decide +kernel, by decide +kernel⟩
      · exact ⟨_, rfl, by decide +kernel, by decide +kernel⟩
      · exact ⟨_, rfl, by decide +kernel, by decide +kernel⟩
      · exact ⟨_, rfl, by decide +kernel, by decide +kernel⟩
      · exact ⟨_, rfl, by decide +kernel, by decide +kernel⟩
      · exact ⟨_, rfl, by show 1 ≤ 2; decide, one _ (List.mem_of_getElem? hc0)⟩
      · exact ⟨_, rfl, by show 1 ≤ 2; decide, one _ hml⟩
      · exact ⟨_, rfl, by decide +kernel, by decide +kernel⟩
      · exact ⟨_, rfl, by decide +kernel, by decide +kernel⟩
    have b12 : But p H H2 := b1.trans ((But.new hl).trans b2)
    have cut : ∀ lo hi, (cutS z lo hi).length ≤ z.cps.size := fun lo hi => cutS_length z lo hi
    have cuto : ∀ lo hi, PyData.strOk (cutS z lo hi) = true := fun lo hi => strOk_iff.mpr fun c hc => lows c (by
      unfold cutS at hc
      exact List.mem_of_mem_drop (List.mem_of_mem_take (by simpa using hc)))
    have app : ∀ a b : Str, (a ++ b).length = a.length + b.length := fun a b => Array.size_append
    have appo : ∀ a b : Str, PyData.strOk a = true → PyData.strOk b = true → PyData.strOk (a ++ b) = true := fun a b ha hb => strOk_iff.mpr fun c hc => by
      have : c ∈ (a.cps ++ b.cps).toList := hc
      rw [Array.toList_append, List.mem_append] at this
      exact this.elim (strOk_iff.mp ha c) (strOk_iff.mp hb c)
    have big : 1000 ≤ sizeLine := by decide
    refine ⟨_, rfl, p, q, ns, i2, r2, _, rfl, hp2, by decide, by decide, by omega, fun d3 i3 r3 H3 d30 d31 hi3 hp3 b3 => ?_⟩
    refine ⟨rfl, _, rfl, ite2 (fun c3 => ?_) (fun c3 => ?_)⟩
    · have h1 := cut none (some d)
      have h2 := cut (some (d + 1)) none
      refine ⟨_, rfl, _, rfl, _, rfl, z, rfl, hzl, _, rfl, _, rfl, _, _, rfl, rfl, _, rfl, z, rfl, hzl, _, _, rfl, rfl, ?_, ?_⟩
      · omega
      · refine k _ i3 r3 H3 (b12.trans b3) hp3 (by omega) ?_ (appo _ _ (cuto _ _) (cuto _ _))
        show (_ ++ _ : Str).length ≤ _
        rw [app]
        omega
    · have h1 := cut none (some d)
      refine ⟨_, rfl, _, rfl, _, rfl, z, rfl, hzl, _, rfl, _, _, rfl, rfl, ?_, ?_⟩
      · have : y.length ≤ 2 := y2
        omega
      refine ⟨_, rfl, _, rfl, _, rfl, p, q, ns, i3, r3, _, rfl, hp3, by decide, by decide, by omega, fun d4 i4 r4 H4 d40 d41 hi4 hp4 b4 => ?_⟩
      have h2 := cut (some (d + d4)) none
      have h3 : y.length ≤ 2 := y2
      refine ⟨_, _, rfl, rfl, _, rfl, z, rfl, hzl, _, _, rfl, rfl, ?_, ?_⟩
      · rw [app]; omega
      · refine k _ i4 r4 H4 ((b12.trans b3).trans b4) hp4 (by omega) ?_ (appo _ _ (appo _ _ (cuto _ _) yo) (cuto _ _))
        show (_ ++ _ : Str).length ≤ _
        rw [app, app]
        omega
end
end K1

namespace K1
open PySem L2 LB PyProof.Rows
abbrev s_law_right : Stmt := top 29
theorem sc_law_right : FnScope ["_law_word", "_law_values", "_law_sign", "_law_odd"] ["_law_word"] (defScope s_law_right) := ⟨rfl, rfl, rfl, by decide +kernel, rfl, by decide +kernel, by decide +kernel⟩

structure KW (K : PySem.W.Frag) (CV : Addr) : Prop extends KV K CV where
  ns : PySem.W.notFirst K CV (.type "str") = true
  nn : PySem.W.notFirst K CV (.type "NoneType") = true
  ne : NeOwn K CV
theorem list2_len (a b : Str) : (listText [a, b]).length = a.length + b.length + 4 := by
  have app : ∀ a b : Str, (a ++ b).length = a.length + b.length := fun a b => Array.size_append
  show ((((Str.ofString "[" ++ a) ++ Str.ofString ", ") ++ b) ++ Str.ofString "]").length = _
  rw [app, app, app, app]
  show 1 + a.length + 2 + b.length + 1 = _
  omega
theorem good_ok {z : Str} (g : Good z) : PyData.strOk z = true := strOk_iff.mpr fun c hc => by
  have := g.az c hc
  exact (show ∀ c ∈ small, c < 0x110000 by decide +kernel) c this
theorem good_rev {z : Str} (g : Good z) : Good (revS z) := by
  refine ⟨?_, ?_, ?_, ?_⟩
  · show 2 ≤ (z.cps.toList.reverse.toArray).size
    have := g.lo
    simpa using this
  · show (z.cps.toList.reverse.toArray).size ≤ 4
    have := g.hi
    simpa using this
  · intro c hc
    have : c ∈ z.cps.toList.reverse := by simpa [revS] using hc
    exact g.az c (List.mem_reverse.mp this)
  · show (z.cps.toList.reverse.toArray).toList.Nodup
    show List.Pairwise (fun a b => a ≠ b) z.cps.toList.reverse
    rw [List.pairwise_reverse]
    exact List.Pairwise.imp (fun h => h.symm) g.nd
theorem rev_ne {z : Str} (g : Good z) : revS z ≠ z := by
  intro e
  have e1 : z.cps.toList.reverse = z.cps.toList := by
    have : (revS z).cps.toList = z.cps.toList := by rw [e]
    simpa [revS] using this
  have nd := g.nd
  have lo : 2 ≤ z.cps.toList.length := by rw [Array.length_toList]; exact g.lo
  have hi : z.cps.toList.length ≤ 4 := by rw [Array.length_toList]; exact g.hi
  generalize z.cps.toList = l at e1 nd lo hi
  match l, lo, hi with
  | [], lo, _ => simp at lo
  | [a], lo, _ => simp at lo
  | [a, b], _, _ =>
    injection e1 with e1 _
    exact (List.nodup_cons.mp nd).1 (by rw [← e1]; simp)
  | [a, b, c], _, _ =>
    injection e1 with e1 _
    exact (List.nodup_cons.mp nd).1 (by rw [← e1]; simp)
  | [a, b, c, d], _, _ =>
    injection e1 with e1 _
    exact (List.nodup_cons.mp nd).1 (by rw [← e1]; simp)
  | a :: b :: c :: d :: e :: r, _, hi => simp at hi
theorem sh_le {n : Nat} (h : n ≤ 4) : decide (((n : Nat) : Int).natAbs.log2 < 1920) = true := by
  match n, h with
  | 0, _ => decide
  | 1, _ => decide
  | 2, _ => decide
  | 3, _ => decide
  | 4, _ => decide
  | n + 5, h => omega
theorem isLet_one {z : Str} {c : Nat} : isLet z (.str ⟨#[c]⟩) = decide (c ∈ z.cps.toList) := by
  show (decide ((#[c] : Array Nat).size = 1) && decide ((#[c] : Array Nat).getD 0 0 ∈ z.cps.toList)) = _
  show (true && decide (c ∈ z.cps.toList)) = _
  rw [Bool.true_and]
theorem isLet_len {z y : Str} (h : y.cps.size ≠ 1) : isLet z (.str y) = false := by
  show (decide (y.cps.size = 1) && _) = false
  rw [decide_eq_false h, Bool.false_and]
theorem mk_same {H H' : Hp} {x dx : Addr} {o1 o2 : HO} (b : But x (upd (upd H dx o1) x o2) H') (hx : H x = none) (hdx : H dx = none) : Same H H' := fun c o q => b c o (by rw [upd_ne (ne_of_none q hx), upd_ne (ne_of_none q hdx)]; exact q) (ne_of_none q hx)
theorem good_not {z : Str} {A : Prop} (g : Good z) (hb : isGood (.str z) = false) : A := by rw [isGood_iff.mpr g] at hb; cases hb
theorem text_or {K : PySem.W.Frag} {H : Hp} {z : Str} (g : Good z) : TextOr K H (.str z) := .inl ⟨z, rfl, Nat.le_trans g.hi (by decide)⟩
section
variable {P : Program} {w : World} {K : PySem.W.Frag} {mg : Str → Option Value} {base : Heap}
def spRight : Sp := fun vs H Q _ => ∃ z : Str, vs = [.str z] ∧ Good z ∧ ∀ H', Same H H' → Q (.bl true) H'
theorem ok_right {CV CC CB : Addr} {ts : Tok} {f : Addr} {fd : FuncData} (F : Fun K "_law_right" "_law_right" s_law_right f fd) (B : Blt mg) (nR : mg "repr" = none) (VV : VF K CV CC) (G : Consts mg CV ts) (KV : KW K CV)
    (D_len : HasMe P w K mg base CX0 1 CV "__len__" ["self"] (spLenV CV)) (D_in : HasMe P w K mg base CX0 2 CV "__contains__" ["self", "x"] (spInV K CV)) (D_eq : HasMe P w K mg base CX0 1 CV "__eq__" ["self", "other"] (spEqV CV))
    (M_Values : HasMk P w K mg base (L2.CX P w) 4 CV "Values" ["self", "letters"] (spValsR K CV CC CB)) {g : List Value → List Value → List Value} (MK_Values : HasMkK P w K mg base (L2.CX P w) 4 CV "Values" ["self", "letters"] ["letters"] g (fun vs zs => vs ++ zs) (spValsR K CV CC CB)) :
    FnG P w K mg base CX0 6 f fd ["_law_word"] spRight := by
  refine okG F sc_law_right (fun vs H Q E h => ?_) (fun cdv A outer s H vs Q E hr hgd h => ?_)
  · obtain ⟨z, rfl, _⟩ := h
    rfl
  · obtain ⟨z, rfl, gz, k⟩ := h
    have hu := hr.units
    refine ⟨_, (pss_cons (ps_set (i := 1) sc_law_right.nd rfl (.inl rfl) (pe_mk M_Values (hr.mono (by decide)) passC (pa_cons (pv 0) pa_nil)))
      (pss_cons (ps_if (pt_cmpR op_ne (pe_callB (call_reprD hgd hu) (by rfl) nR (by decide +kernel) (pa_cons (pe_lst (pa_cons (pe_fld (pv 1) rfl) (pa_cons (pe_callB (call_lenMe D_len (hr.mono (by decide)) pass0) (by rfl) B.n_len (by decide +kernel) (pa_cons (pv 1) pa_nil)) pa_nil))) pa_nil)) (pe_callB (call_reprD hgd hu) (by rfl) nR (by decide +kernel) (pa_cons (pe_lst (pa_cons (pv 0) (pa_cons (pe_callB call_len (by rfl) B.n_len (by decide +kernel) (pa_cons (pv 0) pa_nil)) pa_nil))) pa_nil)) (nomark _)) (pss_one (ps_ret pe_bl)) pss_nil)
      (pss_cons (ps_for PassesOwn.never rfl (pi_str pe_str) (pg_name (i := 2) sc_law_right.nd rfl (.inl rfl)) (pss_one (ps_if (pt_cmpR op_ne (pe_callB call_repr_bl (by rfl) nR (by decide +kernel) (pa_cons (pe_cmpR (op_inMe D_in (hr.mono (by decide)) pass0) (pv 2) (pv 1) (by rfl)) pa_nil)) (pe_callB call_repr_bl (by rfl) nR (by decide +kernel) (pa_cons (pe_cmpR op_in_sign (pv 2) (pv 0) (by rfl)) pa_nil)) (nomark _)) (pss_one (ps_ret pe_bl)) pss_nil)))
      (pss_cons (ps_for PassesOwn.never rfl (pi_list (pe_lst (pa_cons pe_str (pa_cons (pv 0) (pa_cons (pe_slice sl_str (pv 0) po_none (po_some pe_int)) (pa_cons pe_non (pa_cons pe_int (pa_cons pe_bl (pa_cons (pe_lst (pa_cons (pe_ix ix_str (pv 0) pe_int (fun _ _ => rfl)) pa_nil)) (pa_cons (pe_tup (pa_cons (pe_ix ix_str (pv 0) pe_int (fun _ _ => rfl)) pa_nil)) (pa_cons pe_dnewK (pa_cons (pv 1) pa_nil)))))))))))) (pg_name (i := 3) sc_law_right.nd rfl (.inl rfl)) (pss_one (ps_if (pt_cmpR op_notBl (pe_cmpR (op_inMe D_in (hr.mono (by decide)) pass0) (pv 3) (pv 1) (by rfl)) pe_bl (nomark _)) (pss_one (ps_ret pe_bl)) pss_nil)))
      (pss_cons (ps_if (PW.pt (pw_or (pt_cmpR (op_eqMeX D_eq (hr.mono (by decide)) pass0 KV.ns KV.nn) (pv 1) (pv 0) (nomark _)) (pw_or (pt_cmpR (op_eqMeX D_eq (hr.mono (by decide)) pass0 KV.ns KV.nn) (pv 1) pe_non (nomark _)) (pw_or1 (pt_not (pt_cmpR (op_eqMe D_eq (hr.mono (by decide)) pass0) (pv 1) (pe_mkK0 MK_Values (hr.mono (by decide)) passC (pk_cons (pv 0) pk_nil)) (nomark _))))))) (pss_one (ps_ret pe_bl)) pss_nil)
      (pss_one (ps_ret (pe_cmpR (op_neMe D_eq (hr.mono (by decide)) pass0 KV.ne) (pv 1) (pe_mk M_Values (hr.mono (by decide)) passC (pa_cons (pe_revS (pv 0)) pa_nil)) (nomark _))))))))), ?_⟩
    have hzl : z.length ≤ sizeLine := Nat.le_trans (show z.length ≤ 4 from gz.hi) (by decide)
    refine ⟨_, rfl, fun v dv hv hdv ne => ⟨v, dv, _, rfl, upd_same, text_or gz, fun z' e gz' H1 cs b1 v1 => ⟨rfl, ?_⟩, fun hb => good_not gz hb⟩⟩
    cases e
    have s1 : Same H H1 := mk_same b1 hv hdv
    obtain ⟨dx, t, hob, htup⟩ := v1.ob
    have n4 : ((z.cps.size : Nat) : Int) ≤ 4 := by have := gz.hi; omega
    have shn := sh_le gz.hi
    have shl : PyData.showable (.list [.str z, .int (z.cps.size : Nat)]) = true := by
      show (true && (decide (((z.cps.size : Nat) : Int).natAbs.log2 < 1920) && true)) = true
      rw [shn]; rfl
    have len : (PyData.shown (.list [.str z, .int (z.cps.size : Nat)])).length ≤ sizeLine := by
      show (listText [reprText z, ((toString ((z.cps.size : Nat) : Int) : String) : Str)]).length ≤ sizeLine
      rw [list2_len, dig1_len _ (by have := gz.hi; omega)]
      have := repr_len (good_ok gz)
      have : z.length ≤ 4 := gz.hi
      have : 100 ≤ sizeLine := by decide
      omega
    refine ⟨_, rfl, v, CV, dx, _, _, rfl, hob, VV.cv, VV.vl, valF_let, _, rfl, v, dx, _, rfl, hob, v, dx, _, z, rfl, hob, valF_let, hzl, _, rfl, Int.natCast_nonneg _, ?_, by show 2 ≤ sizeLine; decide, fun l hl => ?_⟩
    · exact Int.lt_of_le_of_lt n4 (by decide)
    have s2 := s1.trans (same_new (o := HO.lst [.str z, .int (z.cps.size : Nat)]) hl)
    have dp1 : ∀ {H' : Hp} {l : Addr}, H' l = some (.lst [.str z, .int (z.cps.size : Nat)]) → Dp K H' (.ref l) (.list [.str z, .int (z.cps.size : Nat)]) := fun e => .lst (SqL.of e) (.cons (.str _) (.cons (.int _) .nil))
    refine ⟨l, _, rfl, dp1 upd_same, shl, rfl, by show 1 ≤ 50; decide, len, ?_⟩
    refine ⟨_, rfl, _, rfl, _, _, rfl, ⟨hzl, rfl⟩, by show 2 ≤ sizeLine; decide, fun l2 hl2 => ?_⟩
    have s3 := s2.trans (same_new (o := HO.lst [.str z, .int (z.length : Nat)]) hl2)
    have hob3 : upd (upd H1 l (.lst [.str z, .int (z.cps.size : Nat)])) l2 (.lst [.str z, .int (z.length : Nat)]) v = some (.ins CV dx (valF z t)) := by
      rw [upd_ne (ne_of_none (same_new hl _ _ hob) hl2), upd_ne (ne_of_none hob hl)]; exact hob
    refine ⟨l2, _, rfl, dp1 upd_same, shl, rfl, by show 1 ≤ 50; decide, len, ?_⟩
    refine ⟨rfl, _, rfl, iteNS rfl ?_⟩
    generalize (upd (upd H1 l (.lst [.str z, .int (z.cps.size : Nat)])) l2 (.lst [.str z, .int (z.length : Nat)])) = H3 at s3 hob3 ⊢
    refine ⟨_, rfl, for_str (fun i σ H' => (∃ x2 x3 : Option V, σ = [some (.str z), some (.ref v), x2, x3]) ∧ Same H3 H') ⟨⟨none, none, rfl⟩, Same.refl H3⟩ (fun i c σ H' hc h' => ?_) (fun σ H' h' => ?_)⟩
    · obtain ⟨⟨x2, x3, rfl⟩, sh⟩ := h'
      have hob' := sh _ _ hob3
      refine ⟨_, rfl, _, rfl, v, dx, _, rfl, hob', v, dx, _, z, _, rfl, hob', valF_let, .inl ⟨_, rfl, by show 1 ≤ sizeLine; decide⟩, _, rfl, _, rfl, ?_⟩
      refine ⟨_, rfl, _, rfl, c, z, rfl, rfl, _, rfl, rfl, _, rfl, ?_⟩
      rw [id, isLet_one]
      refine iteNS rfl ⟨⟨_, _, rfl⟩, sh⟩
    · obtain ⟨⟨x2, x3, rfl⟩, sh⟩ := h'
      have hob' := sh _ _ hob3
      have sH := s3.trans sh
      obtain ⟨c0, hc0⟩ : ∃ c, z.cps.toList[0]? = some c := ⟨_, List.getElem?_eq_getElem (by rw [Array.length_toList]; have := gz.lo; omega)⟩
      refine ⟨_, rfl, _, rfl, _, rfl, z, rfl, hzl, _, rfl, z, _, c0, rfl, rfl, hzl, atI_nat (j := 0) hc0, by show 1 ≤ sizeLine; decide, fun l1 hl1 => ?_⟩
      refine ⟨_, rfl, z, _, c0, rfl, rfl, hzl, atI_nat (j := 0) hc0, by show 1 ≤ sizeLine; decide, fun t1 ht1 => ?_⟩
      intro d hd
      refine ⟨_, rfl, by show 10 ≤ sizeLine; decide, fun L hL => ?_⟩
      have q1 := same_new (o := HO.lst [V.str ⟨#[c0]⟩]) hl1
      have q2 := q1.trans (same_new (o := HO.tup [V.str ⟨#[c0]⟩]) ht1)
      have q3 := q2.trans (same_new (o := HO.dK []) hd)
      have el1 := same_new (o := HO.dK []) hd _ _ (same_new (o := HO.tup [V.str ⟨#[c0]⟩]) ht1 l1 _ upd_same)
      have et1 := same_new (o := HO.dK []) hd t1 _ (upd_same (o := HO.tup [V.str ⟨#[c0]⟩]) (H := upd H' l1 (HO.lst [V.str ⟨#[c0]⟩])))
      have ed := upd_same (a := d) (o := HO.dK []) (H := upd (upd H' l1 (HO.lst [V.str ⟨#[c0]⟩])) t1 (HO.tup [V.str ⟨#[c0]⟩]))
      generalize (upd (upd (upd H' l1 (HO.lst [V.str ⟨#[c0]⟩])) t1 (HO.tup [V.str ⟨#[c0]⟩])) d (HO.dK [])) = H4 at q3 el1 et1 ed hL ⊢
      have hob4 := q3 _ _ hob'
      have s4 := same_new (o := HO.lst [.str (Str.ofString ""), .str z, .str (cutS z none (some 2)), .non, .int 0, .bl true, .ref l1, .ref t1, .ref d, .ref v]) hL
      have eL := upd_same (a := L) (o := HO.lst [.str (Str.ofString ""), .str z, .str (cutS z none (some 2)), .non, .int 0, .bl true, .ref l1, .ref t1, .ref d, .ref v]) (H := H4)
      have sH4 := sH.trans q3
      refine ⟨L, rfl, ⟨_, SqL.of upd_same⟩, ?_⟩
      generalize upd H4 L (HO.lst [.str (Str.ofString ""), .str z, .str (cutS z none (some 2)), .non, .int 0, .bl true, .ref l1, .ref t1, .ref d, .ref v]) = H5 at s4 eL ⊢
      have two : (cutS z none (some 2)).cps.size = 2 := by
        have := cut_take (z := z) (k := 2)
        rw [← Array.length_toList]
        have e2 : (cutS z none (some 2)).cps.toList = z.cps.toList.take 2 := this
        rw [e2, List.length_take, Array.length_toList]
        have := gz.lo
        omega
      refine for_list (xs := [.str (Str.ofString ""), .str z, .str (cutS z none (some 2)), .non, .int 0, .bl true, .ref l1, .ref t1, .ref d, .ref v]) (fun i σ H' => (∃ x2 x3 : Option V, σ = [some (.str z), some (.ref v), x2, x3]) ∧ Same H5 H') ⟨⟨_, _, rfl⟩, Same.refl H5⟩ (fun i σ H' hi h' => SqL.of (h'.2 _ _ eL)) (fun i x σ H' hx h' => ?_) (fun σ H' h' => ?_)
      · obtain ⟨⟨y2, y3, rfl⟩, sh5⟩ := h'
        have hob5 := (s4.trans sh5) _ _ hob4
        have key : TextOr K H' x ∧ isLet z x = false := by
          have hm := List.mem_of_getElem? hx
          simp only [List.mem_cons, List.mem_nil_iff, or_false] at hm
          have s5 := s4.trans sh5
          rcases hm with rfl | rfl | rfl | rfl | rfl | rfl | rfl | rfl | rfl | rfl
          · exact ⟨.inl ⟨_, rfl, by decide +kernel⟩, isLet_len (by decide +kernel)⟩
          · exact ⟨text_or gz, isLet_len (by have := gz.lo; omega)⟩
          · exact ⟨.inl ⟨_, rfl, by rw [two]; decide⟩, isLet_len (by rw [two]; decide)⟩
          · exact ⟨.inr ⟨_, .base .non, kit_ty (by decide +kernel), fun z e => nomatch e⟩, rfl⟩
          · exact ⟨.inr ⟨_, .base (.int 0), kit_ty (by decide +kernel), fun z e => nomatch e⟩, rfl⟩
          · exact ⟨.inr ⟨_, .base (.bl true), kit_ty (by decide +kernel), fun z e => nomatch e⟩, rfl⟩
          · exact ⟨.inr ⟨_, .base (.lst (s5 _ _ el1)), kit_ty (by decide +kernel), fun z e => nomatch e⟩, rfl⟩
          · exact ⟨.inr ⟨_, .base (.tup (s5 _ _ et1)), kit_ty (by decide +kernel), fun z e => nomatch e⟩, rfl⟩
          · exact ⟨.inr ⟨_, .base (.dK (s5 _ _ ed)), kit_ty (by decide +kernel), fun z e => nomatch e⟩, rfl⟩
          · exact ⟨.inr ⟨_, KV.vt.ty hob5, KV.vs, fun z e => nomatch e⟩, rfl⟩
        refine ⟨_, rfl, _, rfl, v, dx, _, rfl, hob5, v, dx, _, z, _, rfl, hob5, valF_let, key.1, _, rfl, _, _, rfl, rfl, _, rfl, ?_⟩
        rw [id, key.2]
        refine iteNS rfl ⟨⟨_, _, rfl⟩, sh5⟩
      · obtain ⟨⟨y2, y3, rfl⟩, sh5⟩ := h'
        have hob5 := (s4.trans sh5) _ _ hob4
        have sH5 := sH4.trans (s4.trans sh5)
        refine ⟨_, rfl, _, rfl, v, dx, _, rfl, hob5, .inl ⟨z, rfl⟩, v, dx, _, z, _, rfl, hob5, valF_let, .inr ⟨.inl ⟨z, rfl⟩, ?_⟩⟩
        refine ⟨_, rfl, ?_⟩
        refine ⟨_, rfl, v, dx, _, rfl, hob5, .inr rfl, v, dx, _, z, _, rfl, hob5, valF_let, .inr ⟨.inr rfl, _, rfl, ?_⟩⟩
        refine ⟨_, rfl, ?_⟩
        refine ⟨_, rfl, rfl, rfl, fun u du hu6 hdu6 ne6 => ⟨u, du, _, rfl, upd_same, text_or gz, fun z' e gz' H6 cs6 b6 v6 => ⟨rfl, ?_⟩, fun hb => good_not gz hb⟩⟩
        cases e
        have s6 := mk_same b6 hu6 hdu6
        obtain ⟨du2, tu, hou, _⟩ := v6.ob
        refine ⟨v, u, dx, du2, _, _, rfl, rfl, s6 _ _ hob5, hou, v, dx, _, z, _, rfl, s6 _ _ hob5, valF_let, .inl ⟨u, du2, _, z, rfl, hou, valF_let, true, congrArg V.bl (decide_eq_true rfl), ?_⟩⟩
        refine ⟨_, rfl, _, rfl, z, rfl, hzl, fun w' dw hw hdw ne7 => ⟨w', dw, _, rfl, upd_same, text_or (good_rev gz), fun z' e gz' H7 cs7 b7 v7 => ⟨rfl, ?_⟩, fun hb => good_not (good_rev gz) hb⟩⟩
        injection e with e
        subst e
        have s7 := mk_same b7 hw hdw
        obtain ⟨dw2, tw, how, _⟩ := v7.ob
        refine ⟨v, w', dx, dw2, _, _, rfl, rfl, s7 _ _ (s6 _ _ hob5), how, v, dx, _, z, _, rfl, s7 _ _ (s6 _ _ hob5), valF_let, .inl ⟨w', dw2, _, _, rfl, how, valF_let, _, rfl, ?_⟩⟩
        rw [decide_eq_false (fun q => rev_ne gz q.symm)]
        exact k H7 (sH5.trans (s6.trans s7))
end
end K1

namespace K1
open PySem L2 LB PyProof.Rows
abbrev s_law : Stmt := top 30
theorem sc_law : FnScope ["_law_script", "_law_pen_here", "_law_turn", "_law_signs", "_law_others", "_law_again", "_law_odd", "_law_bent_here", "_law_heard_here"] ["_law_script"] (defScope s_law) := ⟨rfl, rfl, rfl, by decide +kernel, rfl, by decide +kernel, by decide +kernel⟩

theorem tuple1_len (a : Str) : (tupleText [a]).length = a.length + 3 := by
  have app : ∀ a b : Str, (a ++ b).length = a.length + b.length := fun a b => Array.size_append
  show ((Str.ofString "(" ++ a) ++ Str.ofString ",)").length = _
  rw [app, app]
  show 1 + a.length + 2 = _
  omega
/-- a value that is no string, at an address other than p -/
def OddV (K : PySem.W.Frag) (p : Addr) (H : Hp) (x : V) : Prop := (flatV x = true ∨ ∃ a, x = .ref a ∧ a ≠ p) ∧ isGood x = false ∧ ∃ t, TyX K H x t ∧ PySem.W.kitOne K t (.type "str") = some false ∧ ∀ z, x ≠ .str z
theorem OddV.but {K : PySem.W.Frag} {p : Addr} {H H' : Hp} {x : V} (h : OddV K p H x) (b : But p H H') : OddV K p H' x := by
  obtain ⟨f, g, t, ty, k, n⟩ := h
  refine ⟨f, g, t, ?_, k, n⟩
  rcases f with f | ⟨a, rfl, ne⟩
  · cases x with
    | non => cases ty with | base b => cases b; exact .base .non
    | bl y => cases ty with | base b => cases b; exact .base (.bl y)
    | int y => cases ty with | base b => cases b; exact .base (.int y)
    | str y => exact absurd rfl (n y)
    | byt y => cases f
    | flt y => cases f
    | ref y => cases f
    | ty y => cases f
  · exact LB.TyX.keep ty fun o e => b _ _ e ne
theorem OddV.text {K : PySem.W.Frag} {p : Addr} {H : Hp} {x : V} (h : OddV K p H x) : TextOr K H x := let ⟨_, _, t, ty, k, n⟩ := h; .inr ⟨t, ty, k, n⟩
theorem odd_flat {K : PySem.W.Frag} {p : Addr} {H : Hp} {x : V} {n : String} (f : flatV x = true) (g : isGood x = false) (ty : TyX K H x (.type n)) (k : kitB n "str" = some false) (ns : ∀ z, x ≠ .str z) : OddV K p H x := ⟨.inl f, g, _, ty, kit_ty k, ns⟩
theorem odd_ref {K : PySem.W.Frag} {p : Addr} {H : Hp} {a : Addr} {n : String} (ne : a ≠ p) (ty : TyX K H (.ref a) (.type n)) (k : kitB n "str" = some false) : OddV K p H (.ref a) := ⟨.inr ⟨a, rfl, ne⟩, rfl, _, ty, kit_ty k, fun z e => nomatch e⟩
theorem pow_run {σ : L2.St} {H : Hp} {Q : VK} (k : ∀ i : Int, Q (.int i) H) : tOp (rI CPow fun i j => .int (i ^ j.toNat)) (tC (.int 10)) (tC (.int 40)) σ H Q := ⟨_, _, rfl, rfl, ⟨by decide, by decide, by decide⟩, k _⟩
theorem disp_run {σ : L2.St} {H : Hp} {Q : VK} (k : ∀ d kvs, H d = none → Q (.ref d) (upd H d (.dK kvs))) : tDisp [(tC (.str "x"), tC (.str "o"))] σ H Q := fun a ha =>
  ⟨upd_same, [(.inr "x", .str "o")], rfl, by decide, by
    have e : upd (upd H a (.dK [])) a (.dK (mergeK [] [(.inr "x", .str "o")])) = upd H a (.dK (mergeK [] [(.inr "x", .str "o")])) := by
      funext c
      by_cases h : c = a
      · rw [h, upd_same, upd_same]
      · rw [upd_ne h, upd_ne h, upd_ne h]
    rw [e]
    exact k _ _ ha⟩
theorem good_xo : Good (Str.ofString "xo") := isGood_iff.mp (by decide +kernel)
section
variable {P : Program} {w : World} {K : PySem.W.Frag} {mg : Str → Option Value} {base : Heap}
theorem odd_run {CV CC CB : Addr} (KV : KW K CV) {σ : L2.St} {H : Hp} {p : Addr} {Q : VK} (hp : ∃ o, H p = some o)
    (k : ∀ l xs H', Same H H' → H l = none → H' l = some (.lst xs) → xs.length = 8 → (∀ x ∈ xs, OddV K p H' x) → Q (.ref l) H') :
    tLst (tCons (tC .non) (tCons (tC (.int 7)) (tCons (tC (.bl true)) (tCons (tLst (tCons (tC (.str "x")) (tCons (tC (.str "o")) tNil))) (tCons (tTup (tCons (tC (.str "x")) (tCons (tC (.str "o")) tNil))) (tCons (tDisp [(tC (.str "x"), tC (.str "o"))]) (tCons (tOp (rI CPow fun i j => .int (i ^ j.toNat)) (tC (.int 10)) (tC (.int 40))) (tCons (tMake CV (spValsR K CV CC CB) [] E0 (tCons (tC (.str "xo")) tNil)) tNil)))))))) σ H Q := by
  obtain ⟨op, hp⟩ := hp
  refine ⟨by show 2 ≤ sizeLine; decide, fun l1 hl1 => ⟨by show 2 ≤ sizeLine; decide, fun t1 ht1 => ?_⟩⟩
  refine disp_run fun d kvs hd => pow_run fun i => ?_
  have q1 := same_new (o := HO.lst [V.str "x", V.str "o"]) hl1
  have q2 := q1.trans (same_new (o := HO.tup [V.str "x", V.str "o"]) ht1)
  have q3 := q2.trans (same_new (o := HO.dK kvs) hd)
  have el1 := same_new (o := HO.dK kvs) hd _ _ (same_new (o := HO.tup [V.str "x", V.str "o"]) ht1 l1 _ upd_same)
  have et1 := same_new (o := HO.dK kvs) hd t1 _ (upd_same (o := HO.tup [V.str "x", V.str "o"]) (H := upd H l1 (HO.lst [V.str "x", V.str "o"])))
  have ed := upd_same (a := d) (o := HO.dK kvs) (H := upd (upd H l1 (HO.lst [V.str "x", V.str "o"])) t1 (HO.tup [V.str "x", V.str "o"]))
  have n1 : l1 ≠ p := (ne_of_none hp hl1).symm
  have n2 : t1 ≠ p := (ne_of_none (q1 _ _ hp) ht1).symm
  have n3 : d ≠ p := (ne_of_none (q2 _ _ hp) hd).symm
  generalize (upd (upd (upd H l1 (HO.lst [V.str "x", V.str "o"])) t1 (HO.tup [V.str "x", V.str "o"])) d (HO.dK kvs)) = H4 at q3 el1 et1 ed ⊢
  refine fun v dv hv hdv ne => ⟨v, dv, _, rfl, upd_same, text_or good_xo, fun z' e gz' H5 cs b5 v5 => ⟨rfl, ?_⟩, fun hb => good_not good_xo hb⟩
  have s5 := mk_same b5 hv hdv
  obtain ⟨dx, t, hob, _⟩ := v5.ob
  have n4 : v ≠ p := (ne_of_none (q3 _ _ hp) hv).symm
  refine ⟨by show 8 ≤ sizeLine; decide, fun l hl => ?_⟩
  have sl := same_new (o := HO.lst [.non, .int 7, .bl true, .ref l1, .ref t1, .ref d, .int i, .ref v]) hl
  have s6 := s5.trans sl
  refine k l _ _ (q3.trans s6) ((q3.trans s5).free hl) upd_same rfl fun x hx => ?_
  simp only [List.mem_cons, List.mem_nil_iff, or_false] at hx
  rcases hx with rfl | rfl | rfl | rfl | rfl | rfl | rfl | rfl
  · exact odd_flat (n := "NoneType") rfl rfl (.base .non) (by decide +kernel) fun z e => nomatch e
  · exact odd_flat (n := "int") rfl rfl (.base (.int _)) (by decide +kernel) fun z e => nomatch e
  · exact odd_flat (n := "bool") rfl rfl (.base (.bl _)) (by decide +kernel) fun z e => nomatch e
  · exact odd_ref (n := "list") n1 (.base (.lst (s6 _ _ el1))) (by decide +kernel)
  · exact odd_ref (n := "tuple") n2 (.base (.tup (s6 _ _ et1))) (by decide +kernel)
  · exact odd_ref (n := "dict") n3 (.base (.dK (s6 _ _ ed))) (by decide +kernel)
  · exact odd_flat (n := "int") rfl rfl (.base (.int _)) (by decide +kernel) fun z e => nomatch e
  · exact ⟨.inr ⟨v, rfl, n4⟩, rfl, _, KV.vt.ty (sl _ _ hob), KV.vs, fun z e => nomatch e⟩
def spLaw (K : PySem.W.Frag) : Sp := fun vs H Q _ => ∃ (a : Addr) (ns : List Int), vs = [.ref a] ∧ SqL K H a (ns.map V.int) ∧ ∀ H', Q (.bl true) H'
/-- where the turns begin, the pen having drawn at most m times -/
def Turn0 (a p q : Addr) (ns : List Int) (m : Int) (σ : L2.St) (H : Hp) : Prop := (∃ x2 x3 x4 x5 x6 x7 x8 : Option V, σ = [some (.ref a), some (.ref p), x2, x3, x4, x5, x6, x7, x8]) ∧ ∃ i' r', PenAt H p q ns i' r' ∧ i' ≤ m
def Turn1 (a p q : Addr) (ns : List Int) (z y : Str) (m : Int) (σ : L2.St) (H : Hp) : Prop := (∃ x2 x5 x6 x7 x8 : Option V, σ = [some (.ref a), some (.ref p), x2, some (.str z), some (.str y), x5, x6, x7, x8]) ∧ ∃ i' r', PenAt H p q ns i' r' ∧ i' ≤ m
theorem ok_law {CV CC CB : Addr} {ts : Tok} {f : Addr} {fd : FuncData} (F : Fun K "law" "law" s_law f fd) (B : Blt mg) (nR : mg "repr" = none) (VV : VF K CV CC) (G : Consts mg CV ts) (KV : KW K CV)
    (D_law_pen : HasFn P w K mg base CX0 1 "_law_pen" ["_law_script"] (spPen K)) (D_law_letters : HasFn P w K mg base CX0 3 "_law_letters" ["_law_pen_here"] spLetters) (D_law_pick : HasFn P w K mg base CX0 2 "_law_pick" ["_law_pen_here", "_law_some"] spPick)
    (D_law_right : HasFnG P w K mg base CX0 6 "_law_right" ["_law_word"] spRight) (D_law_bent : HasFn P w K mg base CX0 3 "_law_bent" ["_law_pen_here", "_law_word"] spBent) (D_law_heard : HasFn P w K mg base CX0 6 "_law_heard" ["_law_value"] (spHeard K CV CC)) (D_law_is : HasFn P w K mg base CX0 1 "_law_is" ["_law_thing"] spIs)
    (D_eq : HasMe P w K mg base CX0 1 CV "__eq__" ["self", "other"] (spEqV CV)) (M_Values : HasMk P w K mg base (L2.CX P w) 4 CV "Values" ["self", "letters"] (spValsR K CV CC CB)) :
    FnG P w K mg base CX0 7 f fd ["_law_script"] (spLaw K) := by
  refine okG F sc_law (fun vs H Q E h => ?_) (fun cdv A outer s H vs Q E hr hgd h => ?_)
  · obtain ⟨a, ns, rfl, _⟩ := h
    rfl
  · obtain ⟨a, ns, rfl, hS, k⟩ := h
    refine ⟨_, (pss_cons (ps_set (i := 1) sc_law.nd rfl (.inl rfl) (pe_fn D_law_pen (hr.mono (by decide)) pass0 (pa_cons (pv 0) pa_nil)))
      (pss_cons (ps_for PassesOwn.never rfl (pi_range1 (by rfl) B.n_range (pa_cons pe_int pa_nil)) (pg_name (i := 2) sc_law.nd rfl (.inl rfl)) (pss_cons (ps_par (i := 3) (j := 4) rfl sc_law.nd rfl rfl (by decide) rfl rfl (pa_cons (pe_fn D_law_letters (hr.mono (by decide)) pass0 (pa_cons (pv 1) pa_nil)) (pa_cons (pe_fn D_law_letters (hr.mono (by decide)) pass0 (pa_cons (pv 1) pa_nil)) pa_nil)) (by rfl))
      (pss_cons (ps_if (PW.pt (pw_or (pt_not (pt_val (pe_fnG D_law_right (hr.mono (by decide)) hgd pass0 (pa_cons (pv 3) pa_nil)))) (pw_or1 (pt_cmpR op_ne (pe_cmpR (op_eqMe D_eq (hr.mono (by decide)) pass0) (pe_mk M_Values (hr.mono (by decide)) passC (pa_cons (pv 3) pa_nil)) (pe_mk M_Values (hr.mono (by decide)) passC (pa_cons (pv 4) pa_nil)) (nomark _)) (pe_cmpR op_eq (pv 3) (pv 4) (nomark _)) (nomark _))))) (pss_one (ps_ret pe_bl)) pss_nil)
      (pss_cons (ps_for PassesOwn.never rfl (pi_range1 (by rfl) B.n_range (pa_cons pe_int pa_nil)) (pg_name (i := 5) sc_law.nd rfl (.inl rfl)) (pss_cons (ps_set (i := 7) sc_law.nd rfl (.inl rfl) (pe_fn D_law_bent (hr.mono (by decide)) pass0 (pa_cons (pv 1) (pa_cons (pv 3) pa_nil))))
      (pss_cons (ps_set (i := 7) sc_law.nd rfl (.inl rfl) (pe_fn D_law_pick (hr.mono (by decide)) pass0 (pa_cons (pv 1) (pa_cons (pe_lst (pa_cons (pv 7) (pa_cons (pe_fn D_law_bent (hr.mono (by decide)) pass0 (pa_cons (pv 1) (pa_cons (pe_op op_add_str (pv 7) pe_str) pa_nil))) pa_nil))) pa_nil))))
      (pss_cons (ps_set (i := 8) sc_law.nd rfl (.inl rfl) (pe_fn D_law_heard (hr.mono (by decide)) pass0 (pa_cons (pv 7) pa_nil)))
      (pss_cons (ps_if (pt_cmpR op_ne (pe_callB call_isi (by rfl) B.n_isinstance (by decide +kernel) (pa_cons (pv 8) (pa_cons (pe_bltn (v := .ty "list") (by rfl) B.n_list (by decide +kernel) rfl) pa_nil))) (pe_fn D_law_is (hr.mono (by decide)) pass0 (pa_cons (pv 7) pa_nil)) (nomark _)) (pss_one (ps_ret pe_bl)) pss_nil)
      (pss_one (ps_if (PW.pt (pw_and (pt_not (pt_val (pe_fn D_law_is (hr.mono (by decide)) pass0 (pa_cons (pv 7) pa_nil)))) (pw_and1 (pt_cmpR op_ne (pe_callB (call_reprD hgd hr.units) (by rfl) nR (by decide +kernel) (pa_cons (pv 8) pa_nil)) (pe_callB (call_reprD hgd hr.units) (by rfl) nR (by decide +kernel) (pa_cons (pe_tup (pa_cons (pv 7) pa_nil)) pa_nil)) (nomark _))))) (pss_one (ps_ret pe_bl)) pss_nil)))))))
      (pss_cons (ps_set (i := 6) sc_law.nd rfl (.inl rfl) (pe_fn D_law_pick (hr.mono (by decide)) pass0 (pa_cons (pv 1) (pa_cons (pe_lst (pa_cons pe_non (pa_cons pe_int (pa_cons pe_bl (pa_cons (pe_lst (pa_cons pe_str (pa_cons pe_str pa_nil))) (pa_cons (pe_tup (pa_cons pe_str (pa_cons pe_str pa_nil))) (pa_cons (pe_disp (pps_cons pe_str pe_str pps_nil) rfl rfl (by decide) (by decide)) (pa_cons (pe_op op_pow pe_int pe_int) (pa_cons (pe_mk M_Values (hr.mono (by decide)) passC (pa_cons pe_str pa_nil)) pa_nil))))))))) pa_nil))))
      (pss_one (ps_if (pt_cmpR (op_neT1 hr.units) (pe_fn D_law_heard (hr.mono (by decide)) pass0 (pa_cons (pv 6) pa_nil)) (pe_tup (pa_cons (pv 6) pa_nil)) (nomark _)) (pss_one (ps_ret pe_bl)) pss_nil)))))))
      (pss_one (ps_ret (pe_cmpR op_eq (ClX.pe_cval (pe_glob (v := .ref _) rfl G.mgV rfl) rfl) pe_int (nomark _)))))), ?_⟩
    refine ⟨_, rfl, a, ns, rfl, hS, fun p q ms H0 s0 hn0 hp0 => ?_⟩
    refine ⟨8, rfl, by decide, by decide, ?_⟩
    refine for_range (lo := 0) (n := 8) (fun i => Turn0 a p q ms (60 * (i : Int))) ⟨⟨_, _, _, _, _, _, _, rfl⟩, 0, 0, hp0, by decide⟩ (fun i σ H hi h => ?_) (fun σ H h => ?_)
    · obtain ⟨⟨x2, x3, x4, x5, x6, x7, x8, rfl⟩, i0, r0, hp, hi0⟩ := h
      refine ⟨_, rfl, p, q, ms, i0, r0, rfl, hp, by omega, fun z i1 r1 H1 b1 hp1 hi1 gz => ?_⟩
      refine ⟨_, rfl, p, q, ms, i1, r1, rfl, hp1, by omega, fun y i2 r2 H2 b2 hp2 hi2 gy => ?_⟩
      refine ⟨_, _, rfl, ?_⟩
      refine ⟨_, rfl, z, rfl, gz, fun H3 s3 => ?_⟩
      have hp3 := hp2.same s3
      refine ⟨true, rfl, ?_⟩
      refine ⟨_, rfl, fun v dv hv hdv ne => ⟨v, dv, _, rfl, upd_same, text_or gz, fun z' e gz' H4 cs4 b4 v4 => ⟨rfl, ?_⟩, fun hb => good_not gz hb⟩⟩
      cases e
      have s4 := mk_same b4 hv hdv
      obtain ⟨dx, t, hob, _⟩ := v4.ob
      refine ⟨_, rfl, fun u du hu hdu ne => ⟨u, du, _, rfl, upd_same, text_or gy, fun z' e gz' H5 cs5 b5 v5 => ⟨rfl, ?_⟩, fun hb => good_not gy hb⟩⟩
      cases e
      have s5 := mk_same b5 hu hdu
      obtain ⟨du2, tu, hou, _⟩ := v5.ob
      refine ⟨v, u, dx, du2, _, _, rfl, rfl, s5 _ _ hob, hou, v, dx, _, z, _, rfl, s5 _ _ hob, valF_let, .inl ⟨u, du2, _, y, rfl, hou, valF_let, ?_⟩⟩
      refine ⟨_, rfl, _, rfl, rfl, rfl, _, rfl, ?_⟩
      rw [dec_str]
      refine iteNS rfl ?_
      have hp5 := (hp3.same s4).same s5
      refine ⟨4, rfl, by decide, by decide, ?_⟩
      refine for_range (lo := 0) (n := 4) (fun j => Turn1 a p q ms z y (i2 + 10 * (j : Int))) ⟨⟨_, _, _, _, _, rfl⟩, i2, r2, hp5, by omega⟩ (fun j σ H hj h => ?_) (fun σ H h => ?_)
      · obtain ⟨⟨x2, x5, x6, x7, x8, rfl⟩, i3, r3, hp, hi3⟩ := h
        have glo := gz.lo
        have ghi := gz.hi
        refine ⟨_, rfl, _, rfl, p, q, ms, i3, r3, z, rfl, hp, by omega, by omega, by omega, good_ok gz, fun y1 i4 r4 H4 b4 hp4 hi4 sy1 oy1 => ?_⟩
        have ly1 : y1.length ≤ 10 := by have : y1.length = y1.cps.size := rfl; omega
        have app : ∀ a b : Str, (a ++ b).length = a.length + b.length := fun a b => Array.size_append
        have lk : (Str.ofString "k").length = 1 := by decide +kernel
        have big : 10000 ≤ sizeLine := by decide
        refine ⟨_, rfl, _, rfl, _, rfl, _, rfl, _, _, rfl, rfl, ?_, p, q, ms, i4, r4, _, rfl, hp4, by omega, ?_, ?_, ?_, fun y2 i5 r5 H5 b5 hp5 hi5 sy2 oy2 => ?_⟩
        · rw [lk]; omega
        · show 1 ≤ (y1 ++ Str.ofString "k").length
          rw [app, lk]; omega
        · show (y1 ++ Str.ofString "k").length ≤ 100
          rw [app, lk]; omega
        · refine strOk_iff.mpr fun c hc => ?_
          have hc' : c ∈ (y1.cps ++ (Str.ofString "k").cps).toList := hc
          rw [Array.toList_append, List.mem_append] at hc'
          exact hc'.elim (strOk_iff.mp oy1 c) (strOk_iff.mp (by decide +kernel : PyData.strOk (Str.ofString "k") = true) c)
        have ly2 : y2.cps.size ≤ 24 := by
          have : (y1 ++ Str.ofString "k").cps.size = y1.length + 1 := by show (y1 ++ Str.ofString "k").length = _; rw [app, lk]
          omega
        refine ⟨by show 2 ≤ sizeLine; decide, fun l hl => ?_⟩
        have lp : l ≠ p := (ne_of_none hp5.pen hl).symm
        refine ⟨p, l, q, _, ms, i5, r5, rfl, upd_same, (show (0 : Nat) < 2 by decide), (show (2 : Nat) < 1000 by decide), hp5.same (same_new hl), by omega, lp, fun x hx i6 r6 H6 b6 hp6 hi6 => ?_⟩
        obtain ⟨yy, rfl, lyy, oyy⟩ : ∃ yy : Str, x = .str yy ∧ yy.cps.size ≤ 24 ∧ PyData.strOk yy = true := by
          simp only [List.mem_cons, List.mem_nil_iff, or_false] at hx
          rcases hx with rfl | rfl
          · exact ⟨y1, rfl, Nat.le_trans ly1 (by decide), oy1⟩
          · exact ⟨y2, rfl, ly2, oy2⟩
        refine ⟨_, rfl, _, rfl, .inl ⟨yy, rfl, by omega⟩, fun z' e gz' H7 pp vv cs s7 el v7 => ?_, fun hb H7 pp s7 et => ?_⟩
        · cases e
          have eg := isGood_iff.mpr gz'
          refine ⟨_, rfl, _, _, _, _, true, rfl, .ty "list", .base (.lst el), kit_ty (by decide +kernel), _, rfl, yy, rfl, by omega, oyy, fun H8 s8 => ?_⟩
          rw [eg]
          refine ⟨rfl, _, rfl, iteNS rfl ?_⟩
          refine ⟨_, rfl, yy, rfl, by omega, oyy, fun H9 s9 => ?_⟩
          rw [eg]
          refine ⟨true, rfl, ?_⟩
          exact ⟨⟨_, _, _, _, _, rfl⟩, i6, r6, ((hp6.same s7).same s8).same s9, by omega⟩
        · refine ⟨_, rfl, _, _, _, _, false, rfl, .ty "list", .base (.tup et), kit_ty (by decide +kernel), _, rfl, yy, rfl, by omega, oyy, fun H8 s8 => ?_⟩
          rw [hb]
          refine ⟨rfl, _, rfl, iteNS rfl ?_⟩
          refine ⟨_, rfl, yy, rfl, by omega, oyy, fun H9 s9 => ?_⟩
          rw [hb]
          have len : (PyData.shown (.tuple [.str yy])).length ≤ sizeLine := by
            show (tupleText [reprText yy]).length ≤ sizeLine
            rw [tuple1_len]
            have := repr_len oyy
            have : yy.length = yy.cps.size := rfl
            omega
          refine ⟨false, rfl, ?_⟩
          refine ⟨_, rfl, pp, .tuple [.str yy], rfl, .tup (SqT.of (s9 _ _ (s8 _ _ et))) (.cons (.str _) .nil), rfl, rfl, by show 1 ≤ 50; decide, len, ?_⟩
          refine ⟨_, rfl, by show 1 ≤ sizeLine; decide, fun t2 ht2 => ⟨t2, .tuple [.str yy], rfl, .tup (SqT.of upd_same) (.cons (.str _) .nil), rfl, rfl, by show 1 ≤ 50; decide, len, ?_⟩⟩
          refine ⟨rfl, _, rfl, iteNS rfl ?_⟩
          exact ⟨⟨_, _, _, _, _, rfl⟩, i6, r6, (((hp6.same s7).same s8).same s9).same (same_new ht2), by omega⟩
      · obtain ⟨⟨x2, x5, x6, x7, x8, rfl⟩, i3, r3, hp, hi3⟩ := h
        refine ⟨_, rfl, odd_run KV ⟨_, hp.pen⟩ fun l xs H' s' hl el e8 ho => ?_⟩
        have lp : l ≠ p := (ne_of_none hp.pen hl).symm
        refine ⟨p, l, q, xs, ms, i3, r3, rfl, el, by omega, by omega, hp.same s', by omega, lp, fun x hx i6 r6 H6 b6 hp6 hi6 => ?_⟩
        have ox := (ho x hx).but b6
        have onot := ox.2.2
        refine ⟨_, rfl, _, rfl, ox.text, fun z' e => ?_, fun hb H7 pp s7 et => ?_⟩
        · obtain ⟨_, _, _, n⟩ := onot
          exact absurd e (n z')
        · refine ⟨_, rfl, by show 1 ≤ sizeLine; decide, fun t ht => ?_⟩
          have np : pp ≠ t := ne_of_none et ht
          refine ⟨pp, t, x, rfl, rfl, SqT.of (by rw [upd_ne np]; exact et), SqT.of upd_same, ox.1.imp id fun ⟨c, e, _⟩ => ⟨c, e⟩, _, rfl, iteF ?_⟩
          exact ⟨⟨_, _, _, _, _, _, _, rfl⟩, i6, r6, (hp6.same s7).same (same_new ht), by omega⟩
    · obtain ⟨⟨x2, x3, x4, x5, x6, x7, x8, rfl⟩, i0, r0, hp, hi0⟩ := h
      obtain ⟨mc, u, cr, cv⟩ := VV.most
      refine ⟨CV, mc, _, u, rfl, cr, cv, rfl, ?_⟩
      exact k H
end
end K1

namespace K1
open PySem L2 LB PyProof.Rows
section
variable {P : Program} {w : World} {K : PySem.W.Frag} {mg : Str → Option Value} {base : Heap} {h : Heap}
theorem all_mk {l : PySem.W.OpenLaw} {fa : Addr} {CValues CCell CBadCell CBadNames CBadNumber CUnlike CLineError CBadValues eBadValues fis_letter_of fare_unlike_letters iCell fare_values_letters iValues mValues_DDlenDD mValues_DDcontainsDD mValues_DDeqDD flaw_pen flaw_draw flaw_pick flaw_letters flaw_heard flaw_is flaw_bent flaw_right flaw : Addr} (X : K.In h) (G : h.Ns mainGlobals mg) (hfa : mg "law" = some (.ref fa))
    (blen : PySem.W.nsIn K mainGlobals "len" = some none)
    (blist : PySem.W.nsIn K mainGlobals "list" = some none)
    (btuple : PySem.W.nsIn K mainGlobals "tuple" = some none)
    (bint : PySem.W.nsIn K mainGlobals "int" = some none)
    (bstr : PySem.W.nsIn K mainGlobals "str" = some none)
    (bbool : PySem.W.nsIn K mainGlobals "bool" = some none)
    (babs : PySem.W.nsIn K mainGlobals "abs" = some none)
    (bsum : PySem.W.nsIn K mainGlobals "sum" = some none)
    (ball : PySem.W.nsIn K mainGlobals "all" = some none)
    (bset : PySem.W.nsIn K mainGlobals "set" = some none)
    (brange : PySem.W.nsIn K mainGlobals "range" = some none)
    (benumerate : PySem.W.nsIn K mainGlobals "enumerate" = some none)
    (bisinstance : PySem.W.nsIn K mainGlobals "isinstance" = some none)
    (brepr : PySem.W.nsIn K mainGlobals "repr" = some none)
    (bValueError : PySem.W.nsIn K mainGlobals "ValueError" = some none)
    (gCValues : PySem.W.nsIn K mainGlobals "Values" = some (some (.ref CValues)))
    (mkValues : PySem.W.makesIn K CValues = true)
    (kcValues : PySem.W.keepIn K (.ref CValues) = true)
    (pgValues : PySem.W.plainGet K CValues Str.empty = true)
    (hdValues : PySem.W.hasDictIn K CValues = true)
    (poValues : PySem.W.plainOver K CValues = true)
    (saValues : PySem.W.findIn K (.ref CValues) "__setattr__" = some (some (.builtin "object.__setattr__")))
    (gCCell : PySem.W.nsIn K mainGlobals "Cell" = some (some (.ref CCell)))
    (mkCell : PySem.W.makesIn K CCell = true)
    (kcCell : PySem.W.keepIn K (.ref CCell) = true)
    (pgCell : PySem.W.plainGet K CCell Str.empty = true)
    (hdCell : PySem.W.hasDictIn K CCell = true)
    (poCell : PySem.W.plainOver K CCell = true)
    (saCell : PySem.W.findIn K (.ref CCell) "__setattr__" = some (some (.builtin "object.__setattr__")))
    (noValuesletters : PySem.W.findIn K (.ref CValues) "letters" = some none)
    (noValuesby_number : PySem.W.findIn K (.ref CValues) "by_number" = some none)
    (noCellalphabet : PySem.W.findIn K (.ref CCell) "alphabet" = some none)
    (noCellnumber : PySem.W.findIn K (.ref CCell) "number" = some none)
    (noCellletters : PySem.W.findIn K (.ref CCell) "letters" = some none)
    (rdV : PySem.W.readsIn K CValues (.type "type") = true)
    (gaV : PySem.W.specialIn K (.ref CValues) "__getattribute__" = some (some (.builtin "type.__getattribute__")))
    (most : LB.MostX K CValues)
    (small : LB.TextX K "SMALL_LETTERS" K1.SM)
    (neV : CValues ≠ CCell)
    (haValues : PySem.W.findIn K (.ref CValues) "__class__" = some (some (.builtin "object.__class__")))
    (hn : PySem.W.specialIn K (.builtin "object.__class__") "__get__" = some (some (.builtin "getset_descriptor.__get__")))
    (htk : PySem.W.takesIn K (.builtin "object.__class__") = some true)
    (hmValues : PySem.W.mroIn K CValues (.type "object") = some true)
    (kitValues_Values : PySem.W.kitOne K (.ref CValues) (.ref CValues) = some true)
    (kitstr_Values : PySem.W.kitOne K (.type "str") (.ref CValues) = some false)
    (kitNoneType_Values : PySem.W.kitOne K (.type "NoneType") (.ref CValues) = some false)
    (kitValues_str : PySem.W.kitOne K (.ref CValues) (.type "str") = some false)
    (nfs : PySem.W.notFirst K CValues (.type "str") = true)
    (nfn : PySem.W.notFirst K CValues (.type "NoneType") = true)
    (nne : PySem.W.findIn K (.ref CValues) "__ne__" = some (some (.builtin "object.__ne__")))
    (nsub : PySem.W.subIn K (.ref CValues) (.type "object") = some true)
    (gCBadCell : PySem.W.nsIn K mainGlobals "BadCell" = some (some (.ref CBadCell)))
    (gCBadNames : PySem.W.nsIn K mainGlobals "BadNames" = some (some (.ref CBadNames)))
    (gCBadNumber : PySem.W.nsIn K mainGlobals "BadNumber" = some (some (.ref CBadNumber)))
    (gCUnlike : PySem.W.nsIn K mainGlobals "Unlike" = some (some (.ref CUnlike)))
    (gCLineError : PySem.W.nsIn K mainGlobals "LineError" = some (some (.ref CLineError)))
    (gCBadValues : PySem.W.nsIn K mainGlobals "BadValues" = some (some (.ref CBadValues)))
    (EBadValues : LB.ExK K CBadValues)
    (aeBadValues : PySem.W.findIn K (.ref CBadValues) "__init__" = some (some (.ref eBadValues)))
    (teBadValues : PySem.W.typeIn K (.ref eBadValues) = some (.type "function"))
    (xeBadValues : LB.FnX K eBadValues "__init__" "BadValues.__init__" s_BadValuesDD_initDD)
    (noBadValuesvalue : PySem.W.findIn K (.ref CBadValues) "value" = some none)
    (ais_letter_of : PySem.W.nsIn K mainGlobals "is_letter_of" = some (some (.ref fis_letter_of)))
    (xfis_letter_of : LB.FnX K fis_letter_of "is_letter_of" "is_letter_of" s_is_letter_of)
    (aare_unlike_letters : PySem.W.nsIn K mainGlobals "are_unlike_letters" = some (some (.ref fare_unlike_letters)))
    (xfare_unlike_letters : LB.FnX K fare_unlike_letters "are_unlike_letters" "are_unlike_letters" s_are_unlike_letters)
    (aiCell : PySem.W.findIn K (.ref CCell) "__init__" = some (some (.ref iCell)))
    (ifCell : PySem.W.isFn K (.ref iCell) = true)
    (xiCell : LB.FnX K iCell "__init__" "Cell.__init__" s_CellDD_initDD)
    (aare_values_letters : PySem.W.nsIn K mainGlobals "are_values_letters" = some (some (.ref fare_values_letters)))
    (xfare_values_letters : LB.FnX K fare_values_letters "are_values_letters" "are_values_letters" s_are_values_letters)
    (aiValues : PySem.W.findIn K (.ref CValues) "__init__" = some (some (.ref iValues)))
    (ifValues : PySem.W.isFn K (.ref iValues) = true)
    (xiValues : LB.FnX K iValues "__init__" "Values.__init__" s_ValuesDD_initDD)
    (ammValues_DDlenDD : PySem.W.findIn K (.ref CValues) "__len__" = some (some (.ref mValues_DDlenDD)))
    (immValues_DDlenDD : PySem.W.isFn K (.ref mValues_DDlenDD) = true)
    (xmValues_DDlenDD : LB.FnX K mValues_DDlenDD "__len__" "Values.__len__" s_ValuesDD_lenDD)
    (ammValues_DDcontainsDD : PySem.W.findIn K (.ref CValues) "__contains__" = some (some (.ref mValues_DDcontainsDD)))
    (immValues_DDcontainsDD : PySem.W.isFn K (.ref mValues_DDcontainsDD) = true)
    (xmValues_DDcontainsDD : LB.FnX K mValues_DDcontainsDD "__contains__" "Values.__contains__" s_ValuesDD_containsDD)
    (ammValues_DDeqDD : PySem.W.findIn K (.ref CValues) "__eq__" = some (some (.ref mValues_DDeqDD)))
    (immValues_DDeqDD : PySem.W.isFn K (.ref mValues_DDeqDD) = true)
    (xmValues_DDeqDD : LB.FnX K mValues_DDeqDD "__eq__" "Values.__eq__" s_ValuesDD_eqDD)
    (eLE : PySem.W.exmOne K (.ref CBadValues) (.ref CLineError) = some true)
    (kitBadValues_BadValues : PySem.W.kitOne K (.ref CBadValues) (.ref CBadValues) = some true)
    (kitBadValues_ValueError : PySem.W.kitOne K (.ref CBadValues) (.type "ValueError") = some true)
    (kNo : PySem.W.kitAny K (.ref CBadValues) [.ref CBadCell, .ref CBadNames, .ref CBadNumber, .ref CUnlike] = some false)
    (alaw_pen : PySem.W.nsIn K mainGlobals "_law_pen" = some (some (.ref flaw_pen)))
    (xflaw_pen : LB.FnX K flaw_pen "_law_pen" "_law_pen" s_law_pen)
    (alaw_draw : PySem.W.nsIn K mainGlobals "_law_draw" = some (some (.ref flaw_draw)))
    (xflaw_draw : LB.FnX K flaw_draw "_law_draw" "_law_draw" s_law_draw)
    (alaw_pick : PySem.W.nsIn K mainGlobals "_law_pick" = some (some (.ref flaw_pick)))
    (xflaw_pick : LB.FnX K flaw_pick "_law_pick" "_law_pick" s_law_pick)
    (alaw_letters : PySem.W.nsIn K mainGlobals "_law_letters" = some (some (.ref flaw_letters)))
    (xflaw_letters : LB.FnX K flaw_letters "_law_letters" "_law_letters" s_law_letters)
    (alaw_heard : PySem.W.nsIn K mainGlobals "_law_heard" = some (some (.ref flaw_heard)))
    (xflaw_heard : LB.FnX K flaw_heard "_law_heard" "_law_heard" s_law_heard)
    (alaw_is : PySem.W.nsIn K mainGlobals "_law_is" = some (some (.ref flaw_is)))
    (xflaw_is : LB.FnX K flaw_is "_law_is" "_law_is" s_law_is)
    (alaw_bent : PySem.W.nsIn K mainGlobals "_law_bent" = some (some (.ref flaw_bent)))
    (xflaw_bent : LB.FnX K flaw_bent "_law_bent" "_law_bent" s_law_bent)
    (alaw_right : PySem.W.nsIn K mainGlobals "_law_right" = some (some (.ref flaw_right)))
    (xflaw_right : LB.FnX K flaw_right "_law_right" "_law_right" s_law_right)
    (alaw : PySem.W.nsIn K mainGlobals "law" = some (some (.ref flaw)))
    (xflaw : LB.FnX K flaw "law" "law" s_law) :
    ∃ fd : FuncData, (∀ (s : Shared) (v : Value), BindsTo s fd ⟨[v], []⟩ [("_law_script", v)]) ∧ ∀ base : Heap, K.In base → base.Ns mainGlobals mg → FnG l.prog w K mg base CX0 7 fa fd ["_law_script"] (spLaw K) := by
  have e := hfa.symm.trans (PySem.W.mg_of X G alaw)
  cases e
  obtain ⟨fdL, FL⟩ := xflaw.get
  refine ⟨fdL, fun s v => ?_, fun base _ _ => ?_⟩
  · obtain ⟨oc, od, kV, doc, pm, an, cdv, ct, osl, e1, e2, e3⟩ := FL.ex
    subst e1
    exact .of_eq rfl
  obtain ⟨zS, tS, eS, qS⟩ := small
  subst qS
  obtain ⟨tM, eM⟩ := most
  have B : Blt mg := ⟨PySem.W.mg_none_of X G blen, PySem.W.mg_none_of X G blist, PySem.W.mg_none_of X G btuple, PySem.W.mg_none_of X G bint, PySem.W.mg_none_of X G bstr, PySem.W.mg_none_of X G bbool, PySem.W.mg_none_of X G babs, PySem.W.mg_none_of X G bsum, PySem.W.mg_none_of X G ball, PySem.W.mg_none_of X G bset, PySem.W.mg_none_of X G brange, PySem.W.mg_none_of X G benumerate, PySem.W.mg_none_of X G bisinstance⟩
  have nR := PySem.W.mg_none_of X G brepr
  have VV : VF K CValues CCell := ⟨⟨pgValues, hdValues, poValues, saValues⟩, neV, ⟨pgCell, hdCell, poCell, saCell⟩, noValuesletters, noValuesby_number, noCellalphabet, noCellnumber, noCellletters, ⟨_, _, ⟨rdV, gaV⟩, ⟨eM, ⟨tM, rfl⟩⟩⟩⟩
  have G0 : Consts mg CValues tS := ⟨PySem.W.mg_of X G eS, PySem.W.mg_of X G gCValues⟩
  have KV : KV K CValues := ⟨⟨⟨pgValues, hdValues, poValues, saValues⟩, haValues, hn, htk, hmValues⟩, kitValues_Values, kitstr_Values, kitNoneType_Values, kitValues_str⟩
  have KW : KW K CValues := ⟨KV, nfs, nfn, ⟨nne, nsub⟩⟩
  have hBadValues := has_ex (P := l.prog) (w := w) (base := base) (k := 1) (ps := ["self", "value"]) (ks := ["value"]) (b := false) X G gCBadValues EBadValues aeBadValues teBadValues xeBadValues (fun _ _ _ _ _ _ us hl => match us, hl with | [_, _], _ => rfl) (fun _ _ _ _ _ _ self ws hl => match ws, hl with | [_], _ => rfl) fun fd F => ok_BadValuesX F EBadValues.toOexC noBadValuesvalue
  have D_is_letter_of := has_fn (P := l.prog) (w := w) (base := base) (k := 1) (ps := ["letters", "value"]) X G ais_letter_of xfis_letter_of (fun _ _ _ _ _ _ us hl => match us, hl with | [_, _], _ => rfl) fun fd F => ok_let F B
  have D_are_unlike_letters := has_fn (P := l.prog) (w := w) (base := base) (k := 2) (ps := ["letters"]) X G aare_unlike_letters xfare_unlike_letters (fun _ _ _ _ _ _ us hl => match us, hl with | [_], _ => rfl) fun fd F => ok_unlG F B G0 D_is_letter_of
  have M_Cell := has_mk (P := l.prog) (w := w) (base := base) (k := 1) (ps := ["self", "alphabet", "number"]) X G gCCell aiCell ifCell mkCell kcCell xiCell (fun _ _ _ _ _ _ us hl => match us, hl with | [_, _, _], _ => rfl) fun fd F => ok_cell F B VV
  have D_are_values_letters := has_fn (P := l.prog) (w := w) (base := base) (k := 3) (ps := ["letters"]) X G aare_values_letters xfare_values_letters (fun _ _ _ _ _ _ us hl => match us, hl with | [_], _ => rfl) fun fd F => ok_avlR F B VV G0 D_are_unlike_letters
  have M_Values := has_mk (P := l.prog) (w := w) (base := base) (k := 4) (ps := ["self", "letters"]) X G gCValues aiValues ifValues mkValues kcValues xiValues (fun _ _ _ _ _ _ us hl => match us, hl with | [_, _], _ => rfl) fun fd F => ok_valsR F B VV G0 D_are_values_letters M_Cell hBadValues.1
  have MK_Values := has_mkK (P := l.prog) (w := w) (base := base) (k := 4) (ps := ["self", "letters"]) (ks := ["letters"]) X G gCValues aiValues ifValues mkValues kcValues xiValues (fun _ _ _ _ _ _ us ws h1 h2 => match us, ws, h1, h2 with | [_], [_], _, _ => rfl) fun fd F => ok_valsR F B VV G0 D_are_values_letters M_Cell hBadValues.1
  have D_len := has_me (P := l.prog) (w := w) (mg := mg) (base := base) (k := 1) (C := CValues) (ps := ["self"]) ammValues_DDlenDD immValues_DDlenDD xmValues_DDlenDD (fun _ _ _ _ _ _ us hl => match us, hl with | [_], _ => rfl) fun fd F => ok_lenV F B VV
  have D_in := has_me (P := l.prog) (w := w) (mg := mg) (base := base) (k := 2) (C := CValues) (ps := ["self", "x"]) ammValues_DDcontainsDD immValues_DDcontainsDD xmValues_DDcontainsDD (fun _ _ _ _ _ _ us hl => match us, hl with | [_, _], _ => rfl) fun fd F => ok_inV F B VV D_is_letter_of
  have D_eq := has_me (P := l.prog) (w := w) (mg := mg) (base := base) (k := 1) (C := CValues) (ps := ["self", "other"]) ammValues_DDeqDD immValues_DDeqDD xmValues_DDeqDD (fun _ _ _ _ _ _ us hl => match us, hl with | [_, _], _ => rfl) fun fd F => ok_eqV F B VV G0 KV
  have HH : HF K CBadValues CBadCell CBadNames CBadNumber CUnlike CLineError := ⟨EBadValues, noBadValuesvalue, eLE, kitBadValues_BadValues, kitBadValues_ValueError, kNo⟩
  have D_law_pen := has_fn (P := l.prog) (w := w) (base := base) (k := 1) (ps := ["_law_script"]) X G alaw_pen xflaw_pen (fun _ _ _ _ _ _ us hl => match us, hl with | [_], _ => rfl) fun fd F => ok_pen F B
  have D_law_draw := has_fn (P := l.prog) (w := w) (base := base) (k := 1) (ps := ["_law_pen_here", "_law_limit"]) X G alaw_draw xflaw_draw (fun _ _ _ _ _ _ us hl => match us, hl with | [_, _], _ => rfl) fun fd F => ok_draw F B
  have D_law_pick := has_fn (P := l.prog) (w := w) (base := base) (k := 2) (ps := ["_law_pen_here", "_law_some"]) X G alaw_pick xflaw_pick (fun _ _ _ _ _ _ us hl => match us, hl with | [_, _], _ => rfl) fun fd F => ok_pick F B D_law_draw
  have D_law_letters := has_fn (P := l.prog) (w := w) (base := base) (k := 3) (ps := ["_law_pen_here"]) X G alaw_letters xflaw_letters (fun _ _ _ _ _ _ us hl => match us, hl with | [_], _ => rfl) fun fd F => ok_letters F B D_law_draw D_law_pick
  have D_law_heard := has_fn (P := l.prog) (w := w) (base := base) (k := 6) (ps := ["_law_value"]) X G alaw_heard xflaw_heard (fun _ _ _ _ _ _ us hl => match us, hl with | [_], _ => rfl) fun fd F => ok_heard F B HH (PySem.W.mg_none_of X G bValueError) (PySem.W.mg_of X G gCBadValues) (PySem.W.mg_of X G gCBadCell) (PySem.W.mg_of X G gCBadNames) (PySem.W.mg_of X G gCBadNumber) (PySem.W.mg_of X G gCUnlike) (PySem.W.mg_of X G gCLineError) M_Values
  have D_law_is := has_fn (P := l.prog) (w := w) (base := base) (k := 1) (ps := ["_law_thing"]) X G alaw_is xflaw_is (fun _ _ _ _ _ _ us hl => match us, hl with | [_], _ => rfl) fun fd F => ok_is F B
  have D_law_bent := has_fn (P := l.prog) (w := w) (base := base) (k := 3) (ps := ["_law_pen_here", "_law_word"]) X G alaw_bent xflaw_bent (fun _ _ _ _ _ _ us hl => match us, hl with | [_, _], _ => rfl) fun fd F => ok_bent F B D_law_draw D_law_pick
  have D_law_right := has_fnG (P := l.prog) (w := w) (base := base) (k := 6) (ps := ["_law_word"]) X G alaw_right xflaw_right (fun _ _ _ _ _ _ us hl => match us, hl with | [_], _ => rfl) fun fd F => ok_right F B nR VV G0 KW D_len D_in D_eq M_Values MK_Values
  exact ok_law FL B nR VV G0 KW D_law_pen D_law_letters D_law_pick D_law_right D_law_bent D_law_heard D_law_is D_eq M_Values
end
end K1

open PySem PySem.W PyProof.Rows
set_option maxRecDepth 100000 in
set_option maxHeartbeats 0 in
theorem PySem.Challenge.cw_linestrikes_k01_values_made_holds : PySem.Challenge.rw_linestrikes_k01_values_made.Holds := by
  w_on; o_law; k_head; (case hw => w_witness2)
  k_fill
  refine LB.walk_ofG (l := PySem.Challenge.rw_linestrikes_k01_values_made) (n := 63) (k := 7) (x := "_law_script") (sp := fun w => K1.spLaw _) rfl (by decide) rfl ⟨rfl, by decide, by decide⟩ (fun w h Y => PySem.W.kIn_of Y) ?F (fun _ _ a ns hl _ hS => ⟨a, ns, rfl, hS, fun _ => rfl⟩)
  case F =>
    intro w mg fa h KX G hmg
    refine' K1.all_mk KX G hmg ?blen ?blist ?btuple ?bint ?bstr ?bbool ?babs ?bsum ?ball ?bset ?brange ?benumerate ?bisinstance ?brepr ?bValueError ?gCValues ?mkValues ?kcValues ?pgValues ?hdValues ?poValues ?saValues ?gCCell ?mkCell ?kcCell ?pgCell ?hdCell ?poCell ?saCell ?noValuesletters ?noValuesby_number ?noCellalphabet ?noCellnumber ?noCellletters ?rdV ?gaV ?most ?small ?neV ?haValues ?hn ?htk ?hmValues ?kitValues_Values ?kitstr_Values ?kitNoneType_Values ?kitValues_str ?nfs ?nfn ?nne ?nsub ?gCBadCell ?gCBadNames ?gCBadNumber ?gCUnlike ?gCLineError ?gCBadValues ?EBadValues ?aeBadValues ?teBadValues ?xeBadValues ?noBadValuesvalue ?ais_letter_of ?xfis_letter_of ?aare_unlike_letters ?xfare_unlike_letters ?aiCell ?ifCell ?xiCell ?aare_values_letters ?xfare_values_letters ?aiValues ?ifValues ?xiValues ?ammValues_DDlenDD ?immValues_DDlenDD ?xmValues_DDlenDD ?ammValues_DDcontainsDD ?immValues_DDcontainsDD ?xmValues_DDcontainsDD ?ammValues_DDeqDD ?immValues_DDeqDD ?xmValues_DDeqDD ?eLE ?kitBadValues_BadValues ?kitBadValues_ValueError ?kNo ?alaw_pen ?xflaw_pen ?alaw_draw ?xflaw_draw ?alaw_pick ?xflaw_pick ?alaw_letters ?xflaw_letters ?alaw_heard ?xflaw_heard ?alaw_is ?xflaw_is ?alaw_bent ?xflaw_bent ?alaw_right ?xflaw_right ?alaw ?xflaw
    (case blen => k_is)
    (case blist => k_is)
    (case btuple => k_is)
    (case bint => k_is)
    (case bstr => k_is)
    (case bbool => k_is)
    (case babs => k_is)
    (case bsum => k_is)
    (case ball => k_is)
    (case bset => k_is)
    (case brange => k_is)
    (case benumerate => k_is)
    (case bisinstance => k_is)
    (case brepr => k_is)
    (case bValueError => k_is)
    (case gCValues => k_is)
    (case mkValues => k_is)
    (case kcValues => k_is)
    (case pgValues => k_is)
    (case hdValues => k_is)
    (case poValues => k_is)
    (case saValues => k_is)
    (case gCCell => k_is)
    (case mkCell => k_is)
    (case kcCell => k_is)
    (case pgCell => k_is)
    (case hdCell => k_is)
    (case poCell => k_is)
    (case saCell => k_is)
    (case noValuesletters => k_is)
    (case noValuesby_number => k_is)
    (case noCellalphabet => k_is)
    (case noCellnumber => k_is)
    (case noCellletters => k_is)
    (case rdV => k_is)
    (case gaV => k_is)
    (case most => (refine' LB.MostX.mk ?z2; (case z2 => k_is)))
    (case small => (refine' LB.TextX.mk ?z3 ?z4; (case z3 => k_is); (case z4 => decide +kernel)))
    (case neV => decide)
    (case haValues => k_is)
    (case hn => k_is)
    (case htk => k_is)
    (case hmValues => k_is)
    (case kitValues_Values => kernel_rfl)
    (case kitstr_Values => kernel_rfl)
    (case kitNoneType_Values => kernel_rfl)
    (case kitValues_str => kernel_rfl)
    (case nfs => kernel_rfl)
    (case nfn => kernel_rfl)
    (case nne => k_is)
    (case nsub => k_is)
    (case gCBadCell => k_is)
    (case gCBadNames => k_is)
    (case gCBadNumber => k_is)
    (case gCUnlike => k_is)
    (case gCLineError => k_is)
    (case gCBadValues => k_is)
    (case EBadValues => (refine' LB.ExX.mk ?h0 ?h1 ?h2 ?h3 ?h4 ?h5 ?h6 ?h7 ?x1 ?x2 ?s1 ?s2 ?s3 ?s4; (case h0 => k_is); (case h1 => k_is); (case h2 => k_is); (case h3 => k_is); (case h4 => k_is); (case h5 => k_is); (case h6 => k_is); (case h7 => k_is); (case x1 => k_is); (case x2 => decide +kernel); (case s1 => k_is); (case s2 => k_is); (case s3 => k_is); (case s4 => k_is)))
    (case aeBadValues => k_is)
    (case teBadValues => k_is)
    (case xeBadValues => (refine' LB.FnX.mk ?ol ?oc ?ok; (case ol => k_is); (case oc => k_is); (case ok => k_is)))
    (case noBadValuesvalue => k_is)
    (case ais_letter_of => k_is)
    (case xfis_letter_of => (refine' LB.FnX.mk ?ol ?oc ?ok; (case ol => k_is); (case oc => k_is); (case ok => k_is)))
    (case aare_unlike_letters => k_is)
    (case xfare_unlike_letters => (refine' LB.FnX.mk ?ol ?oc ?ok; (case ol => k_is); (case oc => k_is); (case ok => k_is)))
    (case aiCell => k_is)
    (case ifCell => k_is)
    (case xiCell => (refine' LB.FnX.mk ?ol ?oc ?ok; (case ol => k_is); (case oc => k_is); (case ok => k_is)))
    (case aare_values_letters => k_is)
    (case xfare_values_letters => (refine' LB.FnX.mk ?ol ?oc ?ok; (case ol => k_is); (case oc => k_is); (case ok => k_is)))
    (case aiValues => k_is)
    (case ifValues => k_is)
    (case xiValues => (refine' LB.FnX.mk ?ol ?oc ?ok; (case ol => k_is); (case oc => k_is); (case ok => k_is)))
    (case ammValues_DDlenDD => k_is)
    (case immValues_DDlenDD => k_is)
    (case xmValues_DDlenDD => (refine' LB.FnX.mk ?ol ?oc ?ok; (case ol => k_is); (case oc => k_is); (case ok => k_is)))
    (case ammValues_DDcontainsDD => k_is)
    (case immValues_DDcontainsDD => k_is)
    (case xmValues_DDcontainsDD => (refine' LB.FnX.mk ?ol ?oc ?ok; (case ol => k_is); (case oc => k_is); (case ok => k_is)))
    (case ammValues_DDeqDD => k_is)
    (case immValues_DDeqDD => k_is)
    (case xmValues_DDeqDD => (refine' LB.FnX.mk ?ol ?oc ?ok; (case ol => k_is); (case oc => k_is); (case ok => k_is)))
    (case eLE => kernel_rfl)
    (case kitBadValues_BadValues => kernel_rfl)
    (case kitBadValues_ValueError => kernel_rfl)
    (case kNo => kernel_rfl)
    (case alaw_pen => k_is)
    (case xflaw_pen => (refine' LB.FnX.mk ?ol ?oc ?ok; (case ol => k_is); (case oc => k_is); (case ok => k_is)))
    (case alaw_draw => k_is)
    (case xflaw_draw => (refine' LB.FnX.mk ?ol ?oc ?ok; (case ol => k_is); (case oc => k_is); (case ok => k_is)))
    (case alaw_pick => k_is)
    (case xflaw_pick => (refine' LB.FnX.mk ?ol ?oc ?ok; (case ol => k_is); (case oc => k_is); (case ok => k_is)))
    (case alaw_letters => k_is)
    (case xflaw_letters => (refine' LB.FnX.mk ?ol ?oc ?ok; (case ol => k_is); (case oc => k_is); (case ok => k_is)))
    (case alaw_heard => k_is)
    (case xflaw_heard => (refine' LB.FnX.mk ?ol ?oc ?ok; (case ol => k_is); (case oc => k_is); (case ok => k_is)))
    (case alaw_is => k_is)
    (case xflaw_is => (refine' LB.FnX.mk ?ol ?oc ?ok; (case ol => k_is); (case oc => k_is); (case ok => k_is)))
    (case alaw_bent => k_is)
    (case xflaw_bent => (refine' LB.FnX.mk ?ol ?oc ?ok; (case ol => k_is); (case oc => k_is); (case ok => k_is)))
    (case alaw_right => k_is)
    (case xflaw_right => (refine' LB.FnX.mk ?ol ?oc ?ok; (case ol => k_is); (case oc => k_is); (case ok => k_is)))
    (case alaw => k_is)
    (case xflaw => (refine' LB.FnX.mk ?ol ?oc ?ok; (case ol => k_is); (case oc => k_is); (case ok => k_is)))

