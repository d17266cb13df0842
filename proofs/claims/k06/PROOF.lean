import PyProof.Rows.All
import Wide.All
import OpenK.AllK
import Wide.FinOn
import HandS.Base
import HandS.Call
import HandS.List
import HandS.Comp
import HandS.Ends
import HandS.Words
import HandS.WordsList
import HandS.OwnEq
import PyProof.InstNe
import HandS.SetKeys
import PyProof.StrWalks
import PyProof.EnumMake
import HandS.Iter
import HandS.Text
import PyProof.ListStr
import PyProof.Draws
import PyProof.WalksEnum
import HandS.ForMost
import HandS.Property
import HandS.IsInst
import HandS.Codes
import HandS.ClsMeth
import HandS.Replace
import HandS.Flow
import HandS.Evl
import HandS.ForExc
import HandS.ExcInit
import HandS.ExcField
import HandS.ExcIs
import HandS.ExcValue
import HandS.MakeKw
import HandS.Exc
import HandS.ExcOwn
import PyProof.ReprRoads
import HandS.MakeKwOnly
import HandS.TupLe
import HandS.RaiseMore
import HandS.Style
import PyProof.NeKinds
import PyProof.CallFns
import KE.KRevSl
import PyProof.SliceStr2
import PyProof.StrLawsRepr
import HandS.WordsExc
import HandS.GenList
import PyProof.WalksMore
import PyProof.GenComp
import KE.KOpsOwn
import HandS.Small
import PyProof.Truth
import PyProof.StrLawsOcc
import PyProof.CallType
import PyProof.Conv_bool
import HandS.Dict
import HandS.WordsDict
import HandS.WideBits
import HandS.Walk
import PySem.Challenge.RW_linestrikes_k06_whole_cells_under_other
set_option Elab.async false
set_option linter.all false
set_option maxRecDepth 100000
set_option maxHeartbeats 4000000
namespace PySem.W
open PySem PySem.Calls PyProof.Rows Builtin
section
variable {prog : Program} {w : World} {A : Around} {E : Value → Shared → Prop} {s : Shared} {K : Frag} {x C L f : Addr} {h₀ : Heap} {m : Str → Option Value} {ox : Obj} {od : Option Obj}
theorem slotBound_K {M : Model} {name : Str} {id : String} {args : List Value} {Q : Option Value → Shared → Prop} (X : K.In s.heap) (I : InstAt s.heap x ox C od) (hs : findIn K (.ref C) name = some (some (.builtin id)))
    (hb : ∀ v, bindSpecial (.builtin id) v = pure (.builtin id, [v]))
    (h : wpAny M A (call (.builtin id) (.ref x :: args)) (fun v => Q (some v)) E s) : wpAny M A (callSpecialIfBound? (.ref x) name args) Q E s := by
  simp only [callSpecialIfBound?, bindSpecialIfBound?]
  refine wpAny_holding (wpAny_bind (wpAny_bind (wpAny_bind (I.type.here ((looks_findIn X hs).here ?_)))))
  simp only [hb]
  refine wpAny_bind (wpAny_askSetting (wpAny_ite ?_))
  have fin : wpAny M A (call (.builtin id) ([.ref x] ++ args) >>= fun v => pure (some v)) Q E s := wpAny_bind (wpAny_mono h (fun v s' h' => wpAny_pure h') fun _ _ h' => h')
  split
  · exact wpAny_bind (wpAny_pure (wpAny_pure fin))
  · exact wpAny_tryCatch (wpAny_bind (wpAny_pure (wpAny_pure fin)))
theorem objNe_K {b : Value} {Q : Fin → Shared → Prop} (X : K.In s.heap) (I : InstAt s.heap x ox C od) (hu : A.units < cLine) (hs : findIn K (.ref C) "__eq__" = some (some (.ref f))) (hf : isFn K (.ref f) = true)
    (hcall : wpAny (model prog w) A (call (.ref f) [.ref x, b]) (fun v s' => ∃ k, v = .bool k ∧ Q (.done (.ret (.bool (!k)))) s') E s) :
    wpAny (model prog w) A (Builtin.«object.__ne__» ⟨[.ref x, b], []⟩) Q E s := by
  unfold Builtin.«object.__ne__»
  have hc : wpAny (model prog w) A (callSpecialIfBound? (.ref x) (Str.ofString "__eq__") [b]) (fun r s' => ∃ k, r = some (.bool k) ∧ Q (.done (.ret (.bool (!k)))) s') E s :=
    ifBound_K X I hs hf (wpAny_mono hcall (fun v s' hv => by obtain ⟨k, rfl, q⟩ := hv; exact ⟨k, rfl, q⟩) fun _ _ e => e)
  repeat (first
    | with_reducible refine wpAny_cRoomFor hu ?_
    | (refine wpAny_bind (m := callSpecialIfBound? (.ref x) (Str.ofString "__eq__") [b]) (wpAny_mono hc (fun r s' hr => by
          obtain ⟨k, rfl, hq⟩ := hr
          repeat (first | exact hq | exact wpAny_pure hq | exact wpAny_truthy_bool hq | (refine wpAny_bind (m := truthy (.bool _)) (wpAny_truthy_bool ?_)) | wp_step)) fun _ _ e => e))
    | wp_step)
theorem ne_K {b : Value} {tb : Value} {Q : Value → Shared → Prop} (hu : A.units + 1 < cLine) (F : Fr h₀ L s.heap m) (X₀ : K.In h₀) (I : InstAt s.heap x ox C od) (hb : Looks (model prog w) s.heap (typeOf b) tb) (hn : notFirst K C tb = true)
    (hne : findIn K (.ref C) "__ne__" = some (some (.builtin "object.__ne__"))) (ho : subIn K (.ref C) (.type "object") = some true)
    (hs : findIn K (.ref C) "__eq__" = some (some (.ref f))) (hf : isFn K (.ref f) = true)
    (h : wpAny (model prog w) A.in1 (call (.ref f) [.ref x, b]) (fun v s' => ∃ k, v = .bool k ∧ Q (.bool (!k)) s') E s) : wpAny (model prog w) A (richCompare .NotEq (.ref x) b) Q E s := by
  have X := X₀.keeps F.keep
  have one : wpAny (model prog w) A (tryCompare (.ref x) "__ne__" b) (fun r s' => ∃ v, r = some v ∧ Q v s') E s := by
    unfold tryCompare
    refine wpAny_bind (slotBound_K X I hne PySem.F.cmp_object.ne.bind (wpAny_call (codeAny_call_builtin PySem.F.cmp_object.ne.plain PySem.F.cmpEntry_ne ?_)))
    simp only [checkBuiltinCall, PySem.F.cmpKind_ne, PySem.F.cmpSplit_ne]
    refine wpAny_bind ?_
    unfold isInstance
    refine wpAny_bind (I.type.here ((looks_subIn X ho).here ?_))
    have ha := PySem.F.cmpArgs_ne (.ref x) b
    rw [if_neg (by decide)]
    have fin : wpAny (model prog w) A.in1 (Builtin.«object.__ne__» ⟨[.ref x, b], []⟩) (fun fin s' => match fin with
          | Fin.done f => (match (Except.ok f : Except Value Flow) with
            | Except.ok (Flow.ret v) => wpAny (model prog w) A (match (some v : Option Value) with | some Value.notImplemented => pure none | none => pure none | some v => pure (some v)) (fun r s' => ∃ v, r = some v ∧ Q v s') E s'
            | Except.ok _ => False
            | Except.error e => E e s')
          | Fin.again c' => c'.quiet = true ∧ codeAny (model prog w) A c' (fun r s' => match r with
                  | Except.ok (Flow.ret v) => wpAny (model prog w) A (match (some v : Option Value) with | some Value.notImplemented => pure none | none => pure none | some v => pure (some v)) (fun r s' => ∃ v, r = some v ∧ Q v s') E s'
                  | Except.ok _ => False
                  | Except.error e => E e s') s') (fun e s' => E e s') s := by
      refine objNe_K X I hu hs hf (wpAny_mono h (fun v s' hv => ?_) fun _ _ e => e)
      obtain ⟨k, rfl, q⟩ := hv
      exact ⟨k, rfl, wpAny_pure ⟨_, rfl, q⟩⟩
    cases hsig : Manifest.signature? "object.__ne__" with
    | none => exact wpAny_pure fin
    | some sig =>
      simp only [argsOk, hsig] at ha
      have h2 : Bind.checkArgs "object.__ne__" sig ⟨[.ref x, b], []⟩ = pure () := ha
      show wpAny _ _ (Bind.checkArgs "object.__ne__" sig ⟨[.ref x, b], []⟩) _ _ _
      rw [h2]; exact wpAny_pure fin
  unfold richCompare
  simp only [oneThing_ref]
  refine wpAny_holding (wpAny_bind (wpAny_cRoomFor (Nat.lt_of_succ_lt hu) ?_))
  refine wpAny_bind (I.type.here (wpAny_bind (hb.here ?_)))
  split
  · rename_i q
    have e : subIn K tb (.ref C) = some false := by
      rcases Bool.or_eq_true_iff.mp hn with e | e
      · rw [beq_iff_eq.mp e] at q; simp at q
      · exact beq_iff_eq.mp e
    refine wpAny_bind ((looks_subIn X e).here ?_)
    simp only [Bool.false_eq_true, if_false]
    refine wpAny_bind (wpAny_mono one (fun r s' z => ?_) fun _ _ e => e)
    obtain ⟨v, rfl, hq⟩ := z
    exact wpAny_pure hq
  · refine wpAny_bind (wpAny_pure ?_)
    simp only [Bool.false_eq_true, if_false]
    refine wpAny_bind (wpAny_mono one (fun r s' z => ?_) fun _ _ e => e)
    obtain ⟨v, rfl, hq⟩ := z
    exact wpAny_pure hq
end
end PySem.W

namespace LB
open PySem L2 PyProof.Rows
section
variable {X : Cx} {CX : CXT} {k : Nat} {f C : Addr} {fd : FuncData} {ps : List Str} {sp : Sp} {E : XK}
theorem relV_ne {v : V} {u : Value} (r : RelV v u) : u ≠ .notImplemented := by
  intro e
  subst e
  cases v with
  | non => cases r
  | bl _ => cases r
  | int _ => obtain ⟨t, e⟩ := r; cases e
  | str _ => obtain ⟨t, e⟩ := r; cases e
  | byt _ => obtain ⟨t, e⟩ := r; cases e
  | flt _ => obtain ⟨t, e⟩ := r; cases e
  | ref _ => cases r
  | ty _ => cases r
theorem cmpBack_of {pins : List (Addr × Obj)} {σ : L2.St} {Q : VK} {u : Value} {s : Shared} (h : EP X pins σ Q u s) : PySem.W.CmpBack (EP X pins σ Q) u s := by
  have hn : u ≠ .notImplemented := by
    obtain ⟨v, H', I, r, q⟩ := h
    exact relV_ne r
  cases u <;> first | exact absurd rfl hn | exact h
/-- a def of the class under a special name -/
structure Own (K : PySem.W.Frag) (C f : Addr) (nm : Str) : Prop where
  at_ : PySem.W.findIn K (.ref C) nm = some (some (.ref f))
  fn : PySem.W.isFn K (.ref f) = true
/-- the callee runs, somewhere below -/
theorem run_in1 {pins : List (Addr × Obj)} {σ : L2.St} {H : Hp} {s : Shared} {Q : VK} {us : List Value} {vs : List V} (F : FnOk X.prog X.w X.K X.mg X.base CX k f fd ps sp) (hr : Room (k + 1) X.A) (hb : Binds X.K fd ps []) (hx : Passes CX X E)
    (I : Inv X pins σ H s) (r : Vals vs us) (h : sp vs H Q E) : wpAny (model X.prog X.w) X.A.in1 (call (.ref f) us) (EP X pins σ Q) X.xe s := by
  have hl : us.length = ps.length := by rw [← r.length]; exact F.len _ _ _ _ h
  have hb' := hb s us I.kIn (by rw [List.append_nil]; exact hl)
  rw [List.append_nil] at hb'
  refine wpAny_call (codeAny_mono (F.run X.A.in1 X.stack s H ⟨us, []⟩ us vs Q E hr.in1 I.env0.in1 hb' r h) fun r s' hq => ?_)
  cases r with
  | error e => exact hx pins σ H s e s' I hq
  | ok fl =>
    cases fl with
    | ret u => exact I.after hq
    | next => exact False.elim hq
    | brk => exact False.elim hq
    | cont => exact False.elim hq
theorem inst_of {pins : List (Addr × Obj)} {σ : L2.St} {H : Hp} {s : Shared} {a dx : Addr} {fs : List (Str × V)} (I : Inv X pins σ H s) (ha : H a = some (.ins C dx fs)) :
    ∃ od, PySem.W.InstAt s.heap a (PySem.W.instObj C dx) C (some od) := by
  obtain ⟨mA, J, _⟩ := ins_get I.hok ha
  obtain ⟨od, J, _⟩ := J.look
  exact ⟨od, J⟩
/-- what an own operator of two instances asks -/
def rOwn2 (C D : Addr) (sp : Sp) (E : XK) : R2 := fun x y H Q => ∃ a b dx dy fs gs, x = .ref a ∧ y = .ref b ∧ H a = some (.ins C dx fs) ∧ H b = some (.ins D dy gs) ∧ sp [x, y] H Q E
theorem op_bin {op : Operator} (F : FnOk X.prog X.w X.K X.mg X.base CX k f fd ps sp) (hr : Room k X.A) (hb : Binds X.K fd ps []) (hx : Passes CX X E) (hc : PySem.W.selfFirst X.K C = true)
    (ho : Own X.K C f (PySem.dunder op.info.2)) : OpR X (binaryOp op) (rOwn2 C C sp E) := by
  intro pins s σ H x y v u Q I rx ry hq
  obtain ⟨a, b, dx, dy, fs, gs, rfl, rfl, ha, hb', h⟩ := hq
  cases rx
  cases ry
  obtain ⟨od, J⟩ := inst_of I ha
  obtain ⟨od', J'⟩ := inst_of I hb'
  obtain ⟨m, hF⟩ := I.fr
  refine PySem.W.binop_K hF I.ok.mod.kin J J'.type hc ho.at_ ho.fn (thn ?_ fun _ _ z => cmpBack_of z)
  exact run_fn (us := [.ref a, .ref b]) (vs := [.ref a, .ref b]) (dvs := []) (ds := []) F hr hb .nil hx I (.cons rfl (.cons rfl .nil)) h
theorem op_eqOwn (F : FnOk X.prog X.w X.K X.mg X.base CX k f fd ps sp) (hr : Room k X.A) (hb : Binds X.K fd ps []) (hx : Passes CX X E) (ho : Own X.K C f "__eq__") : OpR X (compareOp .Eq) (rOwn2 C C sp E) := by
  intro pins s σ H x y v u Q I rx ry hq
  obtain ⟨a, b, dx, dy, fs, gs, rfl, rfl, ha, hb', h⟩ := hq
  cases rx
  cases ry
  obtain ⟨od, J⟩ := inst_of I ha
  obtain ⟨od', J'⟩ := inst_of I hb'
  obtain ⟨m, hF⟩ := I.fr
  show wpAny (model X.prog X.w) X.A (richCompare .Eq (.ref a) (.ref b)) (EP X pins σ Q) X.xe s
  refine PySem.W.cmp_K (op := .Eq) (tb := .ref C) hr.units0 hF I.ok.mod.kin J J'.type (by simp [PySem.W.notFirst]) ho.at_ ho.fn (thn ?_ fun _ _ z => cmpBack_of z)
  exact run_fn (us := [.ref a, .ref b]) (vs := [.ref a, .ref b]) (dvs := []) (ds := []) F hr hb .nil hx I (.cons rfl (.cons rfl .nil)) h
/-- what a class must have for != by its own == -/
structure NeOwn (K : PySem.W.Frag) (C : Addr) : Prop where
  ne : PySem.W.findIn K (.ref C) "__ne__" = some (some (.builtin "object.__ne__"))
  sub : PySem.W.subIn K (.ref C) (.type "object") = some true
theorem op_neOwn (F : FnOk X.prog X.w X.K X.mg X.base CX k f fd ps sp) (hr : Room (k + 1) X.A) (hb : Binds X.K fd ps []) (hx : Passes CX X E) (ho : Own X.K C f "__eq__") (hn : NeOwn X.K C) :
    OpR X (compareOp .NotEq) (fun x y H Q => ∃ a b dx dy fs gs, x = .ref a ∧ y = .ref b ∧ H a = some (.ins C dx fs) ∧ H b = some (.ins C dy gs) ∧ sp [x, y] H (fun z H' => ∃ c, z = .bl c ∧ Q (.bl (!c)) H') E) := by
  intro pins s σ H x y v u Q I rx ry hq
  obtain ⟨a, b, dx, dy, fs, gs, rfl, rfl, ha, hb', h⟩ := hq
  cases rx
  cases ry
  obtain ⟨od, J⟩ := inst_of I ha
  obtain ⟨od', J'⟩ := inst_of I hb'
  obtain ⟨m, hF⟩ := I.fr
  show wpAny (model X.prog X.w) X.A (richCompare .NotEq (.ref a) (.ref b)) (EP X pins σ Q) X.xe s
  refine PySem.W.ne_K (tb := .ref C) (Nat.lt_of_le_of_lt (Nat.add_le_add_left (by decide : 1 ≤ 64) _) hr.units) hF I.ok.mod.kin J J'.type (by simp [PySem.W.notFirst]) hn.ne hn.sub ho.at_ ho.fn
    (thn (run_in1 (us := [.ref a, .ref b]) (vs := [.ref a, .ref b]) F hr hb hx I (.cons rfl (.cons rfl .nil)) h) fun u s' z => ?_)
  obtain ⟨w, H', I', r, c, rfl, q⟩ := z
  cases r
  exact ⟨c, rfl, .bl (!c), H', I', rfl, q⟩
theorem un_own {op : UnaryOp} (F : FnOk X.prog X.w X.K X.mg X.base CX k f fd ps sp) (hr : Room k X.A) (hb : Binds X.K fd ps []) (hx : Passes CX X E) (ho : Own X.K C f "__invert__") :
    UnR X (unaryOp .Invert) (fun x H Q => ∃ a dx fs, x = .ref a ∧ H a = some (.ins C dx fs) ∧ sp [x] H Q E) := by
  intro pins s σ H x v Q I rx hq
  obtain ⟨a, dx, fs, rfl, ha, h⟩ := hq
  cases rx
  obtain ⟨od, J⟩ := inst_of I ha
  obtain ⟨m, hF⟩ := I.fr
  refine PySem.W.ksp_inv hF I.ok.mod.kin J ho.at_ ho.fn ?_
  exact run_fn (us := [.ref a]) (vs := [.ref a]) (dvs := []) (ds := []) F hr hb .nil hx I (.cons rfl .nil) h
theorem un_negOwn {op : UnaryOp} (F : FnOk X.prog X.w X.K X.mg X.base CX k f fd ps sp) (hr : Room k X.A) (hb : Binds X.K fd ps []) (hx : Passes CX X E) (ho : Own X.K C f "__neg__") :
    UnR X (unaryOp .USub) (fun x H Q => ∃ a dx fs, x = .ref a ∧ H a = some (.ins C dx fs) ∧ sp [x] H Q E) := by
  intro pins s σ H x v Q I rx hq
  obtain ⟨a, dx, fs, rfl, ha, h⟩ := hq
  cases rx
  obtain ⟨od, J⟩ := inst_of I ha
  obtain ⟨m, hF⟩ := I.fr
  refine PySem.W.ksp_neg hF I.ok.mod.kin J ho.at_ ho.fn ?_
  exact run_fn (us := [.ref a]) (vs := [.ref a]) (dvs := []) (ds := []) F hr hb .nil hx I (.cons rfl .nil) h
/-- e in o, o an instance with its own __contains__ -/
def rIn (C : Addr) (sp : Sp) (E : XK) (g : Bool → Bool) : R2 := fun x y H Q => ∃ b dy gs, y = .ref b ∧ H b = some (.ins C dy gs) ∧ sp [y, x] H (fun z H' => ∃ c, z = .bl c ∧ Q (.bl (g c)) H') E
theorem op_inOwn (F : FnOk X.prog X.w X.K X.mg X.base CX k f fd ps sp) (hr : Room k X.A) (hb : Binds X.K fd ps []) (hx : Passes CX X E) (ho : Own X.K C f "__contains__") : OpR X (compareOp .In) (rIn C sp E id) := by
  intro pins s σ H x y v u Q I rx ry hq
  obtain ⟨b, dy, gs, rfl, hb', h⟩ := hq
  cases ry
  obtain ⟨od', J'⟩ := inst_of I hb'
  obtain ⟨m, hF⟩ := I.fr
  refine PySem.W.in_K hF I.ok.mod.kin J' ho.at_ ho.fn (thn (run_fn (us := [.ref b, v]) (vs := [.ref b, x]) (dvs := []) (ds := []) F hr hb .nil hx I (.cons rfl (.cons rx .nil)) h) fun u s' z => ?_)
  obtain ⟨w, H', I', r, c, rfl, q⟩ := z
  cases r
  exact wpAny_truthy_bool ⟨.bl c, H', I', rfl, q⟩
theorem op_notInOwn (F : FnOk X.prog X.w X.K X.mg X.base CX k f fd ps sp) (hr : Room k X.A) (hb : Binds X.K fd ps []) (hx : Passes CX X E) (ho : Own X.K C f "__contains__") : OpR X (compareOp .NotIn) (rIn C sp E not) := by
  intro pins s σ H x y v u Q I rx ry hq
  obtain ⟨b, dy, gs, rfl, hb', h⟩ := hq
  cases ry
  obtain ⟨od', J'⟩ := inst_of I hb'
  obtain ⟨m, hF⟩ := I.fr
  refine PySem.W.notIn_K hF I.ok.mod.kin J' ho.at_ ho.fn (thn (run_fn (us := [.ref b, v]) (vs := [.ref b, x]) (dvs := []) (ds := []) F hr hb .nil hx I (.cons rfl (.cons rx .nil)) h) fun u s' z => ?_)
  obtain ⟨w, H', I', r, c, rfl, q⟩ := z
  cases r
  exact wpAny_truthy_bool ⟨.bl (!c), H', I', rfl, q⟩
theorem call_lenOwn (F : FnOk X.prog X.w X.K X.mg X.base CX k f fd ps sp) (hr : Room (k + 1) X.A) (hb : Binds X.K fd ps []) (hx : Passes CX X E) (ho : Own X.K C f "__len__") :
    CallR X (.builtin "len") (fun xs H Q => ∃ a dx fs, xs = [.ref a] ∧ H a = some (.ins C dx fs) ∧ sp xs H (fun z H' => ∃ n : Int, z = .int n ∧ 0 ≤ n ∧ n < 2 ^ 63 ∧ Q (.int n) H') E) := by
  intro pins s σ H xs us Q I rx hq
  obtain ⟨a, dx, fs, rfl, ha, h⟩ := hq
  obtain ⟨u, rfl, ru⟩ := vals1 rx
  cases ru
  obtain ⟨od, J⟩ := inst_of I ha
  obtain ⟨m, hF⟩ := I.fr
  refine PySem.W.len_K hF I.ok.mod.kin J ho.at_ ho.fn (thn (run_in1 (us := [.ref a]) (vs := [.ref a]) F hr hb hx I (.cons rfl .nil) h) fun u s' z => ?_)
  obtain ⟨w, H', I', r, n, rfl, h0, h1, q⟩ := z
  obtain ⟨t, rfl⟩ := r
  exact ⟨⟨h0, h1⟩, .int n, H', I'.tok _, ⟨_, rfl⟩, q⟩
/-- the truth of an instance with its own __bool__ -/
def rTruOwn (C : Addr) (sp : Sp) (E : XK) : V → Hp → (Bool → Hp → Prop) → Prop := fun x H Q => ∃ a dx fs, x = .ref a ∧ H a = some (.ins C dx fs) ∧ sp [x] H (fun z H' => ∃ c, z = .bl c ∧ Q c H') E
theorem tru_own (F : FnOk X.prog X.w X.K X.mg X.base CX k f fd ps sp) (hr : Room k X.A) (hb : Binds X.K fd ps []) (hx : Passes CX X E) (ho : Own X.K C f "__bool__") : TruR X (rTruOwn C sp E) := by
  intro pins s σ H x v Q I rx hq
  obtain ⟨a, dx, fs, rfl, ha, h⟩ := hq
  cases rx
  obtain ⟨od, J⟩ := inst_of I ha
  obtain ⟨m, hF⟩ := I.fr
  refine PySem.W.truthy_K hF I.ok.mod.kin J ho.at_ ho.fn (thn (run_fn (us := [.ref a]) (vs := [.ref a]) (dvs := []) (ds := []) F hr hb .nil hx I (.cons rfl .nil) h) fun u s' z => ?_)
  obtain ⟨w, H', I', r, c, rfl, q⟩ := z
  cases r
  exact ⟨H', I', q⟩
/-- a test by a value's truth, whatever rule says it -/
theorem pt_tru {a : Expr} {ta : TE} {r : V → Hp → (Bool → Hp → Prop) → Prop} (hT : TruR X r) (ha : PE X a ta) (he : ∀ whole, isTrue a X.env whole = (do let v ← whole; standAt a.pos; holding [v] (truthy v)) := by intro _; rfl) :
    PT X a (fun σ H Q => ta σ H fun x H1 => r x H1 Q) := by
  refine ⟨fun pins s σ H Q I hw => ?_⟩
  refine isTrue_plain (thn (ha.run pins s σ H _ I hw) fun v s1 ⟨x, H1, I1, r1, q1⟩ => ?_) (he _)
  exact hT pins s1 σ H1 x v Q I1 r1 q1
/-- not e as a value, by e's truth -/
theorem pe_notTru {a : Expr} {ta : TE} {pos : Pos} {r : V → Hp → (Bool → Hp → Prop) → Prop} (hT : TruR X r) (ha : PE X a ta) : PE X (.UnaryOp .Not a pos) (fun σ H Q => ta σ H fun x H1 => r x H1 fun c H2 => Q (.bl (!c)) H2) := by
  refine ⟨fun pins s σ H Q I h => ?_⟩
  refine UnaryOp_ (thn (ha.run pins s σ H _ I h) fun v s1 ⟨x, H1, I1, r1, q1⟩ => ?_)
  exact not_of (thn (hT pins s1 σ H1 x v _ I1 r1 q1) fun c s2 ⟨H2, I2, q2⟩ => ⟨.bl (!c), H2, I2, rfl, q2⟩)
end
end LB

namespace LB
open PySem PyProof.Rows
/-! ### what of a list is met first -/
section
variable {K : Type} [DecidableEq K]
def ddStep (acc : List K) (x : K) : List K := if x ∈ acc then acc else acc ++ [x]
def dd (l : List K) : List K := l.foldl ddStep []
theorem dd_snoc (l : List K) (x : K) : dd (l ++ [x]) = ddStep (dd l) x := by
  unfold dd
  rw [List.foldl_append]
  rfl
theorem dd_mem (l : List K) (k : K) : k ∈ dd l ↔ k ∈ l := by
  suffices h : ∀ (r acc : List K), k ∈ r.foldl ddStep acc ↔ k ∈ acc ∨ k ∈ r by
    have := h l []
    simpa [dd] using this
  intro r
  induction r with
  | nil => intro acc; simp
  | cons a t ih =>
    intro acc
    rw [List.foldl_cons, ih]
    unfold ddStep
    split
    · rename_i h
      constructor
      · rintro (h1 | h1)
        · exact .inl h1
        · exact .inr (List.mem_cons_of_mem _ h1)
      · rintro (h1 | h1)
        · exact .inl h1
        · rcases List.mem_cons.mp h1 with e | h2
          · subst e; exact .inl h
          · exact .inr h2
    · simp only [List.mem_append, List.mem_cons, List.not_mem_nil, or_false, or_assoc]
theorem dd_len_le (l : List K) : (dd l).length ≤ l.length := by
  suffices h : ∀ (r acc : List K), (r.foldl ddStep acc).length ≤ acc.length + r.length by
    simpa [dd] using h l []
  intro r
  induction r with
  | nil => intro acc; simp
  | cons a t ih =>
    intro acc
    rw [List.foldl_cons]
    refine Nat.le_trans (ih _) ?_
    unfold ddStep
    split
    · simp only [List.length_cons]; omega
    · simp only [List.length_append, List.length_cons, List.length_nil]; omega
theorem dd_nodup {l : List K} (h : l.Nodup) : dd l = l := by
  suffices hh : ∀ (r acc : List K), (acc ++ r).Nodup → r.foldl ddStep acc = acc ++ r by
    simpa [dd] using hh l [] (by simpa using h)
  intro r
  induction r with
  | nil => intro acc _; simp
  | cons a t ih =>
    intro acc hn
    rw [List.foldl_cons]
    have ha : a ∉ acc := fun hm => by
      have := List.nodup_append.mp hn
      exact this.2.2 a hm a List.mem_cons_self rfl
    have e : ddStep acc a = acc ++ [a] := if_neg ha
    rw [e, ih _ (by simpa using hn)]
    simp
theorem dd_len_lt {l : List K} (h : ¬ l.Nodup) : (dd l).length < l.length := by
  suffices hh : ∀ (r acc : List K), acc.Nodup → ¬ (acc ++ r).Nodup → (r.foldl ddStep acc).length < acc.length + r.length by
    have := hh l [] (by simp) (by simpa using h)
    simpa [dd] using this
  intro r
  induction r with
  | nil => intro acc h1 h2; simp at h2; exact absurd h1 h2
  | cons a t ih =>
    intro acc h1 h2
    rw [List.foldl_cons]
    by_cases ha : a ∈ acc
    · have e : ddStep acc a = acc := if_pos ha
      rw [e]
      have := (show ∀ (r acc : List K), (r.foldl ddStep acc).length ≤ acc.length + r.length from by
        intro r
        induction r with
        | nil => intro acc; simp
        | cons a t ih =>
          intro acc
          rw [List.foldl_cons]
          refine Nat.le_trans (ih _) ?_
          unfold ddStep
          split
          · simp only [List.length_cons]; omega
          · simp only [List.length_append, List.length_cons, List.length_nil]; omega) t acc
      simp only [List.length_cons]
      omega
    · have e : ddStep acc a = acc ++ [a] := if_neg ha
      rw [e]
      have := ih (acc ++ [a]) (by
        refine List.nodup_append.mpr ⟨h1, by simp, ?_⟩
        intro x hx y hy q
        simp at hy
        subst hy; subst q
        exact ha hx) (by simpa using h2)
      simp only [List.length_append, List.length_cons, List.length_nil] at this ⊢
      omega
theorem dd_any [BEq K] [LawfulBEq K] (l : List K) (k v : K) : (ddStep l v).any (· == k) = (l.any (· == k) || decide (k = v)) := by
  unfold ddStep
  split
  · rename_i h
    by_cases e : k = v
    · subst e
      simp only [decide_true, Bool.or_true]
      exact List.any_eq_true.mpr ⟨k, h, by simp⟩
    · simp [e]
  · rw [List.any_append]
    congr 1
    by_cases e : k = v
    · subst e; simp
    · have e' : (v == k) = false := by simpa using fun q => e q.symm
      simp [e, e']
theorem dd_len [BEq K] [LawfulBEq K] (l : List K) (v : K) : (ddStep l v).length = if l.any (· == v) = true then l.length else l.length + 1 := by
  unfold ddStep
  by_cases h : v ∈ l
  · rw [if_pos h, if_pos (List.any_eq_true.mpr ⟨v, h, by simp⟩)]
  · rw [if_neg h, if_neg (fun q => by obtain ⟨x, hx, e⟩ := List.any_eq_true.mp q; exact h (by rw [← eq_of_beq e]; exact hx))]
    simp
end
section
variable {prog : Program} {w : World} {A : Around} {R : Result → Shared → Prop} {I : Addr} {fp wr : List Addr} {G : Array GenState → Array GenState → Prop} {n : Nat} {P : Nat → Value → Prop} {St : Nat → Shared → Prop}
theorem set_loop (W : WalksS prog w A.in1 I fp wr G n P St) (S : Addr) (hSf : S ∉ fp)
    (vals : List Str) (hval : ∀ i v, P i v → ∃ k t, vals[i]? = some k ∧ v = .str k t) (hvn : vals.length = n) (hb : n + 1 < scanBound) :
    ∀ (k i : Nat) (s : Shared), n - i = k → i ≤ n → St i s →
      s.heap.SetOf (strKind prog w) S (fun k' => (dd (vals.take i)).any (· == k')) (dd (vals.take i)).length →
      (∀ s', Moved (S :: wr) G s s' → s'.heap.SetOf (strKind prog w) S (fun k' => (dd vals).any (· == k')) (dd vals).length → R (.ok (.ret .none)) s') →
      codeAny (model prog w) A (.builtin "set.update.loop" ⟨[.ref S, .ref I], []⟩) R s := by
  have hSw : S ∉ wr := fun h => hSf (W.sub _ h)
  have hsub : ∀ b ∈ wr, b ∈ S :: wr := fun b hb => List.mem_cons_of_mem _ hb
  intro k
  induction k with
  | zero =>
    intro i s hk hi hst hS hR
    have hin : i = n := by omega
    subst hin
    refine codeAny_builtin PyProof.Rows.F.entry_set_update_loop ?_
    rw [Around.under_plainId PyProof.Rows.F.plain_set_update_loop _]
    show wpAny _ A.in1 (pyNext (.ref I) >>= _) _ _ s
    refine wpAny_bind (W.done s _ _ hst fun s' hm => ?_)
    show wpAny _ A.in1 (ret Value.none) _ _ s'
    exact wpAny_pure (hR s' (hm.mono hsub) (by
      rw [← hvn, List.take_length] at hS
      obtain ⟨o, es, ep, t, ho, rest⟩ := hS
      exact ⟨o, es, ep, t, hm.heap S _ hSw ho, rest⟩))
  | succ k ih =>
    intro i s hk hi hst hS hR
    have hlt : i < n := by omega
    refine codeAny_builtin PyProof.Rows.F.entry_set_update_loop ?_
    rw [Around.under_plainId PyProof.Rows.F.plain_set_update_loop _]
    show wpAny _ A.in1 (pyNext (.ref I) >>= _) _ _ s
    refine wpAny_bind (W.item i s _ _ hlt hst fun v s' hP hst' hm => ?_)
    obtain ⟨y, t, hy, rfl⟩ := hval i v hP
    have hS' : s'.heap.SetOf (strKind prog w) S (fun k' => (dd (vals.take i)).any (· == k')) (dd (vals.take i)).length := by
      obtain ⟨o, es, ep, tb, ho, rest⟩ := hS
      exact ⟨o, es, ep, tb, hm.heap S _ hSw ho, rest⟩
    show wpAny _ A.in1 (holding [Value.str y t] (setAdd S (.str y t)) >>= _) _ _ s'
    refine wpAny_bind (wpAny_holding ?_)
    unfold setAdd
    refine wpAny_holding ?_
    refine wpAny_bind ((strKind prog w).pyHash (k := y) (by simp [PySem.strKind, Value.isStrOf]) ?_)
    have hroom : (dd (vals.take i)).length + 1 < scanBound := by have := dd_len_le (vals.take i); have := List.length_take_le i vals; omega
    refine wpAny_setAddHashed_of (knd := strKind prog w) (s := { s' with toks := s'.toks + 1 }) (by simp [PySem.strKind, Value.isStrOf]) rfl hS' hroom fun h' hsb hS2 => ?_
    have hstep : vals.take (i + 1) = vals.take i ++ [y] := by
      have hi' := List.getElem?_eq_some_iff.mp hy
      obtain ⟨h1, e1⟩ := hi'
      rw [List.take_succ_eq_append_getElem h1, e1]
    have hSi : h'.SetOf (strKind prog w) S (fun k' => (dd (vals.take (i + 1))).any (· == k')) (dd (vals.take (i + 1))).length :=
      PyProof.Rows.SetOf_congr hS2 (fun k' => by rw [hstep, dd_snoc, dd_any]) (by rw [hstep, dd_snoc, dd_len])
    refine wpAny_pure ⟨plainId_quiet PyProof.Rows.F.plain_set_update_loop _, ih (i + 1) _ (by omega) hlt (W.frame _ s' _ _ hst' (Nat.le_succ _) fun b hb o e => ?_) hSi fun s'' hm'' hS'' => ?_⟩
    · rw [hsb.2 b (fun h : b = S => hSf (by rw [← h]; exact hb))]; exact e
    · refine hR s'' (Moved.trans W.gtrans ((hm.mono hsub).then_heap (Nat.le_succ _) fun b o hb e => ?_) hm'') hS''
      rw [hsb.2 b (fun h : b = S => hb (by rw [h]; exact List.mem_cons_self))]; exact e
end

theorem str_not_set : isSubtype (.type "str") (.type "set") = pure false := by rw [isSubtype_type]; kernel_rfl
theorem str_not_frozenset : isSubtype (.type "str") (.type "frozenset") = pure false := by rw [isSubtype_type]; kernel_rfl
def signs (x : Str) : List Str := x.cps.toList.map fun c => (⟨#[c]⟩ : Str)
theorem signs_len (x : Str) : (signs x).length = x.cps.size := by simp [signs]
theorem signs_at {x : Str} {i : Nat} {c : Nat} (h : x.cps[i]? = some c) : (signs x)[i]? = some ⟨#[c]⟩ := by
  unfold signs
  rw [List.getElem?_map, Array.getElem?_toList, h]
  rfl
section
variable {prog : Program} {w : World} {A : Around} {E : Value → Shared → Prop} {s : Shared}
/-- set(x), x any thing that is walked as texts -/
theorem call_set_gen {v : Value} {vals : List Str} {Q : Value → Shared → Prop} (hh : A.handled = none) (hb : vals.length + 1 < scanBound)
    (hinit : ∀ (led : Bool) (R : Result → Shared → Prop), 
      (∀ s', (∀ b o, b < s.heap.objs.size → s.heap.get? b = some o → s'.heap.get? b = some o) → s'.gens = s.gens → s'.drawn = s.drawn → s'.os = s.os →
        s'.heap.SetOf (PySem.strKind prog w) s.heap.objs.size (fun k' => (dd vals).any (· == k')) (dd vals).length → R (.ok (.ret .none)) s') →
      (∀ e s', R (.error e) s' = E e s') →
      wpAny (model prog w) A.in1.in1 (Builtin.«set.__init__» ⟨[.ref s.heap.objs.size, v], []⟩) (fun fin s' => match fin with
        | .done f => R (.ok f) s' | .again c' => c'.quiet = true ∧ codeAny (model prog w) A.in1 c' R s') (fun e s' => R (.error e) s') 
        { s with heap := s.heap.push { cls := .type "set", dict := none, data := .set #[] 0 (.fresh 0 0 led) } })
    (h : ∀ (h' : Heap) (tk : Nat), h'.SetOf (PySem.strKind prog w) s.heap.objs.size (fun k' => (dd vals).any (· == k')) (dd vals).length →
      (∀ b o, b < s.heap.objs.size → s.heap.get? b = some o → h'.get? b = some o) → Q (.ref s.heap.objs.size) { s with heap := h', toks := tk }) :
    wpAny (model prog w) A (call (.type "set") [v]) Q E s := by
  obtain ⟨c, tl, hmro⟩ := PySem.F.called_set.mro
  have hmade := PySem.F.called_set.made
  have hsub := PySem.F.called_set.sub
  refine wpAny_call (codeAny_of_tree ?_)
  show wpAny _ _ (callAny (.type "set") _) _ _ _
  refine wpAny_pure ⟨Code.quiet_builtin _ (by decide +kernel), codeAny_builtin PySem.F.entry_type_call ?_⟩
  rw [Around.under_plain (weight_type_call_type "set" [v] []) rfl]
  have h1 := PySem.F.called_set.notType
  have h2 := PySem.F.called_set.canCreate
  have hct := PySem.F.typeCall_set_1 v
  repeat (any_goals (first | assumption | wp_step))

  refine codeAny_mono (code_set_new_1 v (E := E) (Q₁ := fun obj s₁ => ∃ led : Bool, obj = .ref s.heap.objs.size ∧ s₁ = { s with heap := s.heap.push { cls := .type "set", dict := none, data := .set #[] 0 (.fresh 0 0 led) } }) fun led => ⟨led, rfl, rfl⟩) fun r s₁ hr => ?_
  cases r with
  | error e => exact hr
  | ok fl =>
    cases fl with
    | ret obj =>
      obtain ⟨led, rfl, rfl⟩ := hr
      have hS : (s.heap.push { cls := .type "set", dict := none, data := .set #[] 0 (.fresh 0 0 led) }).get? s.heap.objs.size = some { cls := .type "set", dict := none, data := .set #[] 0 (.fresh 0 0 led) } := Heap.get?_push_size _ rfl
      have hT : Shared.TypeIs { s with heap := s.heap.push { cls := .type "set", dict := none, data := .set #[] 0 (.fresh 0 0 led) } } (.ref s.heap.objs.size) "set" := ⟨_, hS, rfl⟩
      have hli := PySem.F.called_set.init.lookup
      have hbi := PySem.F.called_set.init.bind (.ref s.heap.objs.size)
      repeat (any_goals (first | assumption | wp_step))

      refine codeAny_mono (codeAny_call_builtin (R := wants (fun r s₂ => r = .none ∧ (∀ b o, b < s.heap.objs.size → s.heap.get? b = some o → s₂.heap.get? b = some o) ∧ s₂.gens = s.gens ∧ s₂.drawn = s.drawn ∧ s₂.os = s.os ∧
          s₂.heap.SetOf (PySem.strKind prog w) s.heap.objs.size (fun k' => (dd vals).any (· == k')) (dd vals).length) E) PySem.F.called_set.init.plain PySem.F.entry_set_init (check_set_init_1 hT ?_)) fun r₂ s₂ hr₂ => ?_
      · exact hinit led _ (fun s' k g d o S => ⟨rfl, k, g, d, o, S⟩) fun _ _ => rfl
      · cases r₂ with
        | error e => exact hr₂
        | ok fl₂ =>
          cases fl₂ with
          | ret r =>
            obtain ⟨rfl, hk', g1, d1, o1, hS'⟩ := hr₂
            obtain ⟨h', g', d', tk', os'⟩ := s₂
            have eg : g' = s.gens := g1
            have ed : d' = s.drawn := d1
            have eo : os' = s.os := o1
            subst eg; subst ed; subst eo
            repeat (any_goals (first | assumption | wp_step))
            exact h _ _ hS' hk'
          | _ => exact hr₂.elim
    | _ => exact hr.elim
theorem call_set_text {x : Str} {u : Tok} {Q : Value → Shared → Prop} (hh : A.handled = none) (hb : x.cps.size + 1 < scanBound)
    (h : ∀ (h' : Heap) (tk : Nat), h'.SetOf (PySem.strKind prog w) s.heap.objs.size (fun k' => (dd (signs x)).any (· == k')) (dd (signs x)).length →
      (∀ b o, b < s.heap.objs.size → s.heap.get? b = some o → h'.get? b = some o) → Q (.ref s.heap.objs.size) { s with heap := h', toks := tk }) :
    wpAny (model prog w) A (call (.type "set") [.str x u]) Q E s := by
  refine call_set_gen hh (by rw [signs_len]; exact hb) (fun led R hR he => ?_) h
  have hsls := str_not_set
  have hslf := str_not_frozenset
  have hne : (Value.type "str" == Value.type "dict") = false := by decide
  have hS : (s.heap.push { cls := .type "set", dict := none, data := .set #[] 0 (.fresh 0 0 led) }).get? s.heap.objs.size = some { cls := .type "set", dict := none, data := .set #[] 0 (.fresh 0 0 led) } := Heap.get?_push_size _ rfl
  unfold Builtin.«set.__init__» noKeywords Builtin.Frozenset.updateFrom
  generalize hPI : pyIter = PI
  wp_walk
  subst hPI
  have hget : ∀ T : String, ((s.heap.push { cls := .type "set", dict := none, data := .set #[] 0 (.fresh 0 0 led) }).push { cls := .type T, data := .fields #[.str x u, .int 0 0] }).get? s.heap.objs.size
      = some { cls := .type "set", dict := none, data := .set #[] 0 (.fresh 0 0 led) } := fun T => Heap.get?_push_of_some _ hS
  have hsz1 : (s.heap.push { cls := .type "set", dict := none, data := .set #[] 0 (.fresh 0 0 led) }).objs.size = s.heap.objs.size + 1 := Heap.size_push _ _
  have hh3 : A.in1.in1.in1.handled = none := by simp [hh]
  have hSf : s.heap.objs.size ∉ [(s.heap.push { cls := .type "set", dict := none, data := .set #[] 0 (.fresh 0 0 led) }).objs.size] := by
    rw [hsz1]; simp
  have hval : ∀ (i : Nat) (v : Value), SignAt x i v → ∃ k t, (signs x)[i]? = some k ∧ v = .str k t := fun i v ⟨c, u, h1, h2⟩ => ⟨_, u, signs_at h1, h2⟩
  have fin : ∀ (T : String) (s' : Shared), Moved [s.heap.objs.size, (s.heap.push { cls := .type "set", dict := none, data := .set #[] 0 (.fresh 0 0 led) }).objs.size] (fun a b => b = a) { s with heap := (s.heap.push { cls := .type "set", dict := none, data := .set #[] 0 (.fresh 0 0 led) }).push { cls := .type T, data := .fields #[.str x u, .int 0 0] } } s' →
      s'.heap.SetOf (PySem.strKind prog w) s.heap.objs.size (fun k' => (dd (signs x)).any (· == k')) (dd (signs x)).length →
      wpAny (model prog w) A.in1.in1 (pure ()) (fun a s' => wpAny (model prog w) A.in1.in1 ((fun _ => ret Value.none) a) (fun fin s' => match fin with
              | Fin.done f => R (Except.ok f) s'
              | Fin.again c' => c'.quiet = true ∧ codeAny (model prog w) A.in1 c' R s') (fun e s' => R (Except.error e) s') s') (fun e s' => R (Except.error e) s') s' := fun T s' hm hS' => by
    refine wpAny_pure ?_
    show wpAny _ _ (ret Value.none) _ _ _
    refine wpAny_pure (hR s' (fun b o hb e => ?_) hm.gens hm.drawn hm.os hS')
    have hb1 : b ≠ s.heap.objs.size := Nat.ne_of_lt hb
    have hb2 : b ≠ (s.heap.push { cls := .type "set", dict := none, data := .set #[] 0 (.fresh 0 0 led) }).objs.size := by rw [hsz1]; exact Nat.ne_of_lt (Nat.lt_succ_of_lt hb)
    exact hm.heap b o (by simp only [List.mem_cons, List.not_mem_nil, or_false, not_or]; exact ⟨hb1, hb2⟩) (Heap.get?_push_of_some _ (Heap.get?_push_of_some _ e))
  have hS0 : ∀ T : String, ((s.heap.push { cls := .type "set", dict := none, data := .set #[] 0 (.fresh 0 0 led) }).push { cls := .type T, data := .fields #[.str x u, .int 0 0] }).SetOf (PySem.strKind prog w) s.heap.objs.size (fun k' => (dd ((signs x).take 0)).any (· == k')) (dd ((signs x).take 0)).length := fun T =>
    PyProof.Rows.SetOf_congr ((PyProof.Rows.setObjOf_fresh (knd := PySem.strKind prog w) led).setOf (hget T) (by unfold scanBound; omega)) (fun _ => rfl) rfl
  refine wpAny_pyIter_strU ?_
  refine wpAny_bind (wpAny_runValue ?_)
  cases ha : x.cps.all (· < 128)
  · have e : strIterType x = "str_iterator" := by simp [strIterType, ha]
    rw [e]
    exact set_loop ((Walks.strWide hh3 _ x u).toS) s.heap.objs.size hSf (signs x) hval (signs_len x) hb (x.cps.size - 0) 0 _ (by omega) (Nat.zero_le _) ⟨_, Heap.get?_push_size _ rfl, rfl, rfl⟩ (hS0 _) (fun s' hm hS' => fin "str_iterator" s' hm hS')
  · have e : strIterType x = "str_ascii_iterator" := by simp [strIterType, ha]
    rw [e]
    exact set_loop ((Walks.strAscii hh3 _ x u).toS) s.heap.objs.size hSf (signs x) hval (signs_len x) hb (x.cps.size - 0) 0 _ (by omega) (Nat.zero_le _) ⟨_, Heap.get?_push_size _ rfl, rfl, rfl⟩ (hS0 _) (fun s' hm hS' => fin "str_ascii_iterator" s' hm hS')
theorem strs_at2 : ∀ {us : List Value} {xs : List Str}, L2.Vals (xs.map L2.V.str) us → ∀ (i : Nat) (v : Value), us[i]? = some v → ∃ k t, xs[i]? = some k ∧ v = .str k t := fun {us xs} r i v hv => by
  have hl := r.length
  have hi : i < us.length := (List.getElem?_eq_some_iff.mp hv).1
  have hx : i < xs.length := by rw [List.length_map] at hl; omega
  obtain ⟨u, hu, t, e⟩ := r.get (i := i) (x := L2.V.str xs[i]) (by rw [List.getElem?_map, List.getElem?_eq_getElem hx] <;> rfl)
  rw [hv] at hu
  cases hu
  exact ⟨xs[i], t, List.getElem?_eq_getElem hx, e⟩
theorem call_set_listT {l : Addr} {items : Array Value} {xs : List Str} {Q : Value → Shared → Prop} (hh : A.handled = none) (hl : s.heap.IsList l items) (hi : L2.Vals (xs.map L2.V.str) items.toList) (hb : xs.length + 1 < scanBound)
    (h : ∀ (h' : Heap) (tk : Nat), h'.SetOf (PySem.strKind prog w) s.heap.objs.size (fun k' => (dd xs).any (· == k')) (dd xs).length →
      (∀ b o, b < s.heap.objs.size → s.heap.get? b = some o → h'.get? b = some o) → Q (.ref s.heap.objs.size) { s with heap := h', toks := tk }) :
    wpAny (model prog w) A (call (.type "set") [.ref l]) Q E s := by
  refine call_set_gen hh hb (fun led R hR he => ?_) h
  obtain ⟨ol, hol, hcl, nl, hdl⟩ := hl
  obtain ⟨ocls, odict, odata, oslots⟩ := ol
  simp only at hcl hdl
  subst hcl; subst hdl
  have hol' : (s.heap.push { cls := .type "set", dict := none, data := .set #[] 0 (.fresh 0 0 led) }).get? l = some { cls := .type "list", dict := odict, data := .seq items nl, slots := oslots } := Heap.get?_push_of_some _ hol
  have hsls := PySem.F.sub_list_set
  have hslf := PySem.F.sub_list_frozenset
  have hne : (Value.type "list" == Value.type "dict") = false := by decide
  have hl1 : (s.heap.push { cls := .type "set", dict := none, data := .set #[] 0 (.fresh 0 0 led) }).IsList l items := ⟨_, hol', rfl, nl, rfl⟩
  have hS : (s.heap.push { cls := .type "set", dict := none, data := .set #[] 0 (.fresh 0 0 led) }).get? s.heap.objs.size = some { cls := .type "set", dict := none, data := .set #[] 0 (.fresh 0 0 led) } := Heap.get?_push_size _ rfl
  unfold Builtin.«set.__init__» noKeywords Builtin.Frozenset.updateFrom
  generalize hPI : pyIter = PI
  wp_walk
  subst hPI
  refine wpAny_pyIter_list hl1 ?_
  refine wpAny_bind (wpAny_runValue ?_)
  have hlS : l < s.heap.objs.size := Heap.lt_size hol
  have hh3 : A.in1.in1.in1.handled = none := by simp [hh]
  have hsz1 : (s.heap.push { cls := .type "set", dict := none, data := .set #[] 0 (.fresh 0 0 led) }).objs.size = s.heap.objs.size + 1 := Heap.size_push _ _
  have hneI : l ≠ (s.heap.push { cls := .type "set", dict := none, data := .set #[] 0 (.fresh 0 0 led) }).objs.size := by
    rw [hsz1]; exact Nat.ne_of_lt (Nat.lt_succ_of_lt hlS)
  have hSf : s.heap.objs.size ∉ [(s.heap.push { cls := .type "set", dict := none, data := .set #[] 0 (.fresh 0 0 led) }).objs.size, l] := by
    rw [hsz1]; simp only [List.mem_cons, List.not_mem_nil, or_false, not_or]
    exact ⟨Nat.ne_of_lt (Nat.lt_succ_self _), Nat.ne_of_gt hlS⟩
  have hsz : xs.length = items.size := by have := hi.length; rw [List.length_map] at this; simpa using this
  have hget : ((s.heap.push { cls := .type "set", dict := none, data := .set #[] 0 (.fresh 0 0 led) }).push { cls := .type "list_iterator", data := .fields #[.ref l, .int 0 0] }).get? s.heap.objs.size
      = some { cls := .type "set", dict := none, data := .set #[] 0 (.fresh 0 0 led) } := Heap.get?_push_of_some _ hS
  refine set_loop ((Walks.list hh3 _ l hneI items).toS) s.heap.objs.size hSf xs (fun i v hv => strs_at2 hi i v (by rw [Array.getElem?_toList]; exact hv)) hsz (by rw [← hsz]; exact hb) (items.size - 0) 0 _ (by omega) (Nat.zero_le _)
    ⟨⟨_, Heap.get?_push_size _ rfl, rfl, rfl⟩, (hl1.push _)⟩ ?hS0 ?hR
  case hS0 => exact PyProof.Rows.SetOf_congr ((PyProof.Rows.setObjOf_fresh (knd := PySem.strKind prog w) led).setOf hget (by unfold scanBound; omega)) (fun _ => rfl) rfl
  case hR =>
    intro s' hm hS'
    refine wpAny_pure ?_
    show wpAny _ _ (ret Value.none) _ _ _
    refine wpAny_pure (hR s' (fun b o hb e => ?_) hm.gens hm.drawn hm.os hS')
    have hb1 : b ≠ s.heap.objs.size := Nat.ne_of_lt hb
    have hb2 : b ≠ (s.heap.push { cls := .type "set", dict := none, data := .set #[] 0 (.fresh 0 0 led) }).objs.size := by rw [hsz1]; exact Nat.ne_of_lt (Nat.lt_succ_of_lt hb)
    exact hm.heap b o (by simp only [List.mem_cons, List.not_mem_nil, or_false, not_or]; exact ⟨hb1, hb2⟩) (Heap.get?_push_of_some _ (Heap.get?_push_of_some _ e))
end
section
open L2
variable {X : Cx}
/-- len(set(e)), e a text, or a list of texts -/
def tLenSetT (K : PySem.W.Frag) (ta : TE) : TE := fun σ H Q => ta σ H fun x H1 => (∃ z, x = .str z ∧ z.cps.size ≤ 4000 ∧ Q (.int (dd (signs z)).length) H1) ∨
  (∃ (l : Addr) (xs : List Str), x = .ref l ∧ SqL K H1 l (xs.map V.str) ∧ xs.length ≤ 4000 ∧ Q (.int (dd xs).length) H1)
theorem pe_lenSetT {a : Expr} {ta : TE} {p p2 q pos : Pos} (hc : X.calm = true) (hg : Gl X "len") (hm : X.mg "len" = none) (hg2 : Gl X "set") (hm2 : X.mg "set" = none) (ha : PE X a ta)
    (na : starEach [a] X.env = (false, eval a X.env) :: starEach [] X.env := by rfl) : PE X (.Call (.Name "len" p) [.Call (.Name "set" p2) [a] [] q] [] pos) (tLenSetT X.K ta) := by
  refine ⟨fun pins s σ H Q I h => ?_⟩
  refine Call_ (ld_blt I hg hm boot_len ?_)
  refine PyProof.Rows.callWith_builtin1 (PyProof.Rows.args_cons ?_ rfl) rfl rfl
  refine Call_ (ld_blt I hg2 hm2 boot_set ?_)
  refine PyProof.Rows.callWith_type1 (PyProof.Rows.args_cons (thn (ha.run pins s σ H _ I h) fun v s1 ⟨x, H1, I1, r1, q1⟩ => PyProof.Rows.args_nil ?_) na) na rfl
  have fin : ∀ (vals : List Str), vals.length ≤ 4000 → Q (.int (dd vals).length) H1 → ∀ (h' : Heap) (tk : Nat), h'.SetOf (PySem.strKind X.prog X.w) s1.heap.objs.size (fun k' => (dd vals).any (· == k')) (dd vals).length →
      (∀ b o, b < s1.heap.objs.size → s1.heap.get? b = some o → h'.get? b = some o) →
      wpAny (model X.prog X.w) X.A (spliced (backTo pos (starEach [] X.env))) (fun vs s₂ => wpAny (model X.prog X.w) X.A (call (.builtin "len") (Value.ref s1.heap.objs.size :: vs)) (EP X pins σ Q) X.xe s₂) X.xe { s1 with heap := h', toks := tk } := fun vals hv q h' tk hS hk => by
    refine PyProof.Rows.args_nil ?_
    have hl := dd_len_le vals
    obtain ⟨o, es, ep, t, ho, hex, hd, _, _, _, hf, hn⟩ := hS
    have I2 : Inv X pins σ H1 { s1 with heap := h', toks := tk } := I1.kept fun b o e => hk b o (Heap.lt_size e) e
    refine call_len_set ho hex hd hf (by rw [hn] <;> omega) ⟨.int (dd vals).length, H1, I2.tok _, ⟨_, by rw [hn]⟩, q⟩
  rcases q1 with ⟨z, rfl, hz, q1⟩ | ⟨l, xs, rfl, hq, hz, q1⟩
  · obtain ⟨t, rfl⟩ := r1
    exact call_set_text (I1.ok.hd hc) (by unfold scanBound; omega) fun h' tk hS hk => fin _ (by rw [signs_len]; exact hz) q1 h' tk hS hk
  · cases r1
    obtain ⟨its, r, pl, _⟩ := I1.list hq
    exact call_set_listT (I1.ok.hd hc) pl.isList (by simpa using r) (by unfold scanBound; omega) fun h' tk hS hk => fin _ hz q1 h' tk hS hk
end
end LB

namespace LB
open PySem L2 PyProof.Rows
section
variable {X : Cx}
/-- list(x), x a text -/
theorem call_list_text (hc : X.calm = true) : CallR X (.type "list") (fun xs H Q => ∃ z : Str, xs = [.str z] ∧ z.cps.size ≤ sizeLine ∧ ∀ p, H p = none → Q (.ref p) (upd H p (.lst ((signs z).map V.str)))) := by
  intro pins s σ H xs us Q I rx hq
  obtain ⟨z, rfl, hz, q⟩ := hq
  obtain ⟨u, rfl, t, rfl⟩ := vals1 rx
  refine call_list_str (I.ok.hd hc) z t (fun h' tk acc' c' hk hS hacc => ?_) hz
  obtain ⟨hsz, hat⟩ := hacc
  have gen : ∀ (cs : List Nat) (us : List Value), cs.length = us.length → (∀ (i : Nat) (c : Nat) (u : Value), cs[i]? = some c → us[i]? = some u → ∃ t, u = Value.str ⟨#[c]⟩ t) → Vals ((cs.map fun c => (⟨#[c]⟩ : Str)).map V.str) us := by
    intro cs
    induction cs with
    | nil => intro us hl _; cases us with
      | nil => exact .nil
      | cons _ _ => simp at hl
    | cons c r ih => intro us hl h; cases us with
      | nil => simp at hl
      | cons u us =>
        refine .cons ?_ (ih us (by simpa using hl) fun i c' u' h1 h2 => h (i + 1) c' u' (by simpa using h1) (by simpa using h2))
        obtain ⟨t, e⟩ := h 0 c u rfl rfl
        exact ⟨t, e⟩
  have rv : Vals ((signs z).map V.str) acc'.toList := gen z.cps.toList acc'.toList (by simp [hsz]) fun i c u h1 h2 => by
    obtain ⟨c', u', h3, h4⟩ := hat i u (by rw [← Array.getElem?_toList]; exact h2)
    rw [← Array.getElem?_toList, h1] at h3
    cases h3
    exact ⟨u', h4⟩
  have new : ObjOk X.prog X.w (upd H s.heap.objs.size (.lst ((signs z).map V.str))) h' s.heap.objs.size (.lst ((signs z).map V.str)) :=
    ⟨by rw [List.length_map, signs_len]; exact hz, acc'.toList, c', rv, by rw [hS]⟩
  exact ⟨.ref s.heap.objs.size, _, I.laid (t' := tk) hk (Nat.le_refl _) new, rfl, q _ (I.hok.fresh (Nat.le_refl _))⟩
/-! ### enumerate(text) -/
/-- the i-th sign of x, in a new pair -/
def IteS (x : Str) : It :=
  ⟨fun i _ => i < x.cps.size, fun i H v H' => ∃ T c, v = .ref T ∧ H T = none ∧ x.cps[i]? = some c ∧ H' = upd H T (.tup [.int (i : Nat), .str ⟨#[c]⟩]), fun i _ => x.cps.size ≤ i⟩
theorem draws_of {prog : Program} {w : World} {A : Around} (hh : A.handled = none) (it : Addr) (x : Str) (t : Tok) {ty : String} (hty : ty = "str_ascii_iterator" ∨ ty = "str_iterator") :
    Draws prog w A it [it] x.cps.size (SignAt x) (fun i h => h.IsStrIter it ty x t i) := by
  rcases hty with e | e
  · rw [e]; exact Draws.strAscii hh it x t
  · rw [e]; exact Draws.strWide hh it x t
theorem turn_enumS {P : Program} {w : World} {K : PySem.W.Frag} {elts : List Expr} {kk : Nat} {tpos : Pos} (x : Str) (t : Tok) (e it : Addr) {ty : String} (hty : ty = "str_ascii_iterator" ∨ ty = "str_iterator") :
    Turn P w K (.Tuple elts kk tpos) (IteS x) [e, it] e (fun i h => (∃ old, IsEnum h e it ((i : Nat) : Int) old) ∧ (i ≤ x.cps.size ∧ h.IsStrIter it ty x t i) ∧ e ≠ it) where
  mem := by simp
  obj := fun i h st b hb => by
    obtain ⟨⟨old, he⟩, ⟨_, o, ho, hc, hd⟩, _⟩ := st
    have e' : b = e ∨ b = it := by simpa using hb
    rcases e' with z | z
    · rw [z]; exact ⟨_, he, fun v q => nomatch q⟩
    · rw [z]; exact ⟨o, ho, fun v q => by rw [hd] at q; cases q⟩
  keep := fun i h h' st k => let ⟨⟨old, he⟩, ⟨hle, o, ho, r⟩, hne⟩ := st; ⟨⟨old, k e (by simp) _ he⟩, ⟨hle, o, k it (by simp) o ho, r⟩, hne⟩
  item := by
    intro X hP hw hK hc i pins s σ H E I hf st hg
    subst hP hw hK
    obtain ⟨⟨old, he⟩, ⟨_, hit⟩, hne⟩ := st
    have hlt : i < x.cps.size := hg
    have hel : e < s.heap.objs.size := Heap.lt_size he
    have hil : it < s.heap.objs.size := by obtain ⟨_, q, _⟩ := hit; exact Heap.lt_size q
    refine wpAny_pyNext_enum_itemD (draws_of (by simpa using I.ok.hd hc) it x t hty) he hit hlt hne (by simpa using hne) fun y h' tk hy ho hit' hT hsz hk => ?_
    obtain ⟨c, u, hcx, rfl⟩ := hy
    refine ⟨_, rfl, wpAny_letOwnedTupleGo_enum (s := { s with heap := h', toks := tk + 1 }) ho fun h'' he' sb => ?_⟩
    have hT2 : h''.get? s.heap.objs.size = some { cls := .type "tuple", data := .seq #[.int i tk, .str ⟨#[c]⟩ u] } := (sb.2 _ (Nat.ne_of_gt hel)).trans hT
    have new : ObjOk X.prog X.w (upd H s.heap.objs.size (.tup [.int (i : Nat), .str ⟨#[c]⟩])) h'' s.heap.objs.size (.tup [.int (i : Nat), .str ⟨#[c]⟩]) :=
      ⟨by show 2 ≤ sizeLine; decide, [.int i tk, .str ⟨#[c]⟩ u], .cons ⟨_, rfl⟩ (.cons ⟨_, rfl⟩ .nil), ⟨_, hT2, rfl, _, rfl⟩⟩
    have I1 : Inv X pins σ (upd H s.heap.objs.size (.tup [.int (i : Nat), .str ⟨#[c]⟩])) { s with heap := h'', toks := tk + 1 } :=
      I.turnedNew (ch := [e, it]) (fun b ob hb q => (sb.2 b (fun z => hb (by simp [z]))).trans (hk b ob (fun z => hb (by simp [z])) (fun z => hb (by simp [z])) q)) hf (Nat.le_refl _) new
    obtain ⟨oi, hoi, ri⟩ := hit'
    refine ⟨.ref s.heap.objs.size, _, I1, rfl, ⟨_, c, rfl, I.hok.fresh (Nat.le_refl _), hcx, rfl⟩, ⟨⟨Value.str ⟨#[c]⟩ u, ?_⟩, ⟨hlt, oi, (sb.2 it (Ne.symm hne)).trans hoi, ri⟩, hne⟩, fun b hb => ?_⟩
    · have e1 : ((i + 1 : Nat) : Int) = (i : Int) + 1 := by omega
      rw [e1]; exact he'
    · have hb' : b < s.heap.objs.size := by
        have e' : b = e ∨ b = it := by simpa using hb
        rcases e' with z | z
        · rw [z]; exact hel
        · rw [z]; exact hil
      rw [upd_ne (Nat.ne_of_lt hb')]
      exact (hf b hb).1
  done := by
    intro X hP hw hK hc i pins s σ H E I hf st hg
    subst hP hw hK
    obtain ⟨⟨old, he⟩, ⟨hle, hit⟩, hne⟩ := st
    have e1 : i = x.cps.size := Nat.le_antisymm hle hg
    subst e1
    obtain ⟨f0, f1, f2, f3, f4, f5⟩ := hf it (by simp)
    exact wpAny_pyNext_enum_endD (draws_of (by simpa using I.ok.hd hc) it x t hty) he hit fun h' eb => ⟨rfl, I.turned (t' := s.toks) (fun b o hb q => eb b o hb q) f0 f1 f3 f4 f5⟩
  self := fun A i s Q E st h => let ⟨⟨_, he⟩, _⟩ := st; wpAny_pyIter_enum he h
def iEnumS (ta : TA) : TI := fun σ H R => ta σ H fun vs H1 => ∃ x, vs = [.str x] ∧ R (IteS x) H1
theorem pi_enumS {X : Cx} {e : Expr} {ta : TA} {p pos tpos : Pos} {elts : List Expr} {kk : Nat} (hg : Gl X "enumerate") (hm : X.mg "enumerate" = none) (ha : PA X [e] ta) (hs : starEach [e] X.env = [(false, eval e X.env)] := by rfl) :
    PI X (.Tuple elts kk tpos) (.Call (.Name "enumerate" p) [e] [] pos) (iEnumS ta) := by
  refine ⟨fun pins s σ H R I h => ?_⟩
  refine Call_ (ld_blt I hg hm boot_enumerate (PyProof.Rows.callWith_type1 (thn (ha.run pos pins s σ H _ I h) fun us s1 ⟨vs, H1, I1, r1, q1⟩ => ?_) hs rfl))
  obtain ⟨x, ex, q⟩ := q1
  subst ex
  cases r1 with
  | cons r rr =>
    cases rr
    obtain ⟨t, rfl⟩ := r
    refine call_enumerate_str fun h' he hit hsz hk => wpAny_pyIter_enum he ?_
    have I2 : Inv X pins σ H1 { s1 with heap := h' } := I1.kept (t' := s1.toks) hk
    have hty : strIterType x = "str_ascii_iterator" ∨ strIterType x = "str_iterator" := by
      unfold strIterType
      split
      · exact .inl rfl
      · exact .inr rfl
    refine ⟨s1.heap.objs.size + 1, [s1.heap.objs.size + 1, s1.heap.objs.size], _, _, H1, rfl, I2, turn_enumS x t (s1.heap.objs.size + 1) s1.heap.objs.size hty, ⟨⟨.none, he⟩, ⟨Nat.zero_le _, hit⟩, Nat.succ_ne_self _⟩, fun b hb => ?_, q⟩
    have e' : b = s1.heap.objs.size + 1 ∨ b = s1.heap.objs.size := by simpa using hb
    have hle : s1.heap.objs.size ≤ b := by
      rcases e' with z | z
      · rw [z]; exact Nat.le_add_right _ _
      · rw [z]; exact Nat.le_refl _
    exact I1.fpOk hle (I1.hok.fresh hle)
/-- the reading of a comprehension over enumerate(text) -/
theorem lc_enumS {x : Str} {g : TG} {tt : TT} {te : TE} {vs : List Nat} {σ : L2.St} {H1 : Hp} {D : Addr} {Qd : Hp → Prop} (Pv : Nat → Hp → Prop) (h0 : Pv 0 (upd H1 D (.lst [])))
    (hs : ∀ i c T H, x.cps[i]? = some c → Pv i H → H T = none → g (.ref T) (wipe σ vs) (upd H T (.tup [.int (i : Nat), .str ⟨#[c]⟩])) fun σ2 H2 => wipe σ2 vs = wipe σ vs ∧ tt σ2 H2 fun b H3 =>
      if b = true then te σ2 H3 fun y H4 => ∃ acc, H4 D = some (.lst acc) ∧ acc.length < sizeLine ∧ Pv (i + 1) (upd H4 D (.lst (acc ++ [y]))) else Pv (i + 1) H3) (hd : ∀ H, Pv x.cps.size H → Qd H) :
    ∃ W : Nat → Nat → Hp → Prop, (∃ m, W 0 m (upd H1 D (.lst []))) ∧ ∀ i m H, W i m H →
      ((IteS x).stop i H ∧ Qd H) ∨ ((IteS x).go i H ∧ ∃ Nx : Hp → Prop, (∀ H', Nx H' → ∃ m', m' < m ∧ W (i + 1) m' H') ∧ ∀ y H', (IteS x).yld i H y H' → g y (wipe σ vs) H' fun σ2 H2 => wipe σ2 vs = wipe σ vs ∧ tt σ2 H2 fun b H3 =>
        if b = true then te σ2 H3 fun y H4 => ∃ acc, H4 D = some (.lst acc) ∧ acc.length < sizeLine ∧ Nx (upd H4 D (.lst (acc ++ [y]))) else Nx H3) := by
  refine ⟨fun i m H => m = x.cps.size - i ∧ i ≤ x.cps.size ∧ Pv i H, ⟨x.cps.size, by simp, Nat.zero_le _, h0⟩, ?_⟩
  rintro i m H ⟨rfl, hi, p⟩
  by_cases hlt : i < x.cps.size
  · refine .inr ⟨hlt, Pv (i + 1), fun H' p' => ⟨x.cps.size - (i + 1), by omega, rfl, hlt, p'⟩, fun y H' yl => ?_⟩
    obtain ⟨T, c, e, hT, hc, eH⟩ := yl
    subst e; subst eH
    exact hs i c T H hc p hT
  · have e : i = x.cps.size := by omega
    subst e
    exact .inl ⟨Nat.le_refl _, hd H p⟩
/-- the reading of a comprehension over a text's signs -/
theorem lc_str {x : Str} {g : TG} {tt : TT} {te : TE} {vs : List Nat} {σ : L2.St} {H1 : Hp} {D : Addr} {Qd : Hp → Prop} (Pv : Nat → Hp → Prop) (h0 : Pv 0 (upd H1 D (.lst [])))
    (hs : ∀ i c H, x.cps[i]? = some c → Pv i H → g (.str ⟨#[c]⟩) (wipe σ vs) H fun σ2 H2 => wipe σ2 vs = wipe σ vs ∧ tt σ2 H2 fun b H3 =>
      if b = true then te σ2 H3 fun y H4 => ∃ acc, H4 D = some (.lst acc) ∧ acc.length < sizeLine ∧ Pv (i + 1) (upd H4 D (.lst (acc ++ [y]))) else Pv (i + 1) H3) (hd : ∀ H, Pv x.cps.size H → Qd H) :
    ∃ W : Nat → Nat → Hp → Prop, (∃ m, W 0 m (upd H1 D (.lst []))) ∧ ∀ i m H, W i m H →
      ((Its x).stop i H ∧ Qd H) ∨ ((Its x).go i H ∧ ∃ Nx : Hp → Prop, (∀ H', Nx H' → ∃ m', m' < m ∧ W (i + 1) m' H') ∧ ∀ y H', (Its x).yld i H y H' → g y (wipe σ vs) H' fun σ2 H2 => wipe σ2 vs = wipe σ vs ∧ tt σ2 H2 fun b H3 =>
        if b = true then te σ2 H3 fun y H4 => ∃ acc, H4 D = some (.lst acc) ∧ acc.length < sizeLine ∧ Nx (upd H4 D (.lst (acc ++ [y]))) else Nx H3) := by
  refine ⟨fun i m H => m = x.cps.size - i ∧ i ≤ x.cps.size ∧ Pv i H, ⟨x.cps.size, by simp, Nat.zero_le _, h0⟩, ?_⟩
  rintro i m H ⟨rfl, hi, p⟩
  by_cases hlt : i < x.cps.size
  · refine .inr ⟨hlt, Pv (i + 1), fun H' p' => ⟨x.cps.size - (i + 1), by omega, rfl, hlt, p'⟩, fun y H' yl => ?_⟩
    obtain ⟨eH, c, hc, e⟩ := yl
    subst e; subst eH
    exact hs i c _ hc p
  · have e : i = x.cps.size := by omega
    subst e
    exact .inl ⟨Nat.le_refl _, hd H p⟩
end
end LB

namespace LB
open PySem L2 PyProof.Rows
/-! ### defs as they stand, defs that keep a promise -/
/-- the def stands in the module under its name, and binds as many arguments as it has parameters -/
def RawFn (K : PySem.W.Frag) (mg : Str → Option Value) (x : Str) (st : Stmt) (ps : List Str) : Prop :=
  ∃ (f : Addr) (fd : FuncData), Fun K x x st f fd ∧ mg x = some (.ref f) ∧ Binds K fd ps []
/-- .. in the class at C -/
def RawMe (K : PySem.W.Frag) (C : Addr) (x qual : Str) (st : Stmt) (ps : List Str) : Prop :=
  ∃ (f : Addr) (fd : FuncData), Fun K x qual st f fd ∧ Own K C f x ∧ Binds K fd ps []
/-- .. as a property of the class at C -/
def RawPr (K : PySem.W.Frag) (C : Addr) (x qual : Str) (st : Stmt) (ps : List Str) : Prop :=
  ∃ (p f : Addr) (fd : FuncData), Fun K x qual st f fd ∧ PropOf K C x p f ∧ Binds K fd ps []
section
variable (P : Program) (w : World) (K : PySem.W.Frag) (mg : Str → Option Value) (base : Heap) (CX : CXT) (k : Nat)
def HasFn (x : Str) (ps : List Str) (sp : Sp) : Prop :=
  ∃ (f : Addr) (fd : FuncData), FnOk P w K mg base CX k f fd ps sp ∧ mg x = some (.ref f) ∧ PySem.W.keepIn K (.ref f) = true ∧ Binds K fd ps []
def HasMe (C : Addr) (x : Str) (ps : List Str) (sp : Sp) : Prop :=
  ∃ (f : Addr) (fd : FuncData), FnOk P w K mg base CX k f fd ps sp ∧ Own K C f x ∧ PySem.W.keepIn K (.ref f) = true ∧ Binds K fd ps []
def HasPr (C : Addr) (x : Str) (ps : List Str) (sp : Sp) : Prop :=
  ∃ (p f : Addr) (fd : FuncData), FnOk P w K mg base CX k f fd ps sp ∧ PropOf K C x p f ∧ Binds K fd ps []
/-- a class whose __init__ keeps a promise -/
def HasMk (C : Addr) (x : Str) (ps : List Str) (sp : Sp) : Prop :=
  ∃ (f : Addr) (fd : FuncData), FnOk P w K mg base CX k f fd ps sp ∧ Mk K C f ∧ mg x = some (.ref C) ∧ Binds K fd ps []
end
section
variable {X : Cx} {CX : CXT} {k : Nat} {C : Addr} {ps : List Str} {sp : Sp} {E : XK} {x m : Str} {p pos apos : Pos} {e o : Expr} {es : List Expr} {ta : TE} {t : TA}
theorem pe_fn (h : HasFn X.prog X.w X.K X.mg X.base CX k x ps sp) (hr : Room k X.A) (hx : Passes CX X E) (ha : PA X (e :: es) t) (hg : Gl X x := by rfl) (hdb : (x == ("__debug__" : Str)) = false := by decide)
    (he : starEach (e :: es) X.env = (false, eval e X.env) :: starEach es X.env := by rfl) (hpl : (backTo pos (starEach es X.env)).any (·.1) = false := by rfl) : PE X (.Call (.Name x p) (e :: es) [] pos) (tCall sp [] E t) := by
  obtain ⟨f, fd, F, hm, hk, hb⟩ := h
  exact pe_call F hr hg hm hk hb .nil hx ha hdb he hpl
theorem pe_mk (h : HasMk X.prog X.w X.K X.mg X.base CX k C x ps sp) (hr : Room (k + 1) X.A) (hx : Passes CX X E) (ha : PA X (e :: es) t) (hg : Gl X x := by rfl) (hdb : (x == ("__debug__" : Str)) = false := by decide)
    (he : starEach (e :: es) X.env = (false, eval e X.env) :: starEach es X.env := by rfl) (hpl : (backTo pos (starEach es X.env)).any (·.1) = false := by rfl) : PE X (.Call (.Name x p) (e :: es) [] pos) (tMake C sp [] E t) := by
  obtain ⟨f, fd, F, M, hm, hb⟩ := h
  exact pe_make M F hr hg hm hb .nil hx ha hdb he hpl
theorem pe_me {pl : Sem Bool} (he : PE X o ta) (h : HasMe X.prog X.w X.K X.mg X.base CX k C m ps sp) (c : Cls X.K C) (hr : Room k X.A) (hx : Passes CX X E) (ha : PA X (e :: es) t)
    (hst : starEach (e :: es) X.env = (false, eval e X.env) :: starEach es X.env := by rfl) (hpl : (backTo pos (starEach es X.env)).any (·.1) = false := by rfl)
    (ht : eval (.Call (.Attribute o m apos) (e :: es) [] pos) X.env = (do
      let ov ← eval o X.env
      standAt apos.atName
      let (f, first) ← holding [ov] (getMethod ov m pl)
      callWith pos f first (backTo pos (starEach (e :: es) X.env)) (backToKw pos (keywordEach [] X.env))) := by rfl) : PE X (.Call (.Attribute o m apos) (e :: es) [] pos) (tMeth C m sp [] E ta t) := by
  obtain ⟨f, fd, F, O, hk, hb⟩ := h
  exact pe_meth he c ⟨O.at_, O.fn, hk⟩ F hr hb .nil hx ha hst hpl ht
theorem pe_pr (he : PE X o ta) (h : HasPr X.prog X.w X.K X.mg X.base CX k C m ps sp) (c : Cls X.K C) (hr : Room (k + 1) X.A) (hx : Passes CX X.nox E) (hab : attributeBase o m X.env (eval o X.env) = eval o X.env) : PE X (.Attribute o m pos) (tProp C sp [] E ta) := by
  obtain ⟨p, f, fd, F, hp, hb⟩ := h
  exact L2.pe_prop he c hp F hr hb .nil hx hab
end
/-- the built-in names that the module does not have -/
structure Blt (mg : Str → Option Value) : Prop where
  n_len : mg "len" = none
  n_list : mg "list" = none
  n_tuple : mg "tuple" = none
  n_int : mg "int" = none
  n_str : mg "str" = none
  n_bool : mg "bool" = none
  n_abs : mg "abs" = none
  n_sum : mg "sum" = none
  n_all : mg "all" = none
  n_set : mg "set" = none
  n_range : mg "range" = none
  n_enumerate : mg "enumerate" = none
  n_isinstance : mg "isinstance" = none
end LB

namespace LB
open PySem L2 PyProof.Rows
/-! ### the drawing of a law -/
/-- the pen at p: its script's list at q, the turn, what is left of a great number -/
structure PenAt (H : Hp) (p q : Addr) (ns : List Int) (i r : Int) : Prop where
  pen : H p = some (.lst [.ref q, .int i, .int r])
  lst : H q = some (.lst (ns.map V.int))
  i0 : 0 ≤ i
  ne : p ≠ q
/-- all but the pen is as it was -/
def But (p : Addr) (H H' : Hp) : Prop := ∀ b o, H b = some o → b ≠ p → H' b = some o
theorem But.refl {p : Addr} {H : Hp} : But p H H := fun _ _ h _ => h
theorem But.trans {p : Addr} {H H1 H2 : Hp} (a : But p H H1) (b : But p H1 H2) : But p H H2 := fun c o h n => b c o (a c o h n) n
theorem But.of_same {p : Addr} {H H' : Hp} (s : Same H H') : But p H H' := fun b o h _ => s b o h
theorem But.upd {p : Addr} {o : HO} {H : Hp} : But p H (upd H p o) := fun b u h n => by rw [upd_ne n]; exact h
theorem But.new {p a : Addr} {o : HO} {H : Hp} (n : H a = none) : But p H (L2.upd H a o) := fun b u h _ => by rw [upd_ne (ne_of_none h n)]; exact h
theorem But.free {p : Addr} {H H' : Hp} (e : But p H H') {l : Addr} (h : H' l = none) (hl : l ≠ p) : H l = none := by
  cases q : H l with
  | none => rfl
  | some o =>
    rw [e l o q hl] at h
    cases h
def spPen (K : PySem.W.Frag) : Sp := fun vs H Q _ => ∃ (a : Addr) (ns : List Int), vs = [.ref a] ∧ SqL K H a (ns.map V.int) ∧
  ∀ (p q : Addr) (ms : List Int) (H' : Hp), Same H H' → H p = none → PenAt H' p q ms 0 0 → Q (.ref p) H'
def spDraw : Sp := fun vs H Q _ => ∃ (p q : Addr) (ns : List Int) (i r n : Int), vs = [.ref p, .int n] ∧ PenAt H p q ns i r ∧ 0 < n ∧ n < 1000000 ∧ i < 1000000 ∧
  ∀ (d i' r' : Int) (H' : Hp), 0 ≤ d → d < n → i' ≤ i + 1 → PenAt H' p q ns i' r' → But p H H' → Q (.int d) H'
theorem cut_ints (ns : List Int) (a b : Option Int) : ∃ ms : List Int, cutV (ns.map V.int) a b = ms.map V.int :=
  ⟨(ns.drop (HT.sIx (ns.map V.int).length 0 a)).take (HT.sIx (ns.map V.int).length (ns.map V.int).length b - HT.sIx (ns.map V.int).length 0 a), by
    unfold cutV
    rw [List.map_take, List.map_drop]⟩
theorem mixA {x m c e i : Int} (hm : 0 < m) (hm2 : m < 4294967296) (hi : 0 ≤ i) (hi2 : i < 1000000) (hc : 0 ≤ c) (hc2 : c < 1000000) (he : 0 ≤ e) (he2 : e < 1000000) : (x % m + c * i + e).natAbs < 2 ^ 64 := by
  have h1 := Int.emod_nonneg x (Int.ne_of_gt hm)
  have h2 := Int.emod_lt_of_pos x hm
  have h3 : 0 ≤ c * i := Int.mul_nonneg hc hi
  have h4 : c * i ≤ 1000000 * i := Int.mul_le_mul_of_nonneg_right (by omega) hi
  omega
theorem mixB {x m a b c e i : Int} (hm : 0 < m) (hm2 : m < 4294967296) (hi : 0 ≤ i) (hi2 : i < 1000000) (ha : 0 ≤ a) (ha2 : a < 100) (hb : 0 ≤ b) (hb2 : b < 1000000) (hc : 0 ≤ c) (hc2 : c < 1000000) (he : 0 ≤ e) (he2 : e < 1000000) :
    (x % m * (a * i + b) + c * i * i + e).natAbs < 2 ^ 64 := by
  have h1 := Int.emod_nonneg x (Int.ne_of_gt hm)
  have h2 := Int.emod_lt_of_pos x hm
  generalize x % m = y at h1 h2 ⊢
  have h3 : 0 ≤ a * i := Int.mul_nonneg ha hi
  have h4 : a * i ≤ 100 * i := Int.mul_le_mul_of_nonneg_right (by omega) hi
  generalize a * i = z at h3 h4 ⊢
  have h5 : 0 ≤ y * (z + b) := Int.mul_nonneg h1 (by omega)
  have h6 : y * (z + b) ≤ 4294967296 * (z + b) := Int.mul_le_mul_of_nonneg_right (by omega) (by omega)
  have h7 : 0 ≤ c * i := Int.mul_nonneg hc hi
  have h8 : c * i ≤ 1000000 * i := Int.mul_le_mul_of_nonneg_right (by omega) hi
  generalize c * i = u at h7 h8 ⊢
  have h9 : 0 ≤ u * i := Int.mul_nonneg h7 hi
  have h10 : u * i ≤ u * 1000000 := Int.mul_le_mul_of_nonneg_left (by omega) h7
  omega
theorem mixC {c i : Int} (hi : 0 ≤ i) (hi2 : i < 1000000) (hc : 0 ≤ c) (hc2 : c < 1000000) : CMul (c * i) i := by
  have h7 : 0 ≤ c * i := Int.mul_nonneg hc hi
  have h8 : c * i ≤ 1000000 * i := Int.mul_le_mul_of_nonneg_right (by omega) hi
  exact .inl ⟨by omega, by omega⟩
theorem mixD {x m y : Int} (hm : 0 < m) (hm2 : m < 4294967296) : CMul (x % m) y := by
  have h1 := Int.emod_nonneg x (Int.ne_of_gt hm)
  have h2 := Int.emod_lt_of_pos x hm
  exact .inl ⟨by omega, by omega⟩
theorem PenAt.one {H : Hp} {p q : Addr} {ns : List Int} {i r i' r' : Int} (h : PenAt H p q ns i r) (h0 : 0 ≤ i') : PenAt (upd H p (.lst [.ref q, .int i', .int r'])) p q ns i' r' :=
  ⟨upd_same, by rw [upd_ne h.ne.symm]; exact h.lst, h0, h.ne⟩
theorem PenAt.same {H H' : Hp} {p q : Addr} {ns : List Int} {i r : Int} (h : PenAt H p q ns i r) (s : Same H H') : PenAt H' p q ns i r := ⟨s _ _ h.pen, s _ _ h.lst, h.i0, h.ne⟩
theorem same_new {H : Hp} {a : Addr} {o : HO} (n : H a = none) : Same H (upd H a o) := fun b u h => by rw [upd_ne (ne_of_none h n)]; exact h
theorem dp_ints {K : PySem.W.Frag} {H : Hp} {q : Addr} {ns : List Int} (h : SqL K H q (ns.map V.int)) : Dp K H (.ref q) (.list (ns.map PyData.int)) := by
  refine Dp.lst h ?_
  clear h
  induction ns with
  | nil => exact .nil
  | cons a r ih => exact .cons (.int a) ih
theorem shaped_ints (ns : List Int) : SeqAt.shaped (.list (ns.map PyData.int)) = true := by
  have h1 : ∀ ns : List Int, PyData.canLayAll0 (ns.map PyData.int) = true := fun ns => by
    induction ns with
    | nil => rfl
    | cons a r ih => exact ih
  have h2 : ∀ ns : List Int, PyData.depthAll (ns.map PyData.int) = 0 := fun ns => by
    induction ns with
    | nil => rfl
    | cons a r ih => show max 0 (PyData.depthAll (r.map PyData.int)) = 0; rw [ih]; rfl
  unfold SeqAt.shaped
  show (PyData.canLayAll0 (ns.map PyData.int) && decide (PyData.depthAll (ns.map PyData.int) + 1 ≤ 64)) = true
  rw [h1, h2]
  rfl
/-- an item at a rest -/
theorem at_rest {ns : List Int} {i : Int} (h : ns ≠ []) : ∃ d, atI (ns.map V.int) (i % ((ns.map V.int).length : Int)) = some (.int d) := by
  have hl : 0 < (ns.map V.int).length := by
    rw [List.length_map]
    exact List.length_pos_iff.mpr h
  have h1 := Int.emod_nonneg i (b := ((ns.map V.int).length : Int)) (by omega)
  have h2 := Int.emod_lt_of_pos i (b := ((ns.map V.int).length : Int)) (by omega)
  obtain ⟨j, ej⟩ : ∃ j : Nat, i % ((ns.map V.int).length : Int) = (j : Int) := ⟨(i % ((ns.map V.int).length : Int)).toNat, by omega⟩
  have hj : j < ns.length := by rw [List.length_map] at h2 ej; omega
  exact ⟨ns[j], at_of ej (by rw [List.getElem?_map, List.getElem?_eq_getElem hj]; rfl)⟩
end LB

namespace PySem.HandSPX
open PySem PySem.W
section
variable {prog : Program} {w : World} {A : Around} {E : Value → Shared → Prop} {R : Result → Shared → Prop} {h : Heap} {g : Array GenState} {d : Drawn} {t : Nat} {os : OsState}
variable {nm q : Str} {C N : Addr} {bs bm bmB : List Value} {hdct : Bool} {sn : List Str} {sub : List Value} {ab : Bool} {col : Option Bool} {dd : Option Addr} {k0 k1 k2 k3 k5 : Option Value} {B newId initId : String}
/-- an own class's new exception, whatever the names of what it is given -/
theorem lbx_check {M : Model} (F : ExcBaseFacts B newId initId bmB) (hT : ∀ X : String, bm.contains (.type X) = bmB.contains (.type X)) {rest : List Value} {kw : List (Str × Value)} {Q : Unit → Shared → Prop}
    (hC : h.get? C = some (excClassObj nm q C N bs bm hdct sn sub ab col dd k0 k1 k2 k3 k5 newId)) (hq : Q () ⟨h, g, d, t, os⟩) : wpAny M A (checkBuiltinCall newId ⟨.ref C :: rest, kw⟩) Q E ⟨h, g, d, t, os⟩ := by
  have hcont : (Value.ref C :: bm).contains (.type B) = true := by rw [List.contains_cons, hT, F.hasB, Bool.or_true]
  have hstar := F.noStar
  simp only [checkBuiltinCall, F.newKind, F.newSplit, F.newRow]
  repeat (first | refine wpAny_loadPart_at hC ?_ | (refine wpAny_isSubtype_exc hC ?_; rw [hcont]) | refine wpAny_staticBase_exc hC ?_ | refine wpAny_madeBy_exc hC ?_ | simp only [bne_self_eq_false, Bool.false_eq_true, if_false] | wp_step)
  exact hq
theorem lbx_new (F : ExcBaseFacts B newId initId bmB) (hT : ∀ X : String, bm.contains (.type X) = bmB.contains (.type X)) {rest : List Value} {kw : List (Str × Value)}
    (hC : h.get? C = some (excClassObj nm q C N bs bm hdct sn sub ab col dd k0 k1 k2 k3 k5 newId))
    (hq : R (.ok (.ret (.ref (h.objs.size + 1)))) ⟨(h.push (W.kdv_tup rest)).push (excO C h.objs.size), g, d, t, os⟩) (hrest : rest.length ≤ sizeLine) :
    codeAny (model prog w) A (.builtin newId ⟨.ref C :: rest, kw⟩) R ⟨h, g, d, t, os⟩ := by
  have hends := F.ends
  have hcB : (Value.ref C :: bm).contains (.type B) = true := by rw [List.contains_cons, hT, F.hasB, Bool.or_true]
  have hcA : (Value.ref C :: bm).contains (.type "AttributeError") = false := by rw [List.contains_cons, hT, F.noAttr]; rfl
  have hcN : (Value.ref C :: bm).contains (.type "NameError") = false := by rw [List.contains_cons, hT, F.noName]; rfl
  refine codeAny_builtinAt F.entry ?_
  unfold Builtin.«BaseException.__new__»
  refine wpAt_bind ?_
  show wpAt _ _ _ (stack >>= _) _ _ _
  refine wpAt_bind (wpAt_stack fun p below => wpAt_of_wpAny ?_)
  wp_walk
  refine wpAt_of_wpAny ?_
  rw [F.owner]
  repeat (first | with_reducible refine wpAny_madeHere_exc F.canon hC ?_ | with_reducible refine wpAny_loadPart_at hC ?_ | (with_reducible refine wpAny_isSubtype_exc hC ?_; first | rw [hcB] | rw [hcA] | rw [hcN]) | wp_step)
  show R _ _
  rw [Heap.size_push]
  exact hq
theorem lbx_type_call (F : ExcBaseFacts B newId initId bmB) (hT : ∀ X : String, bm.contains (.type X) = bmB.contains (.type X)) {rest : List Value} {kw : List (Str × Value)} {fI : Addr} {Q : Fin → Shared → Prop}
    (hC : h.get? C = some (excClassObj nm q C N bs bm hdct sn sub ab col dd k0 k1 k2 k3 k5 newId))
    (hi : W.Looks (model prog w) h (typeLookup (.ref C) "__init__") (some (.ref fI))) (hb : ∀ self, W.Looks (model prog w) h (bindSpecial (.ref fI) self) (.ref fI, [self])) (hrest : rest.length ≤ sizeLine)
    (hq : codeAny (model prog w) A (.call (.ref fI) ⟨.ref (h.objs.size + 1) :: rest, kw⟩)
      (fun r s' => match r with | .ok (.ret v) => v = .none ∧ Q (.done (.ret (.ref (h.objs.size + 1)))) s' | .ok _ => False | .error e => E e s')
      ⟨(h.push (W.kdv_tup rest)).push (excO C h.objs.size), g, d, t, os⟩) :
    wpAny (model prog w) A (Builtin.«type.__call__» ⟨.ref C :: rest, kw⟩) Q E ⟨h, g, d, t, os⟩ := by
  repeat (first | with_reducible refine wpAny_loadPart_at hC ?_ | with_reducible refine wpAny_madeBy_exc hC ?_ | wp_step)
  refine codeAny_call_builtin_code (Code.quiet_builtin _ F.quiet) (lbx_check F hT hC ?_)
  refine lbx_new F hT hC ?_ hrest
  show wpAny _ _ _ _ _ _
  have k : ∀ b o, h.get? b = some o → ((h.push (W.kdv_tup rest)).push (excO C h.objs.size)).get? b = some o := fun b o e => Heap.get?_push_of_some _ (Heap.get?_push_of_some _ e)
  have hC₁ := k _ _ hC
  have hget : ((h.push (W.kdv_tup rest)).push (excO C h.objs.size)).get? (h.objs.size + 1) = some (excO C h.objs.size) := by heap_get
  have hcC : (Value.ref C :: bm).contains (.ref C) = true := by simp
  have i1 := hi.keeps k
  have b1 := (hb (.ref (h.objs.size + 1))).keeps k
  unfold isInstance
  repeat (first | with_reducible refine wpAny_loadPart_at hget ?_ | (with_reducible refine wpAny_isSubtype_exc hC₁ ?_; rw [hcC]) | wp_step)
  show wpAny _ _ (typeLookup (.ref C) _) _ _ _
  refine i1.at ?_
  refine wpAny_holding (wpAny_bind (b1.at ?_))
  refine wpAny_bind (wpAny_call (codeAny_mono hq fun r s' z => ?_))
  rcases r with e | (v | _ | _ | _) <;> first | exact z | exact z.elim | skip
  obtain ⟨rfl, z⟩ := z
  first
    | exact wpAny_pure (wpAny_pure z)
    | (wp_walk; exact z)
theorem lbx_call (F : ExcBaseFacts B newId initId bmB) (hT : ∀ X : String, bm.contains (.type X) = bmB.contains (.type X)) {rest : List Value} {kw : List (Str × Value)} {fI : Addr}
    (hC : h.get? C = some (excClassObj nm q C N bs bm hdct sn sub ab col dd k0 k1 k2 k3 k5 newId))
    (hi : W.Looks (model prog w) h (typeLookup (.ref C) "__init__") (some (.ref fI))) (hb : ∀ self, W.Looks (model prog w) h (bindSpecial (.ref fI) self) (.ref fI, [self])) (hrest : rest.length ≤ sizeLine)
    (hq : codeAny (model prog w) (A.under (.builtin "type.__call__" ⟨.ref C :: rest, kw⟩)) (.call (.ref fI) ⟨.ref (h.objs.size + 1) :: rest, kw⟩) (W.InitBack (h.objs.size + 1) R)
      ⟨(h.push (W.kdv_tup rest)).push (excO C h.objs.size), g, d, t, os⟩) :
    codeAny (model prog w) A (.call (.ref C) ⟨rest, kw⟩) R ⟨h, g, d, t, os⟩ := by
  have f1 := tc_lookup
  have f2 := tc_bind (.ref C)
  have hTy : (⟨h, g, d, t, os⟩ : Shared).TypeIs (.ref C) "type" := ⟨_, hC, rfl⟩
  refine codeAny_of_tree ?_
  show wpAny _ _ (callAny (.ref C) _) _ _ _
  repeat (any_goals (first | assumption | with_reducible refine wpAny_loadPart_at hC ?_ | wp_step))
  refine ⟨rfl, ?_⟩
  refine codeAny_call_builtin_at (Code.quiet_builtin _ (by decide +kernel)) entry_typeCall (wpAny_check_type_call_sub hC (lbx_type_call F hT hC hi hb hrest ?_))
  refine codeAny_mono hq fun r s' z => ?_
  rcases r with e | (v | _ | _ | _) <;> exact z
end
end PySem.HandSPX

namespace PySem.W
open PySem Builtin
section
variable {prog : Program} {w : World} {A : Around} {E : Value → Shared → Prop} {s : Shared} {K : Frag} {x D : Addr} {ox : Obj} {od : Option Obj}
theorem lbx_class {Q : Option Value → Shared → Prop} (hga : findIn K (.ref D) "__getattribute__" = some (some (.builtin "BaseException.__getattribute__"))) (hgt : findIn K (.ref D) "__getattr__" = some none) (hsub : subIn K (.ref D) (.type "BaseException") = some true)
    (hdct : hasDictIn K D = true) (ha : findIn K (.ref D) "__class__" = some (some (.builtin "object.__class__")))
    (hn : specialIn K (.builtin "object.__class__") "__get__" = some (some (.builtin "getset_descriptor.__get__"))) (htk : takesIn K (.builtin "object.__class__") = some true) (hm : mroIn K D (.type "object") = some true)
    (X : K.In s.heap) (I : InstAt s.heap x ox D od) (h : Q (some (.ref D)) { s with toks := s.toks + 1 }) : wpAny (model prog w) A (getAttr? (.ref x) "__class__") Q E s := by
  have hf : findObj K D od "__class__" = some (.bind (.builtin "getset_descriptor.__get__") (.builtin "object.__class__")) := by
    have hc : (clsIn K D).isSome = true := by obtain ⟨cd, hc, _⟩ := any_some hdct; rw [hc]; rfl
    cases od with
    | none => exact findObj_dataN hc ha hn htk
    | some _ => exact findObj_data hc ha hn htk
  obtain ⟨hp, g, d, t, os⟩ := s
  have L0 := I.type (M := model prog w)
  have L1 := looks_findIn (M := model prog w) X hga
  have L2 := looks_findIn (M := model prog w) X hgt
  have L3 := looks_find (M := model prog w) X I hf
  have sub : Looks (model prog w) hp (isInstance (.ref x) (.type "BaseException")) true := L0.andThen (looks_subIn X hsub)
  have hx0 : (false && onTheHeap (Value.builtin "BaseException.__getattribute__")) = false := rfl
  have hx2 : (Value.builtin "BaseException.__getattribute__" == Value.builtin "object.__getattribute__") = false := by decide +kernel
  have hx1 : (onTheHeap (Value.ref D) && Value.builtin "BaseException.__getattribute__" == Value.builtin "object.__getattribute__") = false := by rw [hx2]; rfl
  unfold getAttr? getAttrBy? getAttrBy
  refine wpAny_bind (wpAny_mkText (wpAny_bind (wpAny_attempt (wpAny_holding (wpAny_bind (L0.at (wpAny_bind (L1.at ?_))))))))
  show wpAny _ _ (if (onTheHeap (Value.ref D) && Value.builtin "BaseException.__getattribute__" == Value.builtin "object.__getattribute__") = true then _ else _) _ _ _
  rw [hx1, if_neg Bool.false_ne_true]
  unfold getAttrByItsOwn hookBefore
  refine wpAny_bind ?_
  rw [if_pos (show onTheHeap (Value.ref D) = true from rfl)]
  refine L2.at ?_
  refine wpAny_bind (wpAny_attempt (wpAny_holding ?_))
  unfold callGetattribute
  rw [hx0, if_neg Bool.false_ne_true]
  unfold boundAndCalled
  rw [PySem.F.excAttr_ValueError.ga.bind (.ref x)]
  refine wpAny_bind (wpAny_pure ?_)
  show wpAny _ _ (call (.builtin "BaseException.__getattribute__") [.ref x, .str "__class__" t]) _ _ _
  refine wpAny_call (codeAny_call_builtin PySem.F.excAttr_ValueError.ga.plain PySem.F.entry_bexc_ga ?_)
  refine @check_slot (model prog w) _ _ ⟨hp, g, d, t + 1, os⟩ "BaseException.__getattribute__" "BaseException" "__getattribute__" (.ref x) [.str "__class__" t] [] _ (by decide +kernel) (by decide +kernel) sub (PySem.F.args_bexc_ga (.ref x) (.str "__class__" t)) ?_
  unfold Builtin.«object.__getattribute__»
  refine wpAny_bind (wpAny_of_eq (a := ((Value.ref x : Value), [Value.str "__class__" t])) (by first | rfl | (simp only [slotArgs]; rfl)) ?_)
  refine wpAny_bind (wpAny_pure (wpAny_bind (L0.at (wpAny_bind (L3.at ?_)))))
  show wpAny _ _ (holding [Value.builtin "object.__class__"] (call (.builtin "getset_descriptor.__get__") [.builtin "object.__class__", .ref x, .ref D]) >>= ret) _ _ _
  refine wpAny_bind (wpAny_holding (wpAny_call (class_get (s := ⟨hp, g, d, t + 1, os⟩) (ox := ox) (od := od) X I hm ?_)))
  refine wpAny_pure ?_
  show wpAny _ _ (handedOut (.ref D)) _ _ _
  rw [handedOut_of (v := .ref D) rfl]
  first
    | exact wpAny_pure (wpAny_pure h)
    | exact wpAny_pure h
    | exact wpAny_pure (wpAny_bind (wpAny_pure (wpAny_pure h)))
theorem lbx_kit (hga : findIn K (.ref D) "__getattribute__" = some (some (.builtin "BaseException.__getattribute__"))) (hgt : findIn K (.ref D) "__getattr__" = some none) (hsub : subIn K (.ref D) (.type "BaseException") = some true) (hdct : hasDictIn K D = true) (ha : findIn K (.ref D) "__class__" = some (some (.builtin "object.__class__")))
    (hn : specialIn K (.builtin "object.__class__") "__get__" = some (some (.builtin "getset_descriptor.__get__"))) (htk : takesIn K (.builtin "object.__class__") = some true) (hm : mroIn K D (.type "object") = some true) :
    KitX K (.ref x) (.ref D) (fun h => InstAt h x ox D od) where
  ty := fun _ _ _ I => I.type
  it := fun _ _ X _ => by
    obtain ⟨cdD, hcD, _⟩ := any_some hdct
    unfold clsIn at hcD
    split at hcD
    · rename_i c' d' cd' sl' ho
      intro A' Q' E' s' k q
      unfold isType loadHead
      exact wpAny_bind (wpAny_loadPart (k _ _ (X _ _ ho)) (wpAny_pure q))
    · cases hcD
  ne := fun h tp dd its n sl X htp => by
    obtain ⟨cdD, hcD, _⟩ := any_some hdct
    refine Bool.eq_false_iff.mpr fun q => ?_
    have e : D = tp := Value.ref.inj (beq_iff_eq.mp q)
    subst e
    unfold clsIn at hcD
    split at hcD
    · rename_i c' d' cd' sl' ho
      have z := (X _ _ ho).symm.trans htp
      cases z
    · cases hcD
  ca := fun X I k => lbx_class hga hgt hsub hdct ha hn htk hm X I k
end
end PySem.W

namespace PySem.HandSPX
open PySem PySem.W
section
variable {prog : Program} {w : World} {A : Around} {E : Value → Shared → Prop} {R : Result → Shared → Prop} {h : Heap} {g : Array GenState} {d : Drawn} {t : Nat} {os : OsState}
variable {nm q : Str} {C N : Addr} {bs bm bmB : List Value} {hdct : Bool} {sn : List Str} {sub : List Value} {ab : Bool} {col : Option Bool} {dd : Option Addr} {k0 k1 k2 k3 k5 : Option Value} {B newId initId : String}
/-- a class without an __init__ of its own, called with nothing -/
theorem lbx_type_call0 (F : ExcBaseFacts B newId initId bmB) (hT : ∀ X : String, bm.contains (.type X) = bmB.contains (.type X)) {Q : Fin → Shared → Prop}
    (hC : h.get? C = some (excClassObj nm q C N bs bm hdct sn sub ab col dd k0 k1 k2 k3 k5 newId))
    (hi : W.Looks (model prog w) h (typeLookup (.ref C) "__init__") (some (.builtin initId)))
    (hq : ∀ h' t1, (∀ b o, h.get? b = some o → h'.get? b = some o) → h'.get? (h.objs.size + 1) = some (excO C t1) → Q (.done (.ret (.ref (h.objs.size + 1)))) ⟨h', g, d, t, os⟩) :
    wpAny (model prog w) A (Builtin.«type.__call__» ⟨[.ref C], []⟩) Q E ⟨h, g, d, t, os⟩ := by
  repeat (first | with_reducible refine wpAny_loadPart_at hC ?_ | with_reducible refine wpAny_madeBy_exc hC ?_ | wp_step)
  refine codeAny_call_builtin_code (Code.quiet_builtin _ F.quiet) (lbx_check F hT hC ?_)
  refine lbx_new (rest := []) F hT hC ?_ (Nat.zero_le _)
  show wpAny _ _ _ _ _ _
  have k : ∀ b o, h.get? b = some o → ((h.push (W.kdv_tup [])).push (excO C h.objs.size)).get? b = some o := fun b o e => Heap.get?_push_of_some _ (Heap.get?_push_of_some _ e)
  have hC₁ := k _ _ hC
  have hget : ((h.push (W.kdv_tup [])).push (excO C h.objs.size)).get? (h.objs.size + 1) = some (excO C h.objs.size) := by heap_get
  have hcC : (Value.ref C :: bm).contains (.ref C) = true := by simp
  have i1 := hi.keeps k
  have b1 := F.init.bind (.ref (h.objs.size + 1))
  unfold isInstance
  repeat (first | with_reducible refine wpAny_loadPart_at hget ?_ | (with_reducible refine wpAny_isSubtype_exc hC₁ ?_; rw [hcC]) | wp_step)
  show wpAny _ _ (typeLookup (.ref C) _) _ _ _
  refine i1.at ?_
  refine wpAny_holding ?_
  simp only [b1]
  refine wpAny_bind (wpAny_pure ?_)
  have fin : codeAny (model prog w) A (.call (.builtin initId) ⟨[.ref (h.objs.size + 1)], []⟩) (fun r s' => match r with | .ok (.ret v) => v = .none ∧ Q (.done (.ret (.ref (h.objs.size + 1)))) s' | .ok _ => False | .error e => E e s')
      ⟨(h.push (W.kdv_tup [])).push (excO C h.objs.size), g, d, t, os⟩ :=
    init_base (rest := []) F hT hC₁ hget (Nat.zero_le _) fun h' t1 k2 he => ⟨rfl, hq h' t1 (fun b o e => k2 b o (Nat.ne_of_lt (Nat.lt_succ_of_lt (Heap.lt_size e))) (k b o e)) he⟩
  refine wpAny_bind (wpAny_call (codeAny_mono fin fun r s' z => ?_))
  rcases r with e | (v | _ | _ | _) <;> first | exact z | exact z.elim | skip
  obtain ⟨rfl, z⟩ := z
  first
    | exact wpAny_pure (wpAny_pure z)
    | (wp_walk; exact z)
theorem lbx_call0 (F : ExcBaseFacts B newId initId bmB) (hT : ∀ X : String, bm.contains (.type X) = bmB.contains (.type X))
    (hC : h.get? C = some (excClassObj nm q C N bs bm hdct sn sub ab col dd k0 k1 k2 k3 k5 newId))
    (hi : W.Looks (model prog w) h (typeLookup (.ref C) "__init__") (some (.builtin initId)))
    (hq : ∀ h' t1, (∀ b o, h.get? b = some o → h'.get? b = some o) → h'.get? (h.objs.size + 1) = some (excO C t1) → R (.ok (.ret (.ref (h.objs.size + 1)))) ⟨h', g, d, t, os⟩) :
    codeAny (model prog w) A (.call (.ref C) ⟨[], []⟩) R ⟨h, g, d, t, os⟩ := by
  have f1 := tc_lookup
  have f2 := tc_bind (.ref C)
  have hTy : (⟨h, g, d, t, os⟩ : Shared).TypeIs (.ref C) "type" := ⟨_, hC, rfl⟩
  refine codeAny_of_tree ?_
  show wpAny _ _ (callAny (.ref C) _) _ _ _
  repeat (any_goals (first | assumption | with_reducible refine wpAny_loadPart_at hC ?_ | wp_step))
  refine ⟨rfl, ?_⟩
  exact codeAny_call_builtin_at (Code.quiet_builtin _ (by decide +kernel)) entry_typeCall (wpAny_check_type_call_sub hC (lbx_type_call0 F hT hC hi hq))
end
end PySem.HandSPX
namespace LB
open PySem L2 PyProof.Rows
section
variable {X : Cx} {CX : CXT} {x : Str} {C fI : Addr} {k : Nat} {fd : FuncData} {ps ks : List Str} {sp : Sp} {e : Expr} {es : List Expr} {kws : List Keyword} {ta tk : TA} {p pos : Pos}
/-- an own class of errors whose __init__ is a def of the text that keeps sp -/
def HasEx (P : Program) (w : World) (K : PySem.W.Frag) (mg : Str → Option Value) (base : Heap) (CX : CXT) (k : Nat) (C : Addr) (x : Str) (ps : List Str) (sp : Sp) : Prop :=
  ∃ (f : Addr) (fd : FuncData), OexC K C ∧ PySem.W.findIn K (.ref C) "__init__" = some (some (.ref f)) ∧ PySem.W.typeIn K (.ref f) = some (.type "function") ∧ FnOk P w K mg base CX k f fd ps sp ∧ mg x = some (.ref C) ∧
    (∀ us : List Value, us.length = ps.length → bindArgs fd ⟨us, []⟩ = pure (ps.zip us)) ∧ Binds K fd ps []
/-- C(e, ..) as a value -/
def tExV (C : Addr) (sp : Sp) (ta : TA) : TE := fun σ H Q => ta σ H fun vs H1 => vs.length ≤ 1000 ∧ ∀ a, H1 a = none → sp (.ref a :: vs) (upd H1 a (exo a C none)) (fun v H2 => v = .non ∧ Q (.ref a) H2) E0
theorem pe_exv (h : HasEx X.prog X.w X.K X.mg X.base CX0 k C x ps sp) (hr : Room (k + 1) X.A) (ha : PA X (e :: es) ta) (hg : Gl X x := by rfl)
    (hdb : (x == ("__debug__" : Str)) = false := by decide) (he : starEach (e :: es) X.env = (false, eval e X.env) :: starEach es X.env := by rfl) (hpl : (backTo pos (starEach es X.env)).any (·.1) = false := by rfl) :
    PE X (.Call (.Name x p) (e :: es) [] pos) (tExV C sp ta) := by
  obtain ⟨f, fd, T, iC, tI, F1, hm, _, hb⟩ := h
  refine ⟨fun pins s σ H Q I h => ?_⟩
  obtain ⟨nm, q, N, bs, bm, sn, sub, ab, col, dd, k0, k1, k2, k3, k5, hC, hbm⟩ := T.cls
  refine wpAny_Call_Name_kw (ld_glob I hg hm ?_ hdb)
  refine PySem.W.callWith_K (h₀ := X.base) I.ok.mod.kin T.kC (thn (ha.run pos pins s σ H _ I h) fun us s1 ⟨vs, H1, I1, r1, hz, q1⟩ => ⟨I1.kIn, ?_⟩) he hpl
  obtain ⟨hp, g, dr, tk, os⟩ := s1
  have hsz : hp.objs.size ≤ hp.objs.size + 1 := Nat.le_succ _
  have hn : H1 (hp.objs.size + 1) = none := I1.hok.fresh hsz
  have hq := q1 (hp.objs.size + 1) hn
  have kk : ∀ b o, hp.get? b = some o → ((hp.push (PySem.W.kdv_tup us)).push (PySem.HandSPX.excO C hp.objs.size)).get? b = some o := fun b o e => Heap.get?_push_of_some _ (Heap.get?_push_of_some _ e)
  have hget : ((hp.push (PySem.W.kdv_tup us)).push (PySem.HandSPX.excO C hp.objs.size)).get? (hp.objs.size + 1) = some (PySem.HandSPX.excO C hp.objs.size) := by heap_get
  have I2 : Inv X pins σ (upd H1 (hp.objs.size + 1) (exo (hp.objs.size + 1) C none)) ⟨(hp.push (PySem.W.kdv_tup us)).push (PySem.HandSPX.excO C hp.objs.size), g, dr, tk, os⟩ := I1.laid (t' := tk) kk hsz (exo_ok hget)
  have r2 : Vals (V.ref (hp.objs.size + 1) :: vs) (Value.ref (hp.objs.size + 1) :: us) := .cons rfl r1
  have hl : (Value.ref (hp.objs.size + 1) :: us).length = ps.length := by
    rw [← r2.length]
    exact F1.len _ _ _ _ hq
  have hus : us.length ≤ sizeLine := by
    rw [← Paired.length r1, sizeLine_eq]
    omega
  have hb' := hb _ (Value.ref (hp.objs.size + 1) :: us) I2.kIn (by rw [List.append_nil]; exact hl)
  rw [List.append_nil] at hb'
  refine wpAny_call (PySem.HandSPX.lbx_call (kw := []) F.excBase_ValueError (fun Y => PySem.HandSPX.refsVE_contains Y bm hbm) (I1.kIn _ _ hC) (PySem.W.looks_findIn I1.kIn iC) (fun self => PySem.W.bind_fn I1.kIn self tI) hus
    (codeAny_mono (F1.run _ X.stack _ _ ⟨Value.ref (hp.objs.size + 1) :: us, []⟩ (Value.ref (hp.objs.size + 1) :: us) _ _ E0 (hr.make C us []) (I2.env0.make C us []) hb' r2 hq) fun r s' hq' => ?_))
  cases r with
  | error er => exact False.elim hq'
  | ok fl =>
    cases fl with
    | ret u =>
      obtain ⟨v, H', I', rv, ev, q2⟩ := I2.after hq'
      subst ev
      cases rv
      exact ⟨rfl, .ref (hp.objs.size + 1), H', I', rfl, q2⟩
    | next => exact False.elim hq'
    | brk => exact False.elim hq'
    | cont => exact False.elim hq'
/-- how the names that are given stand in the parameters' order -/
def swapIf {α : Type} (b : Bool) : List α → List α
  | [x, y] => if b then [y, x] else [x, y]
  | l => l
theorem swapIf_rel {b : Bool} {zs : List V} {ws : List Value} (r : Vals zs ws) : Vals (swapIf b zs) (swapIf b ws) := by
  cases r with
  | nil => exact .nil
  | cons r1 t =>
    cases t with
    | nil => exact .cons r1 .nil
    | cons r2 t2 =>
      cases t2 with
      | nil => cases b with
        | true => exact .cons r2 (.cons r1 .nil)
        | false => exact .cons r1 (.cons r2 .nil)
      | cons r3 t3 => exact .cons r1 (.cons r2 (.cons r3 t3))
/-- .. and its __init__ takes these names so -/
def HasExK (P : Program) (w : World) (K : PySem.W.Frag) (mg : Str → Option Value) (base : Heap) (CX : CXT) (k : Nat) (C : Addr) (x : Str) (ps ks : List Str) (b : Bool) (sp : Sp) : Prop :=
  ∃ (f : Addr) (fd : FuncData), OexC K C ∧ PySem.W.findIn K (.ref C) "__init__" = some (some (.ref f)) ∧ PySem.W.typeIn K (.ref f) = some (.type "function") ∧ FnOk P w K mg base CX k f fd ps sp ∧ mg x = some (.ref C) ∧
    (∀ (self : Value) (ws : List Value), ws.length = ks.length → bindArgs fd ⟨[self], ks.zip ws⟩ = pure (ps.zip (self :: swapIf b ws)))
def tExVK (C : Addr) (b : Bool) (n : Nat) (sp : Sp) (tk : TA) : TE := fun σ H Q => tk σ H fun zs H1 => zs.length = n ∧ ∀ a, H1 a = none → sp (.ref a :: swapIf b zs) (upd H1 a (exo a C none)) (fun v H2 => v = .non ∧ Q (.ref a) H2) E0
theorem pe_exvK {b : Bool} (h : HasExK X.prog X.w X.K X.mg X.base CX0 k C x ps ks b sp) (hr : Room (k + 1) X.A) (hkw : PK X kws tk) (hg : Gl X x := by rfl) (hall : (backToKw pos (keywordEach kws X.env)).all (·.1.isSome) = true := by rfl) (hks : (backToKw pos (keywordEach kws X.env)).filterMap (·.1) = ks := by rfl)
    (hdb : (x == ("__debug__" : Str)) = false := by decide) (hpl : ((backTo pos (starEach [] X.env)).any (·.1) || (backToKw pos (keywordEach kws X.env)).any (·.1.isNone)) = false := by rfl) :
    PE X (.Call (.Name x p) [] kws pos) (tExVK C b ks.length sp tk) := by
  obtain ⟨f, fd, T, iC, tI, F1, hm, hb⟩ := h
  refine ⟨fun pins s σ H Q I h => ?_⟩
  obtain ⟨nm, q, N, bs, bm, sn, sub, ab, col, dd, k0, k1, k2, k3, k5, hC, hbm⟩ := T.cls
  refine wpAny_Call_Name_kw (ld_glob I hg hm ?_ hdb)
  refine PySem.W.callWith_KW0 (h₀ := X.base) I.ok.mod.kin T.kC hall (thn (hkw.run pos pins s σ H _ I h) fun us s1 ⟨vs, H1, I1, r1, hz, q1⟩ => ⟨I1.kIn, ?_⟩) hpl
  rw [hks]
  obtain ⟨hp, g, dr, tk, os⟩ := s1
  have hsz : hp.objs.size ≤ hp.objs.size + 1 := Nat.le_succ _
  have hn : H1 (hp.objs.size + 1) = none := I1.hok.fresh hsz
  have hq := q1 (hp.objs.size + 1) hn
  have kk : ∀ b o, hp.get? b = some o → ((hp.push (PySem.W.kdv_tup [])).push (PySem.HandSPX.excO C hp.objs.size)).get? b = some o := fun b o e => Heap.get?_push_of_some _ (Heap.get?_push_of_some _ e)
  have hget : ((hp.push (PySem.W.kdv_tup [])).push (PySem.HandSPX.excO C hp.objs.size)).get? (hp.objs.size + 1) = some (PySem.HandSPX.excO C hp.objs.size) := by heap_get
  have I2 : Inv X pins σ (upd H1 (hp.objs.size + 1) (exo (hp.objs.size + 1) C none)) ⟨(hp.push (PySem.W.kdv_tup [])).push (PySem.HandSPX.excO C hp.objs.size), g, dr, tk, os⟩ := I1.laid (t' := tk) kk hsz (exo_ok hget)
  have r2 : Vals (V.ref (hp.objs.size + 1) :: swapIf b vs) (Value.ref (hp.objs.size + 1) :: swapIf b us) := .cons rfl (swapIf_rel r1)
  have hb' := hb (Value.ref (hp.objs.size + 1)) us (by rw [← Paired.length r1]; exact hz)
  refine wpAny_call (PySem.HandSPX.lbx_call (rest := []) (kw := ks.zip us) F.excBase_ValueError (fun Y => PySem.HandSPX.refsVE_contains Y bm hbm) (I1.kIn _ _ hC) (PySem.W.looks_findIn I1.kIn iC) (fun self => PySem.W.bind_fn I1.kIn self tI) (Nat.zero_le _)
    (codeAny_mono (F1.run _ X.stack _ _ ⟨[Value.ref (hp.objs.size + 1)], ks.zip us⟩ (Value.ref (hp.objs.size + 1) :: swapIf b us) _ _ E0 (hr.make C [] (ks.zip us)) (I2.env0.make C [] (ks.zip us)) (.of_eq hb') r2 hq) fun r s' hq' => ?_))
  cases r with
  | error er => exact False.elim hq'
  | ok fl =>
    cases fl with
    | ret u =>
      obtain ⟨v, H', I', rv, ev, q2⟩ := I2.after hq'
      subst ev
      cases rv
      exact ⟨rfl, .ref (hp.objs.size + 1), H', I', rfl, q2⟩
    | next => exact False.elim hq'
    | brk => exact False.elim hq'
    | cont => exact False.elim hq'
/-- a class of errors without an __init__ of its own, called with nothing -/
def HasEx0 (K : PySem.W.Frag) (mg : Str → Option Value) (C : Addr) (x : Str) : Prop :=
  OexC K C ∧ PySem.W.findIn K (.ref C) "__init__" = some (some (.builtin "ValueError.__init__")) ∧ mg x = some (.ref C)
def tExV0 (C : Addr) : TE := fun _ H Q => ∀ a, H a = none → Q (.ref a) (upd H a (exo a C none))
theorem pe_exv0 (h : HasEx0 X.K X.mg C x) (hg : Gl X x := by rfl) (hdb : (x == ("__debug__" : Str)) = false := by decide) : PE X (.Call (.Name x p) [] [] pos) (tExV0 C) := by
  obtain ⟨T, iC, hm⟩ := h
  refine ⟨fun pins s σ H Q I h => ?_⟩
  obtain ⟨nm, q, N, bs, bm, sn, sub, ab, col, dd, k0, k1, k2, k3, k5, hC, hbm⟩ := T.cls
  refine wpAny_Call_Name_kw (ld_glob I hg hm ?_ hdb)
  refine PySem.W.callWith_K0 I.kIn T.kC ?_
  show wpAny _ _ (call (.ref C) []) _ _ _
  obtain ⟨hp, g, dr, tk, os⟩ := s
  have hsz : hp.objs.size ≤ hp.objs.size + 1 := Nat.le_succ _
  refine wpAny_call (PySem.HandSPX.lbx_call0 F.excBase_ValueError (fun Y => PySem.HandSPX.refsVE_contains Y bm hbm) (I.kIn _ _ hC) (PySem.W.looks_findIn I.kIn iC) fun h' t1 k he => ?_)
  exact ⟨.ref (hp.objs.size + 1), _, I.laid (t' := tk) k hsz (exo_ok he), rfl, h _ (I.hok.fresh hsz)⟩
/-! ### isinstance of an error, its fields -/
/-- what is asked of a class of errors -/
structure ExK (K : PySem.W.Frag) (C : Addr) : Prop extends ExcC K C, OexC K C
theorem exo_inst {pins : List (Addr × Obj)} {σ : L2.St} {H : Hp} {s : Shared} {a : Addr} {d : Option Addr} (I : Inv X pins σ H s) (ha : H a = some (exo a C d)) (hd : ∀ dd, d = some dd → ∃ fs, H dd = some (exd dd fs)) :
    ∃ ox od, PySem.W.InstAt s.heap a ox C od := by
  obtain ⟨t1, he⟩ := exo_at I.hok ha
  cases d with
  | none => exact ⟨_, none, he, rfl, rfl, trivial⟩
  | some dd =>
    obtain ⟨fs, hf⟩ := hd dd rfl
    obtain ⟨mA, hns, _⟩ := exd_at I.hok hf
    obtain ⟨od, ho, _⟩ := lookIn_ns hns
    exact ⟨_, some od, he, rfl, rfl, ho⟩
def rIsO (K : PySem.W.Frag) (C : Addr) : List V → Hp → VK → Prop := fun xs H Q => ∃ (a : Addr) (d : Option Addr) (c : V) (cv : Value) (b : Bool), xs = [.ref a, c] ∧ H a = some (exo a C d) ∧ (∀ dd, d = some dd → ∃ fs, H dd = some (exd dd fs)) ∧
  ClsV c cv ∧ PySem.W.kitOne K (.ref C) cv = some b ∧ Q (.bl b) H
theorem call_isO : CallR X (.builtin "isinstance") (fun xs H Q => ∃ C, ExK X.K C ∧ rIsO X.K C xs H Q) := by
  intro pins s σ H xs us Q I r h
  obtain ⟨C, T, a, d, c, cv, b, rfl, ha, hd, hc, e, q⟩ := h
  obtain ⟨u1, u2, rfl, r1, r2⟩ := vals2 r
  cases r1
  have e2 := hc.eq r2
  subst e2
  obtain ⟨ox, od, J⟩ := exo_inst I ha hd
  exact PySem.W.kia_one (PySem.W.lbx_kit T.hg T.hk T.hs T.hd T.ha T.hn T.ht T.hm) I.kIn J e (fun z => nomatch z) fun tk => ⟨.bl b, H, I.tok tk, rfl, q⟩
theorem call_isOT : CallR X (.builtin "isinstance") (fun xs H Q => ∃ (C : Addr) (a : Addr) (d : Option Addr) (tp : Addr) (cs : List V) (ws : List Value) (b : Bool), ExK X.K C ∧ xs = [.ref a, .ref tp] ∧ H a = some (exo a C d) ∧ (∀ dd, d = some dd → ∃ fs, H dd = some (exd dd fs)) ∧
    H tp = some (.tup cs) ∧ Paired ClsV cs ws ∧ PySem.W.kitAny X.K (.ref C) ws = some b ∧ Q (.bl b) H) := by
  intro pins s σ H xs us Q I r h
  obtain ⟨C, a, d, tp, cs, ws, b, T, rfl, ha, hd, hT, k, e, q⟩ := h
  obtain ⟨u1, u2, rfl, r1, r2⟩ := vals2 r
  cases r1
  cases r2
  obtain ⟨ox, od, J⟩ := exo_inst I ha hd
  obtain ⟨_, its, rv, o, h1, h2, n, h3⟩ := (show ObjOk X.prog X.w H s.heap tp (.tup cs) from I.hok tp _ hT)
  have e3 := ClsV.all k rv
  subst e3
  obtain ⟨oc, od', dt, sl⟩ := o
  simp only at h2 h3
  subst h2 h3
  exact PySem.W.kia_tup (PySem.W.lbx_kit T.hg T.hk T.hs T.hd T.ha T.hn T.ht T.hm) I.kIn J h1 e (fun z => nomatch z) fun tk => ⟨.bl b, H, I.tok tk, rfl, q⟩
/-- e.n, e an error -/
def tExF (K : PySem.W.Frag) (n : Str) (te : TE) : TE := fun σ H Q => te σ H fun x H1 => ∃ (a C dd : Addr) (fs : List (Str × V)) (v : V), x = .ref a ∧ ExK K C ∧ PySem.W.findIn K (.ref C) n = some none ∧ H1 a = some (exo a C (some dd)) ∧ H1 dd = some (exd dd fs) ∧ fs.lookup n = some v ∧ Q v H1
theorem pe_exf {n : Str} {o : Expr} {te : TE} (he : PE X o te) (hb : attributeBase o n X.env (eval o X.env) = eval o X.env := by rfl) : PE X (.Attribute o n pos) (tExF X.K n te) := by
  refine ⟨fun pins s σ H Q I h => ?_⟩
  refine attr_of hb (thn (he.run pins s σ H _ I h) fun u s1 hh => ?_)
  obtain ⟨x, H1, I1, rx, a, C, dd, fs, v, ex, T, hno, ha, hf, l, q⟩ := hh
  subst ex
  obtain rfl : u = Value.ref a := rx
  obtain ⟨t1, hee⟩ := exo_at I1.hok ha
  obtain ⟨mA, hns, hr⟩ := exd_at I1.hok hf
  obtain ⟨od, ho, hl⟩ := lookIn_ns hns
  obtain ⟨u, hu, ru⟩ := RelO.some_of (v := v) (o := mA n) (by rw [← l]; exact hr n)
  have J : PySem.W.InstAt s1.heap a _ C (some od) := ⟨hee, rfl, rfl, ho⟩
  exact HandSPX.exc_get I1.kIn J T.hg T.hk T.hs (PySem.W.findObj_own T.hd hno rfl (by rw [hl, hu])) (handed_of ru) ⟨v, H1, I1.tok _, ru, q⟩
end
end LB

namespace LB
open PySem L2 PyProof.Rows
/-! ### values and cells -/
/-- the letters a to z -/
def small : List Nat := (List.range 26).map (· + 97)
/-- two to four different letters a to z -/
structure Good (z : Str) : Prop where
  lo : 2 ≤ z.cps.size
  hi : z.cps.size ≤ 4
  az : ∀ c ∈ z.cps.toList, c ∈ small
  nd : z.cps.toList.Nodup
/-- the letters of a cell: those at the bits of its number -/
def subL (z : Str) (n i : Nat) : List Nat := ((List.range i).filter fun k => n.testBit k).map fun k => z.cps.getD k 0
def cellT (z : Str) (n : Nat) : Str := ⟨(subL z n z.cps.size).toArray⟩
/-- the attributes of a cell, of values -/
def cellF (p : Addr) (n : Int) (t : Str) : List (Str × V) := putF "letters" (.str t) (putF "number" (.int n) (putF "alphabet" (.ref p) []))
def valF (z : Str) (t : Addr) : List (Str × V) := putF "by_number" (.ref t) (putF "letters" (.str z) [])
theorem cellF_let {p : Addr} {n : Int} {t : Str} : (cellF p n t).lookup ("letters" : Str) = some (.str t) := by
  unfold cellF; rw [lookup_putF, if_pos rfl]
theorem cellF_num {p : Addr} {n : Int} {t : Str} : (cellF p n t).lookup ("number" : Str) = some (.int n) := by
  unfold cellF; rw [lookup_putF, if_neg (by decide +kernel), lookup_putF, if_pos rfl]
theorem cellF_alp {p : Addr} {n : Int} {t : Str} : (cellF p n t).lookup ("alphabet" : Str) = some (.ref p) := by
  unfold cellF; rw [lookup_putF, if_neg (by decide +kernel), lookup_putF, if_neg (by decide +kernel), lookup_putF, if_pos rfl]
theorem valF_let {z : Str} {t : Addr} : (valF z t).lookup ("letters" : Str) = some (.str z) := by
  unfold valF; rw [lookup_putF, if_neg (by decide +kernel), lookup_putF, if_pos rfl]
theorem valF_by {z : Str} {t : Addr} : (valF z t).lookup ("by_number" : Str) = some (.ref t) := by
  unfold valF; rw [lookup_putF, if_pos rfl]
theorem cellF_no {p : Addr} {n : Int} {t m : Str} (h1 : ¬ m = "letters") (h2 : ¬ m = "number") (h3 : ¬ m = "alphabet") : (cellF p n t).lookup m = none := by
  unfold cellF; rw [lookup_putF, if_neg h1, lookup_putF, if_neg h2, lookup_putF, if_neg h3]; rfl
theorem valF_no {z m : Str} {t : Addr} (h1 : ¬ m = "by_number") (h2 : ¬ m = "letters") : (valF z t).lookup m = none := by
  unfold valF; rw [lookup_putF, if_neg h1, lookup_putF, if_neg h2]; rfl
/-- a cell at c: of the values at p with the letters z, the one of the number n; CC: the class -/
def CellAt (CC : Addr) (H : Hp) (c p : Addr) (z : Str) (n : Nat) : Prop := ∃ dc, H c = some (.ins CC dc (cellF p n (cellT z n)))
/-- values at p with the letters z, their cells at cs -/
structure ValsAt (CV CC : Addr) (H : Hp) (p : Addr) (z : Str) (cs : List Addr) : Prop where
  ob : ∃ dx t, H p = some (.ins CV dx (valF z t)) ∧ H t = some (.tup (cs.map V.ref))
  good : Good z
  len : cs.length = 2 ^ z.cps.size
  cell : ∀ i c, cs[i]? = some c → CellAt CC H c p z i
theorem CellAt.same {CC : Addr} {H H' : Hp} {c p : Addr} {z : Str} {n : Nat} (h : CellAt CC H c p z n) (s : Same H H') : CellAt CC H' c p z n := let ⟨dc, e⟩ := h; ⟨dc, s _ _ e⟩
theorem ValsAt.same {CV CC : Addr} {H H' : Hp} {p : Addr} {z : Str} {cs : List Addr} (h : ValsAt CV CC H p z cs) (s : Same H H') : ValsAt CV CC H' p z cs :=
  ⟨let ⟨dx, t, e1, e2⟩ := h.ob; ⟨dx, t, s _ _ e1, s _ _ e2⟩, h.good, h.len, fun i c e => (h.cell i c e).same s⟩
theorem subL_succ (z : Str) (n i : Nat) : subL z n (i + 1) = subL z n i ++ (if n.testBit i then [z.cps.getD i 0] else []) := by
  unfold subL
  rw [List.range_succ, List.filter_append, List.map_append]
  congr 1
  by_cases h : n.testBit i = true
  · rw [if_pos h, List.filter_cons, if_pos h]; rfl
  · rw [if_neg h, List.filter_cons, if_neg h]; rfl
theorem subL_len (z : Str) (n i : Nat) : (subL z n i).length ≤ i := by
  unfold subL
  rw [List.length_map]
  exact Nat.le_trans (List.length_filter_le _ _) (by rw [List.length_range]; exact Nat.le_refl _)
/-- the signs of codes -/
def sgs (l : List Nat) : List Str := l.map fun c => (⟨#[c]⟩ : Str)
theorem sgs_append (a b : List Nat) : sgs (a ++ b) = sgs a ++ sgs b := by simp [sgs]
theorem join_sgs (l : List Nat) : Txt.join Str.empty (sgs l) = ⟨l.toArray⟩ := by
  show PySem.Builtin.Str.glued Str.empty (sgs l) = _
  unfold PySem.Builtin.Str.glued
  have go : ∀ (r : List Nat) (acc : Array Nat), (sgs r).foldl (fun acc p => acc ++ (Str.empty : Str).cps ++ p.cps) acc = acc ++ r.toArray := by
    intro r
    induction r with
    | nil => intro acc; simp [sgs]
    | cons c r ih =>
      intro acc
      show (sgs r).foldl _ (acc ++ (#[] : Array Nat) ++ #[c]) = _
      rw [ih, Array.append_empty]
      simp
  congr 1
  cases l with
  | nil => rfl
  | cons c r =>
    show (sgs r).foldl _ #[c] = _
    rw [go]
    simp
/-- a bit of a number, as the program asks it -/
theorem bit_shift (n k : Nat) : Builtin.bitAnd ((n : Int) / 2 ^ ((k : Int)).toNat) 1 = if n.testBit k then 1 else 0 := by
  have e : ((n : Int) / 2 ^ ((k : Int)).toNat) = ((n / 2 ^ k : Nat) : Int) := by
    rw [Int.toNat_natCast]
    exact (Int.natCast_ediv n (2 ^ k)).symm ▸ by simp
  rw [e, PyProof.Rows.bitAnd_pp (Int.natCast_nonneg _) (by omega), Int.toNat_natCast]
  show (((n / 2 ^ k) &&& 1 : Nat) : Int) = _
  rw [Nat.and_one_is_mod]
  have h := Nat.testBit_eq_decide_div_mod_eq (x := n) (i := k)
  by_cases hb : n.testBit k = true
  · rw [if_pos hb]
    rw [hb] at h
    have := of_decide_eq_true h.symm
    rw [this]; rfl
  · rw [if_neg hb]
    have hb' : n.testBit k = false := by simpa using hb
    rw [hb'] at h
    have := of_decide_eq_false h.symm
    have h2 : n / 2 ^ k % 2 = 0 := by omega
    rw [h2]; rfl
end LB

namespace LB
open PySem L2 PyProof.Rows
/-! ### rules inside of a comprehension: what they read is read in the def around it -/
def tTr (K : PySem.W.Frag) (ta : TE) : TT := fun σ H Q => ta σ H fun x H' => ∃ k, TruV K x H' k ∧ Q k H'
section
variable {X : Cx} {s : Shared} {H : Hp} {sc : Scope} {ev : Env} {fp : List Addr} {a b o e : Expr} {ta tb te : TE} {pos : Pos} {f : Str}
theorem pg_tupB {es : List Expr} {k : Nat} {t : TGs} {n : Nat} (hc : (X.blk s H sc ev fp).calm = true) (h : PGs (X.blk s H sc ev fp) es t)
    (hn : (assignEach es (X.blk s H sc ev fp).env).length = n := by rfl) (hst : (assignEach es (X.blk s H sc ev fp).env).findIdx? (·.1) = none := by rfl) : PG (X.blk s H sc ev fp) (.Tuple es k pos) (gTup X.K n t) := pg_tup hc h hn hst
theorem pt_truthB (ha : PE (X.blk s H sc ev fp) a ta) (he : ∀ whole, isTrue a (X.blk s H sc ev fp).env whole = (do let v ← whole; standAt a.pos; holding [v] (truthy v))) :
    PT (X.blk s H sc ev fp) a (tTr X.K ta) := pt_truth ha he
theorem pe_fldB (he : PE (X.blk s H sc ev fp) e ta) (hb : attributeBase e f (X.blk s H sc ev fp).env (eval e (X.blk s H sc ev fp).env) = eval e (X.blk s H sc ev fp).env) : PE (X.blk s H sc ev fp) (.Attribute e f pos) (tFld X.K ta f) := pe_fld he hb
theorem ix_listB : IxR (X.blk s H sc ev fp) (rIxL X.K) := ix_list
theorem ix_tupB : IxR (X.blk s H sc ev fp) (rIxT X.K) := ix_tup
theorem sl_listB : SlR (X.blk s H sc ev fp) (rSlL X.K) := sl_list
theorem call_lenB : CallR (X.blk s H sc ev fp) (.builtin "len") (fun xs H Q => ∃ x n, xs = [x] ∧ LenV X.K x H n ∧ Q (.int n) H) := call_len
theorem call_isiB : CallR (X.blk s H sc ev fp) (.builtin "isinstance") (rIsi X.K) := call_isi
theorem call_isOB : CallR (X.blk s H sc ev fp) (.builtin "isinstance") (fun xs H Q => ∃ C, ExK X.K C ∧ rIsO X.K C xs H Q) := call_isO
theorem op_eqDB (hu : X.A.units + 64 < cLine) : OpR (X.blk s H sc ev fp) (compareOp .Eq) (rEqD X.K) := op_eqD hu
theorem op_neDB (hu : X.A.units + 64 < cLine) : OpR (X.blk s H sc ev fp) (compareOp .NotEq) (rNeD X.K) := op_neD hu
end
end LB

namespace LB
open PySem L2 PyProof.Rows
/-! ### == of lists whose items are the same -/
def DRef : Eqv := fun x y _ => ∃ a, x = .ref a ∧ y = .ref a
theorem eqG_ref {X : Cx} : EqG X 0 DRef := by
  intro A pins s σ H x y u v sb I rx ry d
  obtain ⟨a, rfl, rfl⟩ := d
  cases rx
  cases ry
  exact PySem.SeqAt.EqAt.same _ X.prog X.w X.xe _ ⟨rfl, H, I, Ext.rfl'⟩
def DSm : Eqv := fun x y H => DFlat x y H ∨ DRef x y H
theorem mon_sm : Mon DSm := Mon.or mon_flat fun _ _ _ _ _ d => d
theorem op_eqSm {X : Cx} (hr : Room 1 X.A) : OpR X (compareOp .Eq) (rEqG (DList DSm)) := op_eqG (rcG_list mon_sm (eqG_flat.or eqG_ref)) hr
theorem eqV_refl {x : V} (h : flatV x = true) : eqV x x = true := by
  cases x <;> first | rfl | exact beq_self_eq_true _ | cases h
theorem prs_same {xs : List V} {H : Hp} (h : ∀ x ∈ xs, flatV x = true ∨ ∃ a, x = .ref a) : Prs DSm xs xs H :=
  ⟨rfl, fun i x y h1 h2 => by
    rw [h1] at h2
    cases h2
    rcases h x (List.mem_of_getElem? h1) with f | ⟨a, e⟩
    · exact .inl ⟨f, f, eqV_refl f⟩
    · exact .inr ⟨a, e, e⟩⟩
/-! ### values that may stand in an error -/
theorem TyX.keep {K : PySem.W.Frag} {H H' : Hp} {a : Addr} {t : Value} (h : TyX K H (.ref a) t) (k : ∀ o, H a = some o → H' a = some o) : TyX K H' (.ref a) t := by
  cases h with
  | base b =>
    cases b with
    | lst e => exact .base (.lst (k _ e))
    | frz e => exact .base (.frz (k _ e))
    | tup e => exact .base (.tup (k _ e))
    | dK e => exact .base (.dK (k _ e))
    | dT e => exact .base (.dT (k _ e))
    | ins e cl ha hn htk hm => exact .base (.ins (k _ e) cl ha hn htk hm)
  | set e => exact .set (k _ e)
  | kList e c => exact .kList e c
  | kTuple e c => exact .kTuple e c
  | kDict e c => exact .kDict e c
  | fTuple e => exact .fTuple (k _ e)
  | fDict e => exact .fDict (k _ e)
/-- a value of which it is known whether it is a bool -/
def Tame (K : PySem.W.Frag) (p : Addr) (H : Hp) (x : V) : Prop := (flatV x = true ∨ ∃ a, x = .ref a ∧ a ≠ p) ∧ ∃ t b, TyX K H x t ∧ PySem.W.kitOne K t (.type "bool") = some b
theorem Tame.but {K : PySem.W.Frag} {p : Addr} {H H' : Hp} {x : V} (h : Tame K p H x) (b : But p H H') : Tame K p H' x := by
  obtain ⟨f, t, c, ty, k⟩ := h
  refine ⟨f, t, c, ?_, k⟩
  rcases f with f | ⟨a, rfl, n⟩
  · cases x with
    | non => cases ty with | base b => cases b; exact .base .non
    | bl y => cases ty with | base b => cases b; exact .base (.bl y)
    | int y => cases ty with | base b => cases b; exact .base (.int y)
    | str y => cases ty with | base b => cases b; exact .base (.str y)
    | byt y => cases f
    | flt y => cases f
    | ref y => cases f
    | ty y => cases f
  · exact LB.TyX.keep ty fun o e => b _ _ e n
theorem Tame.flat {K : PySem.W.Frag} {p : Addr} {H : Hp} {x : V} (h : Tame K p H x) : flatV x = true ∨ ∃ a, x = .ref a := h.1.imp id fun ⟨a, e, _⟩ => ⟨a, e⟩
/-! ### errors on the abstract heap -/
/-- an error of the class C at a, with these attributes (the last one first) -/
def ErrAt (H : Hp) (a C : Addr) (fs : List (Str × V)) : Prop := ∃ d, H a = some (exo a C d) ∧ ((d = none ∧ fs = []) ∨ ∃ dd, d = some dd ∧ H dd = some (exd dd fs))
theorem ErrAt.same {H H' : Hp} {a C : Addr} {fs : List (Str × V)} (h : ErrAt H a C fs) (s : Same H H') : ErrAt H' a C fs :=
  let ⟨d, e, k⟩ := h
  ⟨d, s _ _ e, k.imp id fun ⟨dd, e1, e2⟩ => ⟨dd, e1, s _ _ e2⟩⟩
theorem ErrAt.dd {H : Hp} {a C : Addr} {fs : List (Str × V)} (h : ErrAt H a C fs) : ∃ d, H a = some (exo a C d) ∧ ∀ dd, d = some dd → ∃ fs, H dd = some (exd dd fs) :=
  let ⟨d, e, k⟩ := h
  ⟨d, e, fun dd q => by
    rcases k with ⟨e1, _⟩ | ⟨d1, e1, e2⟩
    · rw [e1] at q; cases q
    · rw [e1] at q; cases q; exact ⟨fs, e2⟩⟩
theorem ErrAt.fld {H : Hp} {a C : Addr} {f : Str} {v : V} {fs : List (Str × V)} (h : ErrAt H a C ((f, v) :: fs)) : ∃ dd, H a = some (exo a C (some dd)) ∧ H dd = some (exd dd ((f, v) :: fs)) :=
  let ⟨d, e, k⟩ := h
  k.elim (fun ⟨_, z⟩ => by cases z) fun ⟨dd, e1, e2⟩ => ⟨dd, e1 ▸ e, e2⟩
/-- C.__init__(self, f), C.__init__(self, f, g) -/
def spE1 (C : Addr) (f : Str) : Sp := fun vs H Q _ => ∃ a x, vs = [.ref a, x] ∧ H a = some (exo a C none) ∧ ∀ H', But a H H' → ErrAt H' a C [(f, x)] → Q .non H'
def spE2 (C : Addr) (f g : Str) : Sp := fun vs H Q _ => ∃ a x y, vs = [.ref a, x, y] ∧ H a = some (exo a C none) ∧ ∀ H', But a H H' → ErrAt H' a C [(g, y), (f, x)] → Q .non H'
end LB

namespace LB
open PySem L2 PySem.Spec PyProof.Rows
/-! ### an error that is kept behind the clause that caught it -/
/-- at e: an error of the class at C that has been raised, its dict at d -/
def exr (e C : Addr) (d : Option Addr) : HO := .ext fun h => ∃ (o : Obj) (vs : Array Value), h.get? e = some o ∧ o.cls = .ref C ∧ o.dict = d ∧ o.data = .fields vs
theorem exr_ok {P : Program} {w : World} {H : Hp} {h : Heap} {e C : Addr} {d : Option Addr} {o : Obj} {vs : Array Value} (he : h.get? e = some o) (h1 : o.cls = .ref C) (h2 : o.dict = d) (h3 : o.data = .fields vs) : ObjOk P w H h e (exr e C d) :=
  ⟨⟨o, vs, he, h1, h2, h3⟩, ⟨o, he⟩, fun _ _ z k => let ⟨o', vs', q, r⟩ := z; ⟨o', vs', k _ q, r⟩⟩
theorem exr_at {P : Program} {w : World} {H : Hp} {h : Heap} {e C : Addr} {d : Option Addr} (hok : HOk P w H h) (he : H e = some (exr e C d)) : ∃ (o : Obj) (vs : Array Value), h.get? e = some o ∧ o.cls = .ref C ∧ o.dict = d ∧ o.data = .fields vs := by
  have x : ObjOk P w H h e (.ext fun h => ∃ (o : Obj) (vs : Array Value), h.get? e = some o ∧ o.cls = .ref C ∧ o.dict = d ∧ o.data = .fields vs) := hok e _ he
  exact x.1
section
variable {X : Cx} {pins : List (Addr × Obj)} {σ : L2.St} {H : Hp} {s : Shared}
/-- a pinned error that is newer than the body is tracked -/
theorem track {a C : Addr} {oe : Obj} {d : Option Addr} {vs : Array Value} (I : Inv X ((a, oe) :: pins) σ H s) (hc : oe.cls = .ref C) (hdd : oe.dict = d) (hv : oe.data = .fields vs) (new : X.s_0.heap.get? a = none) (fresh : ∀ p ∈ X.pn ++ pins, p.1 ≠ a) :
    Inv X pins σ (upd H a (exr a C d)) s := by
  obtain ⟨ea, na, nL, nF, _⟩ := I.pin (a, oe) (List.mem_append_right _ List.mem_cons_self)
  have old : ∀ {b o}, X.s_0.heap.get? b = some o → b ≠ a := fun {b o} e z => by rw [z, new] at e; cases e
  have trk : ∀ {b o}, H b = some o → b ≠ a := fun {b o} e => ne_of_none e na
  refine ⟨I.ok, I.os, I.bare, ⟨I.base.keep, I.base.slot, fun b o e n x => ?_, I.base.there, fun b xs e => ?_, fun b o u e => ?_, fun b ps e => ?_⟩, I.loc, I.cell, ?_, fun x c e => ?_, fun p hp => ?_, fun b u e => ?_, I.len⟩
  · rw [upd_ne (old e)]; exact I.base.free b o e n x
  · have q := I.base.tups b xs e
    rw [upd_ne (trk q)]; exact q
  · have q := I.base.frzs b o u e
    rw [upd_ne (trk q)]; exact q
  · obtain ⟨more, q⟩ := I.base.tbls b ps e
    exact ⟨more, by rw [upd_ne (trk q)]; exact q⟩
  · rw [upd_ne nL.symm]; exact I.free
  · have cne : c ≠ a := fun z => by
      obtain ⟨v, q⟩ := I.cell x c e
      subst z
      have q' := q
      rw [Heap.IsCell, ea] at q'
      obtain ⟨o', q1, q2⟩ := q'
      cases q1
      have q3 : oe.data = .cell v := q2
      rw [q3] at hv
      cases hv
    rw [upd_ne cne]; exact I.freeC x c e
  · obtain ⟨q1, q2, q3⟩ := I.pin p (by
      rcases List.mem_append.mp hp with h | h
      · exact List.mem_append_left _ h
      · exact List.mem_append_right _ (List.mem_cons_of_mem _ h))
    exact ⟨q1, by rw [upd_ne (fresh p hp)]; exact q2, q3⟩
  · by_cases hb : b = a
    · subst hb
      rw [upd_same] at e
      cases e
      exact exr_ok ea hc hdd hv
    · rw [upd_ne hb] at e
      exact (I.hok b u e).stay (fun _ _ _ q => q) (fun c q => by rw [upd_ne (trk q)]; exact q) fun c xs q => by rw [upd_ne (trk q)]; exact q
end
/-- what is asked of each error of the body: the clause takes it; behind its suite the error stands at its address -/
def wKp (K : PySem.W.Frag) (c : Value) (i : Nat) (ts : Addr → Value → Option Addr → TS) (D : Ends) : WX := fun cls d σ H => PySem.W.exmOne K cls c = some true ∧ ∃ C, cls = .ref C ∧
  ∀ a, H a = none → ts a cls d { nx := fun σ' H' => D.nx (σ'.set i none) (upd H' a (exr a C d)), rt := fun _ _ => False, bk := fun _ _ => False, ct := fun _ _ => False } (σ.set i (some (.ref a))) H
section
variable {X : Cx} {x n : Str} {c : Value} {i : Nat} {body suite : List Stmt} {b0 : Stmt} {np pos pos' : Pos} {tb : WX → TS} {ts : Addr → Value → Option Addr → TS}
theorem ps_try_keep (hst : X.stack = X.env :: X.outer) (hfrm : X.env.frame = some X.env.locals) (nex : X.ex = []) (nd : X.N.Nodup) (hi : X.N[i]? = some n) (hloc : X.env.kindOf n = some .local) (nm : Names X x c)
    (hbody : ∀ (W : WX) (pn : List (Addr × Obj)) (xe : Value → Shared → Prop), Takes (X.tr pn xe) W → PassesOwn (model X.prog X.w) X.A X.env xe → PSs (X.tr pn xe) body (tb W))
    (hsuite : ∀ (a : Addr) (oe : Obj) (cls : Value) (d : Option Addr) (pn : List (Addr × Obj)), Zc cls d oe → (∃ vs, oe.data = .fields vs) → PSs (X.suite a ((a, oe) :: pn)) (b0 :: suite) (ts a cls d)) :
    PS X (.Try body [.ExceptHandler (some (.Name x np)) (some n) (b0 :: suite) pos'] [] [] pos) (fun D σ H => tb (wKp X.K c i ts D) D σ H) := by
  refine ⟨fun pins s σ H D I hh => wpAny_Try_except ?_⟩
  have stk : X.A.frames = some (X.env :: X.outer) := by rw [I.ok.frames, hst]
  refine wpAny_mono ((hbody (wKp X.K c i ts D) (X.pn ++ pins) _ (fun u s' raised => ?_) PassesOwn.looking).run [] s σ H D (I.toTry _) hh) (fun f s1 r => ?_) (fun e s1 z => z)
  · obtain ⟨a, B, sI, p0, σ', H', cls, d, rfl, Jt, ground, grow, sky, na, os, bare, hex, C, rfl, cont⟩ := raised
    have J : Inv X pins σ' H' sI := Jt.ofTry I.ok
    rw [show (X.tr (X.pn ++ pins) _).stack = X.env :: X.outer from hst] at sky
    refine Sky.land Zc.steady stk hfrm sky fun h3 fl3 g3 => ?_
    have J3 : Inv X pins σ' H' { s' with heap := h3 } := J.landed ground fl3.1 (grow.trans g3) os bare
    obtain ⟨o3, v3, e3, z3, d3⟩ := fl3.there
    have out : ∀ {o : Obj} {vs : Array Value} {h : Heap}, HandSPX.FlyingZ B (X.env :: X.outer) a (Zc (.ref C) d) h → h.get? a = some o → o.data = .fields vs → a ∉ frs (X.env :: X.outer) := fun {o vs h} fl e dd hm => by
      obtain ⟨_, o', e', q⟩ := fl.2.2.1.mem hm
      rw [e] at e'
      cases e'
      exact q _ dd
    have nfr := out fl3 e3 d3
    have nL : a ≠ X.env.locals := fun z => nfr (List.mem_filterMap.mpr ⟨X.env, List.mem_cons_self, by rw [hfrm, z]⟩)
    have nF : a ∉ X.fs := fun hm => by
      obtain ⟨e, he, q⟩ := List.mem_filterMap.mp hm
      exact nfr (List.mem_filterMap.mpr ⟨e, List.mem_cons_of_mem _ he, q⟩)
    -- the error is newer than the state the body left
    have newI : sI.heap.get? a = none := by
      cases e : sI.heap.get? a with
      | none => rfl
      | some o =>
        have := ground a o e (by rw [show (X.tr (X.pn ++ pins) _).stack = X.env :: X.outer from hst]; exact nfr)
        rw [fl3.2.1] at this
        cases this
    have new0 : X.s_0.heap.get? a = none := by
      cases e : X.s_0.heap.get? a with
      | none => rfl
      | some o =>
        by_cases hx : a ∈ X.ex
        · rw [nex] at hx
          cases hx
        · obtain ⟨o', q⟩ := J.base.there a o e hx
          rw [newI] at q
          cases q
    have freshp : ∀ p ∈ X.pn ++ pins, p.1 ≠ a := fun p hp z => by
      have q := (J.pin p hp).1
      rw [z, newI] at q
      cases q
    have S3 := J3.suite e3 d3 na nL nF
    have LT : PySem.W.Looks (model X.prog X.w) h3 (typeOf (.ref a)) (.ref C) := fun A Q E s k q => wpAny_typeOf_ref (k _ _ e3) (by rw [z3.1]; exact q)
    refine wpAny_handleBy_cons (codeAny_handlers_test ?_) (by intro q; cases q)
    have test : ∀ {Q : Value → Shared → Prop} {E : Value → Shared → Prop}, Q c { s' with heap := h3 } → wpAny (model X.prog X.w) (X.A.mark (some (.ref a))) (eval (.Name x np) X.env) Q E { s' with heap := h3 } := fun {Q E} q => by
      obtain ⟨hg, hdb, hm⟩ := nm
      rcases hm with hm | ⟨hm, hv, hnn⟩
      · exact ld_glob (X := X.suite a ((a, o3) :: (X.pn ++ pins))) S3 hg hm q hdb
      · exact ld_blt (X := X.suite a ((a, o3) :: (X.pn ++ pins))) S3 hg hm hv q hnn hdb
    refine test ((PySem.W.exm_one (M := model X.prog X.w) J3.kIn LT hex).here ?_)
    refine codeAny_handlers_suite_as (HandSPX.lands_againZ fl3 fun h4 fl4 g4 => ?_)
    have J4 : Inv X pins σ' H' { s' with heap := h4 } := J.landed ground fl4.1 ((grow.trans g3).trans g4) os bare
    obtain ⟨o4, v4, e4, z4, d4⟩ := fl4.there
    refine store_ok (X := X.suite a ((a, o4) :: (X.pn ++ pins))) (v := .ref a) (J4.suite e4 d4 na nL nF) nd hi (.inl hloc) rfl (fun s5 S5 => ?_) (.inr hloc)
    refine wpAny_mono ((hsuite a o4 (.ref C) d (X.pn ++ pins) z4 ⟨_, d4⟩).run [] s5 _ H' _ S5 (cont a na)) (fun f s6 r => ?_) (fun _ _ z => False.elim z)
    cases f with
    | brk => exact False.elim (let ⟨_, _, _, q⟩ := r; q)
    | cont => exact False.elim (let ⟨_, _, _, q⟩ := r; q)
    | ret u => exact False.elim (let ⟨_, _, _, _, _, q⟩ := r; q)
    | next =>
      obtain ⟨σ6, H6, S6, q6⟩ := r
      have K6 : Inv X ((a, o4) :: pins) σ6 H6 s6 := ⟨I.ok, S6.os, S6.bare, S6.base, S6.loc, S6.cell, S6.free, S6.freeC, fun p hp => S6.pin p (List.mem_append_left _ (by
        rcases List.mem_append.mp hp with h | h
        · exact List.mem_cons_of_mem _ (List.mem_append_left _ h)
        · rcases List.mem_cons.mp h with h | h
          · rw [h]; exact List.mem_cons_self
          · exact List.mem_cons_of_mem _ (List.mem_append_right _ h))), S6.hok, S6.len⟩
      exact gone_ok K6 nd hi hloc fun s7 J7 => ⟨_, _, track J7 z4.1 z4.2 d4 new0 freshp, q6⟩
  · cases f with
    | next =>
      obtain ⟨σ', H', J', q⟩ := r
      exact wpAny_execs_nil ⟨σ', H', J'.ofTry I.ok, q⟩
    | brk =>
      obtain ⟨σ', H', J', q⟩ := r
      exact ⟨σ', H', J'.ofTry I.ok, q⟩
    | cont =>
      obtain ⟨σ', H', J', q⟩ := r
      exact ⟨σ', H', J'.ofTry I.ok, q⟩
    | ret u =>
      obtain ⟨v, σ', H', J', rr, q⟩ := r
      exact ⟨v, σ', H', J'.ofTry I.ok, rr, q⟩
end
section
variable {X : Cx}
/-- a kept error of the class C at a: its attributes fs, none where d is none -/
def KeptAt (H : Hp) (a C : Addr) (d : Option Addr) (fs : List (Str × V)) : Prop := H a = some (exr a C d) ∧ ((d = none ∧ fs = []) ∨ ∃ dd, d = some dd ∧ H dd = some (.xd fs))
theorem KeptAt.same {H H' : Hp} {a C : Addr} {d : Option Addr} {fs : List (Str × V)} (h : KeptAt H a C d fs) (s : Same H H') : KeptAt H' a C d fs := ⟨s _ _ h.1, h.2.imp id fun ⟨dd, e1, e2⟩ => ⟨dd, e1, s _ _ e2⟩⟩
theorem kept_inst {pins : List (Addr × Obj)} {σ : L2.St} {H : Hp} {s : Shared} {a C : Addr} {d : Option Addr} {fs : List (Str × V)} (I : Inv X pins σ H s) (h : KeptAt H a C d fs) : ∃ ox od, PySem.W.InstAt s.heap a ox C od := by
  obtain ⟨o, vs, he, h1, h2, h3⟩ := exr_at I.hok h.1
  have hn : PySem.W.notCls o = true := by unfold PySem.W.notCls; rw [h3]
  rcases h.2 with ⟨rfl, _⟩ | ⟨dd, rfl, hf⟩
  · exact ⟨o, none, he, h1, hn, by rw [h2]; trivial⟩
  · obtain ⟨mA, hns, _⟩ := (show ∃ mA, s.heap.Ns1 dd mA ∧ ∀ f, RelO (fs.lookup f) (mA f) from I.hok dd _ hf)
    obtain ⟨od, ho, _⟩ := lookIn_ns hns
    exact ⟨o, some od, he, h1, hn, by rw [h2]; exact ho⟩
def rIsR (K : PySem.W.Frag) : List V → Hp → VK → Prop := fun xs H Q => ∃ (C a : Addr) (d : Option Addr) (fs : List (Str × V)) (c : V) (cv : Value) (b : Bool), ExK K C ∧ xs = [.ref a, c] ∧ KeptAt H a C d fs ∧ ClsV c cv ∧ PySem.W.kitOne K (.ref C) cv = some b ∧ Q (.bl b) H
theorem call_isR : CallR X (.builtin "isinstance") (rIsR X.K) := by
  intro pins s σ H xs us Q I r h
  obtain ⟨C, a, d, fs, c, cv, b, T, rfl, ha, hc, e, q⟩ := h
  obtain ⟨u1, u2, rfl, r1, r2⟩ := vals2 r
  cases r1
  have e2 := hc.eq r2
  subst e2
  obtain ⟨ox, od, J⟩ := kept_inst I ha
  exact PySem.W.kia_one (PySem.W.lbx_kit T.hg T.hk T.hs T.hd T.ha T.hn T.ht T.hm) I.kIn J e (fun z => nomatch z) fun tk => ⟨.bl b, H, I.tok tk, rfl, q⟩
def rIsRT (K : PySem.W.Frag) : List V → Hp → VK → Prop := fun xs H Q => ∃ (C a : Addr) (d : Option Addr) (fs : List (Str × V)) (tp : Addr) (cs : List V) (ws : List Value) (b : Bool), ExK K C ∧ xs = [.ref a, .ref tp] ∧ KeptAt H a C d fs ∧ H tp = some (.tup cs) ∧ Paired ClsV cs ws ∧ PySem.W.kitAny K (.ref C) ws = some b ∧ Q (.bl b) H
theorem call_isRT : CallR X (.builtin "isinstance") (rIsRT X.K) := by
  intro pins s σ H xs us Q I r h
  obtain ⟨C, a, d, fs, tp, cs, ws, b, T, rfl, ha, hT, k, e, q⟩ := h
  obtain ⟨u1, u2, rfl, r1, r2⟩ := vals2 r
  cases r1
  cases r2
  obtain ⟨ox, od, J⟩ := kept_inst I ha
  obtain ⟨_, its, rv, o, h1, h2, n, h3⟩ := (show ObjOk X.prog X.w H s.heap tp (.tup cs) from I.hok tp _ hT)
  have e3 := ClsV.all k rv
  subst e3
  obtain ⟨oc, od', dt, sl⟩ := o
  simp only at h2 h3
  subst h2 h3
  exact PySem.W.kia_tup (PySem.W.lbx_kit T.hg T.hk T.hs T.hd T.ha T.hn T.ht T.hm) I.kIn J h1 e (fun z => nomatch z) fun tk => ⟨.bl b, H, I.tok tk, rfl, q⟩
/-- e.n, e a kept error -/
def tExR (K : PySem.W.Frag) (n : Str) (te : TE) : TE := fun σ H Q => te σ H fun x H1 => ∃ (a C dd : Addr) (fs : List (Str × V)) (v : V), x = .ref a ∧ ExK K C ∧ PySem.W.findIn K (.ref C) n = some none ∧ H1 a = some (exr a C (some dd)) ∧ H1 dd = some (.xd fs) ∧ fs.lookup n = some v ∧ Q v H1
theorem pe_exr {n : Str} {o : Expr} {te : TE} {pos : Pos} (he : PE X o te) (hb : attributeBase o n X.env (eval o X.env) = eval o X.env := by rfl) : PE X (.Attribute o n pos) (tExR X.K n te) := by
  refine ⟨fun pins s σ H Q I h => ?_⟩
  refine attr_of hb (thn (he.run pins s σ H _ I h) fun u s1 hh => ?_)
  obtain ⟨x, H1, I1, rx, a, C, dd, fs, v, ex, T, hno, ha, hf, l, q⟩ := hh
  subst ex
  obtain rfl : u = Value.ref a := rx
  obtain ⟨o1, vs, hee, h1, h2, h3⟩ := exr_at I1.hok ha
  obtain ⟨mA, hns, hr⟩ := (show ∃ mA, s1.heap.Ns1 dd mA ∧ ∀ f, RelO (fs.lookup f) (mA f) from I1.hok dd _ hf)
  obtain ⟨od, ho, hl⟩ := lookIn_ns hns
  obtain ⟨u, hu, ru⟩ := RelO.some_of (v := v) (o := mA n) (by rw [← l]; exact hr n)
  have hn : PySem.W.notCls o1 = true := by unfold PySem.W.notCls; rw [h3]
  have J : PySem.W.InstAt s1.heap a o1 C (some od) := ⟨hee, h1, hn, by rw [h2]; exact ho⟩
  exact HandSPX.exc_get I1.kIn J T.hg T.hk T.hs (PySem.W.findObj_own T.hd hno rfl (by rw [hl, hu])) (handed_of ru) ⟨v, H1, I1.tok _, ru, q⟩
end
end LB

namespace LB
open PySem L2 PySem.Spec PyProof.Rows
/-! ### calls that may raise, inside of a try or on the way out; raising an own error -/
section
variable {X : Cx} {CX : CXT} {k : Nat} {C : Addr} {ps : List Str} {sp : Sp} {E : L2.St → XK} {x : Str} {p pos : Pos} {e : Expr} {es : List Expr} {t : TA}
theorem pe_fnS (h : HasFn X.prog X.w X.K X.mg X.base CX k x ps sp) (hr : Room k X.A) (hx : ∀ σ, PassesAt CX X σ (E σ)) (ha : PA X (e :: es) t) (hg : Gl X x := by rfl) (hdb : (x == ("__debug__" : Str)) = false := by decide)
    (he : starEach (e :: es) X.env = (false, eval e X.env) :: starEach es X.env := by rfl) (hpl : (backTo pos (starEach es X.env)).any (·.1) = false := by rfl) : PE X (.Call (.Name x p) (e :: es) [] pos) (tCallS sp E t) := by
  obtain ⟨f, fd, F, hm, hk, hb⟩ := h
  exact pe_callS F hr hg hm hk hb hx ha hdb he hpl
/-- C(..) of a class whose __init__ may raise -/
def tMakeS (C : Addr) (sp : Sp) (E : L2.St → XK) (t : TA) : TE := fun σ H Q => t σ H fun vs H1 => ∀ x dx, H1 x = none → H1 dx = none → dx ≠ x → sp (.ref x :: vs) (upd (upd H1 dx (.own x)) x (.ins C dx [])) (fun v H2 => v = .non ∧ Q (.ref x) H2) (E σ)
theorem pe_mkS (h : HasMk X.prog X.w X.K X.mg X.base CX k C x ps sp) (hr : Room (k + 1) X.A) (hx : ∀ σ, PassesAt CX X σ (E σ)) (ha : PA X (e :: es) t) (hg : Gl X x := by rfl) (hdb : (x == ("__debug__" : Str)) = false := by decide)
    (he : starEach (e :: es) X.env = (false, eval e X.env) :: starEach es X.env := by rfl) (hpl : (backTo pos (starEach es X.env)).any (·.1) = false := by rfl) : PE X (.Call (.Name x p) (e :: es) [] pos) (tMakeS C sp E t) := by
  obtain ⟨f, fd, F, M, hm, hb⟩ := h
  refine ⟨fun pins s σ H Q I hw => wpAny_Call_Name_kw (ld_glob I hg hm (PySem.W.callWith_K (h₀ := X.base) I.ok.mod.kin M.kp (thn (ha.run pos pins s σ H _ I hw) fun us s1 ⟨vs, H1, I1, r, q⟩ => ⟨I1.kIn, ?_⟩) he hpl) hdb)⟩
  have n1 := I1.hok.fresh (a := s1.heap.objs.size + 1) (Nat.le_succ _)
  have n0 := I1.hok.fresh (a := s1.heap.objs.size) (Nat.le_refl _)
  have pre := q _ _ n1 n0 (Nat.ne_of_lt (Nat.lt_succ_self _))
  have J := Inv.made (C := C) I1
  have rr : Vals (V.ref (s1.heap.objs.size + 1) :: vs) (Value.ref (s1.heap.objs.size + 1) :: us) := .cons rfl r
  have nn : (Value.ref (s1.heap.objs.size + 1) :: us).length = ps.length := rr.length.symm.trans (F.len _ _ _ _ pre)
  have bb := hb _ (Value.ref (s1.heap.objs.size + 1) :: us) J.kIn (by rw [List.append_nil]; exact nn)
  rw [List.append_nil] at bb
  have go := F.run _ X.stack _ _ ⟨Value.ref (s1.heap.objs.size + 1) :: us, []⟩ (Value.ref (s1.heap.objs.size + 1) :: us) _ _ (E σ) (hr.make C us []) (J.env0.make C us []) bb rr pre
  refine wpAny_call (make_map (f := f) I1.kIn M.makes M.init (beq_iff_eq.mp M.fn) (codeAny_mono go fun o s2 end_ => ?_))
  cases o with
  | error er => exact hx σ pins _ _ er s2 J end_
  | ok fl =>
    cases fl with
    | next => exact False.elim end_
    | brk => exact False.elim end_
    | cont => exact False.elim end_
    | ret u =>
      obtain ⟨v, H3, J3, rv, ev, z⟩ := J.after end_
      subst ev
      exact ⟨rv, V.ref (s1.heap.objs.size + 1), H3, J3, rfl, z⟩
/-- C.__init__(self, f), the error's dict being new -/
def spX1 (C : Addr) (f : Str) : Sp := fun vs H Q _ => ∃ a x, vs = [.ref a, x] ∧ H a = some (exo a C none) ∧ ∀ H' d, But a H H' → H d = none → d ≠ a → H' a = some (exo a C (some d)) → H' d = some (exd d [(f, x)]) → Q .non H'
/-- raise C(e), C's own __init__ keeping spX1: the error's dict and its attribute -/
theorem ps_raise1 {W : WX} {n : Str} (h : HasEx X.prog X.w X.K X.mg X.base CX0 k C x ps (spX1 C n)) (hc : X.calm = true) (tk : Takes X W) (hr : Room (k + 1) X.A) (ha : PA X [e] t) (hm1 : ∀ (σ : L2.St) (H : Hp) (Q R : List V → Hp → Prop), (∀ vs H1, Q vs H1 → R vs H1) → t σ H Q → t σ H R) {ppos : Pos} (hg : Gl X x := by rfl)
    (hdb : (x == ("__debug__" : Str)) = false := by decide) (he : starEach [e] X.env = (false, eval e X.env) :: starEach [] X.env := by rfl) (hpl : (backTo pos (starEach [] X.env)).any (·.1) = false := by rfl) :
    PS X (.Raise (some (.Call (.Name x p) [e] [] pos)) none ppos) (fun _ σ H => t σ H fun vs H1 => ∃ v, vs = [v] ∧ ∀ d H', Same H1 H' → H' d = some (.xd [(n, v)]) → W (.ref C) (some d) σ H') := by
  obtain ⟨f, fd, T, iC, tI, F1, hm, _, hb⟩ := h
  refine ⟨fun pins s σ H D I hw => (ps_raise hc tk (pmk_oex (dvs := []) T iC tI F1 hr hb .nil pass0 hg hm ha hdb he hpl)).run pins s σ H D I (hm1 σ H _ _ (fun vs H1 z => ?_) hw)⟩
  obtain ⟨v, rfl, q⟩ := z
  refine ⟨by show 1 ≤ 1000; decide, fun a na => ⟨a, v, rfl, upd_same, fun H2 d b nd ne ea ed => ⟨rfl, d, _, ea, ed, ?_, ?_⟩⟩⟩
  · rw [upd_ne ne] at nd
    exact nd
  · refine q d _ (fun c o e => ?_) upd_same
    rw [upd_ne ne] at nd
    have n1 : c ≠ a := ne_of_none e na
    rw [upd_ne (ne_of_none e nd), del_ne n1]
    exact b c o (by rw [upd_ne n1]; exact e) n1
end
end LB

namespace LB
open PySem L2 PyProof.Rows
section
variable {X : Cx} {s : Shared} {H : Hp} {sc : Scope} {ev : Env} {fp : List Addr} {o e : Expr} {es : List Expr} {to : TE} {t : TA} {name : Str} {apos cpos : Pos} {T id : String} {r : V → List V → Hp → VK → Prop}
/-- o.name(e, ..) inside of a comprehension -/
theorem pe_bmB (pa : PlainAttrs T) (slot : Slot T name id) (hty : typeOf (.builtin id) = pure (.type "method_descriptor")) (hm : MtR (X.blk s H sc ev fp) id r) (ho : PE (X.blk s H sc ev fp) o to) (ha : PA (X.blk s H sc ev fp) (e :: es) t)
    (h1 : attributeBase o name (X.blk s H sc ev fp).env (eval o (X.blk s H sc ev fp).env) = eval o (X.blk s H sc ev fp).env := by rfl)
    (h2 : ((backTo cpos (starEach (e :: es) (X.blk s H sc ev fp).env)).all (fun x => !x.1) && (backToKw cpos (keywordEach [] (X.blk s H sc ev fp).env)).all (fun x => x.1.isSome) && decide ((e :: es).length + ([] : List Keyword).length + (if ([] : List Keyword).isEmpty then 0 else 1) < 30)) = true := by rfl)
    (h3 : (apos.endLine == cpos.line) = true := by rfl) (h4 : starEach (e :: es) (X.blk s H sc ev fp).env = (false, eval e (X.blk s H sc ev fp).env) :: starEach es (X.blk s H sc ev fp).env := by rfl) (h5 : (backTo cpos (starEach es (X.blk s H sc ev fp).env)).any (·.1) = false := by rfl) :
    PE (X.blk s H sc ev fp) (.Call (.Attribute o name apos) (e :: es) [] cpos) (tBM X.K T r to t) := pe_bm pa slot hty hm ho ha h1 h2 h3 h4 h5
end
end LB

namespace LB
open PySem L2 PyProof.Rows
/-! ### repr of lists, tuples and what they hold; defs that ask it -/
section
variable {X : Cx}
/-- repr(x), x data; nothing else is being shown -/
theorem call_reprD (hg : X.A.guards = some []) (hu : X.A.units + 64 < cLine) : CallR X (.builtin "repr") (fun xs H Q => ∃ (a : Addr) (d : PyData), xs = [.ref a] ∧ Dp X.K H (.ref a) d ∧ d.showable = true ∧ d.hasDict = false ∧ d.depth ≤ 50 ∧ d.shown.length ≤ sizeLine ∧ Q (.str d.shown) H) := by
  intro pins s σ H xs us Q I r h
  obtain ⟨a, d, rfl, dp, hs, hd, hz, hl, q⟩ := h
  obtain ⟨u, rfl, ru⟩ := vals1 r
  cases ru
  obtain ⟨as, rd⟩ := Dp.reads I d _ _ dp rfl
  exact repr_of_reads' rd hs (fun e => by rw [hd] at e; cases e) hg (by omega) (fun _ _ e => e) (fun h' u tk k => ⟨.str d.shown, H, I.kept k, ⟨u, rfl⟩, q⟩) hl
end
/-- what FnOk says, where nothing is being shown around the call -/
structure FnG (P : Program) (w : World) (K : PySem.W.Frag) (mg : Str → Option Value) (base : Heap) (CX : CXT) (k : Nat) (f : Addr) (fd : FuncData) (ps : List Str) (sp : Sp) : Prop where
  size : ∀ vs H Q E, sp vs H Q E → vs.length = ps.length
  goes : ∀ (A : Around) (outer : List Env) (s : Shared) (H : Hp) (args : Args) (us : List Value) (vs : List V) (Q : VK) (E : XK), Room k A → A.guards = some [] → Env0 P w K mg base A outer s H → BindsTo s fd args (ps.zip us) → Vals vs us → sp vs H Q E →
    codeAny (model P w) A (.call (.ref f) args) (CR CX outer P w H s Q E) s
theorem FnG.of {P : Program} {w : World} {K : PySem.W.Frag} {mg : Str → Option Value} {base : Heap} {CX : CXT} {k : Nat} {f : Addr} {fd : FuncData} {ps : List Str} {sp : Sp} (F : FnOk P w K mg base CX k f fd ps sp) : FnG P w K mg base CX k f fd ps sp :=
  ⟨F.len, fun A outer s H args us vs Q E hr _ e b r h => F.run A outer s H args us vs Q E hr e b r h⟩
section
variable {X : Cx} {CX : CXT} {k : Nat} {f : Addr} {fd : FuncData} {ps : List Str} {sp : Sp} {E : XK} {x : Str} {p pos : Pos} {e : Expr} {es : List Expr} {t : TA}
theorem run_fnG {pins : List (Addr × Obj)} {σ : L2.St} {H : Hp} {s : Shared} {Q : VK} {us : List Value} {vs : List V} (F : FnG X.prog X.w X.K X.mg X.base CX k f fd ps sp) (hr : Room k X.A) (hg : X.A.guards = some []) (hb : Binds X.K fd ps []) (hx : Passes CX X E)
    (I : Inv X pins σ H s) (r : Vals vs us) (h : sp vs H Q E) : wpAny (model X.prog X.w) X.A (call (.ref f) us) (EP X pins σ Q) X.xe s := by
  have hl : us.length = ps.length := r.length.symm.trans (F.size _ _ _ _ h)
  have bb := hb s us I.kIn (by rw [List.append_nil]; exact hl)
  rw [List.append_nil] at bb
  refine wpAny_call (codeAny_mono (F.goes X.A X.stack s H ⟨us, []⟩ us vs Q E hr hg I.env0 bb r h) fun o s2 end_ => ?_)
  cases o with
  | error er => exact hx pins σ H s er s2 I end_
  | ok fl =>
    cases fl with
    | ret u => exact I.after end_
    | next => exact False.elim end_
    | brk => exact False.elim end_
    | cont => exact False.elim end_
/-- a def of which FnG is known -/
def HasFnG (P : Program) (w : World) (K : PySem.W.Frag) (mg : Str → Option Value) (base : Heap) (CX : CXT) (k : Nat) (x : Str) (ps : List Str) (sp : Sp) : Prop :=
  ∃ (f : Addr) (fd : FuncData), FnG P w K mg base CX k f fd ps sp ∧ mg x = some (.ref f) ∧ PySem.W.keepIn K (.ref f) = true ∧ Binds K fd ps []
theorem pe_fnG (h : HasFnG X.prog X.w X.K X.mg X.base CX k x ps sp) (hr : Room k X.A) (hgd : X.A.guards = some []) (hx : Passes CX X E) (ha : PA X (e :: es) t) (hg : Gl X x := by rfl) (hdb : (x == ("__debug__" : Str)) = false := by decide)
    (he : starEach (e :: es) X.env = (false, eval e X.env) :: starEach es X.env := by rfl) (hpl : (backTo pos (starEach es X.env)).any (·.1) = false := by rfl) : PE X (.Call (.Name x p) (e :: es) [] pos) (tCall sp [] E t) := by
  obtain ⟨f, fd, F, hm, hk, hb⟩ := h
  refine ⟨fun pins s σ H Q I hw => wpAny_Call_Name_kw (ld_glob I hg hm (PySem.W.callWith_K (h₀ := X.base) I.ok.mod.kin hk (thn (ha.run pos pins s σ H _ I hw) fun us s1 ⟨vs, H1, I1, r, q⟩ => ⟨I1.kIn, ?_⟩) he hpl) hdb)⟩
  exact run_fnG F hr hgd hb hx I1 r (by have q' : sp (vs ++ []) H1 Q E := q; rw [List.append_nil] at q'; exact q')
end
/-- a def as it stands keeps FnG: its body is read with the guards known -/
theorem okG {P : Program} {w : World} {K : PySem.W.Frag} {mg : Str → Option Value} {base : Heap} {x qual : Str} {st : Stmt} {f : Addr} {fd : FuncData} {N ps : List Str} {k : Nat} {sp : Sp} (F : Fun K x qual st f fd) (S : FnScope N ps (defScope st)) (len : ∀ vs H Q E, sp vs H Q E → vs.length = ps.length)
    (hbody : ∀ (cdv : Value) (A : Around) (outer : List Env) (s : Shared) (H : Hp) (vs : List V) (Q : VK) (E : XK), Room k (A.deeper (envOfC qual (defScope st) s.heap.objs.size f cdv)) → A.guards = some [] → sp vs H Q E →
      ∃ t, PSs (cxOf CX0 P w K mg base N qual (defScope st) f cdv A outer s H E).nox (defBody st) t ∧ t { nx := fun _ H' => Q .non H', rt := Q } (start N vs) H) : FnG P w K mg base CX0 (k + 1) f fd ps sp := by
  obtain ⟨oc, od, kV, doc, pm, an, cdv, ct, osl, rfl, lk, hcd⟩ := F.ex
  refine ⟨len, fun A outer s H args us vs Q E hr hg e0 hb r hsp => ?_⟩
  have nn := len _ _ _ _ hsp
  have up : ∀ b o, base.get? b = some o → s.heap.get? b = some o := fun b o e => (e0.bs b o e).1
  have KX : K.In s.heap := e0.mod.kin.keeps up
  refine codeAny_call_function hr.depth (KX _ _ lk) rfl S.co S.gen rfl (PySem.W.codeRec_of KX hcd) (hb _ _ _ _ ?_)
  refine wpAny_newFunctionEnv_cells S.kind (fun y hy => (S.par y.1 (List.of_mem_zip (a := y.1) (b := y.2) hy).1).imp id fun q => ⟨q, PySem.W.cellsFrom_some _ _ _ (.inl q)⟩) fun env he s1 sb => ?_
  subst he
  refine ⟨(e0.mod.nolimit.keeps up).keeps sb.toInCall.keep, codeAny_func ?_⟩
  obtain ⟨t, body, reading⟩ := hbody cdv A outer s H vs Q E (hr.deeper _) hg hsp
  have I := inv_start (CX := CX0) (mg := mg) (E := E) S hr.hd e0 nn r sb
  refine wpAny_mono (body.nox.run [] s1 (start N vs) H _ I reading) (fun fl s2 z => ?_) fun _ _ z => z
  cases fl with
  | brk => exact False.elim (let ⟨_, _, _, q⟩ := z; q)
  | cont => exact False.elim (let ⟨_, _, _, q⟩ := z; q)
  | next =>
    obtain ⟨σ2, H2, J, q⟩ := z
    exact ⟨V.non, H2, J.os, J.bare, J.base, J.hok, rfl, q⟩
  | ret u =>
    obtain ⟨v, σ2, H2, J, rv, q⟩ := z
    exact ⟨v, H2, J.os, J.bare, J.base, J.hok, rv, q⟩
end LB

namespace LB
open PySem L2 PySem.Spec PyProof.Rows
/-! ### the law's head, from a promise whose guards are known -/
/-- the call of the law at a heap H in which at most the script is tracked -/
theorem head_core {P : Program} {w : World} {K : PySem.W.Frag} {mg mb : Str → Option Value} {k : Nat} {fa a : Addr} {fd : FuncData} {x : Str} {sp : Sp} {s1 : Shared} {vs : List Value} {H : Hp}
    (kin : K.In s1.heap) (gl : s1.heap.Ns mainGlobals mg) (bl : s1.heap.Ns builtinsNs mb) (bb : ∀ y : Str, y ≠ "__name__" → mb y = bootBuiltins y) (nolim : s1.heap.NoLimit) (gens : s1.gens = #[]) (room : Room k callerA)
    (script : s1.heap.get? a = some { cls := .type "list", data := .seq vs.toArray })
    (F : ∀ base : Heap, K.In base → base.Ns mainGlobals mg → FnG P w K mg base CX0 k fa fd [x] sp) (binds : ∀ (s : Shared) (u : Value), BindsTo s fd ⟨[u], []⟩ [(x, u)])
    (only : Only H) (promise : sp [.ref a] H (fun v _ => v = .bl true) E0) (ok : HOk P w H s1.heap) (track : ∀ b, H b ≠ none → b = a) (free : H a ≠ none → K.lookup a = none) :
    codeAny (model P w) callerA (.call (.ref fa) ⟨[.ref a], []⟩) (fun r s' => r = .ok (.ret (.bool true)) ∧ OldK s1.heap s'.heap ∧ s'.os = s1.os ∧ AllBare s'.gens) s1 := by
  have un : ∀ {b}, b ≠ a → H b = none := fun {b} n => Classical.byContradiction fun z => n (track b z)
  have hid : ∀ {b o}, s1.heap.get? b = some o → H b = none → (hidT s1.heap H).get? b = some o := fun e n => hidT_get e n
  have ns : ∀ {b : Addr} {m : Str → Option Value}, s1.heap.Ns b m → (hidT s1.heap H).Ns b m := fun {b m} ⟨o, es, ep, e, d, r⟩ =>
    ⟨o, es, ep, hid e (un fun z => by rw [z, script] at e; cases e; cases (show Data.seq vs.toArray _ = Data.dict es ep from d)), d, r⟩
  have kb : K.In (hidT s1.heap H) := fun b o e => hid (kin b o e) (Classical.byContradiction fun z => by
    have eb := track b z
    rw [eb] at z e
    rw [free z] at e
    cases e)
  have md : Mod K mg (hidT s1.heap H) := ⟨kb, ns gl, ⟨mb, ns bl, bb⟩, let ⟨mc, q1, q2⟩ := nolim; ⟨mc, ns q1, q2⟩⟩
  have env : Env0 P w K mg (hidT s1.heap H) callerA [] s1 H := ⟨rfl, md, fun b o e => of_hidT e, Nat.le_of_eq (hidT_size _ _), trivial, fun b hb => (List.not_mem_nil hb).elim, ok, .of_eq gens⟩
  have go := (F _ kb (ns gl)).goes callerA [] s1 H ⟨[.ref a], []⟩ [.ref a] [.ref a] _ _ room rfl env (binds s1 (.ref a)) (.cons rfl .nil) promise
  refine codeAny_mono go fun r s' z => ?_
  match r, z with
  | .error e, z => exact z.elim
  | .ok .next, z => exact False.elim z
  | .ok .brk, z => exact False.elim z
  | .ok .cont, z => exact False.elim z
  | .ok (.ret u), z =>
    obtain ⟨v, H', os, bare, base, ok', rv, rfl⟩ := z
    obtain rfl : u = Value.bool true := rv
    refine ⟨rfl, OldK.of_keep fun b o e => ?_, os, bare⟩
    rcases only b with n | ⟨ob, xs, n⟩
    · exact base.keep b o e n (fun z => List.not_mem_nil z) (by simp)
    · obtain ⟨e1, _⟩ := ok b _ n
      obtain ⟨e2, _⟩ := ok' b _ (base.frzs b ob _ n)
      rw [e] at e1
      cases e1
      exact e2
/-- .. at the heap behind the top: the script is tracked, or it is an object of the module -/
theorem head_call {P : Program} {w : World} {K : PySem.W.Frag} {mg mb : Str → Option Value} {k : Nat} {fa a : Addr} {fd : FuncData} {x : Str} {sp : Sp} {s1 : Shared} {vs : List Value} {ns : List Int}
    (kin : K.In s1.heap) (gl : s1.heap.Ns mainGlobals mg) (bl : s1.heap.Ns builtinsNs mb) (bb : ∀ y : Str, y ≠ "__name__" → mb y = bootBuiltins y) (nolim : s1.heap.NoLimit) (gens : s1.gens = #[]) (room : Room k callerA)
    (script : s1.heap.get? a = some { cls := .type "list", data := .seq vs.toArray }) (are : IntsAre vs ns) (few : ns.length ≤ sizeLine)
    (F : ∀ base : Heap, K.In base → base.Ns mainGlobals mg → FnG P w K mg base CX0 k fa fd [x] sp) (binds : ∀ (s : Shared) (u : Value), BindsTo s fd ⟨[u], []⟩ [(x, u)])
    (promise : ∀ H : Hp, Only H → SqL K H a (ns.map V.int) → sp [.ref a] H (fun v _ => v = .bl true) E0) :
    codeAny (model P w) callerA (.call (.ref fa) ⟨[.ref a], []⟩) (fun r s' => r = .ok (.ret (.bool true)) ∧ OldK s1.heap s'.heap ∧ s'.os = s1.os ∧ AllBare s'.gens) s1 := by
  have rv := vals_ints are
  by_cases hk : K.lookup a = none
  · let H : Hp := fun b => if b = a then some (.frz { cls := .type "list", data := .seq vs.toArray } (.lst (ns.map V.int))) else none
    have at_ : H a = some (.frz { cls := .type "list", data := .seq vs.toArray } (.lst (ns.map V.int))) := if_pos rfl
    have else_ : ∀ {b}, b ≠ a → H b = none := fun n => if_neg n
    have only : Only H := fun b => by
      by_cases e : b = a
      · rw [e]; exact .inr ⟨_, _, at_⟩
      · exact .inl (else_ e)
    refine head_core kin gl bl bb nolim gens room script F binds only (promise H only (.inl (.inr ⟨_, at_⟩))) (fun b u e => ?_) (fun b n => Classical.byContradiction fun z => n (else_ z)) fun _ => hk
    by_cases eb : b = a
    · subst eb
      rw [at_] at e
      cases e
      exact ⟨script, by rw [List.length_map]; exact few, vs, _, rv, script⟩
    · rw [else_ eb] at e
      cases e
  · obtain ⟨o, ho⟩ := Option.ne_none_iff_exists'.mp hk
    have e := kin a o ho
    rw [script] at e
    cases e
    have only : Only fun _ => none := fun _ => .inl rfl
    exact head_core kin gl bl bb nolim gens room script F binds only (promise _ only (.inr ⟨_, vs.toArray, _, ho, rfl, rfl, rfl, by rw [List.size_toArray, are.length]; exact few, by simpa using rv⟩)) (fun b u z => by cases z) (fun b z => absurd rfl z) fun z => absurd rfl z
/-- the goal that k_head leaves, from a promise whose guards are known -/
theorem walk_ofG {l : PySem.W.OpenLaw} {n k : Nat} {q : Program} {loose : List Str} {XP : (Str → Option Value) → Heap → Prop} {YP : World → Heap → Prop} {d : DefRec} {K : Params → PySem.W.Frag} {sp : World → Sp} {x : Str}
    (most : l.most = some n) (few : n ≤ sizeLine) (plain : d.params.defaults = []) (room : Room k callerA) (kin : ∀ (w : World) (h : Heap), YP w h → (K w.params).In h)
    (F : ∀ (w : World) (mg : Str → Option Value) (fa : Addr) (h : Heap), (K w.params).In h → h.Ns mainGlobals mg → mg d.name = some (.ref fa) →
      ∃ fd : FuncData, (∀ (s : Shared) (u : Value), BindsTo s fd ⟨[u], []⟩ [(x, u)]) ∧ ∀ base : Heap, (K w.params).In base → base.Ns mainGlobals mg → FnG l.prog w (K w.params) mg base CX0 k fa fd [x] (sp w))
    (promise : ∀ (w : World) (H : Hp) (a : Addr) (ns : List Int), ns.length ≤ n → Only H → SqL (K w.params) H a (ns.map V.int) → sp w [.ref a] H (fun v _ => v = .bl true) E0) :
    PySem.W.WalkO q loose XP YP l.row.toRowW d [] (fun f vs => PySem.call f vs) :=
  Att.attach_call most plain fun w s0 s1 mg mb fa o pm cd doc a vs ns G Y ho hd hcd hmg hobj hints hlen hg => by
    obtain ⟨fd, hb, hF⟩ := F w mg fa _ (kin w _ Y) G.T.g hmg
    exact head_call (kin w _ Y) G.T.g G.T.b G.T.builtins G.T.nolimit hg room hobj hints (Nat.le_trans hlen few) hF hb fun H hO hS => promise w H a ns hlen hO hS
end LB

namespace LB
open PySem L2 PySem.Spec PyProof.Rows
/-! ### what k01 and k04 still ask -/
theorem passC {X : Cx} : Passes (L2.CX X.prog X.w) X E0 := fun _ _ _ _ _ _ _ h => let ⟨_, _, _, _, _, _, _, _, _, _, _, _, e⟩ := h; e.elim
section
variable {X : Cx}
/-- repr of a bool -/
theorem call_repr_bl : CallR X (.builtin "repr") (fun xs H Q => ∃ b : Bool, xs = [.bl b] ∧ Q (.str (if b then "True" else "False")) H) := by
  intro pins s σ H xs us Q I r h
  obtain ⟨b, rfl, q⟩ := h
  obtain ⟨u, rfl, ru⟩ := vals1 r
  cases ru
  exact PySem.P.repr_of_bool ⟨.str _, H, I.tok _, ⟨_, rfl⟩, q⟩
/-- an instance with its own == against a text or None -/
theorem op_eqOwnX {CX : CXT} {k : Nat} {f C : Addr} {fd : FuncData} {ps : List Str} {sp : Sp} {E : XK} (F : FnOk X.prog X.w X.K X.mg X.base CX k f fd ps sp) (hr : Room k X.A) (hb : Binds X.K fd ps []) (hx : Passes CX X E) (ho : Own X.K C f "__eq__")
    (ns : PySem.W.notFirst X.K C (.type "str") = true) (nn : PySem.W.notFirst X.K C (.type "NoneType") = true) :
    OpR X (compareOp .Eq) (fun x y H Q => ∃ a dx fs, x = .ref a ∧ H a = some (.ins C dx fs) ∧ ((∃ z, y = .str z) ∨ y = .non) ∧ sp [x, y] H Q E) := by
  intro pins s σ H x y v u Q I rx ry hq
  obtain ⟨a, dx, fs, rfl, ha, hy, h⟩ := hq
  cases rx
  obtain ⟨od, J⟩ := inst_of I ha
  obtain ⟨m, hF⟩ := I.fr
  show wpAny (model X.prog X.w) X.A (richCompare .Eq (.ref a) u) (EP X pins σ Q) X.xe s
  rcases hy with ⟨z, rfl⟩ | rfl
  · obtain ⟨t, rfl⟩ := ry
    refine PySem.W.cmp_K (op := .Eq) (tb := .type "str") hr.units0 hF I.ok.mod.kin J (PySem.W.Looks.of_pure rfl) ns ho.at_ ho.fn (thn ?_ fun _ _ z => cmpBack_of z)
    exact run_fn (us := [.ref a, .str z t]) (vs := [.ref a, .str z]) (dvs := []) (ds := []) F hr hb .nil hx I (.cons rfl (.cons ⟨t, rfl⟩ .nil)) h
  · cases ry
    refine PySem.W.cmp_K (op := .Eq) (tb := .type "NoneType") hr.units0 hF I.ok.mod.kin J (PySem.W.Looks.of_pure rfl) nn ho.at_ ho.fn (thn ?_ fun _ _ z => cmpBack_of z)
    exact run_fn (us := [.ref a, .none]) (vs := [.ref a, .non]) (dvs := []) (ds := []) F hr hb .nil hx I (.cons rfl (.cons rfl .nil)) h
/-- (x,) != (x,), x a scalar or an object -/
theorem op_neT1 (hu : X.A.units + 64 < cLine) : OpR X (compareOp .NotEq) (fun x y H Q => ∃ a b z, x = .ref a ∧ y = .ref b ∧ SqT X.K H a [z] ∧ SqT X.K H b [z] ∧ (flatV z = true ∨ ∃ c, z = .ref c) ∧ Q (.bl false) H) := by
  intro pins s σ H x y v u Q I rx ry hq
  obtain ⟨a, b, z, rfl, rfl, ha, hb, hz, q⟩ := hq
  cases rx
  cases ry
  obtain ⟨its, r, e, _⟩ := I.tuple ha
  obtain ⟨its2, r2, e2, _⟩ := I.tuple hb
  obtain ⟨u1, rfl, ru1⟩ := vals1 r
  obtain ⟨u2, rfl, ru2⟩ := vals1 r2
  have he : SeqAt.EqAt X.A.in1 s u1 u2 true := by
    rcases hz with f | ⟨c, rfl⟩
    · have := eqAt_V (A := X.A.in1) (s := s) ru1 ru2 f f
      rw [eqV_refl f] at this
      exact this
    · cases ru1
      cases ru2
      exact SeqAt.EqAt.same _
  refine SeqAt.RcNeAt.tuples e e2 (by omega) (e := fun _ => true) (fun j h1 h2 => ?_) X.prog X.w X.xe _ ?_
  · have : j = 0 := by
      have : j < 1 := h1
      omega
    subst this
    exact he
  · exact ⟨.bl false, H, I, rfl, q⟩
end
/-- a class whose __init__ keeps a promise, made with keywords alone -/
def HasMkK (P : Program) (w : World) (K : PySem.W.Frag) (mg : Str → Option Value) (base : Heap) (CX : CXT) (k : Nat) (C : Addr) (x : Str) (ps ks : List Str) (g : List Value → List Value → List Value) (gV : List V → List V → List V) (sp : Sp) : Prop :=
  ∃ (f : Addr) (fd : FuncData), FnOk P w K mg base CX k f fd ps sp ∧ Mk K C f ∧ mg x = some (.ref C) ∧ KBn K fd ps 1 ks g gV
section
variable {X : Cx} {CX : CXT} {k : Nat} {C : Addr} {ps ks : List Str} {sp : Sp} {E : XK} {x : Str} {p pos : Pos} {kws : List Keyword} {tk : TA} {g : List Value → List Value → List Value} {gV : List V → List V → List V}
theorem pe_mkK0 (h : HasMkK X.prog X.w X.K X.mg X.base CX k C x ps ks g gV sp) (hr : Room (k + 1) X.A) (hx : Passes CX X E) (hkw : PK X kws tk) (hg : Gl X x := by rfl)
    (hall : (backToKw pos (keywordEach kws X.env)).all (·.1.isSome) = true := by rfl) (hks : (backToKw pos (keywordEach kws X.env)).filterMap (·.1) = ks := by rfl) (hdb : (x == ("__debug__" : Str)) = false := by decide)
    (hpl : ((backTo pos (starEach [] X.env)).any (·.1) || (backToKw pos (keywordEach kws X.env)).any (·.1.isNone)) = false := by rfl) :
    PE X (.Call (.Name x p) [] kws pos) (tMakeK C 0 ks.length sp gV E tNil tk) := by
  obtain ⟨f, fd, F, M, hm, hb⟩ := h
  exact pe_makeK0 M F hr hg hm hb hx hkw hall hks hdb hpl
end
/-! ### text[::-1] -/
def revS (z : Str) : Str := ⟨z.cps.toList.reverse.toArray⟩
theorem rev_indices (n : Nat) : Builtin.Str.strSliceIndices none none (-1) n = (List.range n).reverse := by
  show PySem.sliceRange ((n : Int) - 1) (-1) (-1) = _
  rw [PySem.W.krv_sliceRange, PySem.W.krv_range]
theorem rev_pick (z : Str) : (⟨((Builtin.Str.strSliceIndices none none (-1) z.length).filterMap (z.cps[·]?)).toArray⟩ : Str) = revS z := by
  unfold revS
  show (⟨((Builtin.Str.strSliceIndices none none (-1) z.cps.size).filterMap (z.cps[·]?)).toArray⟩ : Str) = _
  rw [rev_indices, List.filterMap_reverse, PySem.W.krv_all]
def tRevS (te : TE) : TE := fun σ H Q => te σ H fun x H1 => ∃ z : Str, x = .str z ∧ z.length ≤ sizeLine ∧ Q (.str (revS z)) H1
theorem pe_revS {X : Cx} {e : Expr} {te : TE} {k : Nat} {p1 p2 p3 pos : Pos} (he : PE X e te) : PE X (.Subscript e (.Slice none none (some (.UnaryOp .USub (.Constant (.int 1) k p1) p2)) p3) pos) (tRevS te) := by
  refine ⟨fun pins s σ H Q I h => ?_⟩
  refine Subscript_ (thn (he.run pins s σ H _ I h) fun v s1 ⟨x, H1, I1, r1, q1⟩ => ?_)
  obtain ⟨z, ex, hz, q⟩ := q1
  subst ex
  obtain ⟨tz, rfl⟩ := r1
  have hst : PO X (some (.UnaryOp .USub (.Constant (.int 1) k p1) p2)) (tPart (tUn (rU fun i => .int (-i)) (tC (.int 1)))) := po_some (pe_un un_neg pe_int)
  refine wpAny_Slice (thn (po_none.run pins s1 σ H1 (fun o H2 => o = none ∧ H2 = H1) I1 ⟨rfl, rfl⟩) fun vl s2 ⟨l, H2, I2, pl, el, e2⟩ => ?_)
  subst el e2
  refine thn (po_none.run pins s2 σ H2 (fun o H3 => o = none ∧ H3 = H2) I2 ⟨rfl, rfl⟩) fun vu s3 ⟨u, H3, I3, pu, eu, e3⟩ => ?_
  subst eu e3
  refine thn (hst.run pins s3 σ H3 (fun o H4 => o = some (-1) ∧ H4 = H3) I3 ⟨1, rfl, -1, rfl, rfl, rfl⟩) fun vs s4 ⟨o, H4, I4, ps, eo, e4⟩ => ?_
  subst eo e4
  have I5 : Inv X pins σ H4 { s4 with heap := s4.heap.push { cls := .type "slice", data := .fields #[vl, vu, vs] } } := I4.kept (t' := s4.toks) fun b ob q => Heap.get?_push_of_some _ q
  obtain ⟨l, rfl, hl⟩ := IsPart.raw pl
  obtain ⟨u, rfl, hu⟩ := IsPart.raw pu
  obtain ⟨st, rfl, hs⟩ := IsPart.raw ps
  obtain ⟨ts, rfl⟩ : ∃ ts, st = some (-1, ts) := by
    rcases st with _ | ⟨i, ts⟩
    · cases hs
    · obtain rfl : i = -1 := by injection hs
      exact ⟨ts, rfl⟩
  have el : l = none := by cases l <;> first | rfl | cases hl
  have eu : u = none := by cases u <;> first | rfl | cases hu
  subst el eu
  show wpAny (model X.prog X.w) X.A (subscriptTail e (.Slice none none (some (.UnaryOp .USub (.Constant (.int 1) k p1) p2)) p3) (.str z tz) (.ref s4.heap.objs.size)) (EP X pins σ Q) X.xe _
  refine tail_any (ops := [.str z tz, .ref s4.heap.objs.size]) (typeIs_str _ _ _) (F.slot_str_getitem.lookup) ?_ (by with_unfolding_all rfl)
  refine wpAny_getItem_str_slice (l := none) (u := none) (st := some (-1, ts)) ⟨_, Heap.get?_push_size _ rfl, rfl, rfl⟩ rfl ?_
  show Made.post (if ((-1 : Int) == 1 && (Builtin.Str.strSliceIndices none none (-1) z.length).length == z.length) = true then Made.val (.str z tz)
    else Made.str ⟨((Builtin.Str.strSliceIndices none none (-1) z.length).filterMap (z.cps[·]?)).toArray⟩) (EP X pins σ Q) _
  rw [if_neg (by simp), rev_pick]
  refine ⟨?_, .str _, H4, I5.tok _, ⟨_, rfl⟩, q⟩
  show (z.cps.toList.reverse.toArray).size ≤ sizeLine
  have : z.cps.size ≤ sizeLine := hz
  simpa using this
end LB

namespace LB
open PySem L2 PySem.Spec PyProof.Rows
/-! ### own methods under special names, from HasMe -/
section
variable {X : Cx} {CX : CXT} {k : Nat} {C : Addr} {ps : List Str} {sp : Sp} {E : XK}
theorem call_lenMe (h : HasMe X.prog X.w X.K X.mg X.base CX k C "__len__" ps sp) (hr : Room (k + 1) X.A) (hx : Passes CX X E) :
    CallR X (.builtin "len") (fun xs H Q => ∃ a dx fs, xs = [.ref a] ∧ H a = some (.ins C dx fs) ∧ sp xs H (fun z H' => ∃ n : Int, z = .int n ∧ 0 ≤ n ∧ n < 2 ^ 63 ∧ Q (.int n) H') E) := by
  obtain ⟨f, fd, F, O, _, hb⟩ := h
  exact call_lenOwn F hr hb hx O
theorem op_inMe (h : HasMe X.prog X.w X.K X.mg X.base CX k C "__contains__" ps sp) (hr : Room k X.A) (hx : Passes CX X E) : OpR X (compareOp .In) (rIn C sp E id) := by
  obtain ⟨f, fd, F, O, _, hb⟩ := h
  exact op_inOwn F hr hb hx O
theorem op_notInMe (h : HasMe X.prog X.w X.K X.mg X.base CX k C "__contains__" ps sp) (hr : Room k X.A) (hx : Passes CX X E) : OpR X (compareOp .NotIn) (rIn C sp E not) := by
  obtain ⟨f, fd, F, O, _, hb⟩ := h
  exact op_notInOwn F hr hb hx O
theorem op_eqMe (h : HasMe X.prog X.w X.K X.mg X.base CX k C "__eq__" ps sp) (hr : Room k X.A) (hx : Passes CX X E) : OpR X (compareOp .Eq) (rOwn2 C C sp E) := by
  obtain ⟨f, fd, F, O, _, hb⟩ := h
  exact op_eqOwn F hr hb hx O
theorem op_eqMeX (h : HasMe X.prog X.w X.K X.mg X.base CX k C "__eq__" ps sp) (hr : Room k X.A) (hx : Passes CX X E) (ns : PySem.W.notFirst X.K C (.type "str") = true) (nn : PySem.W.notFirst X.K C (.type "NoneType") = true) :
    OpR X (compareOp .Eq) (fun x y H Q => ∃ a dx fs, x = .ref a ∧ H a = some (.ins C dx fs) ∧ ((∃ z, y = .str z) ∨ y = .non) ∧ sp [x, y] H Q E) := by
  obtain ⟨f, fd, F, O, _, hb⟩ := h
  exact op_eqOwnX F hr hb hx O ns nn
theorem op_neMe (h : HasMe X.prog X.w X.K X.mg X.base CX k C "__eq__" ps sp) (hr : Room (k + 1) X.A) (hx : Passes CX X E) (hn : NeOwn X.K C) :
    OpR X (compareOp .NotEq) (fun x y H Q => ∃ a b dx dy fs gs, x = .ref a ∧ y = .ref b ∧ H a = some (.ins C dx fs) ∧ H b = some (.ins C dy gs) ∧ sp [x, y] H (fun z H' => ∃ c, z = .bl c ∧ Q (.bl (!c)) H') E) := by
  obtain ⟨f, fd, F, O, _, hb⟩ := h
  exact op_neOwn F hr hb hx O hn
end
/-- for over a text -/
theorem for_str {x : Str} {g : TG} {tb : TS} {D : Ends} {σ : L2.St} {H : Hp} (Pv : Nat → L2.St → Hp → Prop) (h0 : Pv 0 σ H)
    (hs : ∀ (i : Nat) (c : Nat) σ H, x.cps[i]? = some c → Pv i σ H → g (.str ⟨#[c]⟩) σ H fun σ2 H2 => tb { D with nx := Pv (i + 1), ct := Pv (i + 1), bk := D.nx } σ2 H2) (hd : ∀ σ H, Pv x.cps.size σ H → D.nx σ H) :
    ∃ W : Nat → Nat → L2.St → Hp → Prop, (∃ m, W 0 m σ H) ∧ ∀ i m σ H, W i m σ H →
      ((Its x).stop i H ∧ D.nx σ H) ∨ ((Its x).go i H ∧ ∃ N : L2.St → Hp → Prop, (∀ σ' H', N σ' H' → ∃ m', m' < m ∧ W (i + 1) m' σ' H') ∧ ∀ v H', (Its x).yld i H v H' → g v σ H' fun σ2 H2 => tb { D with nx := N, ct := N, bk := D.nx } σ2 H2) := by
  refine ⟨fun i m σ H => m = x.cps.size - i ∧ i ≤ x.cps.size ∧ Pv i σ H, ⟨x.cps.size, by simp, Nat.zero_le _, h0⟩, ?_⟩
  rintro i m σ H ⟨rfl, hi, p⟩
  by_cases hlt : i < x.cps.size
  · refine .inr ⟨hlt, Pv (i + 1), fun σ' H' p' => ⟨x.cps.size - (i + 1), by omega, rfl, hlt, p'⟩, fun v H' y => ?_⟩
    obtain ⟨e, c, hc, ev⟩ := y
    subst e ev
    exact hs i c σ _ hc p
  · have e : i = x.cps.size := by omega
    subst e
    exact .inl ⟨Nat.le_refl _, hd σ H p⟩
/-! ### how long a repr is -/
theorem repr_len {z : Str} (h : PyData.strOk z = true) : (reprText z).length ≤ 10 * z.length + 2 := StrLaws.reprText_len z fun c hc => by
  unfold PyData.strOk at h
  rw [← Array.all_toList, List.all_eq_true] at h
  have := h c hc
  have : c < 1114112 := by simpa using this
  exact Nat.lt_of_lt_of_le this (by decide)
theorem dig1_len (n : Nat) (h : n < 10) : ((toString (n : Int) : String) : Str).length = 1 := by
  match n, h with
  | 0, _ => rfl
  | 1, _ => rfl
  | 2, _ => rfl
  | 3, _ => rfl
  | 4, _ => rfl
  | 5, _ => rfl
  | 6, _ => rfl
  | 7, _ => rfl
  | 8, _ => rfl
  | 9, _ => rfl
end LB

namespace LB
open PySem L2 PySem.Spec PyProof.Rows
/-! ### from facts of the written part to what the defs promise -/
def FnX (K : PySem.W.Frag) (f : Addr) (x qual : Str) (st : Stmt) : Prop := (∃ (oc : Value) (od : Option Addr) (kV dc pm : Value) (an : Option Addr) (cd ct : Value) (sl : Array (Option Value)),
  K.lookup f = some ⟨oc, od, .func (PySem.W.fnOf x qual (defArgs st) (defBody st) (defScope st) .none kV dc pm an cd ct), sl⟩ ∧ PySem.W.codeIn K cd qual = true) ∧ PySem.W.keepIn K (.ref f) = true
theorem FnX.mk {K : PySem.W.Frag} {f : Addr} {x qual : Str} {st : Stmt} {oc : Value} {od : Option Addr} {kV dc pm : Value} {an : Option Addr} {cd ct : Value} {sl : Array (Option Value)}
    (l : K.lookup f = some ⟨oc, od, .func (PySem.W.fnOf x qual (defArgs st) (defBody st) (defScope st) .none kV dc pm an cd ct), sl⟩) (c : PySem.W.codeIn K cd qual = true) (k : PySem.W.keepIn K (.ref f) = true) : FnX K f x qual st := ⟨⟨_, _, _, _, _, _, _, _, _, l, c⟩, k⟩
def MostX (K : PySem.W.Frag) (CV : Addr) : Prop := ∃ t, PySem.W.findCls K (.ref CV) (.type "type") "MOST" = some (.val (.int 4 t))
theorem MostX.mk {K : PySem.W.Frag} {CV : Addr} {t : Tok} (h : PySem.W.findCls K (.ref CV) (.type "type") "MOST" = some (.val (.int 4 t))) : MostX K CV := ⟨t, h⟩
def TextX (K : PySem.W.Frag) (n z0 : Str) : Prop := ∃ z t, PySem.W.nsIn K mainGlobals n = some (some (.str z t)) ∧ z = z0
theorem TextX.mk {K : PySem.W.Frag} {n z0 z : Str} {t : Tok} (h : PySem.W.nsIn K mainGlobals n = some (some (.str z t))) (e : z = z0) : TextX K n z0 := ⟨z, t, h, e⟩
def RecX (K : PySem.W.Frag) (p g : Addr) : Prop := ∃ rest, PySem.W.recIn K p "property" = some (.ref g :: rest)
theorem RecX.mk {K : PySem.W.Frag} {p g : Addr} {rest : List Value} (h : PySem.W.recIn K p "property" = some (.ref g :: rest)) : RecX K p g := ⟨rest, h⟩
theorem ExX.mk {K : PySem.W.Frag} {C : Addr} {nm q : Str} {N : Addr} {bs bm : List Value} {sn : List Str} {sub : List Value} {ab : Bool} {col : Option Bool} {dd : Option Addr} {k0 k1 k2 k3 k5 : Option Value}
    (hg : PySem.W.findIn K (.ref C) "__getattribute__" = some (some (.builtin "BaseException.__getattribute__")))
    (hk : PySem.W.findIn K (.ref C) "__getattr__" = some none)
    (hs : PySem.W.subIn K (.ref C) (.type "BaseException") = some true)
    (hd : PySem.W.hasDictIn K C = true)
    (ha : PySem.W.findIn K (.ref C) "__class__" = some (some (.builtin "object.__class__")))
    (hn : PySem.W.specialIn K (.builtin "object.__class__") "__get__" = some (some (.builtin "getset_descriptor.__get__")))
    (ht : PySem.W.takesIn K (.builtin "object.__class__") = some true)
    (hm : PySem.W.mroIn K C (.type "object") = some true)
    (x1 : K.lookup C = some (excClassObj nm q C N bs bm true sn sub ab col dd k0 k1 k2 k3 k5 "ValueError.__new__")) (x2 : PySem.HandSPX.refsVE bm = true)
    (sa : PySem.W.findIn K (.ref C) "__setattr__" = some (some (.builtin "object.__setattr__"))) (e1 : PySem.W.subIn K (.ref C) (.type "BaseException") = some true) (e2 : PySem.W.typeIn K (.ref C) = some (.type "type")) (e3 : PySem.W.keepIn K (.ref C) = true) : ExK K C :=
  ⟨⟨hg, hk, hs, hd, ha, hn, ht, hm⟩, ⟨⟨_, _, _, _, _, _, _, _, _, _, _, _, _, _, _, x1, x2⟩, sa, e1, e2, e3⟩⟩
section
variable {P : Program} {w : World} {K : PySem.W.Frag} {mg : Str → Option Value} {base : Heap} {h : Heap} {CX : CXT}
theorem FnX.get {f : Addr} {x qual : Str} {st : Stmt} (F : FnX K f x qual st) : ∃ fd, Fun K x qual st f fd := let ⟨⟨_, _, _, _, _, _, _, _, _, l, c⟩, k⟩ := F; ⟨_, fun_mk l c k⟩
theorem FnX.kp {f : Addr} {x qual : Str} {st : Stmt} (F : FnX K f x qual st) : PySem.W.keepIn K (.ref f) = true := F.2
theorem has_fn {f : Addr} {x : Str} {st : Stmt} {ps : List Str} {k : Nat} {sp : Sp} (X : K.In h) (G : h.Ns mainGlobals mg) (a : PySem.W.nsIn K mainGlobals x = some (some (.ref f))) (F : FnX K f x x st)
    (hb : ∀ (kV doc pm : Value) (an : Option Addr) (cdv ct : Value) (us : List Value), us.length = ps.length → bindArgs (PySem.W.fnOf x x (defArgs st) (defBody st) (defScope st) .none kV doc pm an cdv ct) ⟨us, []⟩ = pure (ps.zip us))
    (ok : ∀ fd, Fun K x x st f fd → FnOk P w K mg base CX k f fd ps sp) : HasFn P w K mg base CX k x ps sp :=
  let ⟨fd, F'⟩ := F.get
  ⟨f, fd, ok fd F', PySem.W.mg_of X G a, F.kp, F'.binds hb⟩
theorem has_mk {C f : Addr} {x qual : Str} {st : Stmt} {ps : List Str} {k : Nat} {sp : Sp} (X : K.In h) (G : h.Ns mainGlobals mg) (g : PySem.W.nsIn K mainGlobals x = some (some (.ref C))) (a : PySem.W.findIn K (.ref C) "__init__" = some (some (.ref f)))
    (i : PySem.W.isFn K (.ref f) = true) (m : PySem.W.makesIn K C = true) (kc : PySem.W.keepIn K (.ref C) = true) (F : FnX K f "__init__" qual st)
    (hb : ∀ (kV doc pm : Value) (an : Option Addr) (cdv ct : Value) (us : List Value), us.length = ps.length → bindArgs (PySem.W.fnOf "__init__" qual (defArgs st) (defBody st) (defScope st) .none kV doc pm an cdv ct) ⟨us, []⟩ = pure (ps.zip us))
    (ok : ∀ fd, Fun K "__init__" qual st f fd → FnOk P w K mg base CX k f fd ps sp) : HasMk P w K mg base CX k C x ps sp :=
  let ⟨fd, F'⟩ := F.get
  ⟨f, fd, ok fd F', ⟨m, a, i, kc⟩, PySem.W.mg_of X G g, F'.binds hb⟩
theorem has_pr {C p f : Addr} {x qual : Str} {st : Stmt} {ps : List Str} {k : Nat} {sp : Sp} (q : PropOf K C x p f) (F : FnX K f x qual st)
    (hb : ∀ (kV doc pm : Value) (an : Option Addr) (cdv ct : Value) (us : List Value), us.length = ps.length → bindArgs (PySem.W.fnOf x qual (defArgs st) (defBody st) (defScope st) .none kV doc pm an cdv ct) ⟨us, []⟩ = pure (ps.zip us))
    (ok : ∀ fd, Fun K x qual st f fd → FnOk P w K mg base CX k f fd ps sp) : HasPr P w K mg base CX k C x ps sp :=
  let ⟨fd, F'⟩ := F.get
  ⟨p, f, fd, ok fd F', q, F'.binds hb⟩
theorem has_ex {C f : Addr} {x qual : Str} {st : Stmt} {ps ks : List Str} {b : Bool} {k : Nat} {sp : Sp} (X : K.In h) (G : h.Ns mainGlobals mg) (g : PySem.W.nsIn K mainGlobals x = some (some (.ref C))) (T : ExK K C) (a : PySem.W.findIn K (.ref C) "__init__" = some (some (.ref f)))
    (t : PySem.W.typeIn K (.ref f) = some (.type "function")) (F : FnX K f "__init__" qual st)
    (hb : ∀ (kV doc pm : Value) (an : Option Addr) (cdv ct : Value) (us : List Value), us.length = ps.length → bindArgs (PySem.W.fnOf "__init__" qual (defArgs st) (defBody st) (defScope st) .none kV doc pm an cdv ct) ⟨us, []⟩ = pure (ps.zip us))
    (hk : ∀ (kV doc pm : Value) (an : Option Addr) (cdv ct : Value) (self : Value) (ws : List Value), ws.length = ks.length → bindArgs (PySem.W.fnOf "__init__" qual (defArgs st) (defBody st) (defScope st) .none kV doc pm an cdv ct) ⟨[self], ks.zip ws⟩ = pure (ps.zip (self :: swapIf b ws)))
    (ok : ∀ fd, Fun K "__init__" qual st f fd → FnOk P w K mg base CX0 k f fd ps sp) : HasEx P w K mg base CX0 k C x ps sp ∧ HasExK P w K mg base CX0 k C x ps ks b sp := by
  obtain ⟨⟨oc, od, kV, dc, pm, an, cd, ct, sl, l, c⟩, kp⟩ := F
  have F' := fun_mk (st := st) l c kp
  exact ⟨⟨f, _, T.toOexC, a, t, ok _ F', PySem.W.mg_of X G g, fun us hl => hb kV dc pm an cd ct us hl, F'.binds hb⟩, ⟨f, _, T.toOexC, a, t, ok _ F', PySem.W.mg_of X G g, fun self ws hl => hk kV dc pm an cd ct self ws hl⟩⟩
theorem has_fnG {f : Addr} {x : Str} {st : Stmt} {ps : List Str} {k : Nat} {sp : Sp} (X : K.In h) (G : h.Ns mainGlobals mg) (a : PySem.W.nsIn K mainGlobals x = some (some (.ref f))) (F : FnX K f x x st)
    (hb : ∀ (kV doc pm : Value) (an : Option Addr) (cdv ct : Value) (us : List Value), us.length = ps.length → bindArgs (PySem.W.fnOf x x (defArgs st) (defBody st) (defScope st) .none kV doc pm an cdv ct) ⟨us, []⟩ = pure (ps.zip us))
    (ok : ∀ fd, Fun K x x st f fd → FnG P w K mg base CX k f fd ps sp) : HasFnG P w K mg base CX k x ps sp :=
  let ⟨fd, F'⟩ := F.get
  ⟨f, fd, ok fd F', PySem.W.mg_of X G a, F.kp, F'.binds hb⟩
theorem has_me {C f : Addr} {x qual : Str} {st : Stmt} {ps : List Str} {k : Nat} {sp : Sp} (a : PySem.W.findIn K (.ref C) x = some (some (.ref f))) (i : PySem.W.isFn K (.ref f) = true) (F : FnX K f x qual st)
    (hb : ∀ (kV doc pm : Value) (an : Option Addr) (cdv ct : Value) (us : List Value), us.length = ps.length → bindArgs (PySem.W.fnOf x qual (defArgs st) (defBody st) (defScope st) .none kV doc pm an cdv ct) ⟨us, []⟩ = pure (ps.zip us))
    (ok : ∀ fd, Fun K x qual st f fd → FnOk P w K mg base CX k f fd ps sp) : HasMe P w K mg base CX k C x ps sp :=
  let ⟨fd, F'⟩ := F.get
  ⟨f, fd, ok fd F', ⟨a, i⟩, F.kp, F'.binds hb⟩
/-- C(k = v, ..), all keywords in the parameters' order -/
theorem has_mkK {C f : Addr} {x qual : Str} {st : Stmt} {ps ks : List Str} {k : Nat} {sp : Sp} (X : K.In h) (G : h.Ns mainGlobals mg) (g : PySem.W.nsIn K mainGlobals x = some (some (.ref C))) (a : PySem.W.findIn K (.ref C) "__init__" = some (some (.ref f)))
    (i : PySem.W.isFn K (.ref f) = true) (m : PySem.W.makesIn K C = true) (kc : PySem.W.keepIn K (.ref C) = true) (F : FnX K f "__init__" qual st)
    (hb : ∀ (kV doc pm : Value) (an : Option Addr) (cdv ct : Value) (us ws : List Value), us.length = 1 → ws.length = ks.length → bindArgs (PySem.W.fnOf "__init__" qual (defArgs st) (defBody st) (defScope st) .none kV doc pm an cdv ct) ⟨us, ks.zip ws⟩ = pure (ps.zip (us ++ ws)))
    (ok : ∀ fd, Fun K "__init__" qual st f fd → FnOk P w K mg base CX k f fd ps sp) : HasMkK P w K mg base CX k C x ps ks (fun us ws => us ++ ws) (fun vs zs => vs ++ zs) sp := by
  obtain ⟨fd, F'⟩ := F.get
  refine ⟨f, fd, ok fd F', ⟨m, a, i, kc⟩, PySem.W.mg_of X G g, ⟨fun s us ws _ h1 h2 => ?_, fun r1 r2 => r1.append r2⟩⟩
  obtain ⟨oc, od, kV, doc, pm, an, cdv, ct, osl, e1, e2, e3⟩ := F'.ex
  subst e1
  exact .of_eq (hb kV doc pm an cdv ct us ws h1 h2)
end
end LB

namespace LB
open PySem L2 PySem.Spec PyProof.Rows GenW
/-! ### a generator whose body is «for x in e: yield x»: its turns -/
/-- from s₀ on: what lies below lim, at a or among out stands as it stood -/
def Snc (lim : Nat) (a : Addr) (out : List Addr) (s₀ s : Shared) : Prop :=
  ∃ h tk, s = { s₀ with heap := h, toks := tk } ∧ ∀ b o, (b < lim ∨ b = a ∨ b ∈ out) → s₀.heap.get? b = some o → h.get? b = some o
section
variable {lim : Nat} {a : Addr} {out : List Addr} {s₀ s : Shared}
theorem Snc.refl (s : Shared) : Snc lim a out s s := ⟨s.heap, s.toks, rfl, fun _ _ _ e => e⟩
theorem Snc.step (x : Snc lim a out s₀ s) {h' : Heap} {tk : Nat} (k : ∀ b o, (b < lim ∨ b = a ∨ b ∈ out) → s.heap.get? b = some o → h'.get? b = some o) : Snc lim a out s₀ { s with heap := h', toks := tk } := by
  obtain ⟨h, t, rfl, q⟩ := x
  exact ⟨h', tk, rfl, fun b o c e => k b o c (q b o c e)⟩
end
/-- an item is handed out: whoever takes it may change what lies in out alone -/
def YP (lim : Nat) (a : Addr) (out : List Addr) (n₀ : Nat) (F : Nat → Value → Prop) : Protocol := fun m s₀ v s kap =>
  F (n₀ - 1 - m) v ∧ Snc lim a out s₀ s ∧ ∀ s2 : Shared, (∀ b o, b ∉ out → s.heap.get? b = some o → s2.heap.get? b = some o) → kap (.send .none) s2
def YE (lim : Nat) (a : Addr) (out : List Addr) : GenEnd := fun n s₀ r s₁ => ((r = .ok (.ret .none) ∨ r = .ok .next) ∧ (n = 0 ∧ Snc lim a out s₀ s₁)) ∨ ∃ e, r = .error e ∧ False
section
variable {P : Program} {w : World} {A : Around} {lim : Nat} {a I : Addr} {out fp wr : List Addr} {env : Env} {x : Str} {px py yp ep : Pos} {n₀ : Nat} {F : Nat → Value → Prop} {St : Nat → Heap → Prop} {fs : List Frame}
abbrev yBody (x : Str) (py yp ep : Pos) : List Stmt := [.Expr (.Yield (some (.Name x py)) yp) ep]
abbrev yLoop (x : Str) (px py yp ep : Pos) (I : Addr) (env : Env) : Code := .forLoop (.Name x px) (.ref I) (yBody x py yp ep) [] env
theorem seg_forY (hh : (A.over (yLoop x px py yp ep I env) fs).handled = none) (W : ∀ B : Around, B.handled = none → Walks P w B I fp wr n₀ F St)
    (hx : env.kindOf x = some .local) (hk : env.scope.kind = .function) (hco : env.scope.isCoroutine = false) (hi : interactive env = false) (hd : (x == ("__debug__" : Str)) = false)
    (Lf : env.locals ∉ fp) (Ll : lim ≤ env.locals) (La : env.locals ≠ a) (Lo : env.locals ∉ out) (fo : ∀ b ∈ fp, b ∉ out) (wk : ∀ b ∈ wr, lim ≤ b ∧ b ≠ a ∧ b ∉ out)
    (hsp : splitAtGen fs = none) (hgd : fs.any Frame.guarded = false)
    (fin : ∀ s₀ s, Snc lim a out s₀ s → Seg (model P w) A (YE lim a out) (YP lim a out n₀ F) 0 s₀ (yLoop x px py yp ep I env) (.pure (.again (.block [] env))) fs s) :
    ∀ (k i : Nat) (s₀ s : Shared) (m : Str → Option Value), n₀ - i = k → i ≤ n₀ → St i s.heap → s.heap.Ns env.locals m → Snc lim a out s₀ s →
      Seg (model P w) A (YE lim a out) (YP lim a out n₀ F) (n₀ - i) s₀ (yLoop x px py yp ep I env) ((model P w).den (yLoop x px py yp ep I env)) fs s := by
  have hp : (env.scope.kind == .class || (env.scope.kind == .module && env.locals != env.globals)) = false := by rw [hk]; rfl
  have Lw : env.locals ∉ wr := fun q => Lf ((W _ hh).sub _ q)
  have off : ∀ {b}, (b < lim ∨ b = a ∨ b ∈ out) → b ∉ wr := fun {b} c q => by
    obtain ⟨q1, q2, q3⟩ := wk b q
    rcases c with c | c | c
    · exact absurd c (Nat.not_lt.mpr q1)
    · exact q2 c
    · exact q3 c
  have offL : ∀ {b}, (b < lim ∨ b = a ∨ b ∈ out) → b ≠ env.locals := fun {b} c q => by
    subst q
    rcases c with c | c | c
    · exact absurd c (Nat.not_lt.mpr Ll)
    · exact La c
    · exact Lo c
  intro k
  induction k with
  | zero =>
    intro i s₀ s m hk0 hi0 hst hn sn
    have e : i = n₀ := by omega
    subst e
    rw [Nat.sub_self]
    show Seg _ A _ _ 0 s₀ _ ((forTurn (.Name x px) (.ref I) (yBody x py yp ep) [] env).onRaise (fun x => do noteFrame x env; theTreesLotGoes x)) fs s
    rw [Sem.onRaise_eq_wrap]
    unfold forTurn
    refine seg_bind_wrap (wpAny_standAt ?_)
    refine seg_bind_wrap (wpAny_onRaise ((W _ hh).done s _ _ hst fun h' tk hk' => ?_))
    exact fin s₀ _ (sn.step fun b o c e => hk' b o (off c) e)
  | succ k ih =>
    intro i s₀ s m hk0 hi0 hst hn sn
    have hlt : i < n₀ := by omega
    obtain ⟨n, en⟩ : ∃ n, n₀ - i = n + 1 := ⟨n₀ - i - 1, by omega⟩
    rw [en]
    show Seg _ A _ _ (n + 1) s₀ _ ((forTurn (.Name x px) (.ref I) (yBody x py yp ep) [] env).onRaise (fun x => do noteFrame x env; theTreesLotGoes x)) fs s
    rw [Sem.onRaise_eq_wrap]
    unfold forTurn
    refine seg_bind_wrap (wpAny_standAt ?_)
    refine seg_bind_wrap (wpAny_onRaise ((W _ hh).item i s _ _ hlt hst fun v h1 tk1 hF hst1 hk1 => ?_))
    refine seg_bind_wrap (wpAny_of_eq (rfl : letOwnedTupleGo (.Name x px) (.ref I) v = pure ()) ?_)
    refine seg_bind_wrap (wpAny_assign_Name (wpAny_storeName_local hx (hn.at' fun o e => hk1 _ o Lw e) (fun h2 hn2 sb2 => ?_) hp))
    have up2 : ∀ b o, b ≠ env.locals → b ∉ wr → s.heap.get? b = some o → h2.get? b = some o := fun b o q1 q2 e => sb2.extBut b o q1 (hk1 b o q2 e)
    have hst2 : St (i + 1) h2 := (W _ hh).frame _ _ _ hst1 fun b hb o e => sb2.extBut b o (fun q => Lf (q ▸ hb)) e
    rw [Sem.bind_eq_wrap', Sem.wrap_wrap]
    refine seg_execs_cons (seg_Expr_Yield hsp rfl hgd (wpAny_Name (wpAny_loadName_local (v := v) hk hx hn2 (if_pos rfl) fun kap hkap => ?_) hd) hco hi)
    refine ⟨?_, sn.step fun b o c e => up2 b o (offL c) (off c) e, fun s2 al => hkap .none s2 ?_⟩
    · have : n₀ - 1 - n = i := by omega
      rw [this]
      exact hF
    · refine seg_again rfl ?_
      have := ih (i + 1) s2 s2 _ (by omega) hlt ((W _ hh).frame _ _ _ hst2 fun b hb o e => al b o (fo b hb) e) (hn2.at' fun o e => al _ o Lo e) (Snc.refl s2)
      have e1 : n₀ - (i + 1) = n := by omega
      rw [e1] at this
      exact this
theorem seg_block0 {R : GenEnd} {Y : Protocol} {n : Nat} {s₀ s : Shared} (h : Seg (model P w) A R Y n s₀ (.block [] env) (leafOf (.ok .next)) fs s) : Seg (model P w) A R Y n s₀ (.block [] env) ((model P w).den (.block [] env)) fs s := h
/-- the generator that has not begun -/
theorem goes_forY {t : Addr} {items : Array Value} {iter : Expr} {fpos : Pos} {m : Str → Option Value} {s : Shared} (hh : A.handled = none) (ht : s.heap.IsTuple t items) (hn : s.heap.Ns env.locals m)
    (hev : ∀ (B : Around) (E : Value → Shared → Prop) (Q : Value → Shared → Prop), (∀ tk, Q (.ref t) { s with toks := tk }) → wpAny (model P w) B (eval iter env) Q E s) (hfs : ∀ v, foldedSetIterable iter env v = pure v)
    (hx : env.kindOf x = some .local) (hk : env.scope.kind = .function) (hco : env.scope.isCoroutine = false) (hi : interactive env = false) (hd : (x == ("__debug__" : Str)) = false)
    (Ll : lim ≤ env.locals) (La : env.locals ≠ a) (Lo : env.locals ∉ out) (to : t ∉ out) (al : a < s.heap.objs.size) (ll : lim ≤ s.heap.objs.size) (ol : ∀ b ∈ out, b < s.heap.objs.size) :
    (GenState.fresh (.func [.For (.Name x px) iter (yBody x py yp ep) [] fpos] env)).Goes (model P w) A (YE lim a out) (YP lim a out items.size fun i v => items[i]? = some v) items.size (.send .none) s := by
  refine ⟨rfl, seg_func (seg_execs_cons ?_)⟩
  rw [exec_For]
  refine seg_bind_wrap (wpAny_standAt ?_)
  refine seg_bind_wrap (hev _ _ _ fun tk => ?_)
  refine seg_bind_wrap (wpAny_of_eq (hfs _) ?_)
  refine seg_bind_wrap (wpAny_standAt ?_)
  refine seg_bind_wrap (wpAny_holding (wpAny_pyIter_tuple (s := { s with toks := tk }) ht ?_))
  refine seg_call fun p => ?_
  have hne : t ≠ s.heap.objs.size := by
    obtain ⟨o, ho, _⟩ := ht
    exact Nat.ne_of_lt (Heap.lt_size ho)
  have hnL : env.locals < s.heap.objs.size := hn.lt
  have up : ∀ (ob : Obj) b o, s.heap.get? b = some o → (s.heap.push ob).get? b = some o := fun ob b o e => Heap.get?_push_of_some _ e
  refine seg_forY (I := s.heap.objs.size) (n₀ := items.size) (F := fun i v => items[i]? = some v) (fp := [s.heap.objs.size, t]) (wr := [s.heap.objs.size]) ?_ (fun B hB => Walks.tuple hB _ t hne items) hx hk hco hi hd ?_ Ll La Lo ?_ ?_ rfl rfl (fun s₀ s2 sn => ?_) items.size 0 s _ m rfl (Nat.zero_le _) ⟨?_, ?_⟩ ?_ ?_
  · exact hh
  · intro q
    rcases List.mem_cons.mp q with q | q
    · exact absurd hnL (by rw [q]; exact Nat.lt_irrefl _)
    · have q := List.mem_singleton.mp q
      obtain ⟨o, ho, hc, n, hd1⟩ := ht
      obtain ⟨ob, es, ep, e1, e2⟩ := hn
      rw [q, ho] at e1
      cases e1
      cases hd1.symm.trans e2.1
  · intro b hb
    rcases List.mem_cons.mp hb with q | q
    · subst q
      exact fun z => absurd (ol _ z) (Nat.lt_irrefl _)
    · rw [List.mem_singleton.mp q]
      exact to
  · intro b hb
    rw [List.mem_singleton.mp hb]
    exact ⟨ll, Nat.ne_of_gt al, fun z => absurd (ol _ z) (Nat.lt_irrefl _)⟩
  · refine seg_again rfl (seg_block0 (seg_leaf (.ok .next) ?_))
    exact seg_end (.ok (.ret .none)) (.inl ⟨.inl rfl, rfl, sn⟩)
  · exact ⟨_, Heap.get?_push_size _ rfl, rfl, rfl⟩
  · exact ht.push _
  · exact hn.keeps (up _)
  · exact ⟨_, _, rfl, fun b o _ e => up _ b o e⟩
end
end LB

namespace LB
open PySem L2 PySem.Spec PyProof.Rows GenW
/-! ### [x for x in g] where g is such a generator -/
/-- a generator that has not begun, and will hand out these -/
def YMade (P : Program) (w : World) (sc : Shared) (items : Array Value) (u : Value) (s' : Shared) : Prop :=
  ∃ (a : Addr) (g : Nat) (c : Code), u = .ref a ∧ sc.heap.objs.size ≤ a ∧ a < s'.heap.objs.size ∧ s'.heap.IsGen a g ∧ s'.gens[g]? = some (.fresh c) ∧ s'.os = sc.os ∧ AllBare s'.gens ∧ (∀ b o, sc.heap.get? b = some o → s'.heap.get? b = some o) ∧
    ∀ (A : Around) (out : List Addr) (s2 : Shared), A.handled = none → (∀ b ∈ out, s'.heap.objs.size ≤ b ∧ b < s2.heap.objs.size) → (∀ b o, s'.heap.get? b = some o → s2.heap.get? b = some o) →
      (GenState.fresh c).Goes (model P w) A (YE sc.heap.objs.size a out) (YP sc.heap.objs.size a out items.size fun i v => items[i]? = some v) items.size (.send .none) s2
/-- amid the turns: j items are taken -/
structure YAt (P : Program) (w : World) (A : Around) (sc : Shared) (items : Array Value) (a : Addr) (g : Nat) (D C : Addr) (j : Nat) (s : Shared) : Prop where
  keep : ∀ b o, sc.heap.get? b = some o → s.heap.get? b = some o
  os : s.os = sc.os
  bare : AllBare s.gens
  lst : ∃ c, s.heap.get? D = some (lstObj (items.toList.take j).toArray c)
  loc : ∃ m, s.heap.Ns C m
  gen : s.heap.IsGen a g
  go : ∃ gs, s.gens[g]? = some gs ∧ ∀ s2 : Shared, s.heap.objs.size ≤ s2.heap.objs.size → (∀ b o, b ∉ [D, C] → s.heap.get? b = some o → s2.heap.get? b = some o) → gs.Goes (model P w) A.in1 (YE sc.heap.objs.size a [D, C]) (YP sc.heap.objs.size a [D, C] items.size fun i v => items[i]? = some v) (items.size - j) (.send .none) s2
section
variable {P : Program} {w : World} {A : Around} {sc s : Shared} {items : Array Value} {a D C : Addr} {g j : Nat} {env : Env} {x : Str} {px px2 : Pos} {E : Value → Shared → Prop}
theorem yat_next (hh : A.handled = none) (hroom : A.depth < recursionLimit) (h : YAt P w A sc items a g D C j s) (hl : sc.heap.NoLimit) (hj : j ≤ items.size) (hz : items.size < sizeLine)
    (aD : a ≠ D) (aC : a ≠ C) (DC : D ≠ C) (lD : sc.heap.objs.size ≤ D) (lC : sc.heap.objs.size ≤ C) {Q : Option Value → Shared → Prop}
    (hdone : ∀ s', j = items.size → (∀ b o, sc.heap.get? b = some o → s'.heap.get? b = some o) → s'.os = sc.os → AllBare s'.gens → (∃ c, s'.heap.get? D = some (lstObj items c)) → (∃ m, s'.heap.Ns C m) → Q none s')
    (hitem : ∀ v s', items[j]? = some v → (∃ c, s'.heap.get? D = some (lstObj (items.toList.take j).toArray c)) → (∃ m, s'.heap.Ns C m) →
      (∀ h' tk, (∀ b o, b ∉ [D, C] → s'.heap.get? b = some o → h'.get? b = some o) → s'.heap.objs.size ≤ h'.objs.size → (∃ c, h'.get? D = some (lstObj (items.toList.take (j + 1)).toArray c)) → (∃ m, h'.Ns C m) → YAt P w A sc items a g D C (j + 1) { s' with heap := h', toks := tk }) → Q (some v) s') :
    wpAny (model P w) A (pyNext (.ref a)) Q E s := by
  obtain ⟨hk, hos, hb, hD, hC, hg, gs, hgs, hgo⟩ := h
  have hgl : g < s.gens.size := (Array.getElem?_eq_some_iff.mp hgs).1
  refine next_genG (F := fun n s₀ s₁ => n = 0 ∧ Snc sc.heap.objs.size a [D, C] s₀ s₁) (Er := fun _ _ => False) hh (hl.keeps hk) hroom hg hgs (hgo _ (Nat.le_refl _) fun _ _ _ e => e) (fun v s1 gs' hbare hv => ?_) (fun s1 hp h' hk' => ?_) fun e s1 q => q.elim
  · obtain ⟨hF, ⟨h1, tk1, rfl, hk1⟩, hkap⟩ := hv
    cases hn : items.size - j with
    | zero =>
      rw [hn] at hkap
      exact False.elim (hkap _ fun _ _ _ e => e)
    | succ m =>
      rw [hn] at hF hkap
      have hidx : items.size - 1 - (m + 1 - 1) = j := by omega
      rw [hidx] at hF
      have old : ∀ b o, (b < sc.heap.objs.size ∨ b = a ∨ b ∈ [D, C]) → s.heap.get? b = some o → h1.get? b = some o := hk1
      have hD1 : ∃ c, h1.get? D = some (lstObj (items.toList.take j).toArray c) := let ⟨c, e⟩ := hD; ⟨c, old _ _ (.inr (.inr (by simp))) e⟩
      have hC1 : ∃ m, h1.Ns C m := let ⟨m, e⟩ := hC; ⟨m, e.at' fun o q => old _ _ (.inr (.inr (by simp))) q⟩
      have hg1 : h1.IsGen a g := let ⟨o, nm, qn, ho, r⟩ := hg; ⟨o, nm, qn, old _ _ (.inr (.inl rfl)) ho, r⟩
      refine hitem v _ hF hD1 hC1 fun h2 tk2 k2 z2 hD2 hC2 => ⟨fun b o e => ?_, hos, allBare_setGen (allBare_setGen hb rfl) hbare, hD2, hC2, ?_, gs', ?_, fun s2 zs al => ?_⟩
      · have lt := Heap.lt_size e
        refine k2 b o ?_ (old b o (.inl lt) (hk b o e))
        intro q
        rcases List.mem_cons.mp q with q | q
        · exact absurd lD (by rw [← q]; exact Nat.not_le.mpr lt)
        · exact absurd lC (by rw [← List.mem_singleton.mp q]; exact Nat.not_le.mpr lt)
      · obtain ⟨o, nm, qn, ho, r⟩ := hg1
        refine ⟨o, nm, qn, k2 a o ?_ ho, r⟩
        intro q
        rcases List.mem_cons.mp q with q | q
        · exact aD q
        · exact aC (List.mem_singleton.mp q)
      · exact setGen_at (by rw [show (s.setGen g .running).gens.size = s.gens.size from setGen_size _ _ _]; exact hgl)
      · have e : items.size - (j + 1) = m := by omega
        rw [e]
        exact hkap s2 fun b o q e => al b o q (k2 b o q e)
  · obtain ⟨hn, h1, tk1, rfl, hk1⟩ := hp
    have ej : j = items.size := by omega
    have old : ∀ b o, (b < sc.heap.objs.size ∨ b = a ∨ b ∈ [D, C]) → s.heap.get? b = some o → h'.get? b = some o := fun b o c e => hk' b o (hk1 b o c e)
    refine hdone _ ej (fun b o e => old b o (.inl (Heap.lt_size e)) (hk b o e)) hos (allBare_setGen (allBare_setGen hb rfl) rfl) ?_ ?_
    · obtain ⟨c, e⟩ := hD
      have e := old D _ (.inr (.inr (by simp))) e
      rw [ej, List.take_of_length_le (by simp), ] at e
      exact ⟨c, by simpa using e⟩
    · obtain ⟨m, e⟩ := hC
      exact ⟨m, e.at' fun o q => old _ _ (.inr (.inr (by simp))) q⟩
end
/-- an expression whose value is such a generator -/
abbrev TYn := L2.St → Hp → (List V → Hp → Prop) → Prop
structure PYn (X : Cx) (e : Expr) (tg : TYn) : Prop where
  run : ∀ (pins : List (Addr × Obj)) (s : Shared) (σ : L2.St) (H : Hp) (cont : List V → Hp → Prop), Inv X pins σ H s → tg σ H cont →
    wpAny (model X.prog X.w) X.A (eval e X.env) (fun u s' => ∃ (H1 : Hp) (sc : Shared) (items : Array Value) (xs : List V), Inv X pins σ H1 sc ∧ Vals xs items.toList ∧ YMade X.prog X.w sc items u s' ∧ cont xs H1) X.xe s
def tLcY (tg : TYn) : TE := fun σ H Q => tg σ H fun xs H1 => xs.length < 1000 ∧ ∀ p, H1 p = none → Q (.ref p) (upd H1 p (.lst xs))
/-- a block with one name of its own and no other -/
structure OneName (scope : Scope) (x : Str) : Prop where
  kind : scope.kind = .function
  loc : scope.names.lookup x = some .local
  uniq : ∀ y ∈ scope.names, scope.names.lookup y.1 = some y.2
  nofree : ∀ y ∈ scope.names, y.2 ≠ .free
theorem lcY_core {X : Cx} {e : Expr} {tg : TYn} {x : Str} {px px2 pos pos' : Pos} {scope : Scope} {pins : List (Addr × Obj)} {s : Shared} {σ : L2.St} {H : Hp} {Q : VK} {use : Option (Value → Sem Unit)} {Qf : Value → Shared → Prop} (hc : X.calm = true) (hroom : X.A.depth < recursionLimit) (I : Inv X pins σ H s) (h : PYn X e tg) (ok : OneName scope x) (hd : (x == ("__debug__" : Str)) = false)
    (hs : ∀ v, foldedSetIterable e X.env v = pure v) (hq : tLcY tg σ H Q)
    (fin : ∀ D C s' m H', Inv X pins σ H' s' → Q (.ref D) H' → s'.heap.Ns C m → FpOk X pins H' C → compPost (model X.prog X.w) X.A X.xe use Qf (.ref D) C (.ok .next) s') :
    wpAny (model X.prog X.w) X.A (comprehension (.ListComp (.Name x px) [⟨.Name x px2, e, [], 0⟩] scope pos) scope X.env pos' (newList []) false (eval e X.env) use) Qf X.xe s := by
  refine wpAny_comprehension_free (use := use) rfl hs (closure_ok fun y hy q => absurd q (ok.nofree y hy)) ok.kind (fun y hy q => by rw [ok.uniq y hy, q]) ?_
  refine thn (h.run pins s σ H _ I hq) fun u s1 ⟨H1, sc, items, xs, I1, rv, mk, hlen, q⟩ => ?_
  obtain ⟨a, g, c, rfl, la, ha, hg, hgs, hos, hbare, hkeep, wake⟩ := mk
  refine wpAny_pyIter_gen hg ?_
  refine wpAny_newObj_type (newEnv_comp ?_) (by show 0 ≤ sizeLine; decide)
  have hh : X.A.handled = none := I1.ok.hd hc
  have hvl : xs.length = items.size := by rw [rv.length, Array.length_toList]
  have hz : items.size < sizeLine := by
    have : 1000 < sizeLine := by decide
    omega
  have hl : sc.heap.NoLimit := I1.nolimit
  have ls : sc.heap.objs.size ≤ s1.heap.objs.size := Nat.le_trans la (Nat.le_of_lt ha)
  generalize hs3 : ({ s1 with heap := s1.heap.push { cls := .type "list", data := .seq ([] : List Value).toArray } } : Shared) = s3
  have h3 : s3.heap = s1.heap.push { cls := .type "list", data := .seq ([] : List Value).toArray } := by rw [← hs3]
  have z3 : s3.heap.objs.size = s1.heap.objs.size + 1 := by rw [h3, Heap.size_push]
  have k3 : ∀ b o, s1.heap.get? b = some o → s3.heap.get? b = some o := fun b o e => by rw [h3]; exact Heap.get?_push_of_some _ e
  have D3 : s3.heap.get? s1.heap.objs.size = some (lstObj [].toArray 0) := by rw [h3]; exact Heap.get?_push_size _ rfl
  have g3 : s3.gens = s1.gens := by rw [← hs3]
  have o3 : s3.os = s1.os := by rw [← hs3]
  show codeAny _ _ (.compStart (.ListComp (.Name x px) [⟨.Name x px2, e, [], 0⟩] scope pos) 0 (.ref a) (.ref s1.heap.objs.size) (compEnvC scope (cellsFrom (s3.heap.objs.size + 1) scope.names (cloFrom X.env.cells scope.names [])) s3.heap.objs.size X.env)) (compPost (model X.prog X.w) X.A X.xe use Qf (.ref s1.heap.objs.size) s3.heap.objs.size) { s3 with heap := pushCells (s3.heap.push { cls := .type "dict", data := .dict #[] }) scope.names }
  generalize hce : compEnvC scope (cellsFrom (s3.heap.objs.size + 1) scope.names (cloFrom X.env.cells scope.names [])) s3.heap.objs.size X.env = ce
  have cL : ce.locals = s3.heap.objs.size := by rw [← hce]; rfl
  have ck : ce.scope.kind = .function := by rw [← hce]; exact ok.kind
  have cx : ce.kindOf x = some .local := by rw [← hce]; exact lookup_relabel_local (env := X.env) ok.loc
  have cp : (ce.scope.kind == .class || (ce.scope.kind == .module && ce.locals != ce.globals)) = false := by rw [ck]; rfl
  have k4 : ∀ b o, s3.heap.get? b = some o → (pushCells (s3.heap.push { cls := .type "dict", data := .dict #[] }) scope.names).get? b = some o := fun b o e => pushCells_keeps _ _ _ _ (Heap.get?_push_of_some _ e)
  have n4 : (pushCells (s3.heap.push { cls := .type "dict", data := .dict #[] }) scope.names).Ns s3.heap.objs.size fun _ => none := (Heap.Ns.new s3.heap _).keeps fun b o e => pushCells_keeps _ _ _ _ e
  generalize hs4 : ({ s3 with heap := pushCells (s3.heap.push { cls := .type "dict", data := .dict #[] }) scope.names } : Shared) = s4
  have h4 : s4.heap = pushCells (s3.heap.push { cls := .type "dict", data := .dict #[] }) scope.names := by rw [← hs4]
  rw [← h4] at k4 n4
  have g4 : s4.gens = s1.gens := by rw [← hs4]; exact g3
  have o4 : s4.os = s1.os := by rw [← hs4]; exact o3
  have k14 : ∀ b o, s1.heap.get? b = some o → s4.heap.get? b = some o := fun b o e => k4 b o (k3 b o e)
  have hg4 : s4.heap.IsGen a g := hg.keeps k14
  have eD : ∃ D, D = s1.heap.objs.size := ⟨_, rfl⟩
  obtain ⟨D, eD⟩ := eD
  have eC : ∃ C, C = s3.heap.objs.size := ⟨_, rfl⟩
  obtain ⟨C, eC⟩ := eC
  rw [← eD] at ls ha D3 z3 ⊢
  rw [← eC] at cL z3 n4 ⊢
  have aD : a ≠ D := Nat.ne_of_lt ha
  have lDC : D < C := by rw [z3]; exact Nat.lt_succ_self _
  have aC : a ≠ C := Nat.ne_of_lt (Nat.lt_trans ha lDC)
  have DC : D ≠ C := Nat.ne_of_lt lDC
  have base : YAt X.prog X.w X.A sc items a g D C 0 s4 := by
    refine ⟨fun b o e => k14 b o (hkeep b o e), o4.trans hos, by rw [g4]; exact hbare, ⟨0, k4 _ _ D3⟩, ⟨_, n4⟩, hg4, .fresh c, by rw [g4]; exact hgs, fun s2 zs al => ?_⟩
    refine wake _ _ _ hh (fun b hb => ?_) fun b o e => al b o (fun hb => ?_) (k14 b o e)
    · have lt4 := n4.lt
      rw [← eD]
      rcases List.mem_cons.mp hb with q | q
      · rw [q]; exact ⟨Nat.le_refl _, Nat.lt_of_lt_of_le (Nat.lt_trans lDC lt4) zs⟩
      · rw [List.mem_singleton.mp q]; exact ⟨Nat.le_of_lt lDC, Nat.lt_of_lt_of_le lt4 zs⟩
    · have lt := Heap.lt_size e
      rw [← eD] at lt
      rcases List.mem_cons.mp hb with q | q
      · rw [q] at lt; exact absurd lt (Nat.lt_irrefl _)
      · rw [List.mem_singleton.mp q] at lt; exact absurd (Nat.lt_trans lt lDC) (Nat.lt_irrefl _)
  have loop : codeAny (model X.prog X.w) X.A (.compLoop (.ListComp (.Name x px) [⟨.Name x px2, e, [], 0⟩] scope pos) 0 (.ref a) (.ref D) ce) (compPost (model X.prog X.w) X.A X.xe use Qf (.ref D) C) s4 := by
    refine compLoop_any (fun n s' => ∃ j, n = items.size - j ∧ j ≤ items.size ∧ YAt X.prog X.w X.A sc items a g D C j s') ?_ items.size ⟨0, rfl, Nat.zero_le _, base⟩
    rintro n s5 ⟨j, en, hj, Y⟩
    refine yat_next hh hroom Y hl hj hz aD aC DC ls (Nat.le_trans ls (Nat.le_of_lt lDC)) (fun s6 ej kp os6 b6 hD6 hC6 => ?_) (fun v s6 hv hD6 hC6 k6 => ?_)
    · obtain ⟨m6, hn6⟩ := hC6
      obtain ⟨c6, e6⟩ := hD6
      have hn1 : H1 D = none := I1.hok.fresh ls
      have J := I1.drained (s' := s6) (H' := H1) (S := D) (ex := []) (acc := items) (c := c6) (out := xs) ls (by omega) e6 rv ExOk.nil os6 b6 (Un.kept kp) (I1.hok.kept kp) hn1
      have hnC : upd H1 D (.lst xs) C = none := by rw [upd_ne (Ne.symm DC)]; exact I1.hok.fresh (Nat.le_trans ls (Nat.le_of_lt lDC))
      exact fin D C s6 m6 _ J (q D hn1) hn6 (I1.fpOk (Nat.le_trans ls (Nat.le_of_lt lDC)) hnC)
    · obtain ⟨m6, hn6⟩ := hC6
      obtain ⟨c6, e6⟩ := hD6
      refine wpAny_of_eq (rfl : letOwnedTupleGo (.Name x px2) (.ref a) v = pure ()) ?_
      rw [← cL] at hn6
      refine wpAny_assign_Name (wpAny_storeName_local cx hn6 (fun h7 hn7 sb7 => ?_) cp)
      refine wpAny_tests_nil ?_
      rw [if_pos rfl]
      refine wpAny_Name (wpAny_loadName_local (v := v) ck cx hn7 (if_pos rfl) ?_) hd
      rw [cL] at sb7 hn7
      have jl : j < items.size := (Array.getElem?_eq_some_iff.mp hv).1
      have e7 : h7.get? D = some (lstObj (items.toList.take j).toArray c6) := (sb7.2 D DC).trans e6
      refine append_at (s := { s6 with heap := h7, toks := s6.toks + 1 }) (hsz := ?_) e7 fun h8 sb8 e8 => ?_
      rotate_left
      · rw [List.size_toArray, List.length_take]
        omega
      · refine ⟨items.size - (j + 1), by omega, j + 1, rfl, jl, k6 h8 _ (fun b o nb e => ?_) ?_ ⟨c6 + 1, ?_⟩ ⟨_, hn7.sameBut sb8 (Ne.symm DC)⟩⟩
        · have n1 : b ≠ D := fun z => nb (by rw [z]; exact List.mem_cons_self)
          have n2 : b ≠ C := fun z => nb (by rw [z]; simp)
          exact (sb8.2 b n1).trans ((sb7.2 b n2).trans e)
        · rw [sb8.1]
          exact Nat.le_of_eq sb7.1.symm
        · rw [e8]
          have : (items.toList.take j).toArray.push v = (items.toList.take (j + 1)).toArray := by
            rw [List.take_add_one, Array.getElem?_toList, hv]
            simp
          rw [this]
  exact codeAny_compStart_list loop (wpAny_pyIter_gen hg4 loop)
section
variable {X : Cx} {e : Expr} {tg : TYn} {x : Str} {px px2 pos : Pos} {scope : Scope}
theorem pe_lcY (hc : X.calm = true) (hroom : X.A.depth < recursionLimit) (h : PYn X e tg) (ok : OneName scope x) (hd : (x == ("__debug__" : Str)) = false := by decide)
    (hs : ∀ v, foldedSetIterable e X.env v = pure v := by intro _; rfl) : PE X (.ListComp (.Name x px) [⟨.Name x px2, e, [], 0⟩] scope pos) (tLcY tg) := by
  refine ⟨fun pins s σ H Q I hq => ?_⟩
  rw [eval_ListComp]
  refine lcY_core hc hroom I h ok hd hs hq fun D C s6 m6 H6 I6 q6 hn6 ⟨g0, g1, g2, g3, g4, g5⟩ => ⟨m6, hn6, fun h7 sb => ?_⟩
  exact ⟨.ref D, H6, I6.turned (t' := s6.toks) (fun b o nb eb => (sb.2 b nb).trans eb) g0 g1 g3 g4 g5, rfl, q6⟩
/-- a local name = such a list, on one line -/
theorem ps_setLcY {i : Nat} {y : Str} {py spos : Pos} (hc : X.calm = true) (hroom : X.A.depth < recursionLimit) (hN : X.N.Nodup) (hy : X.N[i]? = some y) (hyl : X.env.scope.names.lookup y = some .local)
    (hsw : swapsWith (.ListComp (.Name x px) [⟨.Name x px2, e, [], 0⟩] scope pos) (some (.Name y py)) spos.line X.env = pure true) (h : PYn X e tg) (ok : OneName scope x) (hd : (x == ("__debug__" : Str)) = false := by decide)
    (hs : ∀ v, foldedSetIterable e X.env v = pure v := by intro _; rfl) : PS X (.Assign [.Name y py] (.ListComp (.Name x px) [⟨.Name x px2, e, [], 0⟩] scope pos) spos) (tAsg (tLcY tg) (gName i)) := by
  refine ⟨fun pins s σ H D I hq => ?_⟩
  rw [exec_Assign_Name_used _ _ _ _ hsw]
  refine wpAny_bind (wpAny_standAt (wpAny_bind ?_))
  have hq : tLcY tg σ H (fun z H1 => gName i z σ H1 D.nx) := hq
  refine wpAny_bind (thn (lcY_core (use := some (assign (.Name y py) X.env)) (Qf := fun _ s7 => SP X pins D .next s7) hc hroom I h ok hd hs hq fun L C s6 m6 H6 I6 q6 hn6 g => ?_) fun _ _ z => wpAny_pure (wpAny_pure z))
  obtain ⟨g0, g1, g2, g3, g4, g5⟩ := g
  refine wpAny_assign_Name (store_ok2 (v := V.ref L) I6 hN hy (.inl hyl) rfl (fun s8 I8 ⟨b8, sb8, or8⟩ => ?_) (.inr hyl))
  have nb : C ≠ b8 := or8.elim (fun z => z ▸ g1) fun z w => g4 y b8 z w.symm
  exact ⟨m6, hn6.sameBut sb8 nb, fun h9 sb9 => ⟨_, H6, I8.turned (t' := s8.toks) (fun b o n9 eb => (sb9.2 b n9).trans eb) g0 g1 g3 g4 g5, q6⟩⟩
end
end LB

namespace LB
open PySem L2 PySem.Spec PyProof.Rows GenW
/-! ### o.m(), m a method «for x in self.f: yield x» -/
/-- the def as it stands -/
structure YScope (sc : Scope) (sf x : Str) : Prop where
  kind : sc.kind = .function
  co : sc.isCoroutine = false
  gen : sc.isGenerator = true
  se : sc.names.lookup sf = some .local
  lx : sc.names.lookup x = some .local
  calm : ∀ (q : Str) (L f : Addr) (cd : Value), interactive (envOfC q sc L f cd) = false
def tY (K : PySem.W.Frag) (C : Addr) (m fld : Str) (ta : TE) : TYn := fun σ H cont => ta σ H fun v H1 => ∃ a dx fs t xs, v = .ref a ∧ H1 a = some (.ins C dx fs) ∧ fs.lookup m = none ∧ fs.lookup fld = some (.ref t) ∧ SqT K H1 t xs ∧ cont xs H1
theorem pyn_meth0 {X : Cx} {o : Expr} {ta : TE} {C f : Addr} {fd : FuncData} {m qual fld sf x : Str} {st : Stmt} {px py yp ep sp ap fp apos pos : Pos} {pl : Sem Bool} (hr : Room 1 X.A) (he : PE X o ta) (c : Cls X.K C) (hm : Meth X.K C m f) (F : Fun X.K m qual st f fd)
    (na : NoAttr X.K C fld) (S : YScope (defScope st) sf x) (hbody : defBody st = [.For (.Name x px) (.Attribute (.Name sf sp) fld ap) (yBody x py yp ep) [] fp]) (hb : Binds X.K fd [sf] [])
    (hab : ∀ env : Env, attributeBase (.Name sf sp) fld env (eval (.Name sf sp) env) = eval (.Name sf sp) env) (hsd : (sf == ("__debug__" : Str)) = false := by decide) (hxd : (x == ("__debug__" : Str)) = false := by decide)
    (hfs : ∀ (env : Env) v, foldedSetIterable (.Attribute (.Name sf sp) fld ap) env v = pure v := by intro _ _; rfl)
    (ht : eval (.Call (.Attribute o m apos) [] [] pos) X.env = (do
      let ov ← eval o X.env
      standAt apos.atName
      let (f, first) ← holding [ov] (getMethod ov m pl)
      callWith pos f first (backTo pos (starEach [] X.env)) (backToKw pos (keywordEach [] X.env))) := by rfl) :
    PYn X (.Call (.Attribute o m apos) [] [] pos) (tY X.K C m fld ta) := by
  refine ⟨fun pins s σ H cont I h => ?_⟩
  refine PySem.W.methodCall_KW (pl := pl) (thn (he.run pins s σ H _ I h) fun u s1 ⟨v, H1, I1, rx, a, dx, fs, t, xs, ev, ea, lm, lf, hT, q⟩ => ?_) ht
  subst ev
  obtain rfl : u = Value.ref a := rx
  refine getmeth_ok I1 ea c hm lm ?_
  refine PySem.W.callWith_K0 (first := [.ref a]) I1.kIn hm.kp ?_
  obtain ⟨oc, od, kV, doc, pm, an, cdv, ct, osl, rfl, lk, hcd⟩ := F.ex
  have KX : X.K.In s1.heap := I1.kIn
  have lim : s1.heap.NoLimit := I1.nolimit
  obtain ⟨its, rv, hIT, hz⟩ := I1.tuple hT
  have bb := hb s1 [.ref a] KX rfl
  rw [List.append_nil] at bb
  refine wpAny_call (codeAny_mono (codeAny_call_generator (R := fun r s' => match r with | .ok (.ret u) => YMade X.prog X.w s1 its.toArray u s' | _ => False) hr.depth (KX _ _ lk) rfl S.co S.gen rfl (PySem.W.codeRec_of KX hcd) (bb _ _ _ _ ?_)) fun r s' hq => ?_)
  · refine wpAny_newFunctionEnv_cells S.kind (fun y hy => ?_) fun env he s2 z => ?_
    · have : y = (sf, Value.ref a) := by simpa using hy
      rw [this]
      exact .inl S.se
    · subst he
      obtain ⟨h2, tk, es2, hk2⟩ := z.done
      have os2 : s2.os = s1.os := by rw [es2]
      have gen2 : s2.gens = s1.gens := by rw [es2]
      have lim2 : s2.heap.NoLimit := lim.keeps z.toInCall.keep
      have lt2 : s1.heap.objs.size < s2.heap.objs.size := z.toInCall.ns.lt
      refine ⟨lim2, s2.heap.objs.size, s2.gens.size, _, rfl, Nat.le_of_lt lt2, ?_, ⟨_, _, _, Heap.get?_push_size _ rfl, rfl, rfl, rfl⟩, Array.getElem?_push_size .., os2, AllBare.push (by rw [gen2]; exact I1.bare) rfl, fun b o e => Heap.get?_push_of_some _ (z.toInCall.keep b o e), fun B out s3 hB hout k3 => ?_⟩
      · show _ < (s2.heap.push _).objs.size
        rw [Heap.size_push]; exact Nat.lt_succ_self _
      · have k23 : ∀ b o, s2.heap.get? b = some o → s3.heap.get? b = some o := fun b o e => k3 b o (Heap.get?_push_of_some _ e)
        have k13 : ∀ b o, s1.heap.get? b = some o → s3.heap.get? b = some o := fun b o e => k23 b o (z.toInCall.keep b o e)
        have ht3 : s3.heap.IsTuple t its.toArray := let ⟨o, ho, r⟩ := hIT; ⟨o, k13 _ _ ho, r⟩
        have hn3 := z.toInCall.ns.keeps k23
        have hok3 : HOk X.prog X.w H1 s3.heap := I1.hok.kept k13
        obtain ⟨mA, O, r, _, _, _⟩ := ins_get hok3 ea
        obtain ⟨u, hu, ru⟩ := RelO.some_of (v := V.ref t) (o := mA fld) (by rw [← lf]; exact r fld)
        have hd3 := handed_of ru
        cases ru
        have K3 : X.K.In s3.heap := KX.keeps k13
        have ltG : s2.heap.objs.size < s3.heap.objs.size := Heap.lt_size (k3 _ _ (Heap.get?_push_size _ rfl))
        have up : ∀ b ∈ out, s2.heap.objs.size < b := fun b hb => by
          have := (hout b hb).1
          have e : (s2.heap.push { cls := .type "generator", data := .fields #[.int s2.gens.size 0, .str m s2.toks, .str qual (s2.toks + 1)] }).objs.size ≤ b := this
          rw [Heap.size_push] at e
          exact e
        rw [hbody]
        refine goes_forY (t := t) hB ht3 hn3 (fun B' E' Q' hq' => ?_) (hfs _) S.lx S.kind S.co (S.calm _ _ _ _) hxd (Nat.le_refl _) (Nat.ne_of_lt lt2) (fun hb => ?_) (fun hb => ?_) ltG (Nat.le_of_lt (Nat.lt_trans lt2 ltG)) fun b hb => (hout b hb).2
        · refine attr_of (hab _) (wpAny_Name (wpAny_loadName_local (v := .ref a) S.kind S.se hn3 (bindL_get (P := [sf]) (vs := [.ref a]) (i := 0) (List.nodup_cons.mpr ⟨List.not_mem_nil, List.nodup_nil⟩) rfl rfl S.se) ?_) hsd)
          exact get_map K3 O (c.get fld) c.hd na hu hd3 (hq' _)
        · exact absurd (Nat.lt_trans lt2 (up _ hb)) (Nat.lt_irrefl _)
        · obtain ⟨o, ho, _⟩ := hIT
          exact absurd (Nat.lt_trans (Nat.lt_trans (Heap.lt_size ho) lt2) (up _ hb)) (Nat.lt_irrefl _)
  · cases r with
    | error e => exact False.elim hq
    | ok fl =>
      cases fl with
      | ret u => exact ⟨H1, s1, its.toArray, xs, I1, rv, hq, q⟩
      | next => exact False.elim hq
      | brk => exact False.elim hq
      | cont => exact False.elim hq
end LB

namespace PySem.W
open PySem PySem.Calls PyProof.Rows Builtin
/-- the class's bases are object alone -/
def baseObj (K : Frag) (C : Addr) : Bool := (clsIn K C).any fun cd => cd.mro == [.ref C, .type "object"]
section
variable {prog : Program} {w : World} {A : Around} {E : Value → Shared → Prop} {s : Shared} {K : Frag} {x C L f : Addr} {h₀ : Heap} {m : Str → Option Value} {ox : Obj} {od : Option Obj}
theorem noInplace {M : Model} {h : Heap} {nm : String} {add : Bool} (X : K.In h) (hb : baseObj K C = true) (n1 : findIn K (.ref C) (dunderI nm) = some none) (n2 : findIn K (.type "object") (dunderI nm) = some none) : Looks M h (fillsInplaceSlot (.ref C) nm add) false := by
  intro A Q E s k q
  obtain ⟨cd, hcd, hm⟩ := any_some hb
  have hm : cd.mro = [.ref C, .type "object"] := beq_iff_eq.mp hm
  unfold fillsInplaceSlot
  refine wpAny_bind ((looks_clsIn X hcd).andThen (f := fun cd => pure cd.mro) .now A _ E s k ?_)
  rw [hm, List.anyM_cons]
  refine wpAny_bind (wpAny_bind (looks_findIn X n1 A _ E s k ?_))
  refine wpAny_pure ?_
  rw [if_neg (by decide), List.anyM_cons]
  refine wpAny_bind (wpAny_bind (looks_findIn X n2 A _ E s k ?_))
  refine wpAny_pure ?_
  rw [if_neg (by decide), List.anyM_nil]
  exact wpAny_pure q
theorem inplaceNo {op : Operator} {b : Value} {Q : Value → Shared → Prop} (F : Fr h₀ L s.heap m) (X₀ : K.In h₀) (I : InstAt s.heap x ox C od) (hb : Looks (model prog w) s.heap (typeOf b) (.ref C)) (hc : baseObj K C = true)
    (n1 : findIn K (.ref C) (dunderI op.info.2) = some none) (n2 : findIn K (.type "object") (dunderI op.info.2) = some none) (hs : findIn K (.ref C) (PySem.dunder op.info.2) = some (some (.ref f))) (hf : isFn K (.ref f) = true)
    (h : wpAny (model prog w) A (call (.ref f) [.ref x, b]) (CmpBack Q) E s) : wpAny (model prog w) A (inplaceOp op (.ref x) b) Q E s := by
  have X := X₀.keeps F.keep
  obtain ⟨cd, hcd, hm⟩ := any_some hc
  have hm : cd.mro = [.ref C, .type "object"] := beq_iff_eq.mp hm
  unfold inplaceOp
  refine wpAny_holding ?_
  refine wpAny_bind (I.type.here (wpAny_bind ((noInplace X hc n1 n2).here ?_)))
  rw [if_neg (by decide)]
  refine wpAny_bind ?_
  unfold binaryOp1
  refine wpAny_bind (I.type.here ?_)
  refine wpAny_bind (hb.here ?_)
  refine wpAny_bind ((fills_K X hcd hm hs).here ?_)
  simp only [beq_self_eq_true, if_true]
  refine wpAny_bind (wpAny_pure ?_)
  simp only [Bool.and_false, Bool.false_eq_true, if_false, Bool.false_and]
  refine wpAny_bind (wpAny_pure ?_)
  simp only [Bool.false_eq_true, if_false]
  refine wpAny_bind ?_
  refine wpAny_mono (ksp_try X I hs hf h) (fun r s' z => ?_) fun _ _ z => z
  obtain ⟨v, rfl, q⟩ := z
  exact wpAny_pure (wpAny_pure q)
end
end PySem.W
namespace LB
open PySem L2 PySem.Spec PyProof.Rows
/-- o -= e by the class's own operator -/
structure NoI (K : PySem.W.Frag) (C : Addr) (n : Str) : Prop where
  ob : PySem.W.baseObj K C = true
  n1 : PySem.W.findIn K (.ref C) n = some none
  n2 : PySem.W.findIn K (.type "object") n = some none
section
variable {X : Cx} {CX : CXT} {k : Nat} {C f : Addr} {fd : FuncData} {ps : List Str} {sp : Sp} {E : XK}
theorem iop_own {op : Operator} (F : FnOk X.prog X.w X.K X.mg X.base CX k f fd ps sp) (hr : Room k X.A) (hb : Binds X.K fd ps []) (hx : Passes CX X E) (hc : NoI X.K C (dunderI op.info.2))
    (ho : Own X.K C f (PySem.dunder op.info.2)) : PIp X op (rOwn2 C C sp E) := by
  intro pins s σ H x y v u Q I rx ry hq
  obtain ⟨a, b, dx, dy, fs, gs, rfl, rfl, ha, hb', h⟩ := hq
  cases rx
  cases ry
  obtain ⟨od, J⟩ := inst_of I ha
  obtain ⟨od', J'⟩ := inst_of I hb'
  obtain ⟨m, hF⟩ := I.fr
  refine PySem.W.inplaceNo hF I.ok.mod.kin J J'.type hc.ob hc.n1 hc.n2 ho.at_ ho.fn (thn ?_ fun _ _ z => cmpBack_of z)
  exact run_fn (us := [.ref a, .ref b]) (vs := [.ref a, .ref b]) (dvs := []) (ds := []) F hr hb .nil hx I (.cons rfl (.cons rfl .nil)) h
theorem iop_subMe (h : HasMe X.prog X.w X.K X.mg X.base CX k C "__sub__" ps sp) (hr : Room k X.A) (hx : Passes CX X E) (hc : NoI X.K C "__isub__") : PIp X .Sub (rOwn2 C C sp E) := by
  obtain ⟨f, fd, F, O, _, hb⟩ := h
  exact iop_own F hr hb hx hc O
theorem op_andMe (h : HasMe X.prog X.w X.K X.mg X.base CX k C "__and__" ps sp) (hr : Room k X.A) (hx : Passes CX X E) (hc : PySem.W.selfFirst X.K C = true) : OpR X (binaryOp .BitAnd) (rOwn2 C C sp E) := by
  obtain ⟨f, fd, F, O, _, hb⟩ := h
  exact op_bin F hr hb hx hc O
theorem op_orMe (h : HasMe X.prog X.w X.K X.mg X.base CX k C "__or__" ps sp) (hr : Room k X.A) (hx : Passes CX X E) (hc : PySem.W.selfFirst X.K C = true) : OpR X (binaryOp .BitOr) (rOwn2 C C sp E) := by
  obtain ⟨f, fd, F, O, _, hb⟩ := h
  exact op_bin F hr hb hx hc O
theorem op_xorMe (h : HasMe X.prog X.w X.K X.mg X.base CX k C "__xor__" ps sp) (hr : Room k X.A) (hx : Passes CX X E) (hc : PySem.W.selfFirst X.K C = true) : OpR X (binaryOp .BitXor) (rOwn2 C C sp E) := by
  obtain ⟨f, fd, F, O, _, hb⟩ := h
  exact op_bin F hr hb hx hc O
theorem op_subMe (h : HasMe X.prog X.w X.K X.mg X.base CX k C "__sub__" ps sp) (hr : Room k X.A) (hx : Passes CX X E) (hc : PySem.W.selfFirst X.K C = true) : OpR X (binaryOp .Sub) (rOwn2 C C sp E) := by
  obtain ⟨f, fd, F, O, _, hb⟩ := h
  exact op_bin F hr hb hx hc O
theorem un_invMe (h : HasMe X.prog X.w X.K X.mg X.base CX k C "__invert__" ps sp) (hr : Room k X.A) (hx : Passes CX X E) :
    UnR X (unaryOp .Invert) (fun x H Q => ∃ a dx fs, x = .ref a ∧ H a = some (.ins C dx fs) ∧ sp [x] H Q E) := by
  obtain ⟨f, fd, F, O, _, hb⟩ := h
  exact un_own (op := .Invert) F hr hb hx O
theorem tru_me (h : HasMe X.prog X.w X.K X.mg X.base CX k C "__bool__" ps sp) (hr : Room k X.A) (hx : Passes CX X E) : TruR X (rTruOwn C sp E) := by
  obtain ⟨f, fd, F, O, _, hb⟩ := h
  exact tru_own F hr hb hx O
end
end LB

namespace LB
open PySem L2 PySem.Spec PyProof.Rows
/-! ### bool(a text) -/
theorem meets_bool_text (x : Str) (t : Tok) (hz : ¬ (x.length : Int) ≥ 2 ^ 63) : Meets (Builtin.«bool.__new__» ⟨[.type "bool", .str x t], []⟩) (fun _ R s => R (.ok (.ret (.bool ((x.length : Int) != 0)))) { s with toks := s.toks + 1 + 1 }) :=
  Meets.of_wp fun prog w A R s hs => by
    obtain ⟨hp, g, d, tk, os⟩ := s
    have f1 := F.conv_sub_bool
    repeat (any_goals (first | assumption | (with_reducible refine P.truthy_str hz ?_) | wp_step))
    all_goals first | exact hs | exact ⟨_, rfl, hs⟩ | skip
section
variable {X : Cx}
theorem call_boolS : CallR X (.type "bool") (fun xs H Q => ∃ z, xs = [.str z] ∧ z.length ≤ sizeLine ∧ Q (.bl (decide (0 < z.length))) H) := by
  intro pins s σ H xs us Q I r h
  obtain ⟨z, rfl, hz, q⟩ := h
  obtain ⟨u, rfl, t, rfl⟩ := vals1 r
  have big : (sizeLine : Int) < 2 ^ 63 := by decide
  have e : ((z.length : Int) != 0) = decide (0 < z.length) := by
    by_cases h0 : z.length = 0
    · rw [h0]; rfl
    · have : ((z.length : Int) != 0) = true := by rw [bne_iff_ne]; omega
      rw [this, decide_eq_true (Nat.pos_of_ne_zero h0)]
  refine call_bool_1 (meets_bool_text z t (by omega)) ⟨rfl, ?_⟩
  rw [e]
  exact ⟨.bl _, H, I.tok _, rfl, q⟩
end
/-! ### where a sign is found -/
theorem occ_all (s sub : Str) (hi : Nat) : ∀ (l : List Nat) (st : Array Nat × Nat), (∀ i ∈ st.1.toList, i + sub.length ≤ hi ∧ Builtin.Str.subAt s sub i = true) →
    ∀ i ∈ (forIn (m := Id) l st (StrLaws.occBody s sub hi 1)).run.1.toList, i + sub.length ≤ hi ∧ Builtin.Str.subAt s sub i = true
  | [], st, h => h
  | a :: l, st, h => by
    rw [List.forIn_cons]
    unfold StrLaws.occBody
    split
    · rename_i hc
      refine occ_all s sub hi l _ fun i hi' => ?_
      rw [Array.toList_push, List.mem_append] at hi'
      rcases hi' with q | q
      · exact h i q
      · rw [List.mem_singleton.mp q]; exact ⟨hc.1.2, hc.2⟩
    · exact occ_all s sub hi l _ h
/-- the first place of a sign that is there -/
theorem index_sign {z : Str} {c k : Nat} (nd : z.cps.toList.Nodup) (hk : z.cps.toList[k]? = some c) : Builtin.Str.occurrences z ⟨#[c]⟩ 0 z.length 1 = [k] := by
  have hm : c ∈ z.cps.toList := List.mem_of_getElem? hk
  have f := StrLaws.found_one z c
  rw [decide_eq_true hm] at f
  cases e : Builtin.Str.occurrences z ⟨#[c]⟩ 0 z.length 1 with
  | nil => rw [e] at f; cases f
  | cons i rest =>
    have len := StrLaws.occ_length_le z ⟨#[c]⟩ 0 z.length 1
    rw [e] at len
    have hr : rest = [] := List.eq_nil_of_length_eq_zero (by rw [List.length_cons] at len; omega)
    subst hr
    have hi : z.cps.toList[i]? = some c := by
      refine (StrLaws.subAt_one z c i).mp ?_
      have all := occ_all z ⟨#[c]⟩ z.length (List.range' 0 (z.length + 1 - 0)) (#[], 0) (fun i h => by cases h)
      rw [StrLaws.occ_eq] at e
      exact all i (by rw [e]; exact List.mem_cons_self)
    have : i = k := by
      obtain ⟨h1, e1⟩ := List.getElem?_eq_some_iff.mp hi
      obtain ⟨h2, e2⟩ := List.getElem?_eq_some_iff.mp hk
      exact (List.getElem_inj nd).mp (e1.trans e2.symm)
    rw [this]
end LB

namespace LB
open PySem L2 PySem.Spec PyProof.Rows
/-! ### bool(o), o an instance with its own __bool__ -/
theorem bool_called {prog : Program} {w : World} {A : Around} {E : Value → Shared → Prop} {s : Shared} {x : Value} {Q : Value → Shared → Prop}
    (h : wpAny (model prog w) A.in1.in1 (truthy x) (fun b s' => Q (.bool b) s') E s) : wpAny (model prog w) A (call (.type "bool") [x]) Q E s := by
  obtain ⟨c, tl, em⟩ := F.called_bool.mro
  have made := F.called_bool.made
  have sub := F.called_bool.sub
  have f1 := F.conv_sub_bool
  have n1 := F.called_bool.notType
  have n2 := F.called_bool.canCreate
  refine wpAny_call (codeAny_of_tree ?_)
  show wpAny _ _ (callAny (.type "bool") _) _ _ _
  refine wpAny_pure (And.intro (Code.quiet_builtin _ (by decide +kernel)) (codeAny_builtin F.entry_type_call ?_))
  rw [Around.under_plain (weight_type_call_type "bool" [x] []) (units_type_call_type "bool" [x] [])]
  have hct := F.typeCall_bool_1 x
  repeat (any_goals (first | assumption | wp_step | fail))
  have wn : wpAny (model prog w) A.in1.in1 (Builtin.«bool.__new__» ⟨[.type "bool", x], []⟩) (fun fin s' => match fin with | .done f => wants (fun v s' => (∃ b, v = .bool b) ∧ Q v s') E (.ok f) s' | .again c' => c'.quiet = true ∧ codeAny (model prog w) A.in1 c' (wants (fun v s' => (∃ b, v = .bool b) ∧ Q v s') E) s') (fun e s' => E e s') s := by
    unfold Builtin.«bool.__new__»
    repeat (first | (refine wpAny_bind (m := truthy x) (wpAny_mono h (fun b s' q => ?_) fun _ _ e => e)) | assumption | wp_step)
    exact ⟨⟨_, rfl⟩, q⟩
  refine codeAny_mono (codeAny_call_builtin (R := wants (fun v s' => (∃ b, v = .bool b) ∧ Q v s') E) F.called_bool.plain F.entry_bool_new (wpAny_of_eq (F.newCall_bool_1 x) wn)) fun r s1 hr => ?_
  cases r with
  | error e => exact hr
  | ok fl =>
    cases fl with
    | next => exact hr.elim
    | brk => exact hr.elim
    | cont => exact hr.elim
    | ret o =>
      obtain ⟨⟨b, rfl⟩, q⟩ := hr
      have tI : s1.TypeIs (.bool b) "bool" := PySem.typeIs_bool s1 b
      have li := F.called_bool.init.lookup
      have bi := F.called_bool.init.bind (.bool b)
      repeat (any_goals (first | assumption | wp_step | fail))
      have im := object_init_meets (self := .bool b) (rest := [x]) li made F.newNe_bool
      refine codeAny_mono (codeAny_call_builtin (R := wants (fun r s2 => r = .none ∧ Q (.bool b) s2) E) F.called_bool.init.plain F.entry_object_init (F.called_bool.init.check _ _ _ _ _ _ _ _ tI (F.args_object_init_2 (.bool b) x) (im prog w A.in1 _ s1 ⟨tI, rfl, q⟩))) fun r2 s2 h2 => ?_
      cases r2 with
      | error e => exact h2
      | ok g2 =>
        cases g2 with
        | next => exact h2.elim
        | brk => exact h2.elim
        | cont => exact h2.elim
        | ret y =>
          obtain ⟨rfl, q2⟩ := h2
          repeat (any_goals (first | assumption | wp_step | fail))
end LB

namespace LB
open PySem L2 PySem.Spec PyProof.Rows
section
variable {X : Cx} {CX : CXT} {k : Nat} {f C : Addr} {fd : FuncData} {ps : List Str} {sp : Sp} {E : XK}
theorem run_in2 {pins : List (Addr × Obj)} {σ : L2.St} {H : Hp} {s : Shared} {Q : VK} {us : List Value} {vs : List V} (F : FnOk X.prog X.w X.K X.mg X.base CX k f fd ps sp) (hr : Room (k + 1) X.A) (hb : Binds X.K fd ps []) (hx : Passes CX X E)
    (I : Inv X pins σ H s) (r : Vals vs us) (h : sp vs H Q E) : wpAny (model X.prog X.w) X.A.in1.in1 (call (.ref f) us) (EP X pins σ Q) X.xe s := by
  have el : us.length = ps.length := by rw [← r.length]; exact F.len _ _ _ _ h
  have bb := hb s us I.kIn (by rw [List.append_nil]; exact el)
  rw [List.append_nil] at bb
  have room2 : Room k X.A.in1.in1 := ⟨hr.hd, by have := hr.dp; show X.A.depth + 3 * k + 5 < _; omega, by have := hr.un; show X.A.units + 1 + 1 + 16 * k + 200 < _; omega⟩
  refine wpAny_call (codeAny_mono (F.run X.A.in1.in1 X.stack s H ⟨us, []⟩ us vs Q E room2 I.env0.in1.in1 bb r h) fun r s' hq => ?_)
  cases r with
  | error e => exact hx pins σ H s e s' I hq
  | ok fl =>
    cases fl with
    | ret u => exact I.after hq
    | next => exact False.elim hq
    | brk => exact False.elim hq
    | cont => exact False.elim hq
/-- bool(o) -/
theorem call_boolMe (h : HasMe X.prog X.w X.K X.mg X.base CX k C "__bool__" ps sp) (hr : Room (k + 1) X.A) (hx : Passes CX X E) :
    CallR X (.type "bool") (fun xs H Q => ∃ a dx fs, xs = [.ref a] ∧ H a = some (.ins C dx fs) ∧ sp [.ref a] H (fun z H' => ∃ c, z = .bl c ∧ Q (.bl c) H') E) := by
  obtain ⟨f, fd, F, O, _, hb⟩ := h
  intro pins s σ H xs us Q I rx hq
  obtain ⟨a, dx, fs, rfl, ha, h⟩ := hq
  obtain ⟨u, rfl, ru⟩ := vals1 rx
  cases ru
  obtain ⟨od, J⟩ := inst_of I ha
  obtain ⟨m, hF⟩ := I.fr
  refine bool_called (PySem.W.truthy_K hF I.ok.mod.kin J O.at_ O.fn (thn (run_in2 (us := [.ref a]) (vs := [.ref a]) F hr hb hx I (.cons rfl .nil) h) fun u s' z => ?_))
  obtain ⟨w, H', I', r, c, rfl, q⟩ := z
  cases r
  exact ⟨.bl c, H', I', rfl, q⟩
end
/-! ### o.m(k = e, ..) -/
def tMethK (C : Addr) (m : Str) (n : Nat) (sp : Sp) (E : XK) (ta : TE) (tk : TA) : TE := fun σ H Q => ta σ H fun x H1 => ∃ a dx fs, x = .ref a ∧ H1 a = some (.ins C dx fs) ∧ fs.lookup m = none ∧
  tk σ H1 fun zs H2 => zs.length = n ∧ sp (x :: zs) H2 Q E
/-- a method, called by keywords in the parameters' order -/
def HasMeK (P : Program) (w : World) (K : PySem.W.Frag) (mg : Str → Option Value) (base : Heap) (CX : CXT) (k : Nat) (C : Addr) (x : Str) (ps ks : List Str) (sp : Sp) : Prop :=
  ∃ (f : Addr) (fd : FuncData), FnOk P w K mg base CX k f fd ps sp ∧ Own K C f x ∧ PySem.W.keepIn K (.ref f) = true ∧ ∀ (s : Shared) (u : Value) (ws : List Value), K.In s.heap → ws.length = ks.length → BindsTo s fd ⟨[u], ks.zip ws⟩ (ps.zip (u :: ws))
section
variable {X : Cx} {CX : CXT} {k : Nat} {C : Addr} {ps ks : List Str} {sp : Sp} {E : XK} {m : Str} {o : Expr} {kws : List Keyword} {ta : TE} {tk : TA} {apos pos : Pos}
theorem pe_meK {pl : Sem Bool} (he : PE X o ta) (h : HasMeK X.prog X.w X.K X.mg X.base CX k C m ps ks sp) (c : Cls X.K C) (hr : Room k X.A) (hx : Passes CX X E) (hkw : PK X kws tk)
    (hall : (backToKw pos (keywordEach kws X.env)).all (·.1.isSome) = true := by rfl) (hks : (backToKw pos (keywordEach kws X.env)).filterMap (·.1) = ks := by rfl)
    (hpl : ((backTo pos (starEach [] X.env)).any (·.1) || (backToKw pos (keywordEach kws X.env)).any (·.1.isNone)) = false := by rfl)
    (ht : eval (.Call (.Attribute o m apos) [] kws pos) X.env = (do
      let ov ← eval o X.env
      standAt apos.atName
      let (f, first) ← holding [ov] (getMethod ov m pl)
      callWith pos f first (backTo pos (starEach [] X.env)) (backToKw pos (keywordEach kws X.env))) := by rfl) :
    PE X (.Call (.Attribute o m apos) [] kws pos) (tMethK C m ks.length sp E ta tk) := by
  obtain ⟨f, fd, F, O, hk, hb⟩ := h
  refine ⟨fun pins s σ H Q I hq => ?_⟩
  refine PySem.W.methodCall_KW (pl := pl) (thn (he.run pins s σ H _ I hq) fun u s1 ⟨x, H1, I1, rx, a, dx, fs, ex, ea, l, q⟩ => ?_) ht
  subst ex
  obtain rfl : u = Value.ref a := rx
  refine getmeth_ok I1 ea c ⟨O.at_, O.fn, hk⟩ l ?_
  refine PySem.W.callWith_KW0 (first := [.ref a]) (h₀ := X.base) I.ok.mod.kin hk hall ?_ hpl
  refine thn (hkw.run pos pins s1 σ H1 _ I1 q) fun ws s2 ⟨zs, H2, I2, rz, l2, q2⟩ => ⟨I2.kIn, ?_⟩
  rw [hks]
  refine wpAny_call (codeAny_mono (F.run X.A X.stack s2 H2 ⟨[.ref a], ks.zip ws⟩ (.ref a :: ws) (.ref a :: zs) Q E hr I2.env0 (hb s2 (.ref a) ws I2.kIn (rz.length.symm.trans l2)) (.cons rfl rz) q2) fun r s' z => ?_)
  cases r with
  | error e => exact hx pins σ H2 s2 e s' I2 z
  | ok fl =>
    cases fl with
    | ret u => exact I2.after z
    | next => exact False.elim z
    | brk => exact False.elim z
    | cont => exact False.elim z
end
/-! ### dicts inside of a comprehension -/
section
variable {X : Cx} {s : Shared} {H : Hp} {sc : Scope} {ev : Env} {fp : List Addr} {o i : Expr} {td ty : TE} {pos : Pos}
theorem pe_dgetB (hu : X.A.units + 1 < cLine) (ho : PE (X.blk s H sc ev fp) o td) (hi : PE (X.blk s H sc ev fp) i ty) (hs : NoSl i) : PE (X.blk s H sc ev fp) (.Subscript o i pos) (tDGet td ty) := pe_dget hu ho hi hs
theorem pc_dinB (hu : X.A.units + 1 < cLine) (hi : PE (X.blk s H sc ev fp) i ty) (ho : PE (X.blk s H sc ev fp) o td) (hm : behindInMarks .In o = false := by rfl) : PE (X.blk s H sc ev fp) (.Compare i [.In] [o] pos) (tDIn ty td) := pe_cmp (pc_din hu hi ho) hm
end
end LB

namespace LB
open PySem L2 PySem.Spec PyProof.Rows
section
variable {P : Program} {w : World} {K : PySem.W.Frag} {mg : Str → Option Value} {base : Heap} {CX : CXT}
/-- o.m(k = v, ..), all keywords in the parameters' order -/
theorem has_meK {C f : Addr} {x qual : Str} {st : Stmt} {ps ks : List Str} {k : Nat} {sp : Sp} (a : PySem.W.findIn K (.ref C) x = some (some (.ref f))) (i : PySem.W.isFn K (.ref f) = true) (F : FnX K f x qual st)
    (hb : ∀ (kV doc pm : Value) (an : Option Addr) (cdv ct u : Value) (ws : List Value), ws.length = ks.length → bindArgs (PySem.W.fnOf x qual (defArgs st) (defBody st) (defScope st) .none kV doc pm an cdv ct) ⟨[u], ks.zip ws⟩ = pure (ps.zip (u :: ws)))
    (ok : ∀ fd, Fun K x qual st f fd → FnOk P w K mg base CX k f fd ps sp) : HasMeK P w K mg base CX k C x ps ks sp := by
  obtain ⟨fd, F'⟩ := F.get
  refine ⟨f, fd, ok fd F', ⟨a, i⟩, F.kp, fun s u ws _ h => ?_⟩
  obtain ⟨oc, od, kV, doc, pm, an, cdv, ct, osl, e1, e2, e3⟩ := F'.ex
  subst e1
  exact .of_eq (hb kV doc pm an cdv ct u ws h)
end
end LB

namespace K6
open PySem L2 LB PyProof.Rows
def top (i : Nat) : Stmt := PySem.Challenge.pw_linestrikes_k06_whole_cells_under_other.main.body.getD i (.Pass ⟨0, 0, 0, 0⟩)
abbrev s_is_letter_of : Stmt := top 12
theorem sc_is_letter_of : FnScope ["letters", "value"] ["letters", "value"] (defScope s_is_letter_of) := ⟨rfl, rfl, rfl, by decide +kernel, rfl, by decide +kernel, by decide +kernel⟩
abbrev s_are_unlike_letters : Stmt := top 19
theorem sc_are_unlike_letters : FnScope ["letters", "letter"] ["letters"] (defScope s_are_unlike_letters) := ⟨rfl, rfl, rfl, by decide +kernel, rfl, by decide +kernel, by decide +kernel⟩
abbrev s_ValuesDD_initDD : Stmt := inClass (top 16) 1
theorem sc_ValuesDD_initDD : FnScope ["self", "letters", "number"] ["self", "letters"] (defScope s_ValuesDD_initDD) := ⟨rfl, rfl, rfl, by decide +kernel, rfl, by decide +kernel, by decide +kernel⟩
abbrev s_CellDD_initDD : Stmt := inClass (top 17) 0
theorem sc_CellDD_initDD : FnScope ["self", "alphabet", "number", "k", "letter"] ["self", "alphabet", "number"] (defScope s_CellDD_initDD) := ⟨rfl, rfl, rfl, by decide +kernel, rfl, by decide +kernel, by decide +kernel⟩
abbrev s_Values_full : Stmt := inClass (top 16) 5
theorem sc_Values_full : FnScope ["self"] ["self"] (defScope s_Values_full) := ⟨rfl, rfl, rfl, by decide +kernel, rfl, by decide +kernel, by decide +kernel⟩
abbrev s_are_values_letters : Stmt := top 18
theorem sc_are_values_letters : FnScope ["letters"] ["letters"] (defScope s_are_values_letters) := ⟨rfl, rfl, rfl, by decide +kernel, rfl, by decide +kernel, by decide +kernel⟩

def isLet (L : Str) : V → Bool
  | .str z => decide (z.cps.size = 1) && decide (z.cps.getD 0 0 ∈ L.cps.toList)
  | _ => false
/-- a value of which it is known whether it is a text -/
def TextOr (K : PySem.W.Frag) (H : Hp) (x : V) : Prop := (∃ z : Str, x = .str z ∧ z.cps.size ≤ sizeLine) ∨ (∃ t, TyX K H x t ∧ PySem.W.kitOne K t (.type "str") = some false ∧ ∀ z, x ≠ .str z)
def spLet (K : PySem.W.Frag) : Sp := fun vs H Q _ => ∃ (L : Str) (x : V), vs = [.str L, x] ∧ TextOr K H x ∧ Q (.bl (isLet L x)) H

def SM : Str := ⟨small.toArray⟩
structure Consts (mg : Str → Option Value) (CV : Addr) (ts : Tok) : Prop where
  small : mg "SMALL_LETTERS" = some (.str SM ts)
  mgV : mg "Values" = some (.ref CV)
theorem same_upd {H H1 : Hp} {D : Addr} {o : HO} (h : Same H H1) (n : H D = none) : Same H (upd H1 D o) := fun b u e => by rw [upd_ne (ne_of_none e n)]; exact h b u e
def spUnl : Sp := fun vs H Q _ => ∃ z : Str, vs = [.str z] ∧ Good z ∧ ∀ H', Same H H' → Q (.bl true) H'
theorem isLet_small {c : Nat} (h : c ∈ small) : isLet SM (.str ⟨#[c]⟩) = true := by
  show (decide ((#[c] : Array Nat).size = 1) && decide ((#[c] : Array Nat).getD 0 0 ∈ (small.toArray).toList)) = true
  have : c ∈ (small.toArray).toList := by simpa using h
  simpa using this
theorem signs_nd {z : Str} (h : z.cps.toList.Nodup) : (LB.signs z).Nodup := by
  unfold LB.signs
  exact List.Pairwise.map _ (fun a b hab e => hab (by injection e with e; injection e with e; injection e)) h

structure VF (K : PySem.W.Frag) (CV CC : Addr) : Prop where
  cv : Cls K CV
  ne : CV ≠ CC
  cc : Cls K CC
  vl : NoAttr K CV "letters"
  vb : NoAttr K CV "by_number"
  ca : NoAttr K CC "alphabet"
  cn : NoAttr K CC "number"
  cl : NoAttr K CC "letters"
  most : ∃ mc u, ClX.CRead K CV mc ∧ ClX.CVal K CV mc "MOST" (.int 4) u
def spCell (CV CC : Addr) : Sp := fun vs H Q _ => ∃ (c p dc dx : Addr) (fs : List (Str × V)) (z : Str) (n : Nat), vs = [.ref c, .ref p, .int n] ∧ H c = some (.ins CC dc []) ∧ H p = some (.ins CV dx fs) ∧ fs.lookup ("letters" : Str) = some (.str z) ∧ Good z ∧ c ≠ p ∧
  ∀ H', But c H H' → H' c = some (.ins CC dc (cellF p n (cellT z n))) → Q .non H'
theorem But.same_of {p : Addr} {H H1 H2 : Hp} (a : But p H H1) (b : Same H1 H2) : But p H H2 := fun c o h n => b c o (a c o h n)
theorem sgs_len (l : List Nat) : (sgs l).length = l.length := by simp [sgs]

def spVals (CV CC : Addr) : Sp := fun vs H Q _ => ∃ (v dv : Addr) (z : Str), vs = [.ref v, .str z] ∧ H v = some (.ins CV dv []) ∧ Good z ∧ ∀ H' cs, But v H H' → ValsAt CV CC H' v z cs → Q .non H'
theorem same_upd' {p : Addr} {H H1 : Hp} {D : Addr} {o : HO} (h : But p H H1) (n : H D = none) : But p H (L2.upd H1 D o) := fun b u e k => by rw [upd_ne (ne_of_none e n)]; exact h b u e k
theorem But.at {p : Addr} {H H' : Hp} (a : But p H H') (b : Addr) {o : HO} (h : H b = some o) (n : b ≠ p) : H' b = some o := a b o h n
/-- n cells stand -/
structure CellsAt (CC : Addr) (H : Hp) (p : Addr) (z : Str) (n : Nat) (cs : List Addr) : Prop where
  len : cs.length = n
  cell : ∀ i c, cs[i]? = some c → CellAt CC H c p z i
theorem CellsAt.but {CC : Addr} {H H' : Hp} {p q : Addr} {z : Str} {n : Nat} {cs : List Addr} (h : CellsAt CC H p z n cs) (b : But q H H') (hq : ∀ i : Nat, cs[i]? ≠ some q) : CellsAt CC H' p z n cs :=
  ⟨h.len, fun i c e => let ⟨dc, k⟩ := h.cell i c e; ⟨dc, b _ _ k fun q' => hq i (q' ▸ e)⟩⟩

def spEnd (CV CC : Addr) (i : Int) : Sp := fun vs H Q _ => ∃ (p : Addr) (z : Str) (cs : List Addr) (c : Addr), vs = [.ref p] ∧ ValsAt CV CC H p z cs ∧ atI (cs.map V.ref) i = some (.ref c) ∧ Q (.ref c) H

section
variable {P : Program} {w : World} {K : PySem.W.Frag} {mg : Str → Option Value} {base : Heap}
theorem ok_let {f : Addr} {fd : FuncData} (F : Fun K "is_letter_of" "is_letter_of" s_is_letter_of f fd) (B : Blt mg) : FnOk P w K mg base CX0 1 f fd ["letters", "value"] (spLet K) := by
  refine F.ok sc_is_letter_of (fun vs H Q E h => ?_) (fun cdv A outer s H vs Q E hr h => ?_)
  · obtain ⟨L, x, rfl, _⟩ := h
    rfl
  · obtain ⟨L, x, rfl, hx, k⟩ := h
    refine ⟨_, (pss_one (ps_ret (pe_and (pe_callB call_isi (by rfl) B.n_isinstance (by decide +kernel) (pa_cons (pv 1) (pa_cons (pe_bltn (v := .ty "str") (by rfl) B.n_str (by decide +kernel) rfl) pa_nil))) (pe_and (pe_cmpR op_eq (pe_callB call_len (by rfl) B.n_len (by decide +kernel) (pa_cons (pv 1) pa_nil)) pe_int (nomark _)) (pe_one (pe_cmpR op_in_sign (pv 1) (pv 0) (by rfl))))))), ?_⟩
    rcases hx with ⟨z, rfl, hz⟩ | ⟨t, ty, hk, hn⟩
    · refine ⟨_, rfl, _, _, _, _, true, rfl, .ty "str", .base (.str z), kit_ty (by decide +kernel), true, rfl, iteT ?_⟩
      refine ⟨_, rfl, _, _, rfl, ⟨hz, rfl⟩, rfl, _, rfl, ?_⟩
      have e1 : decide (V.int (z.cps.size : Nat) = V.int 1) = decide (z.cps.size = 1) := by
        by_cases h : z.cps.size = 1
        · rw [h]; rfl
        · rw [decide_eq_false h, decide_eq_false fun q => h (by injection q with q; omega)]
      show if decide (V.int (z.cps.size : Nat) = V.int 1) = true then _ else _
      rw [e1]
      refine ite2 (fun c => ?_) (fun c => ?_)
      · have c' : z.cps.size = 1 := of_decide_eq_true c
        have ez : z = ⟨#[z.cps.getD 0 0]⟩ := by
          obtain ⟨a⟩ := z
          have h1 : a.size = 1 := c'
          obtain ⟨l⟩ := a
          match l, h1 with
          | [y], _ => rfl
        refine ⟨.str z, rfl, _, rfl, z.cps.getD 0 0, L, by rw [← ez], rfl, ?_⟩
        have k' : Q (.bl (decide (z.cps.size = 1) && decide (z.cps.getD 0 0 ∈ L.cps.toList))) H := k
        rw [c, Bool.true_and] at k'
        exact k'
      · have k' : Q (.bl (decide (z.cps.size = 1) && decide (z.cps.getD 0 0 ∈ L.cps.toList))) H := k
        have c' : decide (z.cps.size = 1) = false := by simpa using c
        rw [c', Bool.false_and] at k'
        exact k'
    · refine ⟨_, rfl, _, _, _, _, false, rfl, .ty "str", ty, hk, false, rfl, iteF ?_⟩
      have e : isLet L x = false := by
        cases x <;> first | rfl | exact absurd rfl (hn _)
      rw [← e]
      exact k
theorem ok_unl {CV : Addr} {ts : Tok} {f : Addr} {fd : FuncData} (F : Fun K "are_unlike_letters" "are_unlike_letters" s_are_unlike_letters f fd) (B : Blt mg) (G : Consts mg CV ts) (D_is_letter_of : HasFn P w K mg base CX0 1 "is_letter_of" ["letters", "value"] (spLet K)) :
    FnOk P w K mg base CX0 2 f fd ["letters"] spUnl := by
  refine F.ok sc_are_unlike_letters (fun vs H Q E h => ?_) (fun cdv A outer s H vs Q E hr h => ?_)
  · obtain ⟨z, rfl, _⟩ := h
    rfl
  · obtain ⟨z, rfl, gz, k⟩ := h
    refine ⟨_, (pss_one (ps_ret (pe_and (pe_callB (cr_all rfl) (by rfl) B.n_all (by decide +kernel) (pa_cons (pe_lc rfl sc_are_unlike_letters.nd (pi_str (pv 0)) (blkOk_by (own := [("letter", 1)]) (N := ["letters", "letter"]) (sc := defScope s_are_unlike_letters) (by decide +kernel)) (fun _ _ _ _ _ => (pg_name (i := 1) sc_are_unlike_letters.nd rfl (.inl rfl))) (fun _ _ _ _ _ => pts_nil) (fun _ _ _ _ _ => (pe_fn D_is_letter_of (hr.mono (by decide)) pass0 (pa_cons (pe_glob (v := .str SM) rfl G.small ⟨_, rfl⟩) (pa_cons (pv 1) pa_nil))))) pa_nil)) (pe_one (pe_cmpR op_eq (pe_lenSetT rfl (by rfl) B.n_len (by rfl) B.n_set (pv 0)) (pe_callB call_len (by rfl) B.n_len (by decide +kernel) (pa_cons (pv 0) pa_nil)) (nomark _)))))), ?_⟩
    refine ⟨_, rfl, z, rfl, fun D hD => ?_⟩
    refine lc_str (fun i H' => H' D = some (.lst ((List.replicate i true).map V.bl)) ∧ Same H H') ⟨upd_same, same_new hD⟩ (fun i c H1 hc h1 => ?_) (fun H1 h1 => ?_)
    · refine ⟨rfl, ?_⟩
      have hci : c ∈ small := gz.az c (by rw [← Array.getElem?_toList] at hc; exact List.mem_of_getElem? hc)
      refine ⟨_, rfl, SM, _, rfl, .inl ⟨_, rfl, by show 1 ≤ sizeLine; decide⟩, ?_⟩
      rw [isLet_small hci]
      have hi : i < z.cps.size := (Array.getElem?_eq_some_iff.mp hc).1
      have := gz.hi
      refine ⟨_, h1.1, ?_, upd_same.trans ?_, same_upd h1.2 hD⟩
      · show _ < sizeLine
        have : 4 < sizeLine := by decide
        simp; omega
      · simp [List.replicate_succ']
    · refine ⟨_, _, rfl, SqL.of h1.1, ?_⟩
      refine ⟨true, by simp, iteT ?_⟩
      refine ⟨_, rfl, .inl ⟨z, rfl, by have := gz.hi; omega, ?_⟩⟩
      refine ⟨_, rfl, _, _, rfl, ⟨Nat.le_trans (show z.length ≤ 4 from gz.hi) (by decide), rfl⟩, rfl, ?_⟩
      have e1 : decide (V.int ((dd (LB.signs z)).length : Nat) = V.int (z.length : Nat)) = true := by
        rw [dd_nodup (signs_nd gz.nd), signs_len]
        exact decide_eq_true rfl
      show Q (.bl (decide (V.int ((dd (LB.signs z)).length : Nat) = V.int (z.length : Nat)))) H1
      rw [e1]
      exact k H1 h1.2
theorem ok_cell {CV CC : Addr} {f : Addr} {fd : FuncData} (F : Fun K "__init__" "Cell.__init__" s_CellDD_initDD f fd) (B : Blt mg) (VV : VF K CV CC) :
    FnOk P w K mg base CX0 1 f fd ["self", "alphabet", "number"] (spCell CV CC) := by
  refine F.ok sc_CellDD_initDD (fun vs H Q E h => ?_) (fun cdv A outer s H vs Q E hr h => ?_)
  · obtain ⟨c, p, dc, dx, fs, z, n, rfl, _⟩ := h
    rfl
  · obtain ⟨c, p, dc, dx, fs, z, n, rfl, hc, hp, hl, gz, ne, k⟩ := h
    refine ⟨_, (pss_cons (ps_fld (pv 0) (pv 1) rfl)
      (pss_cons (ps_fld (pv 0) (pv 2) rfl)
      (pss_one (ps_fld (pv 0) (pe_join pe_str (pe_lc rfl sc_CellDD_initDD.nd (pi_enumS (by rfl) B.n_enumerate (pa_cons (pe_fld (pv 1) rfl) pa_nil)) (blkOk_by (own := [("k", 3), ("letter", 4)]) (N := ["self", "alphabet", "number", "k", "letter"]) (sc := defScope s_CellDD_initDD) (by decide +kernel)) (fun _ _ _ _ _ => (pg_tupB (n := 2) rfl (pgs_cons (pg_name (i := 3) sc_CellDD_initDD.nd rfl (.inl rfl)) (pgs_cons (pg_name (i := 4) sc_CellDD_initDD.nd rfl (.inl rfl)) pgs_nil)))) (fun _ _ _ _ _ => (pts_one (pt_truthB (pe_op op_and (pe_op op_shr (pv 2) (pv 3)) pe_int) (by intro _; rfl)))) (fun _ _ _ _ _ => (pv 4)))) rfl)))), ?_⟩
    refine ⟨_, rfl, _, rfl, c, CC, dc, [], rfl, hc, VV.cc, VV.ca, by decide, ?_⟩
    refine ⟨_, rfl, _, rfl, c, CC, dc, _, rfl, upd_same, VV.cc, VV.cn, by show 1 < 1000; decide, ?_⟩
    have b2 : But c H (upd (upd H c (.ins CC dc (putF "alphabet" (.ref p) []))) c (.ins CC dc (putF "number" (.int n) (putF "alphabet" (.ref p) [])))) := But.upd.trans .upd
    refine ⟨⟨_, rfl⟩, _, rfl, p, CV, dx, fs, _, rfl, b2 _ _ hp ne.symm, VV.cv, VV.vl, hl, z, rfl, fun D hD => ?_⟩
    have h2 := upd_same (a := c) (o := HO.ins CC dc (putF "number" (.int n) (putF "alphabet" (.ref p) []))) (H := upd H c (.ins CC dc (putF "alphabet" (.ref p) [])))
    generalize (upd (upd H c (.ins CC dc (putF "alphabet" (.ref p) []))) c (.ins CC dc (putF "number" (.int n) (putF "alphabet" (.ref p) [])))) = H2 at b2 hD h2 ⊢
    refine lc_enumS (fun i H' => H' D = some (.lst ((sgs (subL z n i)).map V.str)) ∧ Same H2 H') ⟨upd_same, same_new hD⟩ (fun i x T H1 hx h1 hT => ?_) (fun H1 h1 => ?_)
    · refine ⟨T, _, rfl, SqT.of upd_same, rfl, ?_⟩
      refine ⟨_, _, rfl, _, _, rfl, rfl, rfl, ?_⟩
      have h1' : Same H2 (upd H1 T (.tup [.int (i : Nat), .str ⟨#[x]⟩])) := h1.2.trans (same_new hT)
      have hDT : D ≠ T := ne_of_none h1.1 hT
      have h1D : upd H1 T (.tup [.int (i : Nat), .str ⟨#[x]⟩]) D = some (.lst ((sgs (subL z n i)).map V.str)) := by rw [upd_ne hDT]; exact h1.1
      refine ⟨_, rfl, _, rfl, _, _, rfl, rfl, Int.natCast_nonneg _, _, _, rfl, rfl, ?_⟩
      show ∃ k, TruV K (V.int (Builtin.bitAnd ((n : Int) / 2 ^ ((i : Int)).toNat) 1)) _ k ∧ _
      rw [bit_shift]
      refine ⟨n.testBit i, ?_, ?_⟩
      · cases n.testBit i <;> exact rfl
      have ez : z.cps.getD i 0 = x := by rw [Array.getD_eq_getD_getElem?, hx]; rfl
      have hi : i < z.cps.size := (Array.getElem?_eq_some_iff.mp hx).1
      have hl5 : ((sgs (subL z n i)).map V.str).length < sizeLine := by
        rw [List.length_map, sgs_len]
        have := subL_len z n i
        have := gz.hi
        have : 4 < sizeLine := by decide
        omega
      cases hb : n.testBit i with
      | true =>
        refine ⟨_, rfl, _, h1D, hl5, ?_, same_upd h1' hD⟩
        rw [upd_same, subL_succ, if_pos hb, sgs_append, List.map_append, ez]
        rfl
      | false =>
        refine ⟨?_, h1'⟩
        rw [h1D, subL_succ, if_neg (by rw [hb]; decide), List.append_nil]
    · refine ⟨_, D, sgs (subL z n z.cps.size), rfl, rfl, .inl (SqL.of h1.1), ?_, ?_⟩
      · show (((sgs (subL z n z.cps.size)).map (·.length)).sum + (sgs (subL z n z.cps.size)).length * 0) ≤ 16777216
        have e : ∀ l : List Nat, ((sgs l).map (·.length)).sum = l.length := by
          intro l
          induction l with
          | nil => rfl
          | cons c r ih => show 1 + ((sgs r).map (·.length)).sum = _; rw [ih, List.length_cons]; omega
        rw [e]
        have := subL_len z n z.cps.size
        have := gz.hi
        omega
      show tVar 0 _ _ _
      have ej : Txt.join (Str.ofString "") (sgs (subL z n z.cps.size)) = cellT z n := join_sgs _
      rw [ej]
      refine ⟨_, rfl, c, CC, dc, _, rfl, h1.2 _ _ h2, VV.cc, VV.cl, by show 2 < 1000; decide, ?_⟩
      refine k _ (But.trans (But.same_of (H1 := H2) b2 h1.2) But.upd) ?_
      rw [upd_same]
      rfl
theorem ok_avl {CV CC : Addr} {ts : Tok} {f : Addr} {fd : FuncData} (F : Fun K "are_values_letters" "are_values_letters" s_are_values_letters f fd) (B : Blt mg) (VV : VF K CV CC) (G : Consts mg CV ts)
    (D_are_unlike_letters : HasFn P w K mg base CX0 2 "are_unlike_letters" ["letters"] spUnl) : FnOk P w K mg base CX0 3 f fd ["letters"] spUnl := by
  refine F.ok sc_are_values_letters (fun vs H Q E h => ?_) (fun cdv A outer s H vs Q E hr h => ?_)
  · obtain ⟨z, rfl, _⟩ := h
    rfl
  · obtain ⟨z, rfl, gz, k⟩ := h
    refine ⟨_, (pss_one (ps_ret (pe_and (pe_callB call_isi (by rfl) B.n_isinstance (by decide +kernel) (pa_cons (pv 0) (pa_cons (pe_bltn (v := .ty "str") (by rfl) B.n_str (by decide +kernel) rfl) pa_nil))) (pe_and (pe_chain op_le op_le pe_int (pe_callB call_len (by rfl) B.n_len (by decide +kernel) (pa_cons (pv 0) pa_nil)) (ClX.pe_cval (pe_glob (v := .ref _) rfl G.mgV rfl) rfl)) (pe_one (pe_fn D_are_unlike_letters (hr.mono (by decide)) pass0 (pa_cons (pv 0) pa_nil))))))), ?_⟩
    have lo := gz.lo
    have hi := gz.hi
    have zl : z.length ≤ sizeLine := Nat.le_trans (show z.length ≤ 4 from gz.hi) (by decide)
    refine ⟨_, rfl, _, _, _, _, true, rfl, .ty "str", .base (.str z), kit_ty (by decide +kernel), true, rfl, iteT ?_⟩
    have d2 : decide ((2 : Int) ≤ (z.length : Nat)) = true := decide_eq_true (by show (2 : Int) ≤ ((z.cps.size : Nat) : Int); omega)
    have d4 : decide (((z.length : Nat) : Int) ≤ 4) = true := decide_eq_true (by show ((z.cps.size : Nat) : Int) ≤ 4; omega)
    refine ⟨_, rfl, _, _, rfl, ⟨zl, rfl⟩, _, _, rfl, rfl, true, congrArg V.bl d2, iteT ?_⟩
    obtain ⟨mc, u, cr, cv⟩ := VV.most
    exact ⟨CV, mc, _, u, rfl, cr, cv, _, _, rfl, rfl, true, congrArg V.bl d4, iteT ⟨_, rfl, z, rfl, gz, k⟩⟩
theorem ok_vals {CV CC : Addr} {ts : Tok} {f : Addr} {fd : FuncData} (F : Fun K "__init__" "Values.__init__" s_ValuesDD_initDD f fd) (B : Blt mg) (VV : VF K CV CC) (G : Consts mg CV ts)
    (D_are_values_letters : HasFn P w K mg base CX0 3 "are_values_letters" ["letters"] spUnl) (M_Cell : HasMk P w K mg base CX0 1 CC "Cell" ["self", "alphabet", "number"] (spCell CV CC)) :
    FnOk P w K mg base CX0 4 f fd ["self", "letters"] (spVals CV CC) := by
  refine F.ok sc_ValuesDD_initDD (fun vs H Q E h => ?_) (fun cdv A outer s H vs Q E hr h => ?_)
  · obtain ⟨v, dv, z, rfl, _⟩ := h
    rfl
  · obtain ⟨v, dv, z, rfl, hv, gz, k⟩ := h
    refine ⟨_, (pss_cons (ps_if (pt_not (pt_val (pe_fn D_are_values_letters (hr.mono (by decide)) pass0 (pa_cons (pv 1) pa_nil)))) (pss_one ps_never) pss_nil)
      (pss_cons (ps_fld (pv 0) (pv 1) rfl)
      (pss_one (ps_fld (pv 0) (pe_callTy call_tuple_of (by rfl) B.n_tuple (by decide +kernel) (pa_cons (pe_lc rfl sc_ValuesDD_initDD.nd (pi_range1 (by rfl) B.n_range (pa_cons (pe_op op_shl pe_int (pe_callB call_len (by rfl) B.n_len (by decide +kernel) (pa_cons (pv 1) pa_nil))) pa_nil)) (blkOk_by (own := [("number", 2)]) (N := ["self", "letters", "number"]) (sc := defScope s_ValuesDD_initDD) (by decide +kernel)) (fun _ _ _ _ _ => (pg_name (i := 2) sc_ValuesDD_initDD.nd rfl (.inl rfl))) (fun _ _ _ _ _ => pts_nil) (fun _ _ _ _ _ => (pe_mk M_Cell (hr.mono (by decide)) pass0 (pa_cons (pv 0) (pa_cons (pv 2) pa_nil))))) pa_nil)) rfl)))), ?_⟩
    have lo := gz.lo
    have hi := gz.hi
    have zl : z.length ≤ sizeLine := Nat.le_trans (show z.length ≤ 4 from gz.hi) (by decide)
    refine ⟨_, rfl, z, rfl, gz, fun H1 s1 => ⟨true, rfl, ?_⟩⟩
    refine ⟨_, rfl, _, rfl, v, CV, dv, [], rfl, s1 _ _ hv, VV.cv, VV.vl, by decide, ?_⟩
    have b2 : But v H (upd H1 v (.ins CV dv (putF "letters" (.str z) []))) := (But.of_same s1).trans .upd
    have h2 := upd_same (a := v) (o := HO.ins CV dv (putF "letters" (.str z) [])) (H := H1)
    generalize (upd H1 v (.ins CV dv (putF "letters" (.str z) []))) = H2 at b2 h2 ⊢
    have pw2 : ((1 : Int) * 2 ^ ((z.length : Nat) : Int).toNat) = ((2 ^ z.cps.size : Nat) : Int) := by
      rw [Int.toNat_natCast, Int.one_mul]
      show (2 : Int) ^ z.cps.size = _
      simp
    have p16 : 2 ^ z.cps.size ≤ 2 ^ 4 := Nat.pow_le_pow_right (by decide) hi
    have p16i : ((2 ^ z.cps.size : Nat) : Int) ≤ 16 := Int.ofNat_le.mpr p16
    have p16j : (0 : Int) ≤ ((2 ^ z.cps.size : Nat) : Int) := Int.natCast_nonneg _
    refine ⟨_, rfl, _, _, rfl, ⟨zl, rfl⟩, _, _, rfl, rfl, ⟨Int.natCast_nonneg _, by show ((z.cps.size : Nat) : Int) ≤ 1000000; omega, by decide⟩, ((2 ^ z.cps.size : Nat) : Int), by rw [← pw2], Int.le_trans (by decide) p16j, Int.lt_of_le_of_lt p16i (by decide), ?_⟩
    rw [Int.toNat_natCast]
    intro D hD
    refine lc_range (fun i H' => ∃ cs : List Addr, H' D = some (.lst (cs.map V.ref)) ∧ H' v = some (.ins CV dv (putF "letters" (.str z) [])) ∧ But v H2 H' ∧ CellsAt CC H' v z i cs) ⟨[], upd_same, same_new hD _ _ h2, But.new hD, rfl, fun i c e => by cases e⟩ (fun i H3 hi h3 => ?_) (fun H3 h3 => ?_)
    · obtain ⟨cs, hD3, hv3, b3, c3⟩ := h3
      refine ⟨rfl, ?_⟩
      refine ⟨_, rfl, _, rfl, fun x dx hx hdx hne => ?_⟩
      have vx : v ≠ x := ne_of_none hv3 hx
      have vdx : v ≠ dx := ne_of_none hv3 hdx
      refine ⟨x, v, dx, dv, _, z, i, by rw [Int.zero_add]; rfl, upd_same, by rw [upd_ne vx, upd_ne vdx]; exact hv3, by rw [lookup_putF, if_pos rfl], gz, vx.symm, fun H4 b4 hx4 => ⟨rfl, ?_⟩⟩
      have s4 : Same H3 H4 := fun b o e => b4 b o (by rw [upd_ne (ne_of_none e hx), upd_ne (ne_of_none e hdx)]; exact e) (ne_of_none e hx)
      have xD : x ≠ D := (ne_of_none hD3 hx).symm
      have vD : v ≠ D := fun q => by rw [q, hD3] at hv3; cases hv3
      have len : (cs.map V.ref).length < sizeLine := by
        rw [List.length_map, c3.len]
        exact Nat.lt_of_lt_of_le (Nat.lt_of_lt_of_le hi p16) (by decide)
      refine ⟨_, s4 _ _ hD3, len, cs ++ [x], by rw [upd_same, List.map_append]; rfl, by rw [upd_ne vD]; exact s4 _ _ hv3, ?_, by rw [List.length_append, c3.len]; rfl, fun j c e => ?_⟩
      · exact fun b o e n => same_upd' (But.same_of (H1 := H3) b3 s4) hD b o e n
      · by_cases hj : j < cs.length
        · rw [List.getElem?_append_left hj] at e
          obtain ⟨dc, q⟩ := c3.cell j c e
          refine ⟨dc, ?_⟩
          rw [upd_ne (fun q' => by rw [q', hD3] at q; cases q)]
          exact s4 _ _ q
        · rw [List.getElem?_append_right (Nat.le_of_not_lt hj)] at e
          have hj0 : j - cs.length = 0 := by
            cases hjj : j - cs.length with
            | zero => rfl
            | succ m => rw [hjj] at e; cases e
          rw [hj0] at e
          have ex : x = c := by cases e; rfl
          have ej : j = i := by have := c3.len; omega
          subst ex; subst ej
          refine ⟨dx, ?_⟩
          rw [upd_ne xD]
          exact hx4
    · obtain ⟨cs, hD3, hv3, b3, c3⟩ := h3
      refine ⟨D, _, rfl, .inl ⟨SqL.of hD3, fun l hl => ?_⟩⟩
      have vl : v ≠ l := ne_of_none hv3 hl
      refine ⟨_, rfl, v, CV, dv, _, rfl, by rw [upd_ne vl]; exact hv3, VV.cv, VV.vb, by show 1 < 1000; decide, ?_⟩
      refine k _ cs ((b2.trans b3).trans ((But.new hl).trans .upd)) ⟨⟨dv, l, upd_same, by rw [upd_ne vl.symm, upd_same]⟩, gz, c3.len, fun j c e => ?_⟩
      obtain ⟨dc, q⟩ := c3.cell j c e
      refine ⟨dc, ?_⟩
      rw [upd_ne (fun q' => by rw [q', hv3] at q; injection q with q; injection q with q1 q2 q3; exact VV.ne q1), upd_ne (ne_of_none q hl)]
      exact q
theorem ok_full {CV CC : Addr} {f : Addr} {fd : FuncData} (F : Fun K "full" "Values.full" s_Values_full f fd) (B : Blt mg) (VV : VF K CV CC) :
    FnOk P w K mg base CX0 1 f fd ["self"] (spEnd CV CC (-1)) := by
  refine F.ok sc_Values_full (fun vs H Q E h => ?_) (fun cdv A outer s H vs Q E hr h => ?_)
  · obtain ⟨p, z, cs, c, rfl, _⟩ := h
    rfl
  · obtain ⟨p, z, cs, c, rfl, hp, hi, k⟩ := h
    obtain ⟨dx, t, e1, e2⟩ := hp.ob
    refine ⟨_, (pss_one (ps_ret (pe_ix ix_tup (pe_fld (pv 0) rfl) (pe_un un_neg pe_int) (fun _ _ => rfl)))), ?_⟩
    exact ⟨_, rfl, p, CV, dx, _, _, rfl, e1, VV.cv, VV.vb, valF_by, _, rfl, t, _, _, _, rfl, rfl, SqT.of e2, hi, k⟩
end
end K6

namespace K6
open PySem L2 LB PyProof.Rows
abbrev s_law_pen : Stmt := top 23
theorem sc_law_pen : FnScope ["_law_script"] ["_law_script"] (defScope s_law_pen) := ⟨rfl, rfl, rfl, by decide +kernel, rfl, by decide +kernel, by decide +kernel⟩
abbrev s_law_draw : Stmt := top 24
theorem sc_law_draw : FnScope ["_law_pen_here", "_law_limit", "_law_at", "_law_cell", "_law_blended", "_law_digit", "_law_great"] ["_law_pen_here", "_law_limit"] (defScope s_law_draw) := ⟨rfl, rfl, rfl, by decide +kernel, rfl, by decide +kernel, by decide +kernel⟩
abbrev s_law_pick : Stmt := top 25
theorem sc_law_pick : FnScope ["_law_pen_here", "_law_some"] ["_law_pen_here", "_law_some"] (defScope s_law_pick) := ⟨rfl, rfl, rfl, by decide +kernel, rfl, by decide +kernel, by decide +kernel⟩
abbrev s_law_letters : Stmt := top 26
theorem sc_law_letters : FnScope ["_law_pen_here", "_law_pool", "_law_turn"] ["_law_pen_here"] (defScope s_law_letters) := ⟨rfl, rfl, rfl, by decide +kernel, rfl, by decide +kernel, by decide +kernel⟩
abbrev s_ValuesDD_eqDD : Stmt := inClass (top 16) 4
theorem sc_ValuesDD_eqDD : FnScope ["self", "other"] ["self", "other"] (defScope s_ValuesDD_eqDD) := ⟨rfl, rfl, rfl, by decide +kernel, rfl, by decide +kernel, by decide +kernel⟩

section
variable {P : Program} {w : World} {K : PySem.W.Frag} {mg : Str → Option Value} {base : Heap}
theorem ok_pen {f : Addr} {fd : FuncData} (F : Fun K "_law_pen" "_law_pen" s_law_pen f fd) (B : Blt mg) : FnOk P w K mg base CX0 1 f fd ["_law_script"] (spPen K) := by
  refine F.ok sc_law_pen (fun vs H Q E h => ?_) (fun cdv A outer s H vs Q E hr h => ?_)
  · obtain ⟨a, ns, rfl, _⟩ := h
    rfl
  · obtain ⟨a, ns, rfl, hS, k⟩ := h
    refine ⟨_, (pss_one (ps_ret (pe_lst (pa_cons (pe_callTy call_list_of (by rfl) B.n_list (by decide +kernel) (pa_cons (pe_slice sl_list (pv 0) po_none (po_some pe_int)) pa_nil)) (pa_cons pe_int (pa_cons pe_int pa_nil)))))), ?_⟩
    refine ⟨_, rfl, _, rfl, a, _, rfl, hS, fun p1 n1 => ?_⟩
    refine ⟨p1, _, rfl, .inl (SqL.of upd_same), fun l hl => ⟨by show 3 ≤ sizeLine; decide, fun p hp => ?_⟩⟩
    obtain ⟨ms, e⟩ := cut_ints ns none (some 63)
    have s1 := same_new (o := .lst (cutV (ns.map V.int) none (some 63))) n1
    have s2 : Same _ (upd (upd H p1 (.lst (cutV (ns.map V.int) none (some 63)))) l (.lst (cutV (ns.map V.int) none (some 63)))) := same_new hl
    have ne : p ≠ l := (ne_of_none upd_same hp).symm
    exact k p l ms _ ((s1.trans s2).trans (same_new hp)) ((s1.trans s2).free hp) ⟨upd_same, by rw [upd_ne ne.symm, upd_same, e], Int.le_refl _, ne⟩
theorem ok_draw {f : Addr} {fd : FuncData} (F : Fun K "_law_draw" "_law_draw" s_law_draw f fd) (B : Blt mg) : FnOk P w K mg base CX0 1 f fd ["_law_pen_here", "_law_limit"] spDraw := by
  refine F.ok sc_law_draw (fun vs H Q E h => ?_) (fun cdv A outer s H vs Q E hr h => ?_)
  · obtain ⟨p, q, ns, i, r, n, rfl, _⟩ := h
    rfl
  · obtain ⟨p, q, ns, i, r, n, rfl, hp, hn, hn2, hi, k⟩ := h
    refine ⟨_, (pss_cons (ps_if (pt_cmpR op_gt (pe_ix ix_list (pv 0) pe_int (fun _ _ => rfl)) pe_int (nomark _)) (pss_cons (ps_set (i := 5) sc_law_draw.nd rfl (.inl rfl) (pe_op op_mod (pe_callTy call_int1 (by rfl) B.n_int (by decide +kernel) (pa_cons (pe_ix ix_list (pv 0) pe_int (fun _ _ => rfl)) pa_nil)) (pv 1)))
      (pss_cons (ps_asg (pe_op op_fdiv (pe_callTy call_int1 (by rfl) B.n_int (by decide +kernel) (pa_cons (pe_ix ix_list (pv 0) pe_int (fun _ _ => rfl)) pa_nil)) (pv 1)) (pg_sub (pv 0) pe_int set_list))
      (pss_one (ps_ret (pv 5))))) pss_nil)
      (pss_cons (ps_set (i := 2) sc_law_draw.nd rfl (.inl rfl) (pe_ix ix_list (pv 0) pe_int (fun _ _ => rfl)))
      (pss_cons (ps_asg (pe_op op_add (pv 2) pe_int) (pg_sub (pv 0) pe_int set_list))
      (pss_cons (ps_set (i := 3) sc_law_draw.nd rfl (.inl rfl) (pe_op op_add (pe_op op_mul pe_int (pv 2)) pe_int))
      (Evl.pss_cut (ps_if (pt_cmpR (op_neD hr.units) (pe_ix ix_list (pv 0) pe_int (fun _ _ => rfl)) (pe_lst pa_nil) (nomark _)) (pss_one (ps_set (i := 3) sc_law_draw.nd rfl (.inl rfl) (pe_ix ix_list (pe_ix ix_list (pv 0) pe_int (fun _ _ => rfl)) (pe_op op_mod (pe_callTy call_int1 (by rfl) B.n_int (by decide +kernel) (pa_cons (pv 2) pa_nil)) (pe_callB call_len (by rfl) B.n_len (by decide +kernel) (pa_cons (pe_ix ix_list (pv 0) pe_int (fun _ _ => rfl)) pa_nil))) (fun _ _ => rfl)))) pss_nil)
      (Evl.pss_cut (ps_if (PW.pt (pw_and (pt_cmpR op_lt (pv 2) (pe_callB call_len (by rfl) B.n_len (by decide +kernel) (pa_cons (pe_ix ix_list (pv 0) pe_int (fun _ _ => rfl)) pa_nil)) (nomark _)) (pw_and1 (pt_cmpR op_ge (pe_callB call_abs (by rfl) B.n_abs (by decide +kernel) (pa_cons (pv 3) pa_nil)) (pe_op op_pow pe_int pe_int) (nomark _))))) (pss_cons (ps_set (i := 6) sc_law_draw.nd rfl (.inl rfl) (pe_op op_add (pe_op op_mul pe_int (pe_op op_sub (pe_callB call_abs (by rfl) B.n_abs (by decide +kernel) (pa_cons (pv 3) pa_nil)) (pe_op op_pow pe_int pe_int))) (pe_callTy call_int1 (by rfl) B.n_int (by decide +kernel) (pa_cons (pe_cmpR op_lt (pv 3) pe_int (nomark _)) pa_nil))))
      (pss_cons (ps_asg (pe_op op_fdiv (pe_callTy call_int1 (by rfl) B.n_int (by decide +kernel) (pa_cons (pv 6) pa_nil)) (pv 1)) (pg_sub (pv 0) pe_int set_list))
      (pss_one (ps_ret (pe_op op_mod (pe_callTy call_int1 (by rfl) B.n_int (by decide +kernel) (pa_cons (pv 6) pa_nil)) (pv 1)))))) pss_nil)
      (pss_cons (ps_set (i := 4) sc_law_draw.nd rfl (.inl rfl) (pe_op op_mod (pe_callTy call_int1 (by rfl) B.n_int (by decide +kernel) (pa_cons (pe_op op_pow (pe_op op_add (pe_op op_add (pe_op op_mod (pe_callTy call_int1 (by rfl) B.n_int (by decide +kernel) (pa_cons (pv 3) pa_nil)) pe_int) (pe_op op_mul pe_int (pv 2))) pe_int) pe_int) pa_nil)) pe_int))
      (pss_cons (ps_set (i := 4) sc_law_draw.nd rfl (.inl rfl) (pe_op op_mod (pe_callTy call_int1 (by rfl) B.n_int (by decide +kernel) (pa_cons (pe_op op_pow (pe_op op_add (pe_op op_add (pe_op op_mul (pv 4) (pe_op op_add (pe_op op_mul pe_int (pv 2)) pe_int)) (pe_op op_mul (pe_op op_mul pe_int (pv 2)) (pv 2))) pe_int) pe_int) pa_nil)) pe_int))
      (pss_one (ps_ret (pe_op op_mod (pe_callTy call_int1 (by rfl) B.n_int (by decide +kernel) (pa_cons (pe_op op_fdiv (pv 4) pe_int) pa_nil)) (pv 1)))))))))))), ?_⟩
    refine ⟨_, rfl, p, _, _, _, rfl, rfl, SqL.of hp.pen, rfl, _, _, rfl, rfl, _, rfl, ?_⟩
    refine ite2 (fun c => ?_) (fun c => ?_)
    · refine ⟨_, rfl, p, _, _, _, rfl, rfl, SqL.of hp.pen, rfl, .inl ⟨_, rfl, _, rfl, _, _, rfl, rfl, hn, ?_⟩⟩
      refine ⟨_, rfl, p, _, _, _, rfl, rfl, SqL.of hp.pen, rfl, .inl ⟨_, rfl, _, rfl, _, _, rfl, rfl, ⟨hn, by omega⟩, ?_⟩⟩
      refine ⟨_, rfl, p, _, _, 2, rfl, rfl, hp.pen, rfl, ?_⟩
      refine ⟨_, rfl, ?_⟩
      exact k _ i _ _ (Int.emod_nonneg _ (by omega)) (Int.emod_lt_of_pos _ hn) (by omega) (hp.one hp.i0) .upd
    · refine ⟨_, rfl, p, _, _, _, rfl, rfl, SqL.of hp.pen, rfl, ?_⟩
      refine ⟨_, rfl, _, _, rfl, rfl, _, rfl, p, _, _, 1, rfl, rfl, hp.pen, rfl, ?_⟩
      have h1 := hp.one (i' := i + 1) (r' := r) (by have := hp.i0; omega)
      have b1 : But p H (upd H p (.lst [.ref q, .int (i + 1), .int r])) := .upd
      refine ⟨_, rfl, _, _, rfl, rfl, .inl ⟨by decide, by decide⟩, _, _, rfl, rfl, ?_⟩
      refine ⟨fun σ H' => ∃ d : Int, σ = [some (.ref p), some (.int n), some (.int i), some (.int d), none, none, none] ∧ PenAt H' p q ns (i + 1) r ∧ But p H H', ?_, ?_⟩
      · refine ⟨_, rfl, p, _, _, _, rfl, rfl, SqL.of h1.pen, rfl, by show 0 ≤ sizeLine; decide, fun l hl => ?_⟩
        have h2 : PenAt _ p q ns (i + 1) r := h1.same (same_new (o := .lst []) hl)
        have b2 : But p H _ := b1.trans (.new (o := .lst []) hl)
        refine ⟨_, _, dp_ints (SqL.of h2.lst), .lst (SqL.of upd_same) .nil, shaped_ints _, by rfl, _, rfl, ?_⟩
        cases ns with
        | nil => exact iteF ⟨_, rfl, h2, b2⟩
        | cons x xs =>
          refine iteT ?_
          obtain ⟨d, hd⟩ := at_rest (ns := x :: xs) (i := i) (fun z => by cases z)
          refine ⟨_, rfl, p, _, _, _, rfl, rfl, SqL.of h2.pen, rfl, _, rfl, .inl ⟨_, rfl, _, rfl, p, _, _, _, rfl, rfl, SqL.of h2.pen, rfl, _, _, rfl, .inl ⟨_, SqL.of h2.lst, rfl⟩, _, _, rfl, rfl, ?_, q, _, _, _, rfl, rfl, SqL.of h2.lst, hd, ?_⟩⟩
          · show (0 : Int) < (((x :: xs).map V.int).length : Int)
            rw [List.length_map, List.length_cons]
            omega
          · exact ⟨d, rfl, h2, b2⟩
      · rintro σ H' ⟨d, rfl, h2, b2⟩
        refine ⟨fun σ H2 => σ = [some (.ref p), some (.int n), some (.int i), some (.int d), none, none, none] ∧ H2 = H', ?_, ?_⟩
        · refine ⟨_, rfl, _, rfl, p, _, _, _, rfl, rfl, SqL.of h2.pen, rfl, _, _, rfl, .inl ⟨_, SqL.of h2.lst, rfl⟩, _, _, rfl, rfl, _, rfl, ?_⟩
          refine ite2 (fun c1 => ?_) (fun c1 => iteF ⟨rfl, rfl⟩)
          refine ⟨_, rfl, _, rfl, _, _, rfl, rfl, ⟨by decide, by decide, by decide⟩, _, _, rfl, rfl, _, rfl, ?_⟩
          refine ite2 (fun c2 => ?_) (fun c2 => ⟨rfl, rfl⟩)
          refine ⟨_, rfl, _, rfl, _, _, rfl, rfl, ⟨by decide, by decide, by decide⟩, _, _, rfl, rfl, _, _, rfl, rfl, .inl ⟨by decide, by decide⟩, _, rfl, _, _, rfl, rfl, .inr ⟨_, rfl, _, _, rfl, rfl, ?_⟩⟩
          refine ⟨_, rfl, .inl ⟨_, rfl, _, rfl, _, _, rfl, rfl, ⟨hn, by omega⟩, ?_⟩⟩
          refine ⟨_, rfl, p, _, _, 2, rfl, rfl, h2.pen, rfl, ?_⟩
          refine ⟨_, rfl, .inl ⟨_, rfl, _, rfl, _, _, rfl, rfl, hn, ?_⟩⟩
          exact k _ (i + 1) _ _ (Int.emod_nonneg _ (by omega)) (Int.emod_lt_of_pos _ hn) (by omega) (h2.one h2.i0) (b2.trans .upd)
        · rintro σ H2 ⟨rfl, rfl⟩
          have i0 := hp.i0
          refine ⟨_, rfl, .inl ⟨_, rfl, _, _, rfl, rfl, (by show (0 : Int) < _; decide), _, rfl, _, _, rfl, rfl, .inl ⟨by decide, by decide⟩, _, _, rfl, rfl, _, _, rfl, rfl, _, _, rfl, rfl, ⟨by decide, by decide, mixA (by decide) (by decide) i0 hi (by decide) (by decide) (by decide) (by decide)⟩, ?_⟩⟩
          refine .inl ⟨_, rfl, _, _, rfl, rfl, (by show (0 : Int) < _; decide), ?_⟩
          refine ⟨_, rfl, _, rfl, _, _, rfl, rfl, .inl ⟨by decide, by decide⟩, _, _, rfl, rfl, _, _, rfl, rfl, mixD (by decide) (by decide), _, rfl, _, _, rfl, rfl, .inl ⟨by decide, by decide⟩, _, rfl, _, _, rfl, rfl, mixC i0 hi (by decide) (by decide), _, _, rfl, rfl, _, _, rfl, rfl, _, _, rfl, rfl, ⟨by decide, by decide, mixB (by decide) (by decide) i0 hi (by decide) (by decide) (by decide) (by decide) (by decide) (by decide) (by decide) (by decide)⟩, ?_⟩
          refine .inl ⟨_, rfl, _, _, rfl, rfl, (by show (0 : Int) < _; decide), ?_⟩
          refine ⟨_, rfl, _, _, rfl, rfl, ⟨by decide, by decide⟩, .inl ⟨_, rfl, _, rfl, _, _, rfl, rfl, hn, ?_⟩⟩
          exact k _ (i + 1) _ _ (Int.emod_nonneg _ (by omega)) (Int.emod_lt_of_pos _ hn) (by omega) h2 b2
end

def spPick : Sp := fun vs H Q _ => ∃ (p l q : Addr) (xs : List V) (ns : List Int) (i r : Int), vs = [.ref p, .ref l] ∧ H l = some (.lst xs) ∧ 0 < xs.length ∧ xs.length < 1000 ∧ PenAt H p q ns i r ∧ i < 1000000 ∧ l ≠ p ∧
  ∀ x ∈ xs, ∀ i' r' H', But p H H' → PenAt H' p q ns i' r' → i' ≤ i + 1 → Q x H'
def spLetters : Sp := fun vs H Q _ => ∃ (p q : Addr) (ns : List Int) (i r : Int), vs = [.ref p] ∧ PenAt H p q ns i r ∧ i < 900000 ∧
  ∀ z i' r' H', But p H H' → PenAt H' p q ns i' r' → i' ≤ i + 6 → Good z → Q (.str z) H'
theorem small_signs : (LB.signs (Str.ofString "abcdefghijklmnopqrstuvwxyz")).map V.str = (sgs small).map V.str := by decide +kernel
theorem erase_perm : ∀ (l : List Nat) (n : Nat) (h : n < l.length), List.Perm (l[n] :: l.eraseIdx n) l
  | x :: l, 0, _ => List.Perm.refl _
  | x :: l, n + 1, h => (List.Perm.swap x _ _).trans (List.Perm.cons x (erase_perm l n (Nat.lt_of_succ_lt_succ h)))
  | [], n, h => absurd h (Nat.not_lt_zero n)
theorem erase_map {α β : Type} (f : α → β) : ∀ (l : List α) (n : Nat), (l.map f).eraseIdx n = (l.eraseIdx n).map f
  | [], _ => rfl
  | x :: l, 0 => rfl
  | x :: l, n + 1 => congrArg (f x :: ·) (erase_map f l n)
theorem small_nd : small.Nodup := by decide +kernel
theorem seq_ix {d : Nat} {n : Nat} (h : d < n) : seqIndex? (d : Int) n = some d := by
  unfold seqIndex?
  have h1 : ¬ ((d : Int) < 0) := by omega
  simp only [h1, if_false]
  have h2 : (0 : Int) ≤ (d : Int) ∧ (d : Int) < (n : Int) := by omega
  simp [h2.2]
section
variable {P : Program} {w : World} {K : PySem.W.Frag} {mg : Str → Option Value} {base : Heap}
/-- the letters drawn so far at D, those left at l -/
def Drawn (H : Hp) (D l p q : Addr) (ns : List Int) (i0 : Int) (n : Nat) : Prop := ∃ (acc rest : List Nat) (i r : Int), acc.length = n ∧ acc.length + rest.length = 26 ∧ (acc ++ rest).Nodup ∧ (∀ c ∈ acc ++ rest, c ∈ small) ∧
  H D = some (.lst ((sgs acc).map V.str)) ∧ H l = some (.lst ((sgs rest).map V.str)) ∧ PenAt H p q ns i r ∧ i ≤ i0 + n
theorem ok_letters {f : Addr} {fd : FuncData} (F : Fun K "_law_letters" "_law_letters" s_law_letters f fd) (B : Blt mg) (D_law_draw : HasFn P w K mg base CX0 1 "_law_draw" ["_law_pen_here", "_law_limit"] spDraw) (D_law_pick : HasFn P w K mg base CX0 2 "_law_pick" ["_law_pen_here", "_law_some"] spPick) :
    FnOk P w K mg base CX0 3 f fd ["_law_pen_here"] spLetters := by
  refine F.ok sc_law_letters (fun vs H Q E h => ?_) (fun cdv A outer s H vs Q E hr h => ?_)
  · obtain ⟨p, q, ns, i, r, rfl, _⟩ := h
    rfl
  · obtain ⟨p, q, ns, i, r, rfl, hp, hi, k⟩ := h
    refine ⟨_, (pss_cons (ps_set (i := 1) sc_law_letters.nd rfl (.inr rfl) (pe_callTy (call_list_text rfl) (by rfl) B.n_list (by decide +kernel) (pa_cons pe_str pa_nil)))
      (pss_one (ps_ret (pe_join pe_str (pe_lc rfl sc_law_letters.nd (pi_range1 (by rfl) B.n_range (pa_cons (pe_fn D_law_pick (hr.mono (by decide)) pass0 (pa_cons (pv 0) (pa_cons (pe_lst (pa_cons pe_int (pa_cons pe_int (pa_cons pe_int (pa_cons pe_int pa_nil))))) pa_nil))) pa_nil)) (blkOk_by (own := [("_law_turn", 2)]) (N := ["_law_pen_here", "_law_pool", "_law_turn"]) (sc := defScope s_law_letters) (by decide +kernel)) (fun _ _ _ _ _ => (pg_name (i := 2) sc_law_letters.nd rfl (.inl rfl))) (fun _ _ _ _ _ => pts_nil) (fun _ _ _ _ _ => (pe_bmB PySem.F.plainAttrs_list PySem.F.slot_list_pop PySem.F.type_list_pop mt_popAt (pv 1) (pa_cons (pe_fn D_law_draw (hr.mono (by decide)) pass0 (pa_cons (pv 0) (pa_cons (pe_callB call_lenB (by rfl) B.n_len (by decide +kernel) (pa_cons (pv 1) pa_nil)) pa_nil))) pa_nil)))))))), ?_⟩
    refine ⟨_, rfl, by decide, fun pl hpl => ?_⟩
    have s1 := same_new (o := HO.lst ((LB.signs (Str.ofString "abcdefghijklmnopqrstuvwxyz")).map V.str)) hpl
    have e1 : upd H pl (HO.lst ((LB.signs (Str.ofString "abcdefghijklmnopqrstuvwxyz")).map V.str)) pl = some (.lst ((sgs small).map V.str)) := by rw [upd_same, small_signs]
    have npl : pl ≠ p := (ne_of_none hp.pen hpl).symm
    generalize upd H pl (HO.lst ((LB.signs (Str.ofString "abcdefghijklmnopqrstuvwxyz")).map V.str)) = H1 at s1 e1 ⊢
    refine ⟨⟨_, rfl⟩, ?_⟩
    refine ⟨_, rfl, by show 4 ≤ sizeLine; decide, fun l4 hl4 => ?_⟩
    have s2 := s1.trans (same_new (o := HO.lst [.int 2, .int 2, .int 3, .int 4]) hl4)
    refine ⟨p, l4, q, _, ns, i, r, rfl, upd_same, by decide, by decide, hp.same s2, by omega, (ne_of_none (s1 _ _ hp.pen) hl4).symm, fun x hx i2 r2 H2 b2 hp2 hi2 => ?_⟩
    obtain ⟨m, rfl, m2, m4⟩ : ∃ m : Nat, x = .int (m : Nat) ∧ 2 ≤ m ∧ m ≤ 4 := by
      simp only [List.mem_cons, List.mem_nil_iff, or_false] at hx
      rcases hx with rfl | rfl | rfl | rfl
      · exact ⟨2, rfl, by decide, by decide⟩
      · exact ⟨2, rfl, by decide, by decide⟩
      · exact ⟨3, rfl, by decide, by decide⟩
      · exact ⟨4, rfl, by decide, by decide⟩
    refine ⟨(m : Nat), rfl, by omega, by omega, ?_⟩
    rw [Int.toNat_natCast]
    intro D hD
    have el2 : H2 pl = some (.lst ((sgs small).map V.str)) := b2 _ _ (same_new hl4 _ _ e1) npl
    have bH : But p H H2 := But.trans (But.of_same s2) b2
    refine lc_range (lo := 0) (n := m) (fun j H' => Drawn H' D pl p q ns i2 j ∧ But p H H') ⟨⟨[], small, i2, r2, rfl, by decide, small_nd, fun c h => h, upd_same, same_new hD _ _ el2, hp2.same (same_new hD), by omega⟩, But.trans bH (.new hD)⟩ (fun j H3 hj h3 => ?_) (fun H3 h3 => ?_)
    · obtain ⟨⟨acc, rest, i3, r3, a1, a2, a3, a4, a5, a6, a7, a8⟩, b3⟩ := h3
      refine ⟨rfl, ?_⟩
      refine ⟨_, rfl, .inl ⟨rfl, _, SqL.of a6⟩, ?_⟩
      refine ⟨_, rfl, _, rfl, _, _, rfl, .inl ⟨_, SqL.of a6, rfl⟩, p, q, ns, i3, r3, _, rfl, a7, ?_, ?_, by omega, fun d i4 r4 H4 d0 d1 hi4 hp4 b4 => ?_⟩
      · rw [List.length_map, sgs_len]; omega
      · rw [List.length_map, sgs_len]; omega
      · rw [List.length_map, sgs_len] at d1
        obtain ⟨dn, rfl⟩ : ∃ dn : Nat, d = (dn : Int) := ⟨d.toNat, by omega⟩
        have hdn : dn < rest.length := by omega
        have Dp : D ≠ p := fun e => by rw [e, a7.pen] at a5; injection a5 with a5; injection a5 with a5; cases acc <;> cases a5
        refine ⟨pl, _, _, dn, .str ⟨#[rest[dn]]⟩, rfl, rfl, b4 _ _ a6 npl, by omega, by omega, seq_ix (by rw [List.length_map, sgs_len]; exact hdn), ?_, ?_⟩
        · rw [List.getElem?_map]; unfold sgs; rw [List.getElem?_map, List.getElem?_eq_getElem hdn]; rfl
        · have nD : pl ≠ D := ne_of_none el2 hD
          have pm : List.Perm ((acc ++ [rest[dn]]) ++ rest.eraseIdx dn) (acc ++ rest) := by
            rw [List.append_assoc]
            exact List.Perm.append_left acc (erase_perm rest dn hdn)
          have ee : ((sgs rest).map V.str).eraseIdx dn = (sgs (rest.eraseIdx dn)).map V.str := by
            unfold sgs
            rw [List.map_map, List.map_map, erase_map]
          have h5 : upd H4 pl (.lst (((sgs rest).map V.str).eraseIdx dn)) D = some (.lst ((sgs acc).map V.str)) := by rw [upd_ne nD.symm]; exact b4 _ _ a5 Dp
          have b5 : But p H (upd H4 pl (.lst (((sgs rest).map V.str).eraseIdx dn))) := fun c o e n => by rw [upd_ne (ne_of_none e hpl)]; exact b4 _ _ (b3 _ _ e n) n
          refine ⟨_, h5, ?_, ⟨acc ++ [rest[dn]], rest.eraseIdx dn, i4, r4, by rw [List.length_append, a1]; rfl, by rw [List.length_append, List.length_eraseIdx_of_lt hdn]; show acc.length + 1 + (rest.length - 1) = 26; omega, pm.nodup_iff.mpr a3, fun c hc => a4 c (pm.mem_iff.mp hc), ?_, ?_, ?_, by omega⟩, ?_⟩
          · rw [List.length_map, sgs_len]
            have : 26 < sizeLine := by decide
            omega
          · rw [upd_same, sgs_append, List.map_append]; rfl
          · rw [upd_ne nD, upd_same, ee]
          · have c1 : PenAt (upd H4 pl (.lst (((sgs rest).map V.str).eraseIdx dn))) p q ns i4 r4 := ⟨by rw [upd_ne npl.symm]; exact hp4.pen, by
              rw [upd_ne (fun z => by
                have := hp.lst
                rw [z, hpl] at this
                cases this)]
              exact hp4.lst, hp4.i0, hp4.ne⟩
            exact ⟨by rw [upd_ne Dp.symm]; exact c1.pen, by
              rw [upd_ne (fun z => by
                have := hp2.lst
                rw [z, hD] at this
                cases this)]
              exact c1.lst, c1.i0, c1.ne⟩
          · exact fun c o e n => by
              have n2 : c ≠ D := ne_of_none (bH _ _ e n) hD
              rw [upd_ne n2]
              exact b5 c o e n
    · obtain ⟨⟨acc, rest, i3, r3, a1, a2, a3, a4, a5, a6, a7, a8⟩, b3⟩ := h3
      refine ⟨_, D, sgs acc, rfl, rfl, .inl (SqL.of a5), ?_, ?_⟩
      · have e : ∀ l : List Nat, ((sgs l).map (·.length)).sum = l.length := by
          intro l
          induction l with
          | nil => rfl
          | cons c r ih => show 1 + ((sgs r).map (·.length)).sum = _; rw [ih, List.length_cons]; omega
        show ((sgs acc).map (·.length)).sum + (sgs acc).length * 0 ≤ 16777216
        rw [e]
        omega
      · show Q (.str (Txt.join (Str.ofString "") (sgs acc))) H3
        have ej : Txt.join (Str.ofString "") (sgs acc) = ⟨acc.toArray⟩ := join_sgs _
        rw [ej]
        exact k _ i3 r3 H3 b3 a7 (by omega) ⟨by show 2 ≤ acc.length; omega, by show acc.length ≤ 4; omega, fun c hc => a4 c (List.mem_append_left _ (by simpa using hc)), by
          have := (List.nodup_append.mp a3).1
          simpa using this⟩
end

structure VT (K : PySem.W.Frag) (C : Addr) : Prop where
  cl : Cls K C
  ha : PySem.W.findIn K (.ref C) "__class__" = some (some (.builtin "object.__class__"))
  hn : PySem.W.specialIn K (.builtin "object.__class__") "__get__" = some (some (.builtin "getset_descriptor.__get__"))
  htk : PySem.W.takesIn K (.builtin "object.__class__") = some true
  hm : PySem.W.mroIn K C (.type "object") = some true
theorem VT.ty {K : PySem.W.Frag} {H : Hp} {C : Addr} (T : VT K C) {a dx : Addr} {fs : List (Str × V)} (e : H a = some (.ins C dx fs)) : TyX K H (.ref a) (.ref C) := .base (.ins e T.cl T.ha T.hn T.htk T.hm)
/-- which types are values, texts, lists -/
structure KV (K : PySem.W.Frag) (CV : Addr) : Prop where
  vt : VT K CV
  vv : PySem.W.kitOne K (.ref CV) (.ref CV) = some true
  sv : PySem.W.kitOne K (.type "str") (.ref CV) = some false
  nv : PySem.W.kitOne K (.type "NoneType") (.ref CV) = some false
  vs : PySem.W.kitOne K (.ref CV) (.type "str") = some false
def spEqV (CV : Addr) : Sp := fun vs H Q _ => ∃ (v dx : Addr) (fs : List (Str × V)) (z : Str) (y : V), vs = [.ref v, y] ∧ H v = some (.ins CV dx fs) ∧ fs.lookup ("letters" : Str) = some (.str z) ∧
  ((∃ (u du : Addr) (gs : List (Str × V)) (z2 : Str), y = .ref u ∧ H u = some (.ins CV du gs) ∧ gs.lookup ("letters" : Str) = some (.str z2) ∧ Q (.bl (decide (z = z2))) H) ∨ (((∃ t, y = .str t) ∨ y = .non) ∧ Q (.bl false) H))
theorem dec_str {a b : Str} : decide (V.str a = V.str b) = decide (a = b) := by
  by_cases h : a = b
  · rw [h]; exact (decide_eq_true rfl).trans (decide_eq_true rfl).symm
  · rw [decide_eq_false h, decide_eq_false fun q => h (by injection q)]
section
variable {P : Program} {w : World} {K : PySem.W.Frag} {mg : Str → Option Value} {base : Heap}
theorem ok_pick {f : Addr} {fd : FuncData} (F : Fun K "_law_pick" "_law_pick" s_law_pick f fd) (B : Blt mg) (D_law_draw : HasFn P w K mg base CX0 1 "_law_draw" ["_law_pen_here", "_law_limit"] spDraw) : FnOk P w K mg base CX0 2 f fd ["_law_pen_here", "_law_some"] spPick := by
  refine F.ok sc_law_pick (fun vs H Q E h => ?_) (fun cdv A outer s H vs Q E hr h => ?_)
  · obtain ⟨p, l, q, xs, ns, i, r, rfl, _⟩ := h
    rfl
  · obtain ⟨p, l, q, xs, ns, i, r, rfl, hl, h0, hz, hp, hi, hn, k⟩ := h
    refine ⟨_, (pss_one (ps_ret (pe_ix ix_list (pv 1) (pe_fn D_law_draw (hr.mono (by decide)) pass0 (pa_cons (pv 0) (pa_cons (pe_callB call_len (by rfl) B.n_len (by decide +kernel) (pa_cons (pv 1) pa_nil)) pa_nil))) (fun _ _ => rfl)))), ?_⟩
    refine ⟨_, rfl, _, rfl, _, rfl, _, _, rfl, .inl ⟨xs, SqL.of hl, rfl⟩, p, q, ns, i, r, _, rfl, hp, by omega, by omega, hi, fun d i' r' H' d0 d1 hi' hp' b => ?_⟩
    obtain ⟨n, rfl⟩ : ∃ n : Nat, d = (n : Int) := ⟨d.toNat, by omega⟩
    have hn' : n < xs.length := by omega
    exact ⟨l, xs, _, _, rfl, rfl, SqL.of (b _ _ hl hn), atI_nat (List.getElem?_eq_getElem hn'), k _ (List.getElem_mem hn') i' r' H' b hp' hi'⟩
theorem ok_eqV {CV CC : Addr} {ts : Tok} {f : Addr} {fd : FuncData} (F : Fun K "__eq__" "Values.__eq__" s_ValuesDD_eqDD f fd) (B : Blt mg) (VV : VF K CV CC) (G : Consts mg CV ts) (KV : KV K CV) : FnOk P w K mg base CX0 1 f fd ["self", "other"] (spEqV CV) := by
  refine F.ok sc_ValuesDD_eqDD (fun vs H Q E h => ?_) (fun cdv A outer s H vs Q E hr h => ?_)
  · obtain ⟨v, dx, fs, z, y, rfl, _⟩ := h
    rfl
  · obtain ⟨v, dx, fs, z, y, rfl, hv, hl, hy⟩ := h
    refine ⟨_, (pss_one (ps_ret (pe_and (pe_callB call_isi (by rfl) B.n_isinstance (by decide +kernel) (pa_cons (pv 1) (pa_cons (pe_glob (v := .ref _) rfl G.mgV rfl) pa_nil))) (pe_one (pe_cmpR op_eq (pe_fld (pv 0) rfl) (pe_fld (pv 1) rfl) (nomark _)))))), ?_⟩
    rcases hy with ⟨u, du, gs, z2, rfl, hu, hl2, k⟩ | ⟨hy, k⟩
    · refine ⟨_, rfl, _, _, _, _, true, rfl, .own _, KV.vt.ty hu, KV.vv, true, rfl, iteT ?_⟩
      refine ⟨_, rfl, v, CV, dx, fs, _, rfl, hv, VV.cv, VV.vl, hl, _, rfl, u, CV, du, gs, _, rfl, hu, VV.cv, VV.vl, hl2, rfl, ?_⟩
      rw [dec_str]
      exact k
    · rcases hy with ⟨t, rfl⟩ | rfl
      · exact ⟨_, rfl, _, _, _, _, false, rfl, .own _, .base (.str t), KV.sv, false, rfl, iteF k⟩
      · exact ⟨_, rfl, _, _, _, _, false, rfl, .own _, .base .non, KV.nv, false, rfl, iteF k⟩
end
end K6

namespace K6
open PySem L2 LB PyProof.Rows
abbrev s_is_integer : Stmt := top 10
theorem sc_is_integer : FnScope ["value"] ["value"] (defScope s_is_integer) := ⟨rfl, rfl, rfl, by decide +kernel, rfl, by decide +kernel, by decide +kernel⟩
abbrev s_is_from : Stmt := top 11
theorem sc_is_from : FnScope ["value", "low", "high"] ["value", "low", "high"] (defScope s_is_from) := ⟨rfl, rfl, rfl, by decide +kernel, rfl, by decide +kernel, by decide +kernel⟩
abbrev s_same_values : Stmt := top 13
theorem sc_same_values : FnScope ["one", "other"] ["one", "other"] (defScope s_same_values) := ⟨rfl, rfl, rfl, by decide +kernel, rfl, by decide +kernel, by decide +kernel⟩
abbrev s_Values_numbered : Stmt := inClass (top 16) 8
theorem sc_Values_numbered : FnScope ["self", "number"] ["self", "number"] (defScope s_Values_numbered) := ⟨rfl, rfl, rfl, by decide +kernel, rfl, by decide +kernel, by decide +kernel⟩
abbrev s_CellDD_eqDD : Stmt := inClass (top 17) 2
theorem sc_CellDD_eqDD : FnScope ["self", "other"] ["self", "other"] (defScope s_CellDD_eqDD) := ⟨rfl, rfl, rfl, by decide +kernel, rfl, by decide +kernel, by decide +kernel⟩
abbrev s_CellDD_lenDD : Stmt := inClass (top 17) 3
theorem sc_CellDD_lenDD : FnScope ["self"] ["self"] (defScope s_CellDD_lenDD) := ⟨rfl, rfl, rfl, by decide +kernel, rfl, by decide +kernel, by decide +kernel⟩
abbrev s_CellDD_boolDD : Stmt := inClass (top 17) 4
theorem sc_CellDD_boolDD : FnScope ["self"] ["self"] (defScope s_CellDD_boolDD) := ⟨rfl, rfl, rfl, by decide +kernel, rfl, by decide +kernel, by decide +kernel⟩
abbrev s_CellDD_andDD : Stmt := inClass (top 17) 8
theorem sc_CellDD_andDD : FnScope ["self", "other"] ["self", "other"] (defScope s_CellDD_andDD) := ⟨rfl, rfl, rfl, by decide +kernel, rfl, by decide +kernel, by decide +kernel⟩
abbrev s_CellDD_orDD : Stmt := inClass (top 17) 9
theorem sc_CellDD_orDD : FnScope ["self", "other"] ["self", "other"] (defScope s_CellDD_orDD) := ⟨rfl, rfl, rfl, by decide +kernel, rfl, by decide +kernel, by decide +kernel⟩
abbrev s_CellDD_subDD : Stmt := inClass (top 17) 10
theorem sc_CellDD_subDD : FnScope ["self", "other"] ["self", "other"] (defScope s_CellDD_subDD) := ⟨rfl, rfl, rfl, by decide +kernel, rfl, by decide +kernel, by decide +kernel⟩
abbrev s_CellDD_invertDD : Stmt := inClass (top 17) 12
theorem sc_CellDD_invertDD : FnScope ["self"] ["self"] (defScope s_CellDD_invertDD) := ⟨rfl, rfl, rfl, by decide +kernel, rfl, by decide +kernel, by decide +kernel⟩
abbrev s_Cell_within : Stmt := inClass (top 17) 13
theorem sc_Cell_within : FnScope ["self", "other"] ["self", "other"] (defScope s_Cell_within) := ⟨rfl, rfl, rfl, by decide +kernel, rfl, by decide +kernel, by decide +kernel⟩

structure KC (K : PySem.W.Frag) (CC : Addr) : Prop where
  vt : VT K CC
  cc : PySem.W.kitOne K (.ref CC) (.ref CC) = some true
  sf : PySem.W.selfFirst K CC = true
  ni : NoI K CC "__isub__"
def spFrom : Sp := fun vs H Q _ => ∃ (x lo hi : Int), vs = [.int x, .int lo, .int hi] ∧ Q (.bl (decide (lo ≤ x) && decide (x ≤ hi))) H
def spInt : Sp := fun vs H Q _ => ∃ x : Int, vs = [.int x] ∧ Q (.bl true) H
def spSame (CV CC : Addr) : Sp := fun vs H Q _ => ∃ (x y p : Addr) (z : Str) (cs : List Addr) (a b : Nat), vs = [.ref x, .ref y] ∧ ValsAt CV CC H p z cs ∧ cs[a]? = some x ∧ cs[b]? = some y ∧ Q .non H
def spNumb (CV CC : Addr) : Sp := fun vs H Q _ => ∃ (p c : Addr) (z : Str) (cs : List Addr) (i : Int) (n : Nat), vs = [.ref p, .int i] ∧ i = (n : Int) ∧ ValsAt CV CC H p z cs ∧ cs[n]? = some c ∧ Q (.ref c) H
def spBin (CV CC : Addr) (f : Nat → Nat → Nat) : Sp := fun vs H Q _ => ∃ (x y p c : Addr) (z : Str) (cs : List Addr) (a b : Nat), vs = [.ref x, .ref y] ∧ ValsAt CV CC H p z cs ∧ cs[a]? = some x ∧ cs[b]? = some y ∧ cs[f a b]? = some c ∧ Q (.ref c) H
/-- a question to two cells -/
def spRel (CV CC : Addr) (f : Nat → Nat → Bool) : Sp := fun vs H Q _ => ∃ (x y p : Addr) (z : Str) (cs : List Addr) (a b : Nat), vs = [.ref x, .ref y] ∧ ValsAt CV CC H p z cs ∧ cs[a]? = some x ∧ cs[b]? = some y ∧ Q (.bl (f a b)) H
def spInv (CV CC : Addr) : Sp := fun vs H Q _ => ∃ (x p c : Addr) (z : Str) (cs : List Addr) (a : Nat), vs = [.ref x] ∧ ValsAt CV CC H p z cs ∧ cs[a]? = some x ∧ cs[2 ^ z.cps.size - 1 - a]? = some c ∧ Q (.ref c) H
def spOneC (CV CC : Addr) (f : Str → V) : Sp := fun vs H Q _ => ∃ (x p : Addr) (z : Str) (cs : List Addr) (a : Nat), vs = [.ref x] ∧ ValsAt CV CC H p z cs ∧ cs[a]? = some x ∧ Q (f (cellT z a)) H
def spInC (CV CC : Addr) : Sp := fun vs H Q _ => ∃ (x p : Addr) (z : Str) (cs : List Addr) (a c : Nat), vs = [.ref x, .str ⟨#[c]⟩] ∧ ValsAt CV CC H p z cs ∧ cs[a]? = some x ∧ Q (.bl (decide (c ∈ subL z a z.cps.size))) H
def fSub (a b : Nat) : Nat := a - (a &&& b)
def fIn (a b : Nat) : Bool := decide (a &&& b = a)
theorem atN {cs : List Addr} {n : Nat} {c : Addr} (h : cs[n]? = some c) : atI (cs.map V.ref) (n : Int) = some (.ref c) := atI_nat (by rw [List.getElem?_map, h]; rfl)
theorem cell_len (z : Str) (n : Nat) (h : z.cps.size ≤ 4) : (cellT z n).length ≤ 4 := Nat.le_trans (subL_len z n z.cps.size) h
theorem z_and (a b : Nat) : Builtin.bitAnd (a : Int) (b : Int) = ((a &&& b : Nat) : Int) := by
  rw [bitAnd_pp (Int.natCast_nonneg _) (Int.natCast_nonneg _), Int.toNat_natCast, Int.toNat_natCast]
theorem z_or (a b : Nat) : Builtin.bitOr (a : Int) (b : Int) = ((a ||| b : Nat) : Int) := by
  rw [bitOr_nn (Int.natCast_nonneg _) (Int.natCast_nonneg _), Int.toNat_natCast, Int.toNat_natCast]
theorem z_xor16 : ∀ a : Nat, a < 16 → ∀ b : Nat, b < 16 → Builtin.bitXor (a : Int) (b : Int) = ((a ^^^ b : Nat) : Int) := by decide +kernel
theorem z_sub (a b : Nat) : Builtin.bitAnd (a : Int) (Builtin.bitNot (b : Int)) = ((fSub a b : Nat) : Int) := by
  rw [bitAnd_not, z_and]
  have : a &&& b ≤ a := Nat.and_le_left
  unfold fSub
  omega
theorem z_lt {CV CC : Addr} {H : Hp} {p : Addr} {z : Str} {cs : List Addr} {a : Nat} {x : Addr} (vv : ValsAt CV CC H p z cs) (h : cs[a]? = some x) : a < 16 := by
  have h1 := (List.getElem?_eq_some_iff.mp h).1
  have h2 := vv.len
  have h3 := Nat.pow_le_pow_right (n := 2) (by decide) vv.good.hi
  omega
theorem dec_int {a b : Int} : decide (V.int a = V.int b) = decide (a = b) := by
  by_cases h : a = b
  · rw [h]; exact (decide_eq_true rfl).trans (decide_eq_true rfl).symm
  · rw [decide_eq_false h, decide_eq_false fun q => h (by injection q)]
theorem dec_nat {a b : Nat} : decide (V.int (a : Int) = V.int (b : Int)) = decide (a = b) := by
  rw [dec_int]
  by_cases h : a = b
  · rw [decide_eq_true h, decide_eq_true (by rw [h])]
  · rw [decide_eq_false h, decide_eq_false (fun q => h (by omega))]

section
variable {P : Program} {w : World} {K : PySem.W.Frag} {mg : Str → Option Value} {base : Heap}

theorem ok_int {f : Addr} {fd : FuncData} (F : Fun K "is_integer" "is_integer" s_is_integer f fd) (B : Blt mg) : FnOk P w K mg base CX0 1 f fd ["value"] spInt := by
  refine F.ok sc_is_integer (fun vs H Q E h => ?_) (fun cdv A outer s H vs Q E hr h => ?_)
  · obtain ⟨x, rfl, _⟩ := h
    rfl
  · obtain ⟨x, rfl, k⟩ := h
    refine ⟨_, (pss_one (ps_ret (pe_and (pe_callB call_isi (by rfl) B.n_isinstance (by decide +kernel) (pa_cons (pv 0) (pa_cons (pe_bltn (v := .ty "int") (by rfl) B.n_int (by decide +kernel) rfl) pa_nil))) (pe_one (pe_not (pe_callB call_isi (by rfl) B.n_isinstance (by decide +kernel) (pa_cons (pv 0) (pa_cons (pe_bltn (v := .ty "bool") (by rfl) B.n_bool (by decide +kernel) rfl) pa_nil)))))))), ?_⟩
    refine ⟨_, rfl, _, _, _, _, true, rfl, .ty "int", .base (.int _), kit_ty (by decide +kernel), true, rfl, iteT ?_⟩
    exact ⟨_, rfl, _, _, _, _, false, rfl, .ty "bool", .base (.int _), kit_ty (by decide +kernel), false, rfl, k⟩
theorem ok_from {f : Addr} {fd : FuncData} (F : Fun K "is_from" "is_from" s_is_from f fd) (B : Blt mg) (D_is_integer : HasFn P w K mg base CX0 1 "is_integer" ["value"] spInt) : FnOk P w K mg base CX0 2 f fd ["value", "low", "high"] spFrom := by
  refine F.ok sc_is_from (fun vs H Q E h => ?_) (fun cdv A outer s H vs Q E hr h => ?_)
  · obtain ⟨x, lo, hi, rfl, _⟩ := h
    rfl
  · obtain ⟨x, lo, hi, rfl, k⟩ := h
    refine ⟨_, (pss_one (ps_ret (pe_and (pe_fn D_is_integer (hr.mono (by decide)) pass0 (pa_cons (pv 0) pa_nil)) (pe_one (pe_chain op_le op_le (pv 1) (pv 0) (pv 2)))))), ?_⟩
    refine ⟨_, rfl, x, rfl, true, rfl, iteT ?_⟩
    refine ⟨_, rfl, _, rfl, _, _, rfl, rfl, _, rfl, ?_⟩
    refine ite2 (fun c => ?_) (fun c => ?_)
    · refine ⟨_, rfl, _, _, rfl, rfl, ?_⟩
      rw [c, Bool.true_and] at k
      exact k
    · have c' : decide (lo ≤ x) = false := by simpa using c
      rw [c', Bool.false_and] at k
      exact k
theorem ok_same {CV CC : Addr} {f : Addr} {fd : FuncData} (F : Fun K "same_values" "same_values" s_same_values f fd) (B : Blt mg) (VV : VF K CV CC) (NE : NeOwn K CV) (D_eq : HasMe P w K mg base CX0 1 CV "__eq__" ["self", "other"] (spEqV CV)) :
    FnOk P w K mg base CX0 3 f fd ["one", "other"] (spSame CV CC) := by
  refine F.ok sc_same_values (fun vs H Q E h => ?_) (fun cdv A outer s H vs Q E hr h => ?_)
  · obtain ⟨x, y, p, z, cs, a, b, rfl, _⟩ := h
    rfl
  · obtain ⟨x, y, p, z, cs, a, b, rfl, vv, ha, hb, k⟩ := h
    obtain ⟨dx, hx⟩ := vv.cell a x ha
    obtain ⟨dy, hy⟩ := vv.cell b y hb
    obtain ⟨dp, t, hp, ht⟩ := vv.ob
    refine ⟨_, (pss_one (ps_if (pt_cmpR (op_neMe D_eq (hr.mono (by decide)) pass0 NE) (pe_fld (pv 0) rfl) (pe_fld (pv 1) rfl) (nomark _)) (pss_one ps_never) pss_nil)), ?_⟩
    refine ⟨_, rfl, x, CC, dx, _, _, rfl, hx, VV.cc, VV.ca, cellF_alp, _, rfl, y, CC, dy, _, _, rfl, hy, VV.cc, VV.ca, cellF_alp, ?_⟩
    refine ⟨p, p, dp, dp, _, _, rfl, rfl, hp, hp, p, dp, _, z, _, rfl, hp, valF_let, .inl ⟨p, dp, _, z, rfl, hp, valF_let, _, rfl, _, rfl, ?_⟩⟩
    exact iteNS rfl k
theorem ok_numb {CV CC : Addr} {f : Addr} {fd : FuncData} (F : Fun K "numbered" "Values.numbered" s_Values_numbered f fd) (B : Blt mg) (VV : VF K CV CC) (D_is_from : HasFn P w K mg base CX0 2 "is_from" ["value", "low", "high"] spFrom) :
    FnOk P w K mg base CX0 3 f fd ["self", "number"] (spNumb CV CC) := by
  refine F.ok sc_Values_numbered (fun vs H Q E h => ?_) (fun cdv A outer s H vs Q E hr h => ?_)
  · obtain ⟨p, c, z, cs, i, n, rfl, _⟩ := h
    rfl
  · obtain ⟨p, c, z, cs, i, n, rfl, rfl, vv, hn, k⟩ := h
    obtain ⟨dp, t, hp, ht⟩ := vv.ob
    have ln : n < cs.length := (List.getElem?_eq_some_iff.mp hn).1
    refine ⟨_, (pss_cons (ps_if (pt_not (pt_val (pe_fn D_is_from (hr.mono (by decide)) pass0 (pa_cons (pv 1) (pa_cons pe_int (pa_cons (pe_op op_sub (pe_callB call_len (by rfl) B.n_len (by decide +kernel) (pa_cons (pe_fld (pv 0) rfl) pa_nil)) pe_int) pa_nil)))))) (pss_one ps_never) pss_nil)
      (pss_one (ps_ret (pe_ix ix_tup (pe_fld (pv 0) rfl) (pv 1) (fun _ _ => rfl))))), ?_⟩
    refine ⟨_, rfl, _, rfl, p, CV, dp, _, _, rfl, hp, VV.cv, VV.vb, valF_by, _, _, rfl, .inr ⟨_, SqT.of ht, rfl⟩, _, _, rfl, rfl, _, _, _, rfl, ?_⟩
    have e1 : decide ((0 : Int) ≤ (n : Int)) = true := decide_eq_true (Int.natCast_nonneg _)
    have e2 : decide ((n : Int) ≤ (((cs.map V.ref).length : Nat) : Int) - 1) = true := decide_eq_true (by rw [List.length_map]; omega)
    refine ⟨true, by rw [e1, e2]; rfl, iteF ?_⟩
    exact ⟨_, rfl, p, CV, dp, _, _, rfl, hp, VV.cv, VV.vb, valF_by, _, rfl, t, _, _, _, rfl, rfl, SqT.of ht, atN hn, k⟩
theorem ok_eqC {CV CC : Addr} {f : Addr} {fd : FuncData} (F : Fun K "__eq__" "Cell.__eq__" s_CellDD_eqDD f fd) (B : Blt mg) (VV : VF K CV CC) (gC : mg "Cell" = some (.ref CC)) (KV : KC K CC) (D_eq : HasMe P w K mg base CX0 1 CV "__eq__" ["self", "other"] (spEqV CV)) :
    FnOk P w K mg base CX0 2 f fd ["self", "other"] (spRel CV CC fun a b => decide (a = b)) := by
  refine F.ok sc_CellDD_eqDD (fun vs H Q E h => ?_) (fun cdv A outer s H vs Q E hr h => ?_)
  · obtain ⟨x, y, p, z, cs, a, b, rfl, _⟩ := h
    rfl
  · obtain ⟨x, y, p, z, cs, a, b, rfl, vv, ha, hb, k⟩ := h
    obtain ⟨dx, hx⟩ := vv.cell a x ha
    obtain ⟨dy, hy⟩ := vv.cell b y hb
    obtain ⟨dp, t, hp, ht⟩ := vv.ob
    refine ⟨_, (pss_one (ps_ret (pe_and (pe_callB call_isi (by rfl) B.n_isinstance (by decide +kernel) (pa_cons (pv 1) (pa_cons (pe_glob (v := .ref _) rfl gC rfl) pa_nil))) (pe_and (pe_cmpR (op_eqMe D_eq (hr.mono (by decide)) pass0) (pe_fld (pv 0) rfl) (pe_fld (pv 1) rfl) (nomark _)) (pe_one (pe_cmpR op_eq (pe_fld (pv 0) rfl) (pe_fld (pv 1) rfl) (nomark _))))))), ?_⟩
    refine ⟨_, rfl, _, _, _, _, true, rfl, .own _, KV.vt.ty hy, KV.cc, true, rfl, iteT ?_⟩
    refine ⟨_, rfl, x, CC, dx, _, _, rfl, hx, VV.cc, VV.ca, cellF_alp, _, rfl, y, CC, dy, _, _, rfl, hy, VV.cc, VV.ca, cellF_alp, ?_⟩
    refine ⟨p, p, dp, dp, _, _, rfl, rfl, hp, hp, p, dp, _, z, _, rfl, hp, valF_let, .inl ⟨p, dp, _, z, rfl, hp, valF_let, true, by rw [decide_eq_true rfl], iteT ?_⟩⟩
    refine ⟨_, rfl, x, CC, dx, _, _, rfl, hx, VV.cc, VV.cn, cellF_num, _, rfl, y, CC, dy, _, _, rfl, hy, VV.cc, VV.cn, cellF_num, rfl, ?_⟩
    rw [dec_nat]
    exact k
theorem ok_lenC {CV CC : Addr} {f : Addr} {fd : FuncData} (F : Fun K "__len__" "Cell.__len__" s_CellDD_lenDD f fd) (B : Blt mg) (VV : VF K CV CC) : FnOk P w K mg base CX0 1 f fd ["self"] (spOneC CV CC fun t => .int (t.length : Nat)) := by
  refine F.ok sc_CellDD_lenDD (fun vs H Q E h => ?_) (fun cdv A outer s H vs Q E hr h => ?_)
  · obtain ⟨x, p, z, cs, a, rfl, _⟩ := h
    rfl
  · obtain ⟨x, p, z, cs, a, rfl, vv, ha, k⟩ := h
    obtain ⟨dx, hx⟩ := vv.cell a x ha
    have hz := cell_len z a vv.good.hi
    have h4 : 4 ≤ sizeLine := by decide
    refine ⟨_, (pss_one (ps_ret (pe_callB call_len (by rfl) B.n_len (by decide +kernel) (pa_cons (pe_fld (pv 0) rfl) pa_nil)))), ?_⟩
    exact ⟨_, rfl, x, CC, dx, _, _, rfl, hx, VV.cc, VV.cl, cellF_let, _, _, rfl, ⟨Nat.le_trans hz h4, rfl⟩, k⟩
theorem ok_boolC {CV CC : Addr} {f : Addr} {fd : FuncData} (F : Fun K "__bool__" "Cell.__bool__" s_CellDD_boolDD f fd) (B : Blt mg) (VV : VF K CV CC) : FnOk P w K mg base CX0 1 f fd ["self"] (spOneC CV CC fun t => .bl (decide (0 < t.length))) := by
  refine F.ok sc_CellDD_boolDD (fun vs H Q E h => ?_) (fun cdv A outer s H vs Q E hr h => ?_)
  · obtain ⟨x, p, z, cs, a, rfl, _⟩ := h
    rfl
  · obtain ⟨x, p, z, cs, a, rfl, vv, ha, k⟩ := h
    obtain ⟨dx, hx⟩ := vv.cell a x ha
    have hz := cell_len z a vv.good.hi
    have h4 : 4 ≤ sizeLine := by decide
    refine ⟨_, (pss_one (ps_ret (pe_callTy call_boolS (by rfl) B.n_bool (by decide +kernel) (pa_cons (pe_fld (pv 0) rfl) pa_nil)))), ?_⟩
    exact ⟨_, rfl, x, CC, dx, _, _, rfl, hx, VV.cc, VV.cl, cellF_let, _, rfl, Nat.le_trans hz h4, k⟩
theorem ok_and {CV CC : Addr} {f : Addr} {fd : FuncData} (F : Fun K "__and__" "Cell.__and__" s_CellDD_andDD f fd) (B : Blt mg) (VV : VF K CV CC) (D_same_values : HasFn P w K mg base CX0 3 "same_values" ["one", "other"] (spSame CV CC))
    (D_numbered : HasMe P w K mg base CX0 3 CV "numbered" ["self", "number"] (spNumb CV CC)) : FnOk P w K mg base CX0 4 f fd ["self", "other"] (spBin CV CC Nat.land) := by
  refine F.ok sc_CellDD_andDD (fun vs H Q E h => ?_) (fun cdv A outer s H vs Q E hr h => ?_)
  · obtain ⟨x, y, p, c, z, cs, a, b, rfl, _⟩ := h
    rfl
  · obtain ⟨x, y, p, c, z, cs, a, b, rfl, vv, ha, hb, hc, k⟩ := h
    obtain ⟨dx, hx⟩ := vv.cell a x ha
    obtain ⟨dy, hy⟩ := vv.cell b y hb
    obtain ⟨dp, t, hp, ht⟩ := vv.ob
    refine ⟨_, (pss_cons (ps_expr (pe_fn D_same_values (hr.mono (by decide)) pass0 (pa_cons (pv 0) (pa_cons (pv 1) pa_nil))))
      (pss_one (ps_ret (pe_me (pe_fld (pv 0) rfl) D_numbered VV.cv (hr.mono (by decide)) pass0 (pa_cons (pe_op op_and (pe_fld (pv 0) rfl) (pe_fld (pv 1) rfl)) pa_nil))))), ?_⟩
    refine ⟨_, rfl, _, rfl, x, y, p, z, cs, a, b, rfl, vv, ha, hb, ?_⟩
    refine ⟨_, rfl, x, CC, dx, _, _, rfl, hx, VV.cc, VV.ca, cellF_alp, p, dp, _, rfl, hp, valF_no (by decide +kernel) (by decide +kernel), ?_⟩
    exact ⟨_, rfl, x, CC, dx, _, _, rfl, hx, VV.cc, VV.cn, cellF_num, _, rfl, y, CC, dy, _, _, rfl, hy, VV.cc, VV.cn, cellF_num, _, _, rfl, rfl, p, c, z, cs, _, Nat.land a b, rfl, z_and a b, vv, hc, k⟩
theorem ok_or {CV CC : Addr} {f : Addr} {fd : FuncData} (F : Fun K "__or__" "Cell.__or__" s_CellDD_orDD f fd) (B : Blt mg) (VV : VF K CV CC) (D_same_values : HasFn P w K mg base CX0 3 "same_values" ["one", "other"] (spSame CV CC))
    (D_numbered : HasMe P w K mg base CX0 3 CV "numbered" ["self", "number"] (spNumb CV CC)) : FnOk P w K mg base CX0 4 f fd ["self", "other"] (spBin CV CC Nat.lor) := by
  refine F.ok sc_CellDD_orDD (fun vs H Q E h => ?_) (fun cdv A outer s H vs Q E hr h => ?_)
  · obtain ⟨x, y, p, c, z, cs, a, b, rfl, _⟩ := h
    rfl
  · obtain ⟨x, y, p, c, z, cs, a, b, rfl, vv, ha, hb, hc, k⟩ := h
    obtain ⟨dx, hx⟩ := vv.cell a x ha
    obtain ⟨dy, hy⟩ := vv.cell b y hb
    obtain ⟨dp, t, hp, ht⟩ := vv.ob
    refine ⟨_, (pss_cons (ps_expr (pe_fn D_same_values (hr.mono (by decide)) pass0 (pa_cons (pv 0) (pa_cons (pv 1) pa_nil))))
      (pss_one (ps_ret (pe_me (pe_fld (pv 0) rfl) D_numbered VV.cv (hr.mono (by decide)) pass0 (pa_cons (pe_op op_or (pe_fld (pv 0) rfl) (pe_fld (pv 1) rfl)) pa_nil))))), ?_⟩
    refine ⟨_, rfl, _, rfl, x, y, p, z, cs, a, b, rfl, vv, ha, hb, ?_⟩
    refine ⟨_, rfl, x, CC, dx, _, _, rfl, hx, VV.cc, VV.ca, cellF_alp, p, dp, _, rfl, hp, valF_no (by decide +kernel) (by decide +kernel), ?_⟩
    exact ⟨_, rfl, x, CC, dx, _, _, rfl, hx, VV.cc, VV.cn, cellF_num, _, rfl, y, CC, dy, _, _, rfl, hy, VV.cc, VV.cn, cellF_num, _, _, rfl, rfl, p, c, z, cs, _, Nat.lor a b, rfl, z_or a b, vv, hc, k⟩
theorem ok_sub {CV CC : Addr} {f : Addr} {fd : FuncData} (F : Fun K "__sub__" "Cell.__sub__" s_CellDD_subDD f fd) (B : Blt mg) (VV : VF K CV CC) (D_same_values : HasFn P w K mg base CX0 3 "same_values" ["one", "other"] (spSame CV CC))
    (D_numbered : HasMe P w K mg base CX0 3 CV "numbered" ["self", "number"] (spNumb CV CC)) : FnOk P w K mg base CX0 4 f fd ["self", "other"] (spBin CV CC fSub) := by
  refine F.ok sc_CellDD_subDD (fun vs H Q E h => ?_) (fun cdv A outer s H vs Q E hr h => ?_)
  · obtain ⟨x, y, p, c, z, cs, a, b, rfl, _⟩ := h
    rfl
  · obtain ⟨x, y, p, c, z, cs, a, b, rfl, vv, ha, hb, hc, k⟩ := h
    obtain ⟨dx, hx⟩ := vv.cell a x ha
    obtain ⟨dy, hy⟩ := vv.cell b y hb
    obtain ⟨dp, t, hp, ht⟩ := vv.ob
    refine ⟨_, (pss_cons (ps_expr (pe_fn D_same_values (hr.mono (by decide)) pass0 (pa_cons (pv 0) (pa_cons (pv 1) pa_nil))))
      (pss_one (ps_ret (pe_me (pe_fld (pv 0) rfl) D_numbered VV.cv (hr.mono (by decide)) pass0 (pa_cons (pe_op op_and (pe_fld (pv 0) rfl) (pe_un un_inv (pe_fld (pv 1) rfl))) pa_nil))))), ?_⟩
    refine ⟨_, rfl, _, rfl, x, y, p, z, cs, a, b, rfl, vv, ha, hb, ?_⟩
    refine ⟨_, rfl, x, CC, dx, _, _, rfl, hx, VV.cc, VV.ca, cellF_alp, p, dp, _, rfl, hp, valF_no (by decide +kernel) (by decide +kernel), ?_⟩
    exact ⟨_, rfl, x, CC, dx, _, _, rfl, hx, VV.cc, VV.cn, cellF_num, _, rfl, y, CC, dy, _, _, rfl, hy, VV.cc, VV.cn, cellF_num, _, rfl, _, _, rfl, rfl, p, c, z, cs, _, fSub a b, rfl, z_sub a b, vv, hc, k⟩
theorem end_full {cs : List Addr} {n : Nat} (h : cs.length = 2 ^ n) : ∃ c, cs[2 ^ n - 1]? = some c ∧ atI (cs.map V.ref) (-1) = some (.ref c) := by
  have p : 0 < 2 ^ n := Nat.pow_pos (by decide)
  have l : 2 ^ n - 1 < cs.length := by omega
  refine ⟨cs[2 ^ n - 1], List.getElem?_eq_getElem l, ?_⟩
  unfold atI ixN
  rw [List.length_map, if_neg (by decide), if_pos (by omega)]
  show (cs.map V.ref)[((cs.length : Int) + -1).toNat]? = _
  have e : ((cs.length : Int) + -1).toNat = 2 ^ n - 1 := by omega
  rw [e, List.getElem?_map, List.getElem?_eq_getElem l]
  rfl
theorem ok_inv {CV CC : Addr} {f : Addr} {fd : FuncData} (F : Fun K "__invert__" "Cell.__invert__" s_CellDD_invertDD f fd) (B : Blt mg) (VV : VF K CV CC) (D_full : HasPr P w K mg base CX0 1 CV "full" ["self"] (spEnd CV CC (-1)))
    (D_numbered : HasMe P w K mg base CX0 3 CV "numbered" ["self", "number"] (spNumb CV CC)) : FnOk P w K mg base CX0 4 f fd ["self"] (spInv CV CC) := by
  refine F.ok sc_CellDD_invertDD (fun vs H Q E h => ?_) (fun cdv A outer s H vs Q E hr h => ?_)
  · obtain ⟨x, p, c, z, cs, a, rfl, _⟩ := h
    rfl
  · obtain ⟨x, p, c, z, cs, a, rfl, vv, ha, hc, k⟩ := h
    obtain ⟨dx, hx⟩ := vv.cell a x ha
    obtain ⟨dp, t, hp, ht⟩ := vv.ob
    obtain ⟨u, hu, eu⟩ := end_full vv.len
    obtain ⟨du, hdu⟩ := vv.cell _ u hu
    have la : a < cs.length := (List.getElem?_eq_some_iff.mp ha).1
    have ln := vv.len
    refine ⟨_, (pss_one (ps_ret (pe_me (pe_fld (pv 0) rfl) D_numbered VV.cv (hr.mono (by decide)) pass0 (pa_cons (pe_op op_sub (pe_fld (pe_pr (pe_fld (pv 0) rfl) D_full VV.cv (hr.mono (by decide)) pass0 rfl) rfl) (pe_fld (pv 0) rfl)) pa_nil)))), ?_⟩
    refine ⟨_, rfl, x, CC, dx, _, _, rfl, hx, VV.cc, VV.ca, cellF_alp, p, dp, _, rfl, hp, valF_no (by decide +kernel) (by decide +kernel), ?_⟩
    refine ⟨_, rfl, x, CC, dx, _, _, rfl, hx, VV.cc, VV.ca, cellF_alp, p, dp, _, rfl, hp, p, z, cs, u, rfl, vv, eu, ?_⟩
    exact ⟨u, CC, du, _, _, rfl, hdu, VV.cc, VV.cn, cellF_num, _, rfl, x, CC, dx, _, _, rfl, hx, VV.cc, VV.cn, cellF_num, _, _, rfl, rfl, p, c, z, cs, _, _, rfl, (by omega), vv, hc, k⟩
theorem ok_within {CV CC : Addr} {f : Addr} {fd : FuncData} (F : Fun K "within" "Cell.within" s_Cell_within f fd) (B : Blt mg) (VV : VF K CV CC) (D_same_values : HasFn P w K mg base CX0 3 "same_values" ["one", "other"] (spSame CV CC)) :
    FnOk P w K mg base CX0 4 f fd ["self", "other"] (spRel CV CC fIn) := by
  refine F.ok sc_Cell_within (fun vs H Q E h => ?_) (fun cdv A outer s H vs Q E hr h => ?_)
  · obtain ⟨x, y, p, z, cs, a, b, rfl, _⟩ := h
    rfl
  · obtain ⟨x, y, p, z, cs, a, b, rfl, vv, ha, hb, k⟩ := h
    obtain ⟨dx, hx⟩ := vv.cell a x ha
    obtain ⟨dy, hy⟩ := vv.cell b y hb
    refine ⟨_, (pss_cons (ps_expr (pe_fn D_same_values (hr.mono (by decide)) pass0 (pa_cons (pv 0) (pa_cons (pv 1) pa_nil))))
      (pss_one (ps_ret (pe_cmpR op_eq (pe_op op_and (pe_fld (pv 0) rfl) (pe_un un_inv (pe_fld (pv 1) rfl))) pe_int (nomark _))))), ?_⟩
    refine ⟨_, rfl, _, rfl, x, y, p, z, cs, a, b, rfl, vv, ha, hb, ?_⟩
    refine ⟨_, rfl, x, CC, dx, _, _, rfl, hx, VV.cc, VV.cn, cellF_num, _, rfl, y, CC, dy, _, _, rfl, hy, VV.cc, VV.cn, cellF_num, _, rfl, _, _, rfl, rfl, rfl, ?_⟩
    have e : decide (V.int (Builtin.bitAnd (a : Int) (Builtin.bitNot (b : Int))) = V.int 0) = fIn a b := by
      rw [z_sub, dec_int]
      have : a &&& b ≤ a := Nat.and_le_left
      unfold fIn fSub
      by_cases q : a &&& b = a
      · rw [decide_eq_true q, decide_eq_true (by omega)]
      · rw [decide_eq_false q, decide_eq_false (by omega)]
    rw [e]
    exact k
end
end K6

namespace K6
open PySem L2 LB PyProof.Rows
abbrev s_are_names : Stmt := top 20
theorem sc_are_names : FnScope ["letters", "names", "letter"] ["letters", "names"] (defScope s_are_names) := ⟨rfl, rfl, rfl, by decide +kernel, rfl, by decide +kernel, by decide +kernel⟩
abbrev s_Values_renamed : Stmt := inClass (top 16) 10
theorem sc_Values_renamed : FnScope ["self", "names", "letter"] ["self", "names"] (defScope s_Values_renamed) := ⟨rfl, rfl, rfl, by decide +kernel, rfl, by decide +kernel, by decide +kernel⟩
abbrev s_Cell_is_sure : Stmt := inClass (top 17) 1
theorem sc_Cell_is_sure : FnScope ["self"] ["self"] (defScope s_Cell_is_sure) := ⟨rfl, rfl, rfl, by decide +kernel, rfl, by decide +kernel, by decide +kernel⟩
abbrev s_number_of_letters : Stmt := top 21
theorem sc_number_of_letters : FnScope ["letters", "some", "letter"] ["letters", "some"] (defScope s_number_of_letters) := ⟨rfl, rfl, rfl, by decide +kernel, rfl, by decide +kernel, by decide +kernel⟩
abbrev s_Values_cell : Stmt := inClass (top 16) 7
theorem sc_Values_cell : FnScope ["self", "letters", "number"] ["self", "letters"] (defScope s_Values_cell) := ⟨rfl, rfl, rfl, by decide +kernel, rfl, by decide +kernel, by decide +kernel⟩

theorem u1 {k : Nat} {A : Around} (hr : Room k A) : A.units + 1 < cLine := Nat.lt_of_le_of_lt (Nat.add_le_add_left (by decide : 1 ≤ 64) _) hr.units
/-- the table from the letters ls to the letters ys -/
def tabL (ls ys : List Nat) : List (Key × V) := (ls.zip ys).map fun p => (.inr ⟨#[p.1]⟩, .str ⟨#[p.2]⟩)
theorem tabL_get : ∀ (ls ys : List Nat) (k : Nat) {c e : Nat}, ls.Nodup → ls[k]? = some c → ys[k]? = some e → valV (tabL ls ys) (.inr ⟨#[c]⟩) = some (.str ⟨#[e]⟩)
  | [], _, _, _, _, _, h, _ => by simp at h
  | _ :: _, [], _, _, _, _, _, h => by simp at h
  | l :: ls, y :: ys, 0, c, e, _, h, h' => by
    have h : l = c := by simpa using h
    have h' : y = e := by simpa using h'
    subst h; subst h'
    exact valV_pos (p := (Sum.inr ⟨#[l]⟩, V.str ⟨#[y]⟩)) (r := tabL ls ys) rfl
  | l :: ls, y :: ys, k + 1, c, e, nd, h, h' => by
    have h : ls[k]? = some c := by simpa using h
    have h' : ys[k]? = some e := by simpa using h'
    have ne : ¬ l = c := fun q => (List.nodup_cons.mp nd).1 (q ▸ List.mem_of_getElem? h)
    have step := valV_neg (p := ((Sum.inr ⟨#[l]⟩ : Key), V.str ⟨#[y]⟩)) (r := tabL ls ys) (k := (Sum.inr ⟨#[c]⟩ : Key)) (fun q => ne (by
      have q : (⟨#[l]⟩ : Str) = ⟨#[c]⟩ := by injection q
      injection q with q
      simpa using q))
    exact step.trans (tabL_get ls ys k (List.nodup_cons.mp nd).2 h h')
theorem tabL_len {ls ys : List Nat} (h : ls.length = ys.length) : (tabL ls ys).length = ls.length := by
  unfold tabL
  rw [List.length_map, List.length_zip, h, Nat.min_self]
structure TabAt (H : Hp) (d : Addr) (z y : Str) : Prop where
  at_ : H d = some (.dK (tabL z.cps.toList y.cps.toList))
  gz : Good z
  gy : Good y
  len : z.cps.size = y.cps.size
theorem TabAt.same {H H' : Hp} {d : Addr} {z y : Str} (h : TabAt H d z y) (s : Same H H') : TabAt H' d z y := ⟨s _ _ h.at_, h.gz, h.gy, h.len⟩
theorem TabAt.get {H : Hp} {d : Addr} {z y : Str} (h : TabAt H d z y) {k c : Nat} (hk : z.cps.toList[k]? = some c) : ∃ e, y.cps.toList[k]? = some e ∧ DGet H d (.str ⟨#[c]⟩) (some (.str ⟨#[e]⟩)) := by
  have lk : k < y.cps.toList.length := by
    have := (List.getElem?_eq_some_iff.mp hk).1
    rw [Array.length_toList] at this ⊢
    rw [← h.len]; exact this
  refine ⟨_, List.getElem?_eq_getElem lk, ?_⟩
  have q := DGet.k (k := (Sum.inr ⟨#[c]⟩ : Key)) h.at_
  rw [tabL_get _ _ k h.gz.nd hk (List.getElem?_eq_getElem lk)] at q
  exact q
/-- the letters at the places ks -/
def atL (z : Str) (ks : List Nat) : Str := ⟨(ks.map fun k => z.cps.getD k 0).toArray⟩
theorem getD_at {z : Str} {k : Nat} (h : k < z.cps.size) : z.cps.toList[k]? = some (z.cps.getD k 0) := by
  rw [Array.getElem?_toList, Array.getElem?_eq_getElem h, Array.getD_eq_getD_getElem?, Array.getElem?_eq_getElem h]
  rfl
theorem atL_nd {z : Str} {ks : List Nat} (nd : z.cps.toList.Nodup) (hk : ∀ k ∈ ks, k < z.cps.size) (hn : ks.Nodup) : (ks.map fun k => z.cps.getD k 0).Nodup := by
  refine List.pairwise_map.mpr (List.Pairwise.imp_of_mem (fun {a b} ma mb ne e => ne ?_) hn)
  obtain ⟨h1, e1⟩ := List.getElem?_eq_some_iff.mp (getD_at (hk a ma))
  obtain ⟨h2, e2⟩ := List.getElem?_eq_some_iff.mp (getD_at (hk b mb))
  exact (List.getElem_inj nd).mp (e1.trans (e.trans e2.symm))
def sumP (ks : List Nat) : Nat := (ks.map fun k => 2 ^ k).sum
def spUnlL : Sp := fun vs H Q _ => ∃ (l : Addr) (ys : List Nat), vs = [.ref l] ∧ H l = some (.lst ((sgs ys).map V.str)) ∧ ys.length ≤ 4 ∧ (∀ c ∈ ys, c ∈ small) ∧ ys.Nodup ∧ ∀ H', Same H H' → Q (.bl true) H'
def spNamesOk : Sp := fun vs H Q _ => ∃ (z y : Str) (d : Addr), vs = [.str z, .ref d] ∧ TabAt H d z y ∧ ∀ H', Same H H' → Q (.bl true) H'
def spRenamed (CV CC : Addr) : Sp := fun vs H Q _ => ∃ (v d : Addr) (z y : Str) (cs : List Addr), vs = [.ref v, .ref d] ∧ ValsAt CV CC H v z cs ∧ TabAt H d z y ∧ ∀ u ct H', Same H H' → ValsAt CV CC H' u y ct → Q (.ref u) H'
def spNolG : Sp := fun vs H Q _ => ∃ (z : Str) (ks : List Nat), vs = [.str z, .str (atL z ks)] ∧ Good z ∧ ks.Nodup ∧ ks.length ≤ z.cps.size ∧ (∀ k ∈ ks, k < z.cps.size) ∧ ∀ H', Same H H' → Q (.int ((sumP ks : Nat) : Int)) H'
def spCellG (CV CC : Addr) : Sp := fun vs H Q _ => ∃ (p x : Addr) (z : Str) (cs : List Addr) (ks : List Nat), vs = [.ref p, .str (atL z ks)] ∧ ValsAt CV CC H p z cs ∧ ks.Nodup ∧ ks.length ≤ z.cps.size ∧ (∀ k ∈ ks, k < z.cps.size) ∧ cs[sumP ks]? = some x ∧ ∀ H', Same H H' → Q (.ref x) H'
theorem good_len {z : Str} (h : Good z) : z.length ≤ sizeLine := Nat.le_trans (show z.length ≤ 4 from h.hi) (by decide)
theorem sumI (l : List Nat) : (l.map fun n => ((2 ^ n : Nat) : Int)).sum = ((sumP l : Nat) : Int) := by
  unfold sumP
  induction l with
  | nil => rfl
  | cons a r ih => rw [List.map_cons, List.sum_cons, ih, List.map_cons, List.sum_cons]; omega
theorem sgs_take {l : List Nat} {i c : Nat} (h : l[i]? = some c) : sgs (l.take (i + 1)) = sgs (l.take i) ++ [⟨#[c]⟩] := by
  rw [List.take_add_one, h, sgs_append]
  rfl
theorem made_same {v dv CV : Addr} {H H' : Hp} (b : But v (upd (upd H dv (.own v)) v (.ins CV dv [])) H') (hv : H v = none) (hd : H dv = none) : Same H H' := fun c o e => b c o (by rw [upd_ne (ne_of_none e hv), upd_ne (ne_of_none e hd)]; exact e) (ne_of_none e hv)
theorem sum_len (l : List Nat) : ((sgs l).map (·.length)).sum = l.length := by
  induction l with
  | nil => rfl
  | cons c r ih => show 1 + ((sgs r).map (·.length)).sum = _; rw [ih, List.length_cons]; omega

section
variable {P : Program} {w : World} {K : PySem.W.Frag} {mg : Str → Option Value} {base : Heap}

theorem ok_unlL {CV : Addr} {ts : Tok} {f : Addr} {fd : FuncData} (F : Fun K "are_unlike_letters" "are_unlike_letters" s_are_unlike_letters f fd) (B : Blt mg) (G : Consts mg CV ts) (D_is_letter_of : HasFn P w K mg base CX0 1 "is_letter_of" ["letters", "value"] (spLet K)) :
    FnOk P w K mg base CX0 2 f fd ["letters"] spUnlL := by
  refine F.ok sc_are_unlike_letters (fun vs H Q E h => ?_) (fun cdv A outer s H vs Q E hr h => ?_)
  · obtain ⟨l, ys, rfl, _⟩ := h
    rfl
  · obtain ⟨l, ys, rfl, hl, l4, hs, nd, k⟩ := h
    refine ⟨_, (pss_one (ps_ret (pe_and (pe_callB (cr_all rfl) (by rfl) B.n_all (by decide +kernel) (pa_cons (pe_lc rfl sc_are_unlike_letters.nd (pi_list (pv 0)) (blkOk_by (own := [("letter", 1)]) (N := ["letters", "letter"]) (sc := defScope s_are_unlike_letters) (by decide +kernel)) (fun _ _ _ _ _ => (pg_name (i := 1) sc_are_unlike_letters.nd rfl (.inl rfl))) (fun _ _ _ _ _ => pts_nil) (fun _ _ _ _ _ => (pe_fn D_is_letter_of (hr.mono (by decide)) pass0 (pa_cons (pe_glob (v := .str SM) rfl G.small ⟨_, rfl⟩) (pa_cons (pv 1) pa_nil))))) pa_nil)) (pe_one (pe_cmpR op_eq (pe_lenSetT rfl (by rfl) B.n_len (by rfl) B.n_set (pv 0)) (pe_callB call_len (by rfl) B.n_len (by decide +kernel) (pa_cons (pv 0) pa_nil)) (nomark _)))))), ?_⟩
    refine ⟨_, rfl, l, rfl, ⟨_, SqL.of hl⟩, fun D hD => ?_⟩
    have big : 4 < sizeLine := by decide
    refine lc_list (K := K) (a := l) (xs := (sgs ys).map V.str) (fun i H' => H' D = some (.lst ((List.replicate i true).map V.bl)) ∧ Same H H') ⟨upd_same, same_new hD⟩ (fun i H' _ h => SqL.of (h.2 _ _ hl)) (fun i x H1 hx h1 => ?_) (fun H1 h1 => ?_)
    · refine ⟨rfl, ?_⟩
      have li : i < ys.length := by
        have := (List.getElem?_eq_some_iff.mp hx).1
        rw [List.length_map, sgs_len] at this
        exact this
      have ex : x = .str ⟨#[ys[i]]⟩ := by
        rw [List.getElem?_map] at hx
        unfold sgs at hx
        rw [List.getElem?_map, List.getElem?_eq_getElem li] at hx
        injection hx with hx
        exact hx.symm
      subst ex
      refine ⟨_, rfl, SM, _, rfl, .inl ⟨_, rfl, by show 1 ≤ sizeLine; decide⟩, ?_⟩
      rw [isLet_small (hs _ (List.getElem_mem li))]
      refine ⟨_, h1.1, ?_, upd_same.trans ?_, same_upd h1.2 hD⟩
      · show _ < sizeLine
        simp; omega
      · simp [List.replicate_succ']
    · refine ⟨_, _, rfl, SqL.of h1.1, ?_⟩
      refine ⟨true, by simp, iteT ?_⟩
      have hl1 := h1.2 _ _ hl
      refine ⟨_, rfl, .inr ⟨l, sgs ys, rfl, SqL.of hl1, by rw [sgs_len]; omega, ?_⟩⟩
      refine ⟨_, rfl, _, _, rfl, .inl ⟨_, SqL.of hl1, rfl⟩, rfl, ?_⟩
      have nds : (sgs ys).Nodup := List.pairwise_map.mpr (nd.imp fun {a b} ne e => ne (by injection e with e; simpa using e))
      have e1 : decide (V.int ((dd (sgs ys)).length : Nat) = V.int (((sgs ys).map V.str).length : Nat)) = true := by
        rw [dd_nodup nds, List.length_map]
        exact decide_eq_true rfl
      show Q (.bl (decide (V.int ((dd (sgs ys)).length : Nat) = V.int (((sgs ys).map V.str).length : Nat)))) H1
      rw [e1]
      exact k H1 h1.2
theorem ok_names {f : Addr} {fd : FuncData} (F : Fun K "are_names" "are_names" s_are_names f fd) (B : Blt mg) (nD : mg "dict" = none) (D_unlL : HasFn P w K mg base CX0 2 "are_unlike_letters" ["letters"] spUnlL) :
    FnOk P w K mg base CX0 3 f fd ["letters", "names"] spNamesOk := by
  refine F.ok sc_are_names (fun vs H Q E h => ?_) (fun cdv A outer s H vs Q E hr h => ?_)
  · obtain ⟨z, y, d, rfl, _⟩ := h
    rfl
  · obtain ⟨z, y, d, rfl, tb, k⟩ := h
    have hz := tb.gz.hi
    have big : 4 < sizeLine := by decide
    have tl : (tabL z.cps.toList y.cps.toList).length = z.cps.size := by rw [tabL_len (by rw [Array.length_toList, Array.length_toList]; exact tb.len), Array.length_toList]
    refine ⟨_, (pss_cons (ps_if (PW.pt (pw_or (pt_not (pt_val (pe_callB call_isi (by rfl) B.n_isinstance (by decide +kernel) (pa_cons (pv 1) (pa_cons (pe_bltn (v := .ty "dict") (by rfl) nD (by decide +kernel) rfl) pa_nil))))) (pw_or1 (pt_cmpR op_ne (pe_callB call_lenD (by rfl) B.n_len (by decide +kernel) (pa_cons (pv 1) pa_nil)) (pe_callB call_len (by rfl) B.n_len (by decide +kernel) (pa_cons (pv 0) pa_nil)) (nomark _))))) (pss_one (ps_ret pe_bl)) pss_nil)
      (pss_one (ps_ret (pe_and (pe_callB (cr_all rfl) (by rfl) B.n_all (by decide +kernel) (pa_cons (pe_lc rfl sc_are_names.nd (pi_str (pv 0)) (blkOk_by (own := [("letter", 2)]) (N := ["letters", "names", "letter"]) (sc := defScope s_are_names) (by decide +kernel)) (fun _ _ _ _ _ => (pg_name (i := 2) sc_are_names.nd rfl (.inl rfl))) (fun _ _ _ _ _ => pts_nil) (fun _ _ _ _ _ => (pc_dinB (u1 hr) (pv 2) (pv 1)))) pa_nil)) (pe_one (pe_fn D_unlL (hr.mono (by decide)) pass0 (pa_cons (pe_lc rfl sc_are_names.nd (pi_str (pv 0)) (blkOk_by (own := [("letter", 2)]) (N := ["letters", "names", "letter"]) (sc := defScope s_are_names) (by decide +kernel)) (fun _ _ _ _ _ => (pg_name (i := 2) sc_are_names.nd rfl (.inl rfl))) (fun _ _ _ _ _ => pts_nil) (fun _ _ _ _ _ => (pe_dgetB (u1 hr) (pv 1) (pv 2) (fun _ _ => rfl)))) pa_nil))))))), ?_⟩
    refine ⟨_, rfl, _, _, _, _, true, rfl, .ty "dict", .base (.dK tb.at_), kit_ty (by decide +kernel), true, rfl, ?_⟩
    refine ⟨_, rfl, d, _, rfl, tb.at_, _, rfl, _, _, rfl, ⟨good_len tb.gz, rfl⟩, rfl, false, ?_, iteF ?_⟩
    · rw [tl]
      show V.bl (!decide (V.int (z.cps.size : Nat) = V.int (z.cps.size : Nat))) = _
      rw [decide_eq_true rfl]; rfl
    refine ⟨_, rfl, z, rfl, fun D hD => ?_⟩
    refine lc_str (fun i H' => H' D = some (.lst ((List.replicate i true).map V.bl)) ∧ Same H H') ⟨upd_same, same_new hD⟩ (fun i c H1 hc h1 => ?_) (fun H1 h1 => ?_)
    · refine ⟨rfl, ?_⟩
      rw [← Array.getElem?_toList] at hc
      obtain ⟨e, he, dg⟩ := (tb.same h1.2).get hc
      have li := (List.getElem?_eq_some_iff.mp hc).1
      rw [Array.length_toList] at li
      refine ⟨_, rfl, _, rfl, d, _, rfl, dg, ?_⟩
      refine ⟨_, h1.1, ?_, upd_same.trans ?_, same_upd h1.2 hD⟩
      · show _ < sizeLine
        simp; omega
      · simp [List.replicate_succ']
    · refine ⟨_, _, rfl, SqL.of h1.1, ?_⟩
      refine ⟨true, by simp, iteT ?_⟩
      refine ⟨_, rfl, z, rfl, fun D2 hD2 => ?_⟩
      have f2 : H D2 = none := h1.2.free hD2
      refine lc_str (fun i H' => H' D2 = some (.lst ((sgs (y.cps.toList.take i)).map V.str)) ∧ Same H H') ⟨upd_same, h1.2.trans (same_new hD2)⟩ (fun i c H2 hc h2 => ?_) (fun H2 h2 => ?_)
      · refine ⟨rfl, ?_⟩
        rw [← Array.getElem?_toList] at hc
        obtain ⟨e, he, dg⟩ := (tb.same h2.2).get hc
        have li := (List.getElem?_eq_some_iff.mp hc).1
        rw [Array.length_toList] at li
        refine ⟨_, rfl, _, rfl, d, _, rfl, dg, ?_⟩
        refine ⟨_, h2.1, ?_, upd_same.trans ?_, same_upd h2.2 f2⟩
        · show _ < sizeLine
          rw [List.length_map, sgs_len, List.length_take]
          omega
        · rw [sgs_take he, List.map_append]; rfl
      · have et : y.cps.toList.take z.cps.size = y.cps.toList := List.take_of_length_le (by rw [Array.length_toList]; exact Nat.le_of_eq tb.len.symm)
        have h21 := h2.1
        rw [et] at h21
        exact ⟨D2, y.cps.toList, rfl, h21, by rw [Array.length_toList]; exact tb.gy.hi, tb.gy.az, tb.gy.nd, fun H3 s3 => k H3 (h2.2.trans s3)⟩
theorem ok_renamed {CV CC : Addr} {f : Addr} {fd : FuncData} (F : Fun K "renamed" "Values.renamed" s_Values_renamed f fd) (B : Blt mg) (VV : VF K CV CC) (D_are_names : HasFn P w K mg base CX0 3 "are_names" ["letters", "names"] spNamesOk) (M_Values : HasMk P w K mg base CX0 4 CV "Values" ["self", "letters"] (spVals CV CC)) :
    FnOk P w K mg base CX0 6 f fd ["self", "names"] (spRenamed CV CC) := by
  refine F.ok sc_Values_renamed (fun vs H Q E h => ?_) (fun cdv A outer s H vs Q E hr h => ?_)
  · obtain ⟨v, d, z, y, cs, rfl, _⟩ := h
    rfl
  · obtain ⟨v, d, z, y, cs, rfl, vv, tb, k⟩ := h
    obtain ⟨dx, t, hv, ht⟩ := vv.ob
    have hz := tb.gz.hi
    have big : 4 < sizeLine := by decide
    refine ⟨_, (pss_cons (ps_if (pt_not (pt_val (pe_fn D_are_names (hr.mono (by decide)) pass0 (pa_cons (pe_fld (pv 0) rfl) (pa_cons (pv 1) pa_nil))))) (pss_one ps_never) pss_nil)
      (pss_one (ps_ret (pe_mk M_Values (hr.mono (by decide)) pass0 (pa_cons (pe_join pe_str (pe_lc rfl sc_Values_renamed.nd (pi_str (pe_fld (pv 0) rfl)) (blkOk_by (own := [("letter", 2)]) (N := ["self", "names", "letter"]) (sc := defScope s_Values_renamed) (by decide +kernel)) (fun _ _ _ _ _ => (pg_name (i := 2) sc_Values_renamed.nd rfl (.inl rfl))) (fun _ _ _ _ _ => pts_nil) (fun _ _ _ _ _ => (pe_dgetB (u1 hr) (pv 1) (pv 2) (fun _ _ => rfl))))) pa_nil))))), ?_⟩
    refine ⟨_, rfl, v, CV, dx, _, _, rfl, hv, VV.cv, VV.vl, valF_let, _, rfl, z, y, d, rfl, tb, fun H1 s1 => ⟨true, rfl, iteF ?_⟩⟩
    refine ⟨⟨_, rfl⟩, _, rfl, v, CV, dx, _, _, rfl, s1 _ _ hv, VV.cv, VV.vl, valF_let, z, rfl, fun D hD => ?_⟩
    have f1 : H D = none := s1.free hD
    refine lc_str (fun i H' => H' D = some (.lst ((sgs (y.cps.toList.take i)).map V.str)) ∧ Same H H') ⟨upd_same, s1.trans (same_new hD)⟩ (fun i c H2 hc h2 => ?_) (fun H2 h2 => ?_)
    · refine ⟨rfl, ?_⟩
      rw [← Array.getElem?_toList] at hc
      obtain ⟨e, he, dg⟩ := (tb.same h2.2).get hc
      have li := (List.getElem?_eq_some_iff.mp hc).1
      rw [Array.length_toList] at li
      refine ⟨_, rfl, _, rfl, d, _, rfl, dg, ?_⟩
      refine ⟨_, h2.1, ?_, upd_same.trans ?_, same_upd h2.2 f1⟩
      · show _ < sizeLine
        rw [List.length_map, sgs_len, List.length_take]
        omega
      · rw [sgs_take he, List.map_append]; rfl
    · have et : y.cps.toList.take z.cps.size = y.cps.toList := List.take_of_length_le (by rw [Array.length_toList]; exact Nat.le_of_eq tb.len.symm)
      have h21 := h2.1
      rw [et] at h21
      refine ⟨_, D, sgs y.cps.toList, rfl, rfl, .inl (SqL.of h21), ?_, ?_⟩
      · show ((sgs y.cps.toList).map (·.length)).sum + (sgs y.cps.toList).length * 0 ≤ 16777216
        rw [sum_len, Array.length_toList]
        have := tb.gy.hi
        omega
      · have ej : Txt.join (Str.ofString "") (sgs y.cps.toList) = y := (join_sgs _).trans (by simp)
        exact fun u du hu hdu ne => ⟨u, du, y, by show [V.ref u, V.str (Txt.join (Str.ofString "") (sgs y.cps.toList))] = _; rw [ej], upd_same, tb.gy, fun H3 ct b3 v3 => ⟨rfl, k u ct H3 (h2.2.trans (made_same b3 hu hdu)) v3⟩⟩
theorem ok_sure {CV CC : Addr} {f : Addr} {fd : FuncData} (F : Fun K "is_sure" "Cell.is_sure" s_Cell_is_sure f fd) (B : Blt mg) (VV : VF K CV CC) : FnOk P w K mg base CX0 1 f fd ["self"] (spOneC CV CC fun t => .bl (decide (t.length = 1))) := by
  refine F.ok sc_Cell_is_sure (fun vs H Q E h => ?_) (fun cdv A outer s H vs Q E hr h => ?_)
  · obtain ⟨x, p, z, cs, a, rfl, _⟩ := h
    rfl
  · obtain ⟨x, p, z, cs, a, rfl, vv, ha, k⟩ := h
    obtain ⟨dx, hx⟩ := vv.cell a x ha
    have hz := cell_len z a vv.good.hi
    have h4 : 4 ≤ sizeLine := by decide
    refine ⟨_, (pss_one (ps_ret (pe_cmpR op_eq (pe_callB call_len (by rfl) B.n_len (by decide +kernel) (pa_cons (pe_fld (pv 0) rfl) pa_nil)) pe_int (nomark _)))), ?_⟩
    refine ⟨_, rfl, x, CC, dx, _, _, rfl, hx, VV.cc, VV.cl, cellF_let, _, _, rfl, ⟨Nat.le_trans hz h4, rfl⟩, rfl, ?_⟩
    have e : decide (V.int ((cellT z a).length : Nat) = V.int 1) = decide ((cellT z a).length = 1) := dec_nat (b := 1)
    show Q (.bl (decide (V.int ((cellT z a).length : Nat) = V.int 1))) H
    rw [e]
    exact k
theorem ok_nolG {f : Addr} {fd : FuncData} (F : Fun K "number_of_letters" "number_of_letters" s_number_of_letters f fd) (B : Blt mg) : FnOk P w K mg base CX0 1 f fd ["letters", "some"] spNolG := by
  refine F.ok sc_number_of_letters (fun vs H Q E h => ?_) (fun cdv A outer s H vs Q E hr h => ?_)
  · obtain ⟨z, ks, rfl, _⟩ := h
    rfl
  · obtain ⟨z, ks, rfl, gz, nk, lk, hk, k⟩ := h
    have lo := gz.lo
    have hi := gz.hi
    have big : 4 < sizeLine := by decide
    have el : (atL z ks).cps.size = ks.length := by show ((ks.map fun k => z.cps.getD k 0).toArray).size = _; simp
    have el2 : (atL z ks).length = ks.length := el
    have one : (atL z ks).length ≤ sizeLine := by omega
    have nd2 : (atL z ks).cps.toList.Nodup := by
      have := atL_nd gz.nd hk nk
      simpa [atL] using this
    have at_ : ∀ {i c : Nat}, (atL z ks).cps[i]? = some c → ∃ m, ks[i]? = some m ∧ m < z.cps.size ∧ z.cps.toList[m]? = some c := fun {i c} hc => by
      rw [← Array.getElem?_toList] at hc
      have hc : (ks.map fun k => z.cps.getD k 0)[i]? = some c := by simpa [atL] using hc
      rw [List.getElem?_map] at hc
      cases e : ks[i]? with
      | none => rw [e] at hc; cases hc
      | some m =>
        rw [e] at hc
        have hc : z.cps.getD m 0 = c := by injection hc
        have hm := hk m (List.mem_of_getElem? e)
        exact ⟨m, rfl, hm, hc ▸ getD_at hm⟩
    have d1 : decide (((atL z ks).length : Int) > (z.length : Nat)) = false := decide_eq_false (by show ¬ ((((atL z ks).length : Nat) : Int) > ((z.cps.size : Nat) : Int)); omega)
    have e2 : (dd (LB.signs (atL z ks))).length = ks.length := by
      rw [dd_nodup (signs_nd nd2), signs_len]
      exact el
    have d2 : decide (((dd (LB.signs (atL z ks))).length : Int) < ((atL z ks).length : Nat)) = false := by rw [e2, el2]; exact decide_eq_false (by omega)
    refine ⟨_, (pss_cons (ps_if (PW.pt (pw_or (pt_not (pt_val (pe_callB call_isi (by rfl) B.n_isinstance (by decide +kernel) (pa_cons (pv 1) (pa_cons (pe_bltn (v := .ty "str") (by rfl) B.n_str (by decide +kernel) rfl) pa_nil))))) (pw_or (pt_cmpR op_gt (pe_callB call_len (by rfl) B.n_len (by decide +kernel) (pa_cons (pv 1) pa_nil)) (pe_callB call_len (by rfl) B.n_len (by decide +kernel) (pa_cons (pv 0) pa_nil)) (nomark _)) (pw_or1 (pt_cmpR op_lt (pe_lenSetT rfl (by rfl) B.n_len (by rfl) B.n_set (pv 1)) (pe_callB call_len (by rfl) B.n_len (by decide +kernel) (pa_cons (pv 1) pa_nil)) (nomark _)))))) (pss_one (ps_ret pe_non)) pss_nil)
      (pss_cons (ps_if (pt_not (pt_val (pe_callB (cr_all rfl) (by rfl) B.n_all (by decide +kernel) (pa_cons (pe_lc rfl sc_number_of_letters.nd (pi_str (pv 1)) (blkOk_by (own := [("letter", 2)]) (N := ["letters", "some", "letter"]) (sc := defScope s_number_of_letters) (by decide +kernel)) (fun _ _ _ _ _ => (pg_name (i := 2) sc_number_of_letters.nd rfl (.inl rfl))) (fun _ _ _ _ _ => pts_nil) (fun _ _ _ _ _ => (pe_cmpR op_in_sign (pv 2) (pv 0) (by rfl)))) pa_nil)))) (pss_one (ps_ret pe_non)) pss_nil)
      (pss_one (ps_ret (pe_callB (cr_sum rfl) (by rfl) B.n_sum (by decide +kernel) (pa_cons (pe_lc rfl sc_number_of_letters.nd (pi_str (pv 1)) (blkOk_by (own := [("letter", 2)]) (N := ["letters", "some", "letter"]) (sc := defScope s_number_of_letters) (by decide +kernel)) (fun _ _ _ _ _ => (pg_name (i := 2) sc_number_of_letters.nd rfl (.inl rfl))) (fun _ _ _ _ _ => pts_nil) (fun _ _ _ _ _ => (pe_op op_shl pe_int (pe_bmB PySem.F.plainAttrs_str PySem.F.slot_str_index PySem.F.type_str_index mt_sindex (pv 0) (pa_cons (pv 2) pa_nil))))) pa_nil)))))), ?_⟩
    refine ⟨_, rfl, _, _, _, _, true, rfl, .ty "str", .base (.str _), kit_ty (by decide +kernel), true, rfl, ?_⟩
    refine ⟨_, rfl, _, _, rfl, ⟨one, rfl⟩, _, rfl, _, _, rfl, ⟨good_len gz, rfl⟩, _, _, rfl, rfl, false, congrArg V.bl d1, ?_⟩
    refine ⟨_, rfl, .inl ⟨_, rfl, (by rw [el]; omega), _, rfl, _, _, rfl, ⟨one, rfl⟩, _, _, rfl, rfl, false, congrArg V.bl d2, iteF ?_⟩⟩
    refine ⟨_, rfl, _, rfl, fun D hD => ?_⟩
    refine lc_str (fun i H' => H' D = some (.lst ((List.replicate i true).map V.bl)) ∧ Same H H') ⟨upd_same, same_new hD⟩ (fun i c H1 hc h1 => ?_) (fun H1 h1 => ?_)
    · have hi0 := (Array.getElem?_eq_some_iff.mp hc).1
      obtain ⟨m, em, hm, hc2⟩ := at_ hc
      refine ⟨rfl, ?_⟩
      refine ⟨_, rfl, _, rfl, c, z, rfl, rfl, ?_⟩
      rw [decide_eq_true (List.mem_of_getElem? hc2)]
      refine ⟨_, h1.1, ?_, upd_same.trans ?_, same_upd h1.2 hD⟩
      · show _ < sizeLine
        simp; omega
      · simp [List.replicate_succ']
    · refine ⟨_, _, rfl, SqL.of h1.1, ?_⟩
      refine ⟨true, by simp, ?_⟩
      refine ⟨_, rfl, _, rfl, fun D2 hD2 => ?_⟩
      refine lc_str (fun i H' => H' D2 = some (.lst (((ks.take i).map fun n => ((2 ^ n : Nat) : Int)).map V.int)) ∧ Same H H') ⟨upd_same, h1.2.trans (same_new hD2)⟩ (fun i c H2 hc h2 => ?_) (fun H2 h2 => ?_)
      · have hi0 := (Array.getElem?_eq_some_iff.mp hc).1
        obtain ⟨m, em, hm, hc2⟩ := at_ hc
        refine ⟨rfl, ?_⟩
        have pw2 : ((1 : Int) * 2 ^ ((m : Nat) : Int).toNat) = ((2 ^ m : Nat) : Int) := by
          rw [Int.toNat_natCast, Int.one_mul]
          simp
        refine ⟨_, rfl, rfl, _, rfl, z, ⟨#[c]⟩, m, [], rfl, rfl, index_sign gz.nd hc2, ?_⟩
        refine ⟨_, _, rfl, rfl, ⟨Int.natCast_nonneg _, by show ((m : Nat) : Int) ≤ 1000000; omega, by decide⟩, ?_⟩
        show ∃ acc, H2 D2 = some (HO.lst acc) ∧ acc.length < sizeLine ∧ upd H2 D2 (HO.lst (acc ++ [V.int ((1 : Int) * 2 ^ ((m : Nat) : Int).toNat)])) D2 = _ ∧ Same H (upd H2 D2 (HO.lst (acc ++ [V.int ((1 : Int) * 2 ^ ((m : Nat) : Int).toNat)])))
        rw [pw2]
        refine ⟨_, h2.1, ?_, upd_same.trans ?_, same_upd h2.2 (h1.2.free hD2)⟩
        · show _ < sizeLine
          rw [List.length_map, List.length_map, List.length_take]
          omega
        · rw [List.take_add_one, em, List.map_append, List.map_append]; rfl
      · have h21 := h2.1
        rw [el, List.take_of_length_le (Nat.le_refl _)] at h21
        refine ⟨D2, ks.map fun n => ((2 ^ n : Nat) : Int), rfl, SqL.of h21, ?_⟩
        rw [sumI]
        exact k H2 h2.2
theorem ok_cellG {CV CC : Addr} {f : Addr} {fd : FuncData} (F : Fun K "cell" "Values.cell" s_Values_cell f fd) (B : Blt mg) (VV : VF K CV CC) (D_number_of_letters : HasFn P w K mg base CX0 1 "number_of_letters" ["letters", "some"] spNolG) :
    FnOk P w K mg base CX0 2 f fd ["self", "letters"] (spCellG CV CC) := by
  refine F.ok sc_Values_cell (fun vs H Q E h => ?_) (fun cdv A outer s H vs Q E hr h => ?_)
  · obtain ⟨p, x, z, cs, ks, rfl, _⟩ := h
    rfl
  · obtain ⟨p, x, z, cs, ks, rfl, vv, nk, lk, hk, hx, k⟩ := h
    obtain ⟨dp, t, hp, ht⟩ := vv.ob
    refine ⟨_, (pss_cons (ps_set (i := 2) sc_Values_cell.nd rfl (.inl rfl) (pe_fn D_number_of_letters (hr.mono (by decide)) pass0 (pa_cons (pe_fld (pv 0) rfl) (pa_cons (pv 1) pa_nil))))
      (pss_cons (ps_if (pt_cmpR op_isN (pv 2) pe_non (nomark _)) (pss_one ps_never) pss_nil)
      (pss_one (ps_ret (pe_ix ix_tup (pe_fld (pv 0) rfl) (pv 2) (fun _ _ => rfl)))))), ?_⟩
    refine ⟨_, rfl, p, CV, dp, _, _, rfl, hp, VV.cv, VV.vl, valF_let, _, rfl, z, ks, rfl, vv.good, nk, lk, hk, fun H1 s1 => ?_⟩
    refine ⟨_, rfl, ?_⟩
    refine ⟨rfl, false, rfl, iteF ?_⟩
    exact ⟨_, rfl, p, CV, dp, _, _, rfl, s1 _ _ hp, VV.cv, VV.vb, valF_by, _, rfl, t, _, _, _, rfl, rfl, SqT.of (s1 _ _ ht), atN hx, k H1 s1⟩
end
end K6

namespace K6
open PySem L2 LB PyProof.Rows
abbrev s_law_names : Stmt := top 27
theorem sc_law_names : FnScope ["_law_pen_here", "_law_letters_here", "_law_left", "_law_found", "_law_letter", "_law_sign"] ["_law_pen_here", "_law_letters_here"] (defScope s_law_names) := ⟨rfl, rfl, rfl, by decide +kernel, rfl, by decide +kernel, by decide +kernel⟩

def spNames : Sp := fun vs H Q _ => ∃ (p q : Addr) (ns : List Int) (i r : Int) (z : Str), vs = [.ref p, .str z] ∧ PenAt H p q ns i r ∧ i < 900000 ∧ Good z ∧
  ∀ d y i' r' H', But p H H' → PenAt H' p q ns i' r' → i' ≤ i + 6 → TabAt H' d z y → Q (.ref d) H'
theorem small_cps : (Str.ofString "abcdefghijklmnopqrstuvwxyz").cps.toList = small := by decide +kernel
theorem small_len : small.length = 26 := by decide
theorem tabL_none : ∀ (ls ys : List Nat) {c : Nat}, ¬ c ∈ ls → valV (tabL ls ys) (.inr ⟨#[c]⟩) = none
  | [], _, _, _ => by unfold tabL; rfl
  | _ :: _, [], _, _ => rfl
  | l :: ls, y :: ys, c, h => by
    have ne : ¬ l = c := fun q => h (q ▸ List.mem_cons_self)
    have step := valV_neg (p := ((Sum.inr ⟨#[l]⟩ : Key), V.str ⟨#[y]⟩)) (r := tabL ls ys) (k := (Sum.inr ⟨#[c]⟩ : Key)) (fun q => ne (by
      have q : (⟨#[l]⟩ : Str) = ⟨#[c]⟩ := by injection q
      injection q with q
      simpa using q))
    exact step.trans (tabL_none ls ys fun q => h (List.mem_cons_of_mem _ q))
theorem tabL_snoc {ls ys : List Nat} {c e : Nat} (h : ls.length = ys.length) : tabL (ls ++ [c]) (ys ++ [e]) = tabL ls ys ++ [(.inr ⟨#[c]⟩, .str ⟨#[e]⟩)] := by
  unfold tabL
  rw [List.zip_append h, List.map_append]
  rfl
theorem pen_upd {H : Hp} {p q l : Addr} {o : HO} {ns : List Int} {i r : Int} (h : PenAt H p q ns i r) (np : l ≠ p) (nq : l ≠ q) : PenAt (upd H l o) p q ns i r := ⟨by rw [upd_ne np.symm]; exact h.pen, by rw [upd_ne nq.symm]; exact h.lst, h.i0, h.ne⟩
theorem but_upd {H H' : Hp} {p l : Addr} {o : HO} (b : But p H H') (hl : H l = none) : But p H (upd H' l o) := fun c u e n => by rw [upd_ne (ne_of_none e hl)]; exact b c u e n

section
variable {P : Program} {w : World} {K : PySem.W.Frag} {mg : Str → Option Value} {base : Heap}

theorem ok_tab {f : Addr} {fd : FuncData} (F : Fun K "_law_names" "_law_names" s_law_names f fd) (B : Blt mg) (D_law_draw : HasFn P w K mg base CX0 1 "_law_draw" ["_law_pen_here", "_law_limit"] spDraw) : FnOk P w K mg base CX0 2 f fd ["_law_pen_here", "_law_letters_here"] spNames := by
  refine F.ok sc_law_names (fun vs H Q E h => ?_) (fun cdv A outer s H vs Q E hr h => ?_)
  · obtain ⟨p, q, ns, i, r, z, rfl, _⟩ := h
    rfl
  · obtain ⟨p, q, ns, i0, r0, z, rfl, hp, hi, gz, k⟩ := h
    have z2 := gz.lo
    have z4 := gz.hi
    have big : 100 < sizeLine := by decide
    refine ⟨_, (pss_cons (ps_set (i := 2) sc_law_names.nd rfl (.inl rfl) (pe_callTy (call_list_text rfl) (by rfl) B.n_list (by decide +kernel) (pa_cons (pv 1) pa_nil)))
      (Evl.pss_cut (ps_if (pt_cmpR op_eq (pe_fn D_law_draw (hr.mono (by decide)) pass0 (pa_cons (pv 0) (pa_cons pe_int pa_nil))) pe_int (nomark _)) (pss_one (ps_setLc (i := 2) rfl sc_law_names.nd rfl rfl (sw_true rfl rfl rfl (by decide +kernel)) (pi_str pe_str) (blkOk_by (own := [("_law_sign", 5)]) (N := ["_law_pen_here", "_law_letters_here", "_law_left", "_law_found", "_law_letter", "_law_sign"]) (sc := defScope s_law_names) (by decide +kernel)) (fun _ _ _ _ _ => (pg_name (i := 5) sc_law_names.nd rfl (.inl rfl))) (fun _ _ _ _ _ => pts_nil) (fun _ _ _ _ _ => (pv 5)))) pss_nil)
      (pss_cons (ps_set (i := 3) sc_law_names.nd rfl (.inl rfl) pe_dnewK)
      (pss_cons (ps_for PassesOwn.never rfl (pi_str (pv 1)) (pg_name (i := 4) sc_law_names.nd rfl (.inl rfl)) (pss_one (ps_asg (pe_bm PySem.F.plainAttrs_list PySem.F.slot_list_pop PySem.F.type_list_pop mt_popAt (pv 2) (pa_cons (pe_fn D_law_draw (hr.mono (by decide)) pass0 (pa_cons (pv 0) (pa_cons (pe_callB call_len (by rfl) B.n_len (by decide +kernel) (pa_cons (pv 2) pa_nil)) pa_nil))) pa_nil)) (pg_sub (pv 3) (pv 4) (set_dict (u1 hr))))))
      (pss_one (ps_ret (pv 3))))))), ?_⟩
    refine ⟨_, rfl, _, rfl, good_len gz, fun l hl => ?_⟩
    have s1 := same_new (o := HO.lst ((LB.signs z).map V.str)) hl
    have hp1 := hp.same s1
    have el : upd H l (HO.lst ((LB.signs z).map V.str)) l = some (.lst ((sgs z.cps.toList).map V.str)) := upd_same
    have pH := hp.pen
    have qH := hp.lst
    generalize upd H l (HO.lst ((LB.signs z).map V.str)) = H1 at s1 hp1 el ⊢
    refine ⟨fun σ H' => ∃ (l : Addr) (rest : List Nat) (i r : Int), σ = [some (.ref p), some (.str z), some (.ref l), none, none, none] ∧ H' l = some (.lst ((sgs rest).map V.str)) ∧ H l = none ∧ rest.Nodup ∧ (∀ c ∈ rest, c ∈ small) ∧ z.cps.size ≤ rest.length ∧ rest.length ≤ 26 ∧ PenAt H' p q ns i r ∧ i ≤ i0 + 1 ∧ But p H H', ?_, ?_⟩
    · refine ⟨_, rfl, p, q, ns, i0, r0, 2, rfl, hp1, by decide, by decide, by omega, fun d i1 r1 H2 d0 d1 hi1 hp2 b2 => ?_⟩
      have b02 : But p H H2 := (But.of_same s1).trans b2
      refine ⟨rfl, _, rfl, ?_⟩
      refine ite2 (fun c => ?_) (fun c => ?_)
      · refine ⟨_, rfl, fun D hD => ?_⟩
        have fD : H D = none := by
          cases e : H D with
          | none => rfl
          | some o =>
            by_cases eq : D = p
            · rw [eq, hp2.pen] at hD; cases hD
            · rw [b02 _ _ e eq] at hD; cases hD
        have Dp : D ≠ p := fun e => by rw [e, hp2.pen] at hD; cases hD
        have Dq : D ≠ q := fun e => by rw [e, hp2.lst] at hD; cases hD
        refine lc_str (fun j H' => H' D = some (.lst ((sgs (small.take j)).map V.str)) ∧ PenAt H' p q ns i1 r1 ∧ But p H H') ⟨upd_same, pen_upd hp2 Dp Dq, but_upd b02 fD⟩ (fun j c H3 hc h3 => ?_) (fun H3 h3 => ?_)
        · refine ⟨rfl, ?_⟩
          rw [← Array.getElem?_toList, small_cps] at hc
          have lj : j < small.length := (List.getElem?_eq_some_iff.mp hc).1
          rw [small_len] at lj
          refine ⟨_, rfl, _, h3.1, ?_, upd_same.trans ?_, pen_upd h3.2.1 Dp Dq, but_upd h3.2.2 fD⟩
          · show _ < sizeLine
            rw [List.length_map, sgs_len, List.length_take]
            omega
          · rw [sgs_take hc, List.map_append]; rfl
        · have h31 := h3.1
          have e26 : (Str.ofString "abcdefghijklmnopqrstuvwxyz").cps.size = 26 := by decide +kernel
          rw [e26, List.take_of_length_le (by rw [small_len]; exact Nat.le_refl _)] at h31
          exact ⟨D, small, i1, r1, rfl, h31, fD, small_nd, fun c h => h, by rw [small_len]; omega, by rw [small_len]; exact Nat.le_refl _, h3.2.1, hi1, h3.2.2⟩
      · refine ⟨l, z.cps.toList, i1, r1, rfl, b2 _ _ el (fun e => by rw [e, pH] at hl; cases hl), hl, gz.nd, gz.az, by rw [Array.length_toList]; exact Nat.le_refl _, by rw [Array.length_toList]; omega, hp2, hi1, b02⟩
    · rintro σ H2 ⟨l, rest, i1, r1, rfl, el, hl, nd, sm, l1, l2, hp2, hi1, b2⟩
      refine fun d hd => ?_
      have lp : l ≠ p := fun e => by rw [e, pH] at hl; cases hl
      have lq : l ≠ q := fun e => by rw [e, qH] at hl; cases hl
      have dp : d ≠ p := fun e => by rw [e, hp2.pen] at hd; cases hd
      have dq : d ≠ q := fun e => by rw [e, hp2.lst] at hd; cases hd
      have dl : d ≠ l := fun e => by rw [e, el] at hd; cases hd
      have fd0 : H d = none := by
        cases e : H d with
        | none => rfl
        | some o => rw [b2 _ _ e dp] at hd; cases hd
      refine ⟨_, rfl, z, rfl, ?_⟩
      refine for_str (fun j σ H' => (∃ x4 : Option V, σ = [some (.ref p), some (.str z), some (.ref l), some (.ref d), x4, none]) ∧ ∃ (acc rs : List Nat) (i r : Int), H' l = some (.lst ((sgs rs).map V.str)) ∧ H' d = some (.dK (tabL (z.cps.toList.take j) acc)) ∧ acc.length = j ∧ acc.length + rs.length = rest.length ∧ (acc ++ rs).Nodup ∧ (∀ c ∈ acc ++ rs, c ∈ small) ∧ PenAt H' p q ns i r ∧ i ≤ i1 + j ∧ But p H H')
        ⟨⟨_, rfl⟩, [], rest, i1, r1, by rw [upd_ne dl.symm]; exact el, by rw [upd_same, List.take_zero]; rfl, rfl, by rw [List.length_nil, Nat.zero_add], nd, sm, pen_upd hp2 dp dq, by omega, but_upd b2 fd0⟩ (fun j c σ H3 hc h3 => ?_) (fun σ H3 h3 => ?_)
      · obtain ⟨⟨x4, rfl⟩, acc, rs, i3, r3, a1, a2, a3, a4, a5, a6, a7, a8, b3⟩ := h3
        have lj : j < z.cps.size := (Array.getElem?_eq_some_iff.mp hc).1
        have hc' : z.cps.toList[j]? = some c := by rw [Array.getElem?_toList]; exact hc
        have lt : (z.cps.toList.take j).length = acc.length := by rw [List.length_take, Array.length_toList]; omega
        refine ⟨_, rfl, .inl ⟨rfl, _, SqL.of a1⟩, ?_⟩
        refine ⟨_, rfl, _, rfl, _, _, rfl, .inl ⟨_, SqL.of a1, rfl⟩, p, q, ns, i3, r3, _, rfl, a7, ?_, ?_, by omega, fun dd i4 r4 H4 d0 d1 hi4 hp4 b4 => ?_⟩
        · rw [List.length_map, sgs_len]; omega
        · rw [List.length_map, sgs_len]; omega
        · rw [List.length_map, sgs_len] at d1
          obtain ⟨dn, rfl⟩ : ∃ dn : Nat, dd = (dn : Int) := ⟨dd.toNat, by omega⟩
          have hdn : dn < rs.length := by omega
          have a1' := b4 _ _ a1 lp
          have a2' := b4 _ _ a2 dp
          refine ⟨l, _, _, dn, .str ⟨#[rs[dn]]⟩, rfl, rfl, a1', by omega, by omega, seq_ix (by rw [List.length_map, sgs_len]; exact hdn), ?_, ?_⟩
          · rw [List.getElem?_map]; unfold sgs; rw [List.getElem?_map, List.getElem?_eq_getElem hdn]; rfl
          · have ee : ((sgs rs).map V.str).eraseIdx dn = (sgs (rs.eraseIdx dn)).map V.str := by
              unfold sgs
              rw [List.map_map, List.map_map, erase_map]
            have pm : List.Perm ((acc ++ [rs[dn]]) ++ rs.eraseIdx dn) (acc ++ rs) := by
              rw [List.append_assoc]
              exact List.Perm.append_left acc (erase_perm rs dn hdn)
            have nin : ¬ c ∈ z.cps.toList.take j := fun q => by
              obtain ⟨n, hn, en⟩ := List.getElem_of_mem q
              have ln : n < j := by rw [List.length_take] at hn; omega
              rw [List.getElem_take] at en
              obtain ⟨g1, f1⟩ := List.getElem?_eq_some_iff.mp hc'
              have := (List.getElem_inj gz.nd).mp (en.trans f1.symm)
              omega
            have hput : putK (tabL (z.cps.toList.take j) acc) (.inr ⟨#[c]⟩) (.str ⟨#[rs[dn]]⟩) = tabL (z.cps.toList.take (j + 1)) (acc ++ [rs[dn]]) := by
              rw [putK_new _ (tabL_none _ _ nin), List.take_add_one, hc']
              exact (tabL_snoc lt).symm
            have a2'' : upd H4 l (.lst (((sgs rs).map V.str).eraseIdx dn)) d = some (.dK (tabL (z.cps.toList.take j) acc)) := by rw [upd_ne dl]; exact a2'
            refine ⟨_, rfl, _, rfl, d, _, rfl, DPut.k (k := (Sum.inr ⟨#[c]⟩ : Key)) a2'' (by rw [tabL_len lt, lt]; omega), ?_⟩
            rw [hput]
            refine ⟨⟨_, rfl⟩, acc ++ [rs[dn]], rs.eraseIdx dn, i4, r4, by rw [upd_ne dl.symm, upd_same, ee], upd_same, by rw [List.length_append, a3]; rfl, by rw [List.length_append, List.length_eraseIdx_of_lt hdn]; show acc.length + 1 + (rs.length - 1) = _; omega, pm.nodup_iff.mpr a5, fun c hc => a6 c (pm.mem_iff.mp hc), pen_upd (pen_upd hp4 lp lq) dp dq, by omega, but_upd (but_upd (b3.trans b4) hl) fd0⟩
      · obtain ⟨⟨x4, rfl⟩, acc, rs, i3, r3, a1, a2, a3, a4, a5, a6, a7, a8, b3⟩ := h3
        rw [List.take_of_length_le (by rw [Array.length_toList]; exact Nat.le_refl _)] at a2
        refine ⟨_, rfl, ?_⟩
        refine k d ⟨acc.toArray⟩ i3 r3 H3 b3 a7 (by omega) ⟨by simpa using a2, gz, ⟨by show 2 ≤ acc.length; omega, by show acc.length ≤ 4; omega, fun c hc => a6 c (List.mem_append_left _ (by simpa using hc)), by simpa using (List.nodup_append.mp a5).1⟩, by show z.cps.size = acc.length; omega⟩
end
end K6

namespace K6
open PySem L2 LB PyProof.Rows
abbrev s_law_cell_right : Stmt := top 28
theorem sc_law_cell_right : FnScope ["_law_values", "_law_other", "_law_table", "_law_cell", "_law_there", "_law_due", "_law_letter"] ["_law_values", "_law_other", "_law_table", "_law_cell"] (defScope s_law_cell_right) := ⟨rfl, rfl, rfl, by decide +kernel, rfl, by decide +kernel, by decide +kernel⟩

def pc (s n : Nat) : Nat := ((List.range s).filter fun k => n.testBit k).length
def posL (s a : Nat) : List Nat := (List.range s).filter fun k => a.testBit k
def Rd (te : TE) (σ : L2.St) (H : Hp) (v : V) : Prop := ∀ Q : VK, Q v H → te σ H Q
def RT (tt : TT) (σ : L2.St) (H : Hp) (b : Bool) : Prop := ∀ Q : Bool → Hp → Prop, Q b H → tt σ H Q
/-- te is the cell of the number a -/
def Rc (cs : List Addr) (te : TE) (σ : L2.St) (H : Hp) (a : Nat) : Prop := ∃ x, cs[a]? = some x ∧ Rd te σ H (.ref x)
section
variable {K : PySem.W.Frag} {CV CC p : Addr} {z : Str} {cs : List Addr} {σ : L2.St} {H : Hp} {ta tb : TE} {a b : Nat} {E : XK} {tA tB' : TT} {x y : Bool}
theorem rc_var {i : Nat} {x : Addr} (h : σ[i]? = some (some (.ref x))) (hx : cs[a]? = some x) : Rc cs (tVar i) σ H a := ⟨x, hx, fun Q q => ⟨_, h, q⟩⟩
theorem Rc.lt (h : Rc cs ta σ H a) : a < cs.length := let ⟨_, e, _⟩ := h; (List.getElem?_eq_some_iff.mp e).1
theorem rc_bin {f : Nat → Nat → Nat} (vv : ValsAt CV CC H p z cs) (hf : f a b < cs.length) (ha : Rc cs ta σ H a) (hb : Rc cs tb σ H b) : Rc cs (tOp (rOwn2 CC CC (spBin CV CC f) E) ta tb) σ H (f a b) := by
  obtain ⟨x, hx, rx⟩ := ha
  obtain ⟨y, hy, ry⟩ := hb
  obtain ⟨dx, ex⟩ := vv.cell a x hx
  obtain ⟨dy, ey⟩ := vv.cell b y hy
  exact ⟨cs[f a b], List.getElem?_eq_getElem hf, fun Q q => rx _ (ry _ ⟨x, y, dx, dy, _, _, rfl, rfl, ex, ey, x, y, p, cs[f a b], z, cs, a, b, rfl, vv, hx, hy, List.getElem?_eq_getElem hf, q⟩)⟩
theorem rc_and (vv : ValsAt CV CC H p z cs) (ha : Rc cs ta σ H a) (hb : Rc cs tb σ H b) : Rc cs (tOp (rOwn2 CC CC (spBin CV CC Nat.land) E) ta tb) σ H (Nat.land a b) := rc_bin vv (Nat.lt_of_le_of_lt Nat.and_le_left ha.lt) ha hb
theorem rc_sub (vv : ValsAt CV CC H p z cs) (ha : Rc cs ta σ H a) (hb : Rc cs tb σ H b) : Rc cs (tOp (rOwn2 CC CC (spBin CV CC fSub) E) ta tb) σ H (fSub a b) := rc_bin vv (Nat.lt_of_le_of_lt (Nat.sub_le _ _) ha.lt) ha hb
theorem rc_or (vv : ValsAt CV CC H p z cs) (ha : Rc cs ta σ H a) (hb : Rc cs tb σ H b) : Rc cs (tOp (rOwn2 CC CC (spBin CV CC Nat.lor) E) ta tb) σ H (Nat.lor a b) :=
  rc_bin vv (by have h1 := ha.lt; have h2 := hb.lt; rw [vv.len] at h1 h2 ⊢; exact Nat.or_lt_two_pow h1 h2) ha hb
theorem rc_xor (vv : ValsAt CV CC H p z cs) (ha : Rc cs ta σ H a) (hb : Rc cs tb σ H b) : Rc cs (tOp (rOwn2 CC CC (spBin CV CC Nat.xor) E) ta tb) σ H (Nat.xor a b) :=
  rc_bin vv (by have h1 := ha.lt; have h2 := hb.lt; rw [vv.len] at h1 h2 ⊢; exact Nat.xor_lt_two_pow h1 h2) ha hb
theorem rc_inv (vv : ValsAt CV CC H p z cs) (ha : Rc cs ta σ H a) : Rc cs (tUn (fun x H Q => ∃ a dx fs, x = .ref a ∧ H a = some (.ins CC dx fs) ∧ spInv CV CC [x] H Q E) ta) σ H (2 ^ z.cps.size - 1 - a) := by
  have l := ha.lt
  obtain ⟨x, hx, rx⟩ := ha
  obtain ⟨dx, ex⟩ := vv.cell a x hx
  have hf : 2 ^ z.cps.size - 1 - a < cs.length := by rw [vv.len] at l ⊢; omega
  exact ⟨_, List.getElem?_eq_getElem hf, fun Q q => rx _ ⟨x, dx, _, rfl, ex, x, p, _, z, cs, a, rfl, vv, hx, List.getElem?_eq_getElem hf, q⟩⟩
theorem rd_rel {f : Nat → Nat → Bool} (vv : ValsAt CV CC H p z cs) (ha : Rc cs ta σ H a) (hb : Rc cs tb σ H b) : Rd (tOp (rOwn2 CC CC (spRel CV CC f) E) ta tb) σ H (.bl (f a b)) := by
  obtain ⟨x, hx, rx⟩ := ha
  obtain ⟨y, hy, ry⟩ := hb
  obtain ⟨dx, ex⟩ := vv.cell a x hx
  obtain ⟨dy, ey⟩ := vv.cell b y hy
  exact fun Q q => rx _ (ry _ ⟨x, y, dx, dy, _, _, rfl, rfl, ex, ey, x, y, p, z, cs, a, b, rfl, vv, hx, hy, q⟩)
theorem rd_eq (vv : ValsAt CV CC H p z cs) (ha : Rc cs ta σ H a) (hb : Rc cs tb σ H b) : Rd (tOp (rOwn2 CC CC (spRel CV CC fun a b => decide (a = b)) E) ta tb) σ H (.bl (decide (a = b))) := rd_rel vv ha hb
theorem rd_within (vv : ValsAt CV CC H p z cs) (ha : Rc cs ta σ H a) (hb : Rc cs tb σ H b) : Rd (tMeth CC "within" (spRel CV CC fIn) [] E ta (tCons tb tNil)) σ H (.bl (fIn a b)) := by
  obtain ⟨x, hx, rx⟩ := ha
  obtain ⟨y, hy, ry⟩ := hb
  obtain ⟨dx, ex⟩ := vv.cell a x hx
  exact fun Q q => rx _ ⟨x, dx, _, rfl, ex, cellF_no (by decide +kernel) (by decide +kernel) (by decide +kernel), ry _ ⟨x, y, p, z, cs, a, b, rfl, vv, hx, hy, q⟩⟩
theorem rd_num (VV : VF K CV CC) (vv : ValsAt CV CC H p z cs) (ha : Rc cs ta σ H a) : Rd (tFld K ta "number") σ H (.int (a : Int)) := by
  obtain ⟨x, hx, rx⟩ := ha
  obtain ⟨dx, ex⟩ := vv.cell a x hx
  exact fun Q q => rx _ ⟨x, CC, dx, _, _, rfl, ex, VV.cc, VV.cn, cellF_num, q⟩
theorem len_pc (z : Str) (a : Nat) : (cellT z a).length = pc z.cps.size a := by
  show ((subL z a z.cps.size).toArray).size = _
  unfold subL pc
  simp
theorem rd_len (vv : ValsAt CV CC H p z cs) (ha : Rc cs ta σ H a) :
    Rd (tCB (fun xs H Q => ∃ a dx fs, xs = [.ref a] ∧ H a = some (.ins CC dx fs) ∧ spOneC CV CC (fun t => .int (t.length : Nat)) xs H (fun z H' => ∃ n : Int, z = .int n ∧ 0 ≤ n ∧ n < 2 ^ 63 ∧ Q (.int n) H') E) (tCons ta tNil)) σ H (.int ((pc z.cps.size a : Nat) : Int)) := by
  obtain ⟨x, hx, rx⟩ := ha
  obtain ⟨dx, ex⟩ := vv.cell a x hx
  have l4 := cell_len z a vv.good.hi
  exact fun Q q => rx _ ⟨x, dx, _, rfl, ex, x, p, z, cs, a, rfl, vv, hx, _, rfl, Int.natCast_nonneg _, by omega, by rw [len_pc]; exact q⟩
theorem rd_add (ha : Rd ta σ H (.int (a : Int))) (hb : Rd tb σ H (.int (b : Int))) : Rd (tOp (rI0 fun i j => .int (i + j)) ta tb) σ H (.int ((Nat.add a b : Nat) : Int)) :=
  fun Q q => ha _ (hb _ ⟨_, _, rfl, rfl, q⟩)
theorem rd_iand (ha : Rd ta σ H (.int (a : Int))) (hb : Rd tb σ H (.int (b : Int))) : Rd (tOp (rI0 fun i j => .int (Builtin.bitAnd i j)) ta tb) σ H (.int ((Nat.land a b : Nat) : Int)) :=
  fun Q q => ha _ (hb _ ⟨_, _, rfl, rfl, by show Q (.int (Builtin.bitAnd (a : Int) (b : Int))) H; rw [z_and]; exact q⟩)
theorem rd_ior (ha : Rd ta σ H (.int (a : Int))) (hb : Rd tb σ H (.int (b : Int))) : Rd (tOp (rI0 fun i j => .int (Builtin.bitOr i j)) ta tb) σ H (.int ((Nat.lor a b : Nat) : Int)) :=
  fun Q q => ha _ (hb _ ⟨_, _, rfl, rfl, by show Q (.int (Builtin.bitOr (a : Int) (b : Int))) H; rw [z_or]; exact q⟩)
theorem z_lt' (vv : ValsAt CV CC H p z cs) (ha : Rc cs ta σ H a) : a < 16 := let ⟨_, e, _⟩ := ha; z_lt vv e
theorem rd_ixor (la : a < 16) (lb : b < 16) (ha : Rd ta σ H (.int (a : Int))) (hb : Rd tb σ H (.int (b : Int))) : Rd (tOp (rI0 fun i j => .int (Builtin.bitXor i j)) ta tb) σ H (.int ((Nat.xor a b : Nat) : Int)) :=
  fun Q q => ha _ (hb _ ⟨_, _, rfl, rfl, by show Q (.int (Builtin.bitXor (a : Int) (b : Int))) H; rw [z_xor16 a la b lb]; exact q⟩)
theorem rd_eqi (ha : Rd ta σ H (.int (a : Int))) (hb : Rd tb σ H (.int (b : Int))) : Rd (tOp rEq ta tb) σ H (.bl (decide (a = b))) :=
  fun Q q => ha _ (hb _ ⟨rfl, by rw [dec_nat]; exact q⟩)
theorem dec_bl {x y : Bool} : (!decide (V.bl x = V.bl y)) = (x != y) := by
  cases x <;> cases y <;> decide +kernel
theorem rd_neb (ha : Rd ta σ H (.bl x)) (hb : Rd tb σ H (.bl y)) : Rd (tOp rNe ta tb) σ H (.bl (x != y)) :=
  fun Q q => ha _ (hb _ ⟨rfl, by rw [dec_bl]; exact q⟩)
theorem rd_and (ha : Rd ta σ H (.bl x)) (hb : Rd tb σ H (.bl y)) : Rd (tAndV ta tb) σ H (.bl (x && y)) :=
  fun Q q => ha _ ⟨x, rfl, by
    cases x with
    | true => exact hb Q q
    | false => exact q⟩
theorem rt_cmp (h : Rd ta σ H (.bl x)) : RT (tTest ta) σ H x := fun Q q => h _ ⟨x, rfl, q⟩
theorem rt_val (h : Rd ta σ H (.bl x)) : RT (L2.tB ta) σ H x := fun Q q => h _ ⟨x, rfl, q⟩
theorem rt_not (h : RT tA σ H x) : RT (tNot tA) σ H (!x) := fun Q q => h _ q
theorem rt_and (h : RT tA σ H x) (h' : RT tB' σ H y) : RT (tAnd tA tB') σ H (x && y) := fun Q q => h _ (by
  cases x with
  | true => exact h' Q q
  | false => exact q)
theorem rt_or (h : RT tA σ H x) (h' : RT tB' σ H y) : RT (tOr tA tB') σ H (x || y) := fun Q q => h _ (by
  cases x with
  | true => exact q
  | false => exact h' Q q)
theorem seq_lists {t1 t2 t3 t4 : TE} {t rest : TS} {D : Ends} {i j : Int} (h1 : Rd t1 σ H (.int i)) (h2 : Rd t2 σ H (.int j)) (h3 : ∀ H', Same H H' → Rd t3 σ H' (.int i)) (h4 : ∀ H', Same H H' → Rd t4 σ H' (.int j)) (k : ∀ H', Same H H' → rest D σ H') :
    tSeq (tIfS (tTest (tOp (rNeD K) (tLst (tCons t1 (tCons t2 tNil))) (tLst (tCons t3 (tCons t4 tNil))))) t tNext) rest D σ H := by
  refine h1 _ (h2 _ ⟨by show 2 ≤ sizeLine; decide, fun p1 n1 => ?_⟩)
  have s1 := same_new (o := HO.lst ([i, j].map V.int)) n1
  refine h3 _ s1 _ (h4 _ s1 _ ⟨by show 2 ≤ sizeLine; decide, fun p2 n2 => ?_⟩)
  have s2 := s1.trans (same_new (o := HO.lst ([i, j].map V.int)) n2)
  have e1 : SqL K (upd (upd H p1 (.lst ([i, j].map V.int))) p2 (.lst ([i, j].map V.int))) p1 ([i, j].map V.int) := SqL.of (by rw [upd_ne (ne_of_none upd_same n2)]; exact upd_same)
  have e2 : SqL K (upd (upd H p1 (.lst ([i, j].map V.int))) p2 (.lst ([i, j].map V.int))) p2 ([i, j].map V.int) := SqL.of upd_same
  refine ⟨_, _, dp_ints e1, dp_ints e2, shaped_ints _, shaped_ints _, false, ?_, k _ s2⟩
  have e : PyData.eqv (.list ([i, j].map PyData.int)) (.list ([i, j].map PyData.int)) = true := PySem.SeqAt.eqv_refl _ rfl
  rw [e]
  rfl
theorem ret_rd {te : TE} {v : V} {D : Ends} (h : Rd te σ H v) (k : D.rt v H) : tRet te D σ H := h _ k
/-- a test that is not met -/
theorem seq_no {t rest : TS} {D : Ends} (h : RT tA σ H x) (hx : x = false) (k : rest D σ H) : tSeq (tIfS tA t tNext) rest D σ H := h _ (by subst hx; exact k)
theorem one_no {t : TS} {D : Ends} (h : RT tA σ H x) (hx : x = false) (k : D.nx σ H) : tIfS tA t tNext D σ H := h _ (by subst hx; exact k)
end
section
variable {K : PySem.W.Frag} {CV CC p : Addr} {z : Str} {cs : List Addr} {σ : L2.St} {H : Hp} {ta tb : TE} {a b c : Nat} {i j : Int} {E : XK} {v : V}
theorem rd_var {i : Nat} (h : σ[i]? = some (some v)) : Rd (tVar i) σ H v := fun Q q => ⟨_, h, q⟩
theorem rd_isub (ha : Rd ta σ H (.int i)) (hb : Rd tb σ H (.int j)) : Rd (tOp (rI0 fun i j => .int (i - j)) ta tb) σ H (.int (i - j)) := fun Q q => ha _ (hb _ ⟨_, _, rfl, rfl, q⟩)
theorem rd_nei (ha : Rd ta σ H (.int i)) (hb : Rd tb σ H (.int j)) : Rd (tOp rNe ta tb) σ H (.bl (!decide (i = j))) := fun Q q => ha _ (hb _ ⟨rfl, by rw [dec_int]; exact q⟩)
theorem rc_empty (vv : ValsAt CV CC H p z cs) (h : Rd ta σ H (.ref p)) : Rc cs (tProp CV (spEnd CV CC 0) [] E ta) σ H 0 := by
  obtain ⟨dp, t, hp, ht⟩ := vv.ob
  have l : 0 < cs.length := by rw [vv.len]; exact Nat.pow_pos (by decide)
  exact ⟨cs[0], List.getElem?_eq_getElem l, fun Q q => h _ ⟨p, dp, _, rfl, hp, p, z, cs, _, rfl, vv, atN (List.getElem?_eq_getElem l), q⟩⟩
theorem rc_full (vv : ValsAt CV CC H p z cs) (h : Rd ta σ H (.ref p)) : Rc cs (tProp CV (spEnd CV CC (-1)) [] E ta) σ H (2 ^ z.cps.size - 1) := by
  obtain ⟨dp, t, hp, ht⟩ := vv.ob
  obtain ⟨u, hu, eu⟩ := end_full vv.len
  exact ⟨u, hu, fun Q q => h _ ⟨p, dp, _, rfl, hp, p, z, cs, _, rfl, vv, eu, q⟩⟩
theorem rd_notC (vv : ValsAt CV CC H p z cs) (ha : Rc cs ta σ H a) : Rd (fun σ H Q => ta σ H fun x H1 => rTruOwn CC (spOneC CV CC fun t => .bl (decide (0 < t.length))) E x H1 fun c H2 => Q (.bl (!c)) H2) σ H (.bl (!decide (0 < pc z.cps.size a))) := by
  obtain ⟨x, hx, rx⟩ := ha
  obtain ⟨dx, ex⟩ := vv.cell a x hx
  exact fun Q q => rx _ ⟨x, dx, _, rfl, ex, x, p, z, cs, a, rfl, vv, hx, _, rfl, by rw [len_pc]; exact q⟩
end
theorem vals_but {CV CC : Addr} {H H' : Hp} {p v : Addr} {z : Str} {cs : List Addr} (vv : ValsAt CV CC H v z cs) (hp : ∃ xs, H p = some (.lst xs)) (b : But p H H') : ValsAt CV CC H' v z cs := by
  obtain ⟨xs, hp⟩ := hp
  have n : ∀ {c : Addr} {o : HO}, H c = some o → (∀ ys, o ≠ .lst ys) → c ≠ p := fun e q w => by
    rw [w, hp] at e
    injection e with e
    exact q xs e.symm
  obtain ⟨dx, t, e1, e2⟩ := vv.ob
  exact ⟨⟨dx, t, b _ _ e1 (n e1 (fun ys q => by cases q)), b _ _ e2 (n e2 (fun ys q => by cases q))⟩, vv.good, vv.len, fun i c e => by
    obtain ⟨dc, q⟩ := vv.cell i c e
    exact ⟨dc, b _ _ q (n q (fun ys q => by cases q))⟩⟩
section
variable {K : PySem.W.Frag} {CV CC p : Addr} {z : Str} {cs : List Addr} {σ : L2.St} {H : Hp} {ta tb : TE} {a b : Nat} {E : XK} {tA tB' : TT} {x : Bool}
theorem seq_or_no {t u rest : TS} {D : Ends} (h : RT tA σ H x) (hx : x = false) (k : tSeq (tIfS tB' t u) rest D σ H) : tSeq (tIfS (tOr tA tB') t u) rest D σ H := h _ (by subst hx; exact k)
theorem rd_neC (vv : ValsAt CV CC H p z cs) (ha : Rc cs ta σ H a) (hb : Rc cs tb σ H b) :
    Rd (tOp (fun x y H Q => ∃ a b dx dy fs gs, x = .ref a ∧ y = .ref b ∧ H a = some (.ins CC dx fs) ∧ H b = some (.ins CC dy gs) ∧ spRel CV CC (fun a b => decide (a = b)) [x, y] H (fun z H' => ∃ c, z = .bl c ∧ Q (.bl (!c)) H') E) ta tb) σ H (.bl (!decide (a = b))) := by
  obtain ⟨x, hx, rx⟩ := ha
  obtain ⟨y, hy, ry⟩ := hb
  obtain ⟨dx, ex⟩ := vv.cell a x hx
  obtain ⟨dy, ey⟩ := vv.cell b y hy
  exact fun Q q => rx _ (ry _ ⟨x, y, dx, dy, _, _, rfl, rfl, ex, ey, x, y, p, z, cs, a, b, rfl, vv, hx, hy, _, rfl, q⟩)
theorem rc_numb (vv : ValsAt CV CC H p z cs) (h : Rd ta σ H (.ref p)) (l : a < cs.length) (hb : Rd tb σ H (.int (a : Int))) : Rc cs (tMeth CV "numbered" (spNumb CV CC) [] E ta (tCons tb tNil)) σ H a := by
  obtain ⟨dp, t, hp, ht⟩ := vv.ob
  exact ⟨cs[a], List.getElem?_eq_getElem l, fun Q q => h _ ⟨p, dp, _, rfl, hp, valF_no (by decide +kernel) (by decide +kernel), hb _ ⟨p, cs[a], z, cs, _, a, rfl, rfl, vv, List.getElem?_eq_getElem l, q⟩⟩⟩
end

def chkP (s : Nat) : Bool := (List.range (2 ^ s)).all fun a => decide (sumP (posL s a) = a) && decide (sumP (posL s a).reverse = a)
theorem chkP_all : (chkP 2 && chkP 3 && chkP 4) = true := by decide +kernel
theorem chkP_at {s : Nat} (l : 2 ≤ s) (h : s ≤ 4) : chkP s = true := by
  have k := chkP_all
  rw [Bool.and_eq_true, Bool.and_eq_true] at k
  match s, l, h with
  | 2, _, _ => exact k.1.1
  | 3, _, _ => exact k.1.2
  | 4, _, _ => exact k.2
theorem pos_sum {s a : Nat} (l : 2 ≤ s) (h : s ≤ 4) (ha : a < 2 ^ s) : sumP (posL s a) = a ∧ sumP (posL s a).reverse = a := by
  have k := List.all_eq_true.mp (by have := chkP_at l h; unfold chkP at this; exact this) a (List.mem_range.mpr ha)
  simpa only [Bool.and_eq_true, decide_eq_true_eq] using k
theorem pos_lt {s a k : Nat} (h : k ∈ posL s a) : k < s := List.mem_range.mp (List.mem_filter.mp h).1
theorem pos_nd (s a : Nat) : (posL s a).Nodup := List.nodup_range.filter _
theorem pos_len (s a : Nat) : (posL s a).length ≤ s := Nat.le_trans (List.length_filter_le _ _) (by rw [List.length_range]; exact Nat.le_refl _)
theorem cell_at (z : Str) (a : Nat) : cellT z a = atL z (posL z.cps.size a) := rfl
theorem atL_rev (z : Str) (ks : List Nat) : revS (atL z ks) = atL z ks.reverse := by
  unfold revS atL
  rw [List.map_reverse]
theorem atL_at {z : Str} {ks : List Nat} {i c : Nat} (hk : ∀ k ∈ ks, k < z.cps.size) (hc : (atL z ks).cps[i]? = some c) : ∃ m, ks[i]? = some m ∧ m < z.cps.size ∧ z.cps.toList[m]? = some c := by
  rw [← Array.getElem?_toList] at hc
  have hc : (ks.map fun k => z.cps.getD k 0)[i]? = some c := by simpa [atL] using hc
  rw [List.getElem?_map] at hc
  cases e : ks[i]? with
  | none => rw [e] at hc; cases hc
  | some m =>
    rw [e] at hc
    have hc : z.cps.getD m 0 = c := by injection hc
    have hm := hk m (List.mem_of_getElem? e)
    exact ⟨m, rfl, hm, hc ▸ getD_at hm⟩
/-- == of cells, whatever their values -/
def spEq2 (CV CC : Addr) : Sp := fun vs H Q _ => ∃ (x y p p' : Addr) (z z' : Str) (cs cs' : List Addr) (a b : Nat), vs = [.ref x, .ref y] ∧ ValsAt CV CC H p z cs ∧ ValsAt CV CC H p' z' cs' ∧ cs[a]? = some x ∧ cs'[b]? = some y ∧ Q (.bl (decide (z = z') && decide (a = b))) H
structure Ops (P : Program) (w : World) (K : PySem.W.Frag) (mg : Str → Option Value) (base : Heap) (CV CC : Addr) : Prop where
  and : HasMe P w K mg base CX0 4 CC "__and__" ["self", "other"] (spBin CV CC Nat.land)
  or : HasMe P w K mg base CX0 4 CC "__or__" ["self", "other"] (spBin CV CC Nat.lor)
  sub : HasMe P w K mg base CX0 4 CC "__sub__" ["self", "other"] (spBin CV CC fSub)
  inv : HasMe P w K mg base CX0 4 CC "__invert__" ["self"] (spInv CV CC)
  eq : HasMe P w K mg base CX0 2 CC "__eq__" ["self", "other"] (spRel CV CC fun a b => decide (a = b))
  eq2 : HasMe P w K mg base CX0 2 CC "__eq__" ["self", "other"] (spEq2 CV CC)
  len : HasMe P w K mg base CX0 1 CC "__len__" ["self"] (spOneC CV CC fun t => .int (t.length : Nat))
  bool : HasMe P w K mg base CX0 1 CC "__bool__" ["self"] (spOneC CV CC fun t => .bl (decide (0 < t.length)))
  within : HasMe P w K mg base CX0 4 CC "within" ["self", "other"] (spRel CV CC fIn)
  sure : HasPr P w K mg base CX0 1 CC "is_sure" ["self"] (spOneC CV CC fun t => .bl (decide (t.length = 1)))
section
variable {K : PySem.W.Frag} {CV CC p p' : Addr} {z z' : Str} {cs cs' : List Addr} {σ : L2.St} {H : Hp} {ta tb : TE} {a b : Nat} {E : XK} {x y : Str}
theorem rd_let (VV : VF K CV CC) (vv : ValsAt CV CC H p z cs) (ha : Rc cs ta σ H a) : Rd (tFld K ta "letters") σ H (.str (cellT z a)) := by
  obtain ⟨x, hx, rx⟩ := ha
  obtain ⟨dx, ex⟩ := vv.cell a x hx
  exact fun Q q => rx _ ⟨x, CC, dx, _, _, rfl, ex, VV.cc, VV.cl, cellF_let, q⟩
theorem rd_nes (ha : Rd ta σ H (.str x)) (hb : Rd tb σ H (.str y)) : Rd (tOp rNe ta tb) σ H (.bl (!decide (x = y))) := fun Q q => ha _ (hb _ ⟨rfl, by rw [dec_str]; exact q⟩)
theorem rd_eqs (ha : Rd ta σ H (.str x)) (hb : Rd tb σ H (.str y)) : Rd (tOp rEq ta tb) σ H (.bl (decide (x = y))) := fun Q q => ha _ (hb _ ⟨rfl, by rw [dec_str]; exact q⟩)
theorem rd_sure (vv : ValsAt CV CC H p z cs) (ha : Rc cs ta σ H a) : Rd (tProp CC (spOneC CV CC fun t => .bl (decide (t.length = 1))) [] E ta) σ H (.bl (decide (pc z.cps.size a = 1))) := by
  obtain ⟨x, hx, rx⟩ := ha
  obtain ⟨dx, ex⟩ := vv.cell a x hx
  exact fun Q q => rx _ ⟨x, dx, _, rfl, ex, x, p, z, cs, a, rfl, vv, hx, by show Q (.bl (decide ((cellT z a).length = 1))) H; rw [len_pc]; exact q⟩
theorem rd_boolC (vv : ValsAt CV CC H p z cs) (ha : Rc cs ta σ H a) :
    Rd (tCB (fun xs H Q => ∃ a dx fs, xs = [.ref a] ∧ H a = some (.ins CC dx fs) ∧ spOneC CV CC (fun t => .bl (decide (0 < t.length))) [.ref a] H (fun z H' => ∃ c, z = .bl c ∧ Q (.bl c) H') E) (tCons ta tNil)) σ H (.bl (decide (0 < pc z.cps.size a))) := by
  obtain ⟨x, hx, rx⟩ := ha
  obtain ⟨dx, ex⟩ := vv.cell a x hx
  exact fun Q q => rx _ ⟨x, dx, _, rfl, ex, x, p, z, cs, a, rfl, vv, hx, _, rfl, by rw [len_pc]; exact q⟩
theorem rd_eq2 (vv : ValsAt CV CC H p z cs) (uu : ValsAt CV CC H p' z' cs') (ha : Rc cs ta σ H a) (hb : Rc cs' tb σ H b) : Rd (tOp (rOwn2 CC CC (spEq2 CV CC) E) ta tb) σ H (.bl (decide (z = z') && decide (a = b))) := by
  obtain ⟨x, hx, rx⟩ := ha
  obtain ⟨y, hy, ry⟩ := hb
  obtain ⟨dx, ex⟩ := vv.cell a x hx
  obtain ⟨dy, ey⟩ := uu.cell b y hy
  exact fun Q q => rx _ (ry _ ⟨x, y, dx, dy, _, _, rfl, rfl, ex, ey, x, y, p, p', z, z', cs, cs', a, b, rfl, vv, uu, hx, hy, q⟩)
theorem rd_eqV (vv : ValsAt CV CC H p z cs) (uu : ValsAt CV CC H p' z' cs') (ha : Rd ta σ H (.ref p)) (hb : Rd tb σ H (.ref p')) : Rd (tOp (rOwn2 CV CV (spEqV CV) E) ta tb) σ H (.bl (decide (z = z'))) := by
  obtain ⟨dx, t, ex, _⟩ := vv.ob
  obtain ⟨dy, t', ey, _⟩ := uu.ob
  exact fun Q q => ha _ (hb _ ⟨p, p', dx, dy, _, _, rfl, rfl, ex, ey, p, dx, _, z, _, rfl, ex, valF_let, .inl ⟨p', dy, _, z', rfl, ey, valF_let, q⟩⟩)
end
theorem cond5 {y z : Str} {n : Int} {a : Nat} : ((!decide (n = n)) || ((decide (y = z) && decide (a = a)) != decide (z = y))) = false := by
  have e : decide (z = y) = decide (y = z) := by
    by_cases q : y = z
    · rw [q]
    · rw [decide_eq_false q, decide_eq_false (fun r => q r.symm)]
  rw [e]
  simp
def spRight6 (CV CC : Addr) : Sp := fun vs H Q _ => ∃ (v u d x : Addr) (z y : Str) (cs ct : List Addr) (a : Nat), vs = [.ref v, .ref u, .ref d, .ref x] ∧ ValsAt CV CC H v z cs ∧ ValsAt CV CC H u y ct ∧ TabAt H d z y ∧ cs[a]? = some x ∧ ∀ H', Same H H' → Q (.bl true) H'

section
variable {P : Program} {w : World} {K : PySem.W.Frag} {mg : Str → Option Value} {base : Heap}

theorem ok_eqC2 {CV CC : Addr} {f : Addr} {fd : FuncData} (F : Fun K "__eq__" "Cell.__eq__" s_CellDD_eqDD f fd) (B : Blt mg) (VV : VF K CV CC) (gC : mg "Cell" = some (.ref CC)) (KV : KC K CC) (D_eq : HasMe P w K mg base CX0 1 CV "__eq__" ["self", "other"] (spEqV CV)) :
    FnOk P w K mg base CX0 2 f fd ["self", "other"] (spEq2 CV CC) := by
  refine F.ok sc_CellDD_eqDD (fun vs H Q E h => ?_) (fun cdv A outer s H vs Q E hr h => ?_)
  · obtain ⟨x, y, p, p', z, z', cs, cs', a, b, rfl, _⟩ := h
    rfl
  · obtain ⟨x, y, p, p', z, z', cs, cs', a, b, rfl, vv, uu, ha, hb, k⟩ := h
    obtain ⟨dx, hx⟩ := vv.cell a x ha
    obtain ⟨dy, hy⟩ := uu.cell b y hb
    obtain ⟨dp, t, hp, ht⟩ := vv.ob
    obtain ⟨dp', t', hp', ht'⟩ := uu.ob
    refine ⟨_, (pss_one (ps_ret (pe_and (pe_callB call_isi (by rfl) B.n_isinstance (by decide +kernel) (pa_cons (pv 1) (pa_cons (pe_glob (v := .ref _) rfl gC rfl) pa_nil))) (pe_and (pe_cmpR (op_eqMe D_eq (hr.mono (by decide)) pass0) (pe_fld (pv 0) rfl) (pe_fld (pv 1) rfl) (nomark _)) (pe_one (pe_cmpR op_eq (pe_fld (pv 0) rfl) (pe_fld (pv 1) rfl) (nomark _))))))), ?_⟩
    refine ⟨_, rfl, _, _, _, _, true, rfl, .own _, KV.vt.ty hy, KV.cc, true, rfl, iteT ?_⟩
    refine ⟨_, rfl, x, CC, dx, _, _, rfl, hx, VV.cc, VV.ca, cellF_alp, _, rfl, y, CC, dy, _, _, rfl, hy, VV.cc, VV.ca, cellF_alp, ?_⟩
    refine ⟨p, p', dp, dp', _, _, rfl, rfl, hp, hp', p, dp, _, z, _, rfl, hp, valF_let, .inl ⟨p', dp', _, z', rfl, hp', valF_let, _, rfl, ?_⟩⟩
    refine ite2 (fun c => ?_) (fun c => ?_)
    · rw [c, Bool.true_and] at k
      refine ⟨_, rfl, x, CC, dx, _, _, rfl, hx, VV.cc, VV.cn, cellF_num, _, rfl, y, CC, dy, _, _, rfl, hy, VV.cc, VV.cn, cellF_num, rfl, ?_⟩
      rw [dec_nat]
      exact k
    · have c' : decide (z = z') = false := by simpa using c
      rw [c', Bool.false_and] at k
      exact k
theorem ok_cell_right {CV CC : Addr} {f : Addr} {fd : FuncData} (F : Fun K "_law_cell_right" "_law_cell_right" s_law_cell_right f fd) (B : Blt mg) (VV : VF K CV CC) (NEC : NeOwn K CC) (OO : Ops P w K mg base CV CC) (D_eq : HasMe P w K mg base CX0 1 CV "__eq__" ["self", "other"] (spEqV CV))
    (DK_numbered : HasMeK P w K mg base CX0 3 CV "numbered" ["self", "number"] ["number"] (spNumb CV CC)) (D_cell : HasMe P w K mg base CX0 2 CV "cell" ["self", "letters"] (spCellG CV CC)) :
    FnOk P w K mg base CX0 5 f fd ["_law_values", "_law_other", "_law_table", "_law_cell"] (spRight6 CV CC) := by
  refine F.ok sc_law_cell_right (fun vs H Q E h => ?_) (fun cdv A outer s H vs Q E hr h => ?_)
  · obtain ⟨v, u, d, x, z, y, cs, ct, a, rfl, _⟩ := h
    rfl
  · obtain ⟨v, u, d, x, z, y, cs, ct, a, rfl, vv, uu, tb, ha, k⟩ := h
    obtain ⟨D_and, D_or, D_sub, D_inv, D_eqC, D_eqC2, D_lenC, D_boolC, D_within, D_sure⟩ := OO
    have big : 4 < sizeLine := by decide
    have z2 := tb.gz.lo
    have z4 := tb.gz.hi
    have ez := tb.len
    have la : a < 2 ^ z.cps.size := by
      have := (List.getElem?_eq_some_iff.mp ha).1
      rw [vv.len] at this
      exact this
    have lt : a < ct.length := by rw [uu.len, ← ez]; exact la
    obtain ⟨o, ho⟩ : ∃ o, ct[a]? = some o := ⟨_, List.getElem?_eq_getElem lt⟩
    obtain ⟨dx, hx⟩ := vv.cell a x ha
    obtain ⟨dv, tv, hv, _⟩ := vv.ob
    obtain ⟨du, tu, hu, _⟩ := uu.ob
    obtain ⟨sm, sm2⟩ := pos_sum z2 z4 la
    refine ⟨_, (pss_cons (ps_set (i := 4) sc_law_cell_right.nd rfl (.inl rfl) (pe_meK (pv 1) DK_numbered VV.cv (hr.mono (by decide)) pass0 (pk_cons (pe_fld (pv 3) rfl) pk_nil)))
      (pss_cons (ps_set (i := 5) sc_law_cell_right.nd rfl (.inl rfl) (pe_join pe_str (pe_lc rfl sc_law_cell_right.nd (pi_str (pe_fld (pv 3) rfl)) (blkOk_by (own := [("_law_letter", 6)]) (N := ["_law_values", "_law_other", "_law_table", "_law_cell", "_law_there", "_law_due", "_law_letter"]) (sc := defScope s_law_cell_right) (by decide +kernel)) (fun _ _ _ _ _ => (pg_name (i := 6) sc_law_cell_right.nd rfl (.inl rfl))) (fun _ _ _ _ _ => pts_nil) (fun _ _ _ _ _ => (pe_dgetB (u1 hr) (pv 2) (pv 6) (fun _ _ => rfl))))))
      (pss_cons (ps_if (PW.pt (pw_or (pt_cmpR op_ne (pe_fld (pv 4) rfl) (pv 5) (nomark _)) (pw_or (pt_cmpR op_ne (pe_callB (call_lenMe D_lenC (hr.mono (by decide)) pass0) (by rfl) B.n_len (by decide +kernel) (pa_cons (pv 4) pa_nil)) (pe_callB (call_lenMe D_lenC (hr.mono (by decide)) pass0) (by rfl) B.n_len (by decide +kernel) (pa_cons (pv 3) pa_nil)) (nomark _)) (pw_or1 (pt_cmpR op_ne (pe_pr (pv 4) D_sure VV.cc (hr.mono (by decide)) pass0 rfl) (pe_pr (pv 3) D_sure VV.cc (hr.mono (by decide)) pass0 rfl) (nomark _)))))) (pss_one (ps_ret pe_bl)) pss_nil)
      (pss_cons (ps_if (PW.pt (pw_or (pt_not (pt_cmpR (op_eqMe D_eqC (hr.mono (by decide)) pass0) (pe_me (pv 1) D_cell VV.cv (hr.mono (by decide)) pass0 (pa_cons (pv 5) pa_nil)) (pv 4) (nomark _))) (pw_or1 (pt_cmpR op_ne (pe_callTy (call_boolMe D_boolC (hr.mono (by decide)) pass0) (by rfl) B.n_bool (by decide +kernel) (pa_cons (pv 4) pa_nil)) (pe_callTy (call_boolMe D_boolC (hr.mono (by decide)) pass0) (by rfl) B.n_bool (by decide +kernel) (pa_cons (pv 3) pa_nil)) (nomark _))))) (pss_one (ps_ret pe_bl)) pss_nil)
      (pss_cons (ps_if (PW.pt (pw_or (pt_cmpR op_ne (pe_fld (pe_un (un_invMe D_inv (hr.mono (by decide)) pass0) (pv 4)) rfl) (pe_fld (pe_un (un_invMe D_inv (hr.mono (by decide)) pass0) (pv 3)) rfl) (nomark _)) (pw_or1 (pt_cmpR op_ne (pe_cmpR (op_eqMe D_eqC2 (hr.mono (by decide)) pass0) (pv 4) (pv 3) (nomark _)) (pe_cmpR (op_eqMe D_eq (hr.mono (by decide)) pass0) (pv 0) (pv 1) (nomark _)) (nomark _))))) (pss_one (ps_ret pe_bl)) pss_nil)
      (pss_one (ps_ret (pe_not (pe_cmpR (op_neMe D_eqC (hr.mono (by decide)) pass0 NEC) (pe_me (pv 0) D_cell VV.cv (hr.mono (by decide)) pass0 (pa_cons (pe_revS (pe_fld (pv 3) rfl)) pa_nil)) (pv 3) (nomark _)))))))))), ?_⟩
    refine ⟨_, rfl, u, du, _, rfl, hu, valF_no (by decide +kernel) (by decide +kernel), _, rfl, x, CC, dx, _, _, rfl, hx, VV.cc, VV.cn, cellF_num, rfl, u, o, y, ct, _, a, rfl, rfl, uu, ho, ?_⟩
    refine ⟨⟨_, rfl⟩, _, rfl, x, CC, dx, _, _, rfl, hx, VV.cc, VV.cl, cellF_let, _, rfl, fun D hD => ?_⟩
    refine lc_str (fun i H' => H' D = some (.lst ((sgs (((posL z.cps.size a).take i).map fun k => y.cps.getD k 0)).map V.str)) ∧ Same H H') ⟨upd_same, same_new hD⟩ (fun i c H1 hc h1 => ?_) (fun H1 h1 => ?_)
    · rw [cell_at] at hc
      obtain ⟨m, em, hm, hz⟩ := atL_at (fun k h => pos_lt h) hc
      obtain ⟨e, he, dg⟩ := (tb.same h1.2).get hz
      refine ⟨rfl, ?_⟩
      refine ⟨_, rfl, _, rfl, d, _, rfl, dg, ?_⟩
      have ee : y.cps.getD m 0 = e := by
        have := getD_at (z := y) (k := m) (by rw [← ez]; exact hm)
        rw [this] at he
        injection he
      have li := (List.getElem?_eq_some_iff.mp em).1
      have := pos_len z.cps.size a
      refine ⟨_, h1.1, ?_, upd_same.trans ?_, same_upd h1.2 hD⟩
      · show _ < sizeLine
        rw [List.length_map, sgs_len, List.length_map, List.length_take]
        omega
      · rw [List.take_add_one, em, List.map_append, sgs_append, List.map_append]
        show _ = some (HO.lst (_ ++ [V.str ⟨#[y.cps.getD m 0]⟩]))
        rw [ee]
    · have e1 : (cellT z a).cps.size = (posL z.cps.size a).length := by rw [cell_at]; show ((List.map _ _).toArray).size = _; simp
      have h11 := h1.1
      rw [e1, List.take_of_length_le (Nat.le_refl _)] at h11
      have ly := pos_len z.cps.size a
      refine ⟨_, D, sgs ((posL z.cps.size a).map fun k => y.cps.getD k 0), rfl, rfl, .inl (SqL.of h11), ?_, ?_⟩
      · show ((sgs ((posL z.cps.size a).map fun k => y.cps.getD k 0)).map (·.length)).sum + (sgs ((posL z.cps.size a).map fun k => y.cps.getD k 0)).length * 0 ≤ 16777216
        rw [sum_len, List.length_map]
        omega
      have ej : Txt.join (Str.ofString "") (sgs ((posL z.cps.size a).map fun k => y.cps.getD k 0)) = cellT y a := by
        rw [cell_at, ← ez]
        exact join_sgs _
      rw [ej]
      have vv1 := vv.same h1.2
      have uu1 := uu.same h1.2
      refine seq_no (rt_or (rt_cmp (rd_nes (rd_let VV uu1 (rc_var rfl ho)) (rd_var rfl))) (rt_or (rt_cmp (rd_nei (rd_len uu1 (rc_var rfl ho)) (rd_len vv1 (rc_var rfl ha)))) (rt_cmp (rd_neb (rd_sure uu1 (rc_var rfl ho)) (rd_sure vv1 (rc_var rfl ha)))))) ?_ ?_
      · rw [← ez, decide_eq_true rfl, decide_eq_true rfl]
        simp
      have mem : ∀ k ∈ posL z.cps.size a, k < y.cps.size := fun k h => ez ▸ pos_lt h
      have ecy : cellT y a = atL y (posL z.cps.size a) := by rw [cell_at, ez]
      refine ⟨_, rfl, u, du, _, rfl, h1.2 _ _ hu, valF_no (by decide +kernel) (by decide +kernel), _, rfl, u, o, y, ct, posL z.cps.size a, by rw [← ecy]; rfl, uu1, pos_nd _ _, ez ▸ pos_len _ _, mem, by rw [sm]; exact ho, fun H2 s2 => ?_⟩
      have s12 := h1.2.trans s2
      have vv2 := vv.same s12
      have uu2 := uu.same s12
      obtain ⟨dO, eO⟩ := uu2.cell a o ho
      refine ⟨_, rfl, o, o, dO, dO, _, _, rfl, rfl, eO, eO, o, o, u, y, ct, a, a, rfl, uu2, ho, ho, _, rfl, iteNS rfl ?_⟩
      refine (rt_cmp (rd_neb (rd_boolC uu2 (rc_var rfl ho)) (rd_boolC vv2 (rc_var rfl ha)))) _ ?_
      have eb : (decide (0 < pc y.cps.size a) != decide (0 < pc z.cps.size a)) = false := by rw [← ez]; simp
      rw [eb]
      refine iteF ?_
      refine seq_no (rt_or (rt_cmp (rd_nei (rd_num VV uu2 (rc_inv uu2 (rc_var rfl ho))) (rd_num VV vv2 (rc_inv vv2 (rc_var rfl ha))))) (rt_cmp (rd_neb (rd_eq2 uu2 vv2 (rc_var rfl ho) (rc_var rfl ha)) (rd_eqV vv2 uu2 (rd_var rfl) (rd_var rfl))))) ?_ ?_
      · rw [← ez]
        exact cond5
      have hx2 := s12 _ _ hx
      have l4 := cell_len z a z4
      refine ⟨_, rfl, v, dv, _, rfl, s12 _ _ hv, valF_no (by decide +kernel) (by decide +kernel), _, rfl, x, CC, dx, _, _, rfl, hx2, VV.cc, VV.cl, cellF_let, _, rfl, by omega, v, x, z, cs, (posL z.cps.size a).reverse, by rw [← atL_rev, ← cell_at]; rfl, vv2, List.pairwise_reverse.mpr ((pos_nd _ _).imp fun h => Ne.symm h), by rw [List.length_reverse]; exact pos_len _ _, fun k h => pos_lt (List.mem_reverse.mp h), by rw [sm2]; exact ha, fun H3 s3 => ?_⟩
      have vv3 := vv2.same s3
      refine ⟨_, rfl, x, x, dx, dx, _, _, rfl, rfl, s3 _ _ hx2, s3 _ _ hx2, x, x, v, z, cs, a, a, rfl, vv3, ha, ha, _, rfl, _, rfl, ?_⟩
      have k3 := k H3 (s12.trans s3)
      show Q (.bl (!(!decide (a = a)))) H3
      rw [decide_eq_true rfl]
      exact k3
end
end K6

namespace K6
open PySem L2 LB PyProof.Rows
abbrev s_law : Stmt := top 29
theorem sc_law : FnScope ["_law_script", "_law_pen_here", "_law_turn", "_law_values", "_law_table", "_law_other", "_law_some", "_law_far", "_law_k", "_law_back", "_law_j", "_law_one", "_law_two", "_law_first", "_law_second", "_law_cell", "_law_letter"] ["_law_script"] (defScope s_law) := ⟨rfl, rfl, rfl, by decide +kernel, rfl, by decide +kernel, by decide +kernel⟩
abbrev s_Values_each_cell : Stmt := inClass (top 16) 9

def spLaw (K : PySem.W.Frag) : Sp := fun vs H Q _ => ∃ (a : Addr) (ns : List Int), vs = [.ref a] ∧ SqL K H a (ns.map V.int) ∧ ∀ H', Q (.bl true) H'
theorem each_scope : YScope (defScope s_Values_each_cell) "self" "cell" := ⟨rfl, rfl, rfl, rfl, rfl, fun _ _ _ _ => rfl⟩
theorem tab_but {H H' : Hp} {p d : Addr} {z y : Str} (tb : TabAt H d z y) (hp : ∃ xs, H p = some (.lst xs)) (b : But p H H') : TabAt H' d z y :=
  ⟨b _ _ tb.at_ (fun e => by obtain ⟨xs, h⟩ := hp; rw [← e, tb.at_] at h; cases h), tb.gz, tb.gy, tb.len⟩
theorem merge_tab : ∀ (ls ys : List Nat) (kvs : List (Key × V)), ls.Nodup → (∀ c ∈ ls, valV kvs (.inr ⟨#[c]⟩) = none) → mergeK kvs (tabL ls ys) = kvs ++ tabL ls ys
  | [], _, kvs, _, _ => by unfold tabL mergeK; simp
  | _ :: _, [], kvs, _, _ => by unfold tabL mergeK; simp
  | l :: ls, y :: ys, kvs, nd, h => by
    have h0 := h l List.mem_cons_self
    have nd' := List.nodup_cons.mp nd
    have ih := merge_tab ls ys (putK kvs (.inr ⟨#[l]⟩) (.str ⟨#[y]⟩)) nd'.2 (fun c hc => by
      rw [valV_put, if_neg (fun q => nd'.1 (by
        have q : (⟨#[c]⟩ : Str) = ⟨#[l]⟩ := by injection q
        injection q with q
        have : c = l := by simpa using q
        exact this ▸ hc))]
      exact h c (List.mem_cons_of_mem _ hc))
    have e : mergeK kvs (tabL (l :: ls) (y :: ys)) = mergeK (putK kvs (.inr ⟨#[l]⟩) (.str ⟨#[y]⟩)) (tabL ls ys) := rfl
    rw [e, ih, putK_new _ h0, List.append_assoc]
    rfl
structure W6 (CV CC v u d l m p q : Addr) (z y : Str) (cs ct : List Addr) (ns : List Int) (n : Int) (H : Hp) : Prop where
  vv : ValsAt CV CC H v z cs
  uu : ValsAt CV CC H u y ct
  tb : TabAt H d z y
  ls : H l = some (.lst (cs.map V.ref))
  lm : H m = some (.lst (ct.map V.ref))
  pn : ∃ i r, PenAt H p q ns i r ∧ i ≤ n
section
variable {CV CC v u d l m p q : Addr} {z y : Str} {cs ct : List Addr} {ns : List Int} {n n' : Int} {H H' : Hp}
theorem W6.same (h : W6 CV CC v u d l m p q z y cs ct ns n H) (s : Same H H') : W6 CV CC v u d l m p q z y cs ct ns n H' :=
  ⟨h.vv.same s, h.uu.same s, h.tb.same s, s _ _ h.ls, s _ _ h.lm, let ⟨i, r, k, j⟩ := h.pn; ⟨i, r, k.same s, j⟩⟩
theorem W6.mono (h : W6 CV CC v u d l m p q z y cs ct ns n H) (s : n ≤ n') : W6 CV CC v u d l m p q z y cs ct ns n' H :=
  ⟨h.vv, h.uu, h.tb, h.ls, h.lm, let ⟨i, r, k, j⟩ := h.pn; ⟨i, r, k, by omega⟩⟩
end
theorem shaped_lay (l : List Int) : (PyData.list (l.map PyData.int)).canLay0 = true := by
  have h1 : ∀ l : List Int, PyData.canLayAll0 (l.map PyData.int) = true := fun l => by
    induction l with
    | nil => rfl
    | cons a r ih => exact ih
  exact h1 l
def S0 (a p q : Addr) (ns : List Int) (m : Int) (σ : L2.St) (H : Hp) : Prop := (∃ x2 x3 x4 x5 x6 x7 x8 x9 x10 x11 x12 x13 x14 x15 x16 : Option V, σ = [some (.ref a), some (.ref p), x2, x3, x4, x5, x6, x7, x8, x9, x10, x11, x12, x13, x14, x15, x16]) ∧ ∃ i r, PenAt H p q ns i r ∧ i ≤ m
section
variable {K : PySem.W.Frag} {CV CC p : Addr} {z : Str} {cs : List Addr} {σ : L2.St} {H : Hp} {ta : TE}
theorem rd_letV (VV : VF K CV CC) (vv : ValsAt CV CC H p z cs) (ha : Rd ta σ H (.ref p)) : Rd (tFld K ta "letters") σ H (.str z) := by
  obtain ⟨dx, t, ex, _⟩ := vv.ob
  exact fun Q q => ha _ ⟨p, CV, dx, _, _, rfl, ex, VV.cv, VV.vl, valF_let, q⟩
end
theorem tabL_at {ls ys : List Nat} {j : Nat} {k : Key} {v : V} (h : (tabL ls ys)[j]? = some (k, v)) : ∃ c e, ls[j]? = some c ∧ ys[j]? = some e ∧ k = .inr ⟨#[c]⟩ ∧ v = .str ⟨#[e]⟩ := by
  unfold tabL at h
  rw [List.getElem?_map] at h
  cases q : (ls.zip ys)[j]? with
  | none => rw [q] at h; cases h
  | some pr =>
    rw [q] at h
    obtain ⟨c, e⟩ := pr
    obtain ⟨q1, q2⟩ := List.getElem?_zip_eq_some.mp q
    injection h with h
    injection h with h1 h2
    exact ⟨c, e, q1, q2, h1.symm, h2.symm⟩
theorem paired_ix {α β : Type} {F : α → β → Prop} : ∀ (l1 : List α) (l2 : List β), l1.length = l2.length → (∀ (n : Nat) a b, l1[n]? = some a → l2[n]? = some b → F a b) → Paired F l1 l2
  | [], [], _, _ => .nil
  | [], _ :: _, h, _ => by cases h
  | _ :: _, [], h, _ => by cases h
  | a :: l1, b :: l2, h, k => .cons (k 0 a b rfl rfl) (paired_ix l1 l2 (by simpa using h) fun n x y p q => k (n + 1) x y (by simpa using p) (by simpa using q))
def PairsAt (H : Hp) (z y : Str) (j : Nat) (ps : List Addr) : Prop := ps.length = j ∧ ∀ (n : Nat) (pr : Addr), ps[n]? = some pr → ∃ c e, z.cps.toList[n]? = some c ∧ y.cps.toList[n]? = some e ∧ H pr = some (.tup [.str ⟨#[e]⟩, .str ⟨#[c]⟩])
theorem refs_at {cs : List Addr} {j : Nat} {x : V} (h : (cs.map V.ref)[j]? = some x) : ∃ o, cs[j]? = some o ∧ x = .ref o := by
  rw [List.getElem?_map] at h
  cases e : cs[j]? with
  | none => rw [e] at h; cases h
  | some o => rw [e] at h; injection h with h; exact ⟨o, rfl, h.symm⟩

section
variable {P : Program} {w : World} {K : PySem.W.Frag} {mg : Str → Option Value} {base : Heap}

theorem ok_law {CV CC fE : Addr} {fdE : FuncData} {f : Addr} {fd : FuncData} (F : Fun K "law" "law" s_law f fd) (B : Blt mg) (nD : mg "dict" = none) (VV : VF K CV CC) (KV : KC K CC) (NE : NeOwn K CV) (OO : Ops P w K mg base CV CC) (D_eq : HasMe P w K mg base CX0 1 CV "__eq__" ["self", "other"] (spEqV CV))
    (D_law_pen : HasFn P w K mg base CX0 1 "_law_pen" ["_law_script"] (spPen K)) (D_law_letters : HasFn P w K mg base CX0 3 "_law_letters" ["_law_pen_here"] spLetters) (D_law_draw : HasFn P w K mg base CX0 1 "_law_draw" ["_law_pen_here", "_law_limit"] spDraw)
    (D_law_names : HasFn P w K mg base CX0 2 "_law_names" ["_law_pen_here", "_law_letters_here"] spNames) (D_renamed : HasMe P w K mg base CX0 6 CV "renamed" ["self", "names"] (spRenamed CV CC))
    (M_Values : HasMk P w K mg base CX0 4 CV "Values" ["self", "letters"] (spVals CV CC)) (ME : Meth K CV "each_cell" fE) (FE : Fun K "each_cell" "Values.each_cell" s_Values_each_cell fE fdE) (BE : Binds K fdE ["self"] [])
    (D_law_cell_right : HasFn P w K mg base CX0 5 "_law_cell_right" ["_law_values", "_law_other", "_law_table", "_law_cell"] (spRight6 CV CC)) :
    FnOk P w K mg base CX0 7 f fd ["_law_script"] (spLaw K) := by
  refine F.ok sc_law (fun vs H Q E h => ?_) (fun cdv A outer s H vs Q E hr h => ?_)
  · obtain ⟨a, ns, rfl, _⟩ := h
    rfl
  · obtain ⟨a, ns, rfl, hS, k⟩ := h
    obtain ⟨D_and, D_or, D_sub, D_inv, D_eqC, D_eqC2, D_lenC, D_boolC, D_within, D_sure⟩ := OO
    refine ⟨_, (pss_cons (ps_set (i := 1) sc_law.nd rfl (.inl rfl) (pe_fn D_law_pen (hr.mono (by decide)) pass0 (pa_cons (pv 0) pa_nil)))
      (pss_cons (ps_for PassesOwn.never rfl (pi_range1 (by rfl) B.n_range (pa_cons pe_int pa_nil)) (pg_name (i := 2) sc_law.nd rfl (.inl rfl)) (pss_cons (ps_set (i := 3) sc_law.nd rfl (.inl rfl) (pe_mk M_Values (hr.mono (by decide)) pass0 (pa_cons (pe_fn D_law_letters (hr.mono (by decide)) pass0 (pa_cons (pv 1) pa_nil)) pa_nil)))
      (pss_cons (ps_set (i := 4) sc_law.nd rfl (.inr rfl) (pe_fn D_law_names (hr.mono (by decide)) pass0 (pa_cons (pv 1) (pa_cons (pe_fld (pv 3) rfl) pa_nil))))
      (pss_cons (ps_set (i := 5) sc_law.nd rfl (.inl rfl) (pe_me (pv 3) D_renamed VV.cv (hr.mono (by decide)) pass0 (pa_cons (pv 4) pa_nil)))
      (pss_cons (ps_par (i := 6) (j := 7) rfl sc_law.nd rfl rfl (by decide) rfl rfl (pa_cons (pe_lcY rfl hr.depth (pyn_meth0 (hr.mono (by decide)) (pv 3) VV.cv ME FE VV.vb each_scope rfl BE (fun _ => rfl)) ⟨rfl, rfl, by decide +kernel, by decide +kernel⟩) (pa_cons (pe_lcY rfl hr.depth (pyn_meth0 (hr.mono (by decide)) (pv 5) VV.cv ME FE VV.vb each_scope rfl BE (fun _ => rfl)) ⟨rfl, rfl, by decide +kernel, by decide +kernel⟩) pa_nil)) (by rfl))
      (pss_cons (ps_if (pt_cmpR (op_neD hr.units) (pe_lc rfl sc_law.nd (pi_list (pv 6)) (blkOk_by (own := [("_law_cell", 15)]) (N := ["_law_script", "_law_pen_here", "_law_turn", "_law_values", "_law_table", "_law_other", "_law_some", "_law_far", "_law_k", "_law_back", "_law_j", "_law_one", "_law_two", "_law_first", "_law_second", "_law_cell", "_law_letter"]) (sc := defScope s_law) (by decide +kernel)) (fun _ _ _ _ _ => (pg_name (i := 15) sc_law.nd rfl (.inl rfl))) (fun _ _ _ _ _ => pts_nil) (fun _ _ _ _ _ => (pe_fldB (pv 15) rfl))) (pe_lc rfl sc_law.nd (pi_list (pv 7)) (blkOk_by (own := [("_law_cell", 15)]) (N := ["_law_script", "_law_pen_here", "_law_turn", "_law_values", "_law_table", "_law_other", "_law_some", "_law_far", "_law_k", "_law_back", "_law_j", "_law_one", "_law_two", "_law_first", "_law_second", "_law_cell", "_law_letter"]) (sc := defScope s_law) (by decide +kernel)) (fun _ _ _ _ _ => (pg_name (i := 15) sc_law.nd rfl (.inl rfl))) (fun _ _ _ _ _ => pts_nil) (fun _ _ _ _ _ => (pe_fldB (pv 15) rfl))) (nomark _)) (pss_one (ps_ret pe_bl)) pss_nil)
      (pss_cons (ps_for PassesOwn.never rfl (pi_range1 (by rfl) B.n_range (pa_cons (pe_callB call_len (by rfl) B.n_len (by decide +kernel) (pa_cons (pv 6) pa_nil)) pa_nil)) (pg_name (i := 8) sc_law.nd rfl (.inl rfl)) (pss_cons (ps_if (pt_not (pt_val (pe_fn D_law_cell_right (hr.mono (by decide)) pass0 (pa_cons (pv 3) (pa_cons (pv 5) (pa_cons (pv 4) (pa_cons (pe_ix ix_list (pv 6) (pv 8) (fun _ _ => rfl)) pa_nil))))))) (pss_one (ps_ret pe_bl)) pss_nil)
      (pss_cons (ps_set (i := 10) sc_law.nd rfl (.inl rfl) (pe_fn D_law_draw (hr.mono (by decide)) pass0 (pa_cons (pv 1) (pa_cons (pe_callB call_len (by rfl) B.n_len (by decide +kernel) (pa_cons (pv 6) pa_nil)) pa_nil))))
      (pss_cons (ps_par (i := 11) (j := 12) rfl sc_law.nd rfl rfl (by decide) rfl rfl (pa_cons (pe_ix ix_list (pv 6) (pv 8) (fun _ _ => rfl)) (pa_cons (pe_ix ix_list (pv 6) (pv 10) (fun _ _ => rfl)) pa_nil)) (by rfl))
      (pss_cons (ps_par (i := 13) (j := 14) rfl sc_law.nd rfl rfl (by decide) rfl rfl (pa_cons (pe_ix ix_list (pv 7) (pv 8) (fun _ _ => rfl)) (pa_cons (pe_ix ix_list (pv 7) (pv 10) (fun _ _ => rfl)) pa_nil)) (by rfl))
      (pss_cons (ps_if (pt_cmpR op_ne (pe_fld (pe_op (op_andMe D_and (hr.mono (by decide)) pass0 KV.sf) (pv 11) (pv 12)) rfl) (pe_fld (pe_op (op_andMe D_and (hr.mono (by decide)) pass0 KV.sf) (pv 13) (pv 14)) rfl) (nomark _)) (pss_one (ps_ret pe_bl)) pss_nil)
      (pss_cons (ps_if (pt_cmpR op_ne (pe_fld (pe_op (op_subMe D_sub (hr.mono (by decide)) pass0 KV.sf) (pv 11) (pv 12)) rfl) (pe_fld (pe_op (op_subMe D_sub (hr.mono (by decide)) pass0 KV.sf) (pv 13) (pv 14)) rfl) (nomark _)) (pss_one (ps_ret pe_bl)) pss_nil)
      (pss_cons (ps_if (pt_cmpR op_ne (pe_me (pv 11) D_within VV.cc (hr.mono (by decide)) pass0 (pa_cons (pv 12) pa_nil)) (pe_me (pv 13) D_within VV.cc (hr.mono (by decide)) pass0 (pa_cons (pv 14) pa_nil)) (nomark _)) (pss_one (ps_ret pe_bl)) pss_nil)
      (pss_one (ps_if (pt_cmpR op_ne (pe_fld (pe_op (op_orMe D_or (hr.mono (by decide)) pass0 KV.sf) (pv 11) (pv 12)) rfl) (pe_fld (pe_op (op_orMe D_or (hr.mono (by decide)) pass0 KV.sf) (pv 13) (pv 14)) rfl) (nomark _)) (pss_one (ps_ret pe_bl)) pss_nil))))))))))
      (pss_cons (ps_set (i := 9) sc_law.nd rfl (.inl rfl) (pe_callTy (call_dictP rfl) (by rfl) nD (by decide +kernel) (pa_cons (pe_lock (pe_lc rfl sc_law.nd (pi_keys (pv 4)) (blkOk_by (own := [("_law_letter", 16)]) (N := ["_law_script", "_law_pen_here", "_law_turn", "_law_values", "_law_table", "_law_other", "_law_some", "_law_far", "_law_k", "_law_back", "_law_j", "_law_one", "_law_two", "_law_first", "_law_second", "_law_cell", "_law_letter"]) (sc := defScope s_law) (by decide +kernel)) (fun _ _ _ _ _ => (pg_name (i := 16) sc_law.nd rfl (.inl rfl))) (fun _ _ _ _ _ => pts_nil) (fun _ _ _ _ _ => (pe_tup (pa_cons (pe_dgetB (u1 hr) (pv 4) (pv 16) (fun _ _ => rfl)) (pa_cons (pv 16) pa_nil)))))) pa_nil)))
      (pss_one (ps_if (PW.pt (pw_or (pt_cmpR (op_neMe D_eq (hr.mono (by decide)) pass0 NE) (pe_me (pv 5) D_renamed VV.cv (hr.mono (by decide)) pass0 (pa_cons (pv 9) pa_nil)) (pv 3) (nomark _)) (pw_or1 (pt_cmpR op_ne (pe_cmpR (op_eqMe D_eq (hr.mono (by decide)) pass0) (pv 3) (pv 5) (nomark _)) (pe_cmpR op_eq (pe_fld (pv 3) rfl) (pe_fld (pv 5) rfl) (nomark _)) (nomark _))))) (pss_one (ps_ret pe_bl)) pss_nil))))))))))
      (pss_one (ps_ret pe_bl)))), ?_⟩
    refine ⟨_, rfl, a, ns, rfl, hS, fun p q ms H0 s0 hn0 hp0 => ?_⟩
    refine ⟨4, rfl, by decide, by decide, ?_⟩
    refine for_range (lo := 0) (n := 4) (fun i => S0 a p q ms (60 * (i : Int))) ⟨⟨_, _, _, _, _, _, _, _, _, _, _, _, _, _, _, rfl⟩, 0, 0, hp0, by decide⟩ (fun i σ H hi h => ?_) (fun σ H h => k H)
    obtain ⟨⟨x2, x3, x4, x5, x6, x7, x8, x9, x10, x11, x12, x13, x14, x15, x16, rfl⟩, i0, r0, hp, hi0⟩ := h
    refine ⟨_, rfl, p, q, ms, i0, r0, rfl, hp, by omega, fun z i1 r1 H1 b1 hp1 hi1 gz => ?_⟩
    refine fun v dv hv hdv ne => ⟨v, dv, z, rfl, upd_same, gz, fun H2 cs b2 vv2 => ⟨rfl, ?_⟩⟩
    have s2 := made_same b2 hv hdv
    have hp2 := hp1.same s2
    obtain ⟨dx, t, hob, ht⟩ := vv2.ob
    refine ⟨_, rfl, _, rfl, v, CV, dx, _, _, rfl, hob, VV.cv, VV.vl, valF_let, p, q, ms, i1, r1, z, rfl, hp2, by omega, gz, fun d y i3 r3 H3 b3 hp3 hi3 tb3 => ?_⟩
    have vv3 := vals_but vv2 ⟨_, hp2.pen⟩ b3
    obtain ⟨dx3, t3, hob3, ht3⟩ := vv3.ob
    refine ⟨_, rfl, v, dx3, _, rfl, hob3, valF_no (by decide +kernel) (by decide +kernel), _, rfl, v, d, z, y, cs, rfl, vv3, tb3, fun u ct H4 s4 uu4 => ?_⟩
    have vv4 := vv3.same s4
    have tb4 := tb3.same s4
    have hp4 := hp3.same s4
    obtain ⟨dx4, t4, hob4, ht4⟩ := vv4.ob
    have ez := tb4.len
    have lc : cs.length ≤ 16 := by
      have h3 := Nat.pow_le_pow_right (n := 2) (by decide) vv2.good.hi
      have := vv2.len
      omega
    have l1 : 0 < cs.length := by rw [vv2.len]; exact Nat.pow_pos (by decide)
    have lct : ct.length = cs.length := by rw [uu4.len, vv4.len, ez]
    have big : 1000 < sizeLine := by decide
    refine ⟨_, rfl, v, dx4, _, t4, _, rfl, hob4, valF_no (by decide +kernel) (by decide +kernel), valF_by, SqT.of ht4, by rw [List.length_map]; omega, fun l hl => ?_⟩
    have s5 := same_new (o := HO.lst (cs.map V.ref)) hl
    have el5 : upd H4 l (HO.lst (cs.map V.ref)) l = some (.lst (cs.map V.ref)) := upd_same
    have lp : l ≠ p := (ne_of_none hp4.pen hl).symm
    generalize upd H4 l (HO.lst (cs.map V.ref)) = H5 at s5 el5 ⊢
    obtain ⟨dx5, t5, hob5, ht5⟩ := (uu4.same s5).ob
    refine ⟨_, rfl, u, dx5, _, t5, _, rfl, hob5, valF_no (by decide +kernel) (by decide +kernel), valF_by, SqT.of ht5, by rw [List.length_map]; omega, fun m hm => ?_⟩
    have s6 := s5.trans (same_new (o := HO.lst (ct.map V.ref)) hm)
    have el6 : upd H5 m (HO.lst (ct.map V.ref)) l = some (.lst (cs.map V.ref)) := same_new hm _ _ el5
    have em6 : upd H5 m (HO.lst (ct.map V.ref)) m = some (.lst (ct.map V.ref)) := upd_same
    have mp : m ≠ p := (ne_of_none (s5 _ _ hp4.pen) hm).symm
    generalize upd H5 m (HO.lst (ct.map V.ref)) = H6 at s6 el6 em6 ⊢
    have w6 : W6 CV CC v u d l m p q z y cs ct ms i3 H6 := ⟨vv4.same s6, uu4.same s6, tb4.same s6, el6, em6, i3, r3, hp4.same s6, Int.le_refl _⟩
    refine ⟨_, _, rfl, ?_⟩
    -- the numbers are the same
    refine ⟨_, rfl, l, rfl, ⟨_, SqL.of el6⟩, fun D hD => ?_⟩
    refine lc_list (K := K) (a := l) (xs := cs.map V.ref) (fun j H' => H' D = some (.lst (((List.range j).map fun n => ((n : Nat) : Int)).map V.int)) ∧ Same H6 H') ⟨upd_same, same_new hD⟩ (fun j H' _ h => SqL.of (h.2 _ _ el6)) (fun j x H7 hx h7 => ?_) (fun H7 h7 => ?_)
    · obtain ⟨o, ho, rfl⟩ := refs_at hx
      obtain ⟨dc, eo⟩ := (w6.vv.same h7.2).cell j o ho
      have lj := (List.getElem?_eq_some_iff.mp ho).1
      refine ⟨rfl, ?_⟩
      refine ⟨_, rfl, o, CC, dc, _, _, rfl, eo, VV.cc, VV.cn, cellF_num, _, h7.1, ?_, upd_same.trans ?_, same_upd h7.2 hD⟩
      · rw [List.length_map, List.length_map, List.length_range]; omega
      · rw [List.range_succ, List.map_append, List.map_append]; rfl
    refine ⟨_, rfl, m, rfl, ⟨_, SqL.of (h7.2 _ _ em6)⟩, fun D2 hD2 => ?_⟩
    have f2 : H6 D2 = none := h7.2.free hD2
    refine lc_list (K := K) (a := m) (xs := ct.map V.ref) (fun j H' => H' D2 = some (.lst (((List.range j).map fun n => ((n : Nat) : Int)).map V.int)) ∧ Same H7 H') ⟨upd_same, same_new hD2⟩ (fun j H' _ h => SqL.of (h.2 _ _ (h7.2 _ _ em6))) (fun j x H8 hx h8 => ?_) (fun H8 h8 => ?_)
    · obtain ⟨o, ho, rfl⟩ := refs_at hx
      obtain ⟨dc, eo⟩ := (w6.uu.same (h7.2.trans h8.2)).cell j o ho
      have lj := (List.getElem?_eq_some_iff.mp ho).1
      refine ⟨rfl, ?_⟩
      refine ⟨_, rfl, o, CC, dc, _, _, rfl, eo, VV.cc, VV.cn, cellF_num, _, h8.1, ?_, upd_same.trans ?_, same_upd h8.2 hD2⟩
      · rw [List.length_map, List.length_map, List.length_range]; omega
      · rw [List.range_succ, List.map_append, List.map_append]; rfl
    have h71 := h8.2 _ _ h7.1
    have h81 := h8.1
    rw [List.length_map] at h71 h81
    rw [lct] at h81
    refine ⟨_, _, dp_ints (SqL.of h71), dp_ints (SqL.of h81), shaped_ints _, shaped_ints _, _, rfl, ?_⟩
    rw [PySem.SeqAt.eqv_refl (.list _) (shaped_lay _)]
    refine iteF ?_
    have w8 := w6.same (h7.2.trans h8.2)
    clear h71 h81 h7 h8 hD hD2
    refine ⟨_, rfl, _, _, rfl, .inl ⟨_, SqL.of w8.ls, rfl⟩, _, rfl, Int.natCast_nonneg _, by rw [List.length_map]; omega, ?_⟩
    rw [Int.toNat_natCast]
    refine for_range (lo := 0) (n := (cs.map V.ref).length) (fun j σ H' => (∃ x8 x9 x10 x11 x12 x13 x14 x15 x16 : Option V, σ = [some (.ref a), some (.ref p), some (.int (0 + (i : Int))), some (.ref v), some (.ref d), some (.ref u), some (.ref l), some (.ref m), x8, x9, x10, x11, x12, x13, x14, x15, x16]) ∧ W6 CV CC v u d l m p q z y cs ct ms (i3 + (j : Int)) H')
      ⟨⟨_, _, _, _, _, _, _, _, _, rfl⟩, w8.mono (by omega)⟩ (fun j σ H9 hj h9 => ?_) (fun σ H9 h9 => ?_)
    · obtain ⟨⟨x8, x9, x10, x11, x12, x13, x14, x15, x16, rfl⟩, w9⟩ := h9
      have lj : j < cs.length := by rw [List.length_map] at hj; exact hj
      obtain ⟨o, ho⟩ : ∃ o, cs[j]? = some o := ⟨_, List.getElem?_eq_getElem lj⟩
      obtain ⟨o', ho'⟩ : ∃ o, ct[j]? = some o := ⟨_, List.getElem?_eq_getElem (by rw [lct]; exact lj)⟩
      have zj : (0 : Int) + (j : Int) = (j : Int) := Int.zero_add _
      refine ⟨_, rfl, _, rfl, _, rfl, _, rfl, _, rfl, l, _, _, _, rfl, rfl, SqL.of w9.ls, by rw [zj]; exact atN ho, v, u, d, o, z, y, cs, ct, j, rfl, w9.vv, w9.uu, w9.tb, ho, fun H10 s10 => ⟨true, rfl, iteF ?_⟩⟩
      have w10 := w9.same s10
      obtain ⟨i5, r5, hp5, hi5⟩ := w10.pn
      refine ⟨_, rfl, _, rfl, _, _, rfl, .inl ⟨_, SqL.of w10.ls, rfl⟩, p, q, ms, i5, r5, _, rfl, hp5, by rw [List.length_map]; omega, by rw [List.length_map]; omega, by omega, fun dd i6 r6 H11 d0 d1 hi6 hp6 b6 => ?_⟩
      rw [List.length_map] at d1
      obtain ⟨b, rfl⟩ : ∃ b : Nat, dd = (b : Int) := ⟨dd.toNat, by omega⟩
      have lb : b < cs.length := by omega
      obtain ⟨e, he⟩ : ∃ o, cs[b]? = some o := ⟨_, List.getElem?_eq_getElem lb⟩
      obtain ⟨e', he'⟩ : ∃ o, ct[b]? = some o := ⟨_, List.getElem?_eq_getElem (by rw [lct]; exact lb)⟩
      have w11 : W6 CV CC v u d l m p q z y cs ct ms (i3 + ((j + 1 : Nat) : Int)) H11 := ⟨vals_but w10.vv ⟨_, hp5.pen⟩ b6, vals_but w10.uu ⟨_, hp5.pen⟩ b6, tab_but w10.tb ⟨_, hp5.pen⟩ b6, b6 _ _ w10.ls lp, b6 _ _ w10.lm mp, i6, r6, hp6, by omega⟩
      refine ⟨_, rfl, _, rfl, l, _, _, _, rfl, rfl, SqL.of w11.ls, by rw [zj]; exact atN ho, _, rfl, _, rfl, l, _, _, _, rfl, rfl, SqL.of w11.ls, atN he, _, _, rfl, ?_⟩
      refine ⟨_, rfl, _, rfl, m, _, _, _, rfl, rfl, SqL.of w11.lm, by rw [zj]; exact atN ho', _, rfl, _, rfl, m, _, _, _, rfl, rfl, SqL.of w11.lm, atN he', _, _, rfl, ?_⟩
      have va := w11.vv
      have ua := w11.uu
      refine seq_no (rt_cmp (rd_nei (rd_num VV va (rc_and va (rc_var rfl ho) (rc_var rfl he))) (rd_num VV ua (rc_and ua (rc_var rfl ho') (rc_var rfl he'))))) (by simp) ?_
      refine seq_no (rt_cmp (rd_nei (rd_num VV va (rc_sub va (rc_var rfl ho) (rc_var rfl he))) (rd_num VV ua (rc_sub ua (rc_var rfl ho') (rc_var rfl he'))))) (by simp) ?_
      refine seq_no (rt_cmp (rd_neb (rd_within va (rc_var rfl ho) (rc_var rfl he)) (rd_within ua (rc_var rfl ho') (rc_var rfl he')))) (by simp) ?_
      refine one_no (rt_cmp (rd_nei (rd_num VV va (rc_or va (rc_var rfl ho) (rc_var rfl he))) (rd_num VV ua (rc_or ua (rc_var rfl ho') (rc_var rfl he'))))) (by simp) ?_
      exact ⟨⟨_, _, _, _, _, _, _, _, _, rfl⟩, w11⟩
    · obtain ⟨⟨x8, x9, x10, x11, x12, x13, x14, x15, x16, rfl⟩, w9⟩ := h9
      rw [List.length_map] at w9
      have tb := w9.tb
      have zl : z.cps.toList.length = y.cps.toList.length := by rw [Array.length_toList, Array.length_toList]; exact ez
      have z4 := tb.gz.hi
      have tl : (tabL z.cps.toList y.cps.toList).length = z.cps.size := by rw [tabL_len zl, Array.length_toList]
      refine ⟨d, .dK (tabL z.cps.toList y.cps.toList), tb.at_, trivial, fun od => ?_⟩
      refine ⟨_, rfl, d, od, rfl, .inl ⟨_, upd_same, fun D hD => ?_⟩⟩
      refine lc_it walk_keys (fun j H' => ∃ ps : List Addr, H' D = some (.lst (ps.map V.ref)) ∧ PairsAt H' z y j ps ∧ Same (upd H9 d (.frz od (.dK (tabL z.cps.toList y.cps.toList)))) H') ⟨[], upd_same, ⟨rfl, fun n pr e => by cases e⟩, same_new hD⟩ (fun j H' _ h => let ⟨_, _, _, h⟩ := h; h _ _ upd_same) (fun j x H'' H' hj h yl => ?_) (fun H' h => ?_)
      · obtain ⟨ps, g1, g2, g3⟩ := h
        obtain ⟨rfl, kk, vv, hkv, rfl⟩ := yl
        obtain ⟨c, e, hc, he, rfl, rfl⟩ := tabL_at hkv
        have fz := g3 _ _ (upd_same (a := d))
        have dg : DGet H' d (.str ⟨#[c]⟩) (some (.str ⟨#[e]⟩)) := .inl ⟨_, .inr ⟨#[c]⟩, .inr ⟨od, fz⟩, rfl, (tabL_get _ _ j tb.gz.nd hc he).symm⟩
        refine ⟨rfl, ?_⟩
        refine ⟨_, rfl, _, rfl, d, _, rfl, dg, _, rfl, by show 2 ≤ sizeLine; decide, fun T hT => ?_⟩
        have g1' := same_new (o := HO.tup [V.str ⟨#[e]⟩, V.str ⟨#[c]⟩]) hT _ _ g1
        have DT : D ≠ T := ne_of_none g1 hT
        rw [tl] at hj
        refine ⟨_, g1', by rw [List.length_map, g2.1]; omega, ps ++ [T], by rw [upd_same, List.map_append]; rfl, ⟨by rw [List.length_append, g2.1]; rfl, fun n pr q => ?_⟩, ?_⟩
        · by_cases hn : n < ps.length
          · rw [List.getElem?_append_left hn] at q
            obtain ⟨c2, e2, q1, q2, q3⟩ := g2.2 n pr q
            exact ⟨c2, e2, q1, q2, by rw [upd_ne (fun w => by rw [w, g1] at q3; cases q3), upd_ne (ne_of_none q3 hT)]; exact q3⟩
          · have ln := (List.getElem?_eq_some_iff.mp q).1
            rw [List.length_append, List.length_singleton] at ln
            have en : n = ps.length := by omega
            subst en
            rw [List.getElem?_append_right (Nat.le_refl _), Nat.sub_self] at q
            have q : T = pr := by simpa using q
            subst q
            rw [g2.1]
            exact ⟨c, e, hc, he, by rw [upd_ne DT.symm]; exact upd_same⟩
        · exact fun b o q => by
            have q1 := g3 b o q
            have q2 := same_new (o := HO.tup [V.str ⟨#[e]⟩, V.str ⟨#[c]⟩]) hT _ _ q1
            rw [upd_ne (fun w => by rw [w] at q; rw [hD] at q; cases q)]
            exact q2
      · obtain ⟨ps, g1, g2, g3⟩ := h
        rw [tl] at g2
        have fz := g3 _ _ (upd_same (a := d))
        refine ⟨fz, ?_⟩
        have sH : Same H9 (upd H' d (.dK (tabL z.cps.toList y.cps.toList))) := fun b o q => by
          by_cases w : b = d
          · rw [w, upd_same, ← tb.at_, ← w]; exact q
          · rw [upd_ne w]; exact g3 b o (by rw [upd_ne w]; exact q)
        have Dd : D ≠ d := fun w => by rw [w, fz] at g1; cases g1
        have w10 := w9.same sH
        have prs : Paired (fun p (kv : Key × V) => SqT K (upd H' d (.dK (tabL z.cps.toList y.cps.toList))) p [kV kv.1, kv.2]) ps (tabL y.cps.toList z.cps.toList) := by
          refine paired_ix _ _ (by rw [g2.1, tabL_len zl.symm, Array.length_toList, ez]) fun n pr kv q1 q2 => ?_
          obtain ⟨c, e, hc, he, q3⟩ := g2.2 n pr q1
          obtain ⟨k2, v2⟩ := kv
          obtain ⟨c2, e2, hc2, he2, rfl, rfl⟩ := tabL_at q2
          have c2e : c2 = e := by rw [he] at hc2; injection hc2 with q; exact q.symm
          have e2c : e2 = c := by rw [hc] at he2; injection he2 with q; exact q.symm
          subst c2e; subst e2c
          exact SqT.of (by rw [upd_ne (fun w => by rw [w, fz] at q3; cases q3)]; exact q3)
        refine ⟨D, ps, tabL y.cps.toList z.cps.toList, rfl, SqL.of (by rw [upd_ne Dd]; exact g1), prs, fun e he => ?_⟩
        have em : mergeK [] (tabL y.cps.toList z.cps.toList) = tabL y.cps.toList z.cps.toList := merge_tab _ _ [] tb.gy.nd (fun _ _ => rfl)
        rw [em]
        have s11 := same_new (o := HO.dK (tabL y.cps.toList z.cps.toList)) he
        have w11 := w10.same s11
        have tb11 : TabAt (upd (upd H' d (.dK (tabL z.cps.toList y.cps.toList))) e (.dK (tabL y.cps.toList z.cps.toList))) e y z := ⟨upd_same, tb.gy, tb.gz, ez.symm⟩
        generalize upd (upd H' d (.dK (tabL z.cps.toList y.cps.toList))) e (.dK (tabL y.cps.toList z.cps.toList)) = H11 at w11 tb11 ⊢
        obtain ⟨du, tu, hu, _⟩ := w11.uu.ob
        refine ⟨_, rfl, u, du, _, rfl, hu, valF_no (by decide +kernel) (by decide +kernel), _, rfl, u, e, y, z, ct, rfl, w11.uu, tb11, fun w cw H12 s12 vw => ?_⟩
        have w12 := w11.same s12
        obtain ⟨dw, tw, hw, _⟩ := vw.ob
        obtain ⟨dv2, tv2, hv2, _⟩ := w12.vv.ob
        refine ⟨_, rfl, w, v, dw, dv2, _, _, rfl, rfl, hw, hv2, w, dw, _, z, _, rfl, hw, valF_let, .inl ⟨v, dv2, _, z, rfl, hv2, valF_let, _, rfl, _, rfl, iteNS rfl ?_⟩⟩
        refine (rt_cmp (rd_neb (rd_eqV w12.vv w12.uu (rd_var rfl) (rd_var rfl)) (rd_eqs (rd_letV VV w12.vv (rd_var rfl)) (rd_letV VV w12.uu (rd_var rfl))))) _ ?_
        have eb : (decide (z = y) != decide (z = y)) = false := by simp
        rw [eb]
        refine iteF ?_
        obtain ⟨i9, r9, hp9, hi9⟩ := w12.pn
        exact ⟨⟨_, _, _, _, _, _, _, _, _, _, _, _, _, _, _, rfl⟩, i9, r9, hp9, by omega⟩
end
end K6

namespace K6
open PySem L2 LB PyProof.Rows
theorem up {P : Program} {w : World} {K : PySem.W.Frag} {mg : Str → Option Value} {base : Heap} {CX : CXT} {k : Nat} {f : Addr} {fd : FuncData} {ps : List Str} {sp : Sp} (F : FnOk P w K mg base CX k f fd ps sp) : FnOk P w K mg base CX (k + 1) f fd ps sp :=
  ⟨F.len, fun A outer s H args us vs Q E hr e0 hb r h => F.run A outer s H args us vs Q E (hr.mono (Nat.le_succ _)) e0 hb r h⟩
section
variable {P : Program} {w : World} {K : PySem.W.Frag} {mg : Str → Option Value} {base : Heap} {h : Heap}
theorem all_mk {l : PySem.W.OpenLaw} {fa : Addr} {CValues CCell fis_letter_of fare_unlike_letters iCell fare_values_letters iValues mValues_DDeqDD pValues_full gValues_full pCell_is_sure gCell_is_sure fis_integer fis_from mValues_numbered fnumber_of_letters mValues_cell fare_names mValues_renamed fsame_values mCell_DDandDD mCell_DDorDD mCell_DDsubDD mCell_DDinvertDD mCell_DDeqDD mCell_DDlenDD mCell_DDboolDD mCell_within mValues_each_cell flaw_pen flaw_draw flaw_pick flaw_letters flaw_names flaw_cell_right flaw : Addr} (X : K.In h) (G : h.Ns mainGlobals mg) (hfa : mg "law" = some (.ref fa))
    (blen : PySem.W.nsIn K mainGlobals "len" = some none)
    (blist : PySem.W.nsIn K mainGlobals "list" = some none)
    (btuple : PySem.W.nsIn K mainGlobals "tuple" = some none)
    (bint : PySem.W.nsIn K mainGlobals "int" = some none)
    (bstr : PySem.W.nsIn K mainGlobals "str" = some none)
    (bbool : PySem.W.nsIn K mainGlobals "bool" = some none)
    (babs : PySem.W.nsIn K mainGlobals "abs" = some none)
    (bsum : PySem.W.nsIn K mainGlobals "sum" = some none)
    (ball : PySem.W.nsIn K mainGlobals "all" = some none)
    (bset : PySem.W.nsIn K mainGlobals "set" = some none)
    (brange : PySem.W.nsIn K mainGlobals "range" = some none)
    (benumerate : PySem.W.nsIn K mainGlobals "enumerate" = some none)
    (bisinstance : PySem.W.nsIn K mainGlobals "isinstance" = some none)
    (bdict : PySem.W.nsIn K mainGlobals "dict" = some none)
    (gCValues : PySem.W.nsIn K mainGlobals "Values" = some (some (.ref CValues)))
    (mkValues : PySem.W.makesIn K CValues = true)
    (kcValues : PySem.W.keepIn K (.ref CValues) = true)
    (pgValues : PySem.W.plainGet K CValues Str.empty = true)
    (hdValues : PySem.W.hasDictIn K CValues = true)
    (poValues : PySem.W.plainOver K CValues = true)
    (saValues : PySem.W.findIn K (.ref CValues) "__setattr__" = some (some (.builtin "object.__setattr__")))
    (gCCell : PySem.W.nsIn K mainGlobals "Cell" = some (some (.ref CCell)))
    (mkCell : PySem.W.makesIn K CCell = true)
    (kcCell : PySem.W.keepIn K (.ref CCell) = true)
    (pgCell : PySem.W.plainGet K CCell Str.empty = true)
    (hdCell : PySem.W.hasDictIn K CCell = true)
    (poCell : PySem.W.plainOver K CCell = true)
    (saCell : PySem.W.findIn K (.ref CCell) "__setattr__" = some (some (.builtin "object.__setattr__")))
    (noValuesletters : PySem.W.findIn K (.ref CValues) "letters" = some none)
    (noValuesby_number : PySem.W.findIn K (.ref CValues) "by_number" = some none)
    (noCellalphabet : PySem.W.findIn K (.ref CCell) "alphabet" = some none)
    (noCellnumber : PySem.W.findIn K (.ref CCell) "number" = some none)
    (noCellletters : PySem.W.findIn K (.ref CCell) "letters" = some none)
    (rdV : PySem.W.readsIn K CValues (.type "type") = true)
    (gaV : PySem.W.specialIn K (.ref CValues) "__getattribute__" = some (some (.builtin "type.__getattribute__")))
    (most : LB.MostX K CValues)
    (small : LB.TextX K "SMALL_LETTERS" K6.SM)
    (neV : CValues ≠ CCell)
    (haValues : PySem.W.findIn K (.ref CValues) "__class__" = some (some (.builtin "object.__class__")))
    (hn : PySem.W.specialIn K (.builtin "object.__class__") "__get__" = some (some (.builtin "getset_descriptor.__get__")))
    (htk : PySem.W.takesIn K (.builtin "object.__class__") = some true)
    (hmValues : PySem.W.mroIn K CValues (.type "object") = some true)
    (haCell : PySem.W.findIn K (.ref CCell) "__class__" = some (some (.builtin "object.__class__")))
    (hmCell : PySem.W.mroIn K CCell (.type "object") = some true)
    (kitValues_Values : PySem.W.kitOne K (.ref CValues) (.ref CValues) = some true)
    (kitstr_Values : PySem.W.kitOne K (.type "str") (.ref CValues) = some false)
    (kitNoneType_Values : PySem.W.kitOne K (.type "NoneType") (.ref CValues) = some false)
    (kitValues_str : PySem.W.kitOne K (.ref CValues) (.type "str") = some false)
    (kitCell_Cell : PySem.W.kitOne K (.ref CCell) (.ref CCell) = some true)
    (nneV : PySem.W.findIn K (.ref CValues) "__ne__" = some (some (.builtin "object.__ne__")))
    (nsubV : PySem.W.subIn K (.ref CValues) (.type "object") = some true)
    (nneC : PySem.W.findIn K (.ref CCell) "__ne__" = some (some (.builtin "object.__ne__")))
    (nsubC : PySem.W.subIn K (.ref CCell) (.type "object") = some true)
    (sfC : PySem.W.selfFirst K CCell = true)
    (boC : PySem.W.baseObj K CCell = true)
    (ni1 : PySem.W.findIn K (.ref CCell) "__isub__" = some none)
    (ni2 : PySem.W.findIn K (.type "object") "__isub__" = some none)
    (ais_letter_of : PySem.W.nsIn K mainGlobals "is_letter_of" = some (some (.ref fis_letter_of)))
    (xfis_letter_of : LB.FnX K fis_letter_of "is_letter_of" "is_letter_of" s_is_letter_of)
    (aare_unlike_letters : PySem.W.nsIn K mainGlobals "are_unlike_letters" = some (some (.ref fare_unlike_letters)))
    (xfare_unlike_letters : LB.FnX K fare_unlike_letters "are_unlike_letters" "are_unlike_letters" s_are_unlike_letters)
    (aiCell : PySem.W.findIn K (.ref CCell) "__init__" = some (some (.ref iCell)))
    (ifCell : PySem.W.isFn K (.ref iCell) = true)
    (xiCell : LB.FnX K iCell "__init__" "Cell.__init__" s_CellDD_initDD)
    (aare_values_letters : PySem.W.nsIn K mainGlobals "are_values_letters" = some (some (.ref fare_values_letters)))
    (xfare_values_letters : LB.FnX K fare_values_letters "are_values_letters" "are_values_letters" s_are_values_letters)
    (aiValues : PySem.W.findIn K (.ref CValues) "__init__" = some (some (.ref iValues)))
    (ifValues : PySem.W.isFn K (.ref iValues) = true)
    (xiValues : LB.FnX K iValues "__init__" "Values.__init__" s_ValuesDD_initDD)
    (ammValues_DDeqDD : PySem.W.findIn K (.ref CValues) "__eq__" = some (some (.ref mValues_DDeqDD)))
    (immValues_DDeqDD : PySem.W.isFn K (.ref mValues_DDeqDD) = true)
    (xmValues_DDeqDD : LB.FnX K mValues_DDeqDD "__eq__" "Values.__eq__" s_ValuesDD_eqDD)
    (appValues_full : PySem.W.findIn K (.ref CValues) "full" = some (some (.ref pValues_full)))
    (gppValues_full : PySem.W.specialIn K (.ref pValues_full) "__get__" = some (some (.builtin "property.__get__")))
    (tppValues_full : PySem.W.takesIn K (.ref pValues_full) = some true)
    (rppValues_full : LB.RecX K pValues_full gValues_full)
    (xgValues_full : LB.FnX K gValues_full "full" "Values.full" s_Values_full)
    (appCell_is_sure : PySem.W.findIn K (.ref CCell) "is_sure" = some (some (.ref pCell_is_sure)))
    (gppCell_is_sure : PySem.W.specialIn K (.ref pCell_is_sure) "__get__" = some (some (.builtin "property.__get__")))
    (tppCell_is_sure : PySem.W.takesIn K (.ref pCell_is_sure) = some true)
    (rppCell_is_sure : LB.RecX K pCell_is_sure gCell_is_sure)
    (xgCell_is_sure : LB.FnX K gCell_is_sure "is_sure" "Cell.is_sure" s_Cell_is_sure)
    (ais_integer : PySem.W.nsIn K mainGlobals "is_integer" = some (some (.ref fis_integer)))
    (xfis_integer : LB.FnX K fis_integer "is_integer" "is_integer" s_is_integer)
    (ais_from : PySem.W.nsIn K mainGlobals "is_from" = some (some (.ref fis_from)))
    (xfis_from : LB.FnX K fis_from "is_from" "is_from" s_is_from)
    (ammValues_numbered : PySem.W.findIn K (.ref CValues) "numbered" = some (some (.ref mValues_numbered)))
    (immValues_numbered : PySem.W.isFn K (.ref mValues_numbered) = true)
    (xmValues_numbered : LB.FnX K mValues_numbered "numbered" "Values.numbered" s_Values_numbered)
    (anumber_of_letters : PySem.W.nsIn K mainGlobals "number_of_letters" = some (some (.ref fnumber_of_letters)))
    (xfnumber_of_letters : LB.FnX K fnumber_of_letters "number_of_letters" "number_of_letters" s_number_of_letters)
    (ammValues_cell : PySem.W.findIn K (.ref CValues) "cell" = some (some (.ref mValues_cell)))
    (immValues_cell : PySem.W.isFn K (.ref mValues_cell) = true)
    (xmValues_cell : LB.FnX K mValues_cell "cell" "Values.cell" s_Values_cell)
    (aare_names : PySem.W.nsIn K mainGlobals "are_names" = some (some (.ref fare_names)))
    (xfare_names : LB.FnX K fare_names "are_names" "are_names" s_are_names)
    (ammValues_renamed : PySem.W.findIn K (.ref CValues) "renamed" = some (some (.ref mValues_renamed)))
    (immValues_renamed : PySem.W.isFn K (.ref mValues_renamed) = true)
    (xmValues_renamed : LB.FnX K mValues_renamed "renamed" "Values.renamed" s_Values_renamed)
    (asame_values : PySem.W.nsIn K mainGlobals "same_values" = some (some (.ref fsame_values)))
    (xfsame_values : LB.FnX K fsame_values "same_values" "same_values" s_same_values)
    (ammCell_DDandDD : PySem.W.findIn K (.ref CCell) "__and__" = some (some (.ref mCell_DDandDD)))
    (immCell_DDandDD : PySem.W.isFn K (.ref mCell_DDandDD) = true)
    (xmCell_DDandDD : LB.FnX K mCell_DDandDD "__and__" "Cell.__and__" s_CellDD_andDD)
    (ammCell_DDorDD : PySem.W.findIn K (.ref CCell) "__or__" = some (some (.ref mCell_DDorDD)))
    (immCell_DDorDD : PySem.W.isFn K (.ref mCell_DDorDD) = true)
    (xmCell_DDorDD : LB.FnX K mCell_DDorDD "__or__" "Cell.__or__" s_CellDD_orDD)
    (ammCell_DDsubDD : PySem.W.findIn K (.ref CCell) "__sub__" = some (some (.ref mCell_DDsubDD)))
    (immCell_DDsubDD : PySem.W.isFn K (.ref mCell_DDsubDD) = true)
    (xmCell_DDsubDD : LB.FnX K mCell_DDsubDD "__sub__" "Cell.__sub__" s_CellDD_subDD)
    (ammCell_DDinvertDD : PySem.W.findIn K (.ref CCell) "__invert__" = some (some (.ref mCell_DDinvertDD)))
    (immCell_DDinvertDD : PySem.W.isFn K (.ref mCell_DDinvertDD) = true)
    (xmCell_DDinvertDD : LB.FnX K mCell_DDinvertDD "__invert__" "Cell.__invert__" s_CellDD_invertDD)
    (ammCell_DDeqDD : PySem.W.findIn K (.ref CCell) "__eq__" = some (some (.ref mCell_DDeqDD)))
    (immCell_DDeqDD : PySem.W.isFn K (.ref mCell_DDeqDD) = true)
    (xmCell_DDeqDD : LB.FnX K mCell_DDeqDD "__eq__" "Cell.__eq__" s_CellDD_eqDD)
    (ammCell_DDlenDD : PySem.W.findIn K (.ref CCell) "__len__" = some (some (.ref mCell_DDlenDD)))
    (immCell_DDlenDD : PySem.W.isFn K (.ref mCell_DDlenDD) = true)
    (xmCell_DDlenDD : LB.FnX K mCell_DDlenDD "__len__" "Cell.__len__" s_CellDD_lenDD)
    (ammCell_DDboolDD : PySem.W.findIn K (.ref CCell) "__bool__" = some (some (.ref mCell_DDboolDD)))
    (immCell_DDboolDD : PySem.W.isFn K (.ref mCell_DDboolDD) = true)
    (xmCell_DDboolDD : LB.FnX K mCell_DDboolDD "__bool__" "Cell.__bool__" s_CellDD_boolDD)
    (ammCell_within : PySem.W.findIn K (.ref CCell) "within" = some (some (.ref mCell_within)))
    (immCell_within : PySem.W.isFn K (.ref mCell_within) = true)
    (xmCell_within : LB.FnX K mCell_within "within" "Cell.within" s_Cell_within)
    (ammValues_each_cell : PySem.W.findIn K (.ref CValues) "each_cell" = some (some (.ref mValues_each_cell)))
    (immValues_each_cell : PySem.W.isFn K (.ref mValues_each_cell) = true)
    (xmValues_each_cell : LB.FnX K mValues_each_cell "each_cell" "Values.each_cell" s_Values_each_cell)
    (alaw_pen : PySem.W.nsIn K mainGlobals "_law_pen" = some (some (.ref flaw_pen)))
    (xflaw_pen : LB.FnX K flaw_pen "_law_pen" "_law_pen" s_law_pen)
    (alaw_draw : PySem.W.nsIn K mainGlobals "_law_draw" = some (some (.ref flaw_draw)))
    (xflaw_draw : LB.FnX K flaw_draw "_law_draw" "_law_draw" s_law_draw)
    (alaw_pick : PySem.W.nsIn K mainGlobals "_law_pick" = some (some (.ref flaw_pick)))
    (xflaw_pick : LB.FnX K flaw_pick "_law_pick" "_law_pick" s_law_pick)
    (alaw_letters : PySem.W.nsIn K mainGlobals "_law_letters" = some (some (.ref flaw_letters)))
    (xflaw_letters : LB.FnX K flaw_letters "_law_letters" "_law_letters" s_law_letters)
    (alaw_names : PySem.W.nsIn K mainGlobals "_law_names" = some (some (.ref flaw_names)))
    (xflaw_names : LB.FnX K flaw_names "_law_names" "_law_names" s_law_names)
    (alaw_cell_right : PySem.W.nsIn K mainGlobals "_law_cell_right" = some (some (.ref flaw_cell_right)))
    (xflaw_cell_right : LB.FnX K flaw_cell_right "_law_cell_right" "_law_cell_right" s_law_cell_right)
    (alaw : PySem.W.nsIn K mainGlobals "law" = some (some (.ref flaw)))
    (xflaw : LB.FnX K flaw "law" "law" s_law) :
    ∃ fd : FuncData, (∀ (s : Shared) (v : Value), BindsTo s fd ⟨[v], []⟩ [("_law_script", v)]) ∧ ∀ base : Heap, K.In base → base.Ns mainGlobals mg → FnOk l.prog w K mg base CX0 7 fa fd ["_law_script"] (spLaw K) := by
  have e := hfa.symm.trans (PySem.W.mg_of X G alaw)
  cases e
  obtain ⟨fdL, FL⟩ := xflaw.get
  refine ⟨fdL, fun s v => ?_, fun base _ _ => ?_⟩
  · obtain ⟨oc, od, kV, doc, pm, an, cdv, ct, osl, e1, e2, e3⟩ := FL.ex
    subst e1
    exact .of_eq rfl
  obtain ⟨zS, tS, eS, qS⟩ := small
  subst qS
  obtain ⟨tM, eM⟩ := most
  have B : Blt mg := ⟨PySem.W.mg_none_of X G blen, PySem.W.mg_none_of X G blist, PySem.W.mg_none_of X G btuple, PySem.W.mg_none_of X G bint, PySem.W.mg_none_of X G bstr, PySem.W.mg_none_of X G bbool, PySem.W.mg_none_of X G babs, PySem.W.mg_none_of X G bsum, PySem.W.mg_none_of X G ball, PySem.W.mg_none_of X G bset, PySem.W.mg_none_of X G brange, PySem.W.mg_none_of X G benumerate, PySem.W.mg_none_of X G bisinstance⟩
  have nD := PySem.W.mg_none_of X G bdict
  have VV : VF K CValues CCell := ⟨⟨pgValues, hdValues, poValues, saValues⟩, neV, ⟨pgCell, hdCell, poCell, saCell⟩, noValuesletters, noValuesby_number, noCellalphabet, noCellnumber, noCellletters, ⟨_, _, ⟨rdV, gaV⟩, ⟨eM, ⟨tM, rfl⟩⟩⟩⟩
  have G0 : Consts mg CValues tS := ⟨PySem.W.mg_of X G eS, PySem.W.mg_of X G gCValues⟩
  have KV : KV K CValues := ⟨⟨⟨pgValues, hdValues, poValues, saValues⟩, haValues, hn, htk, hmValues⟩, kitValues_Values, kitstr_Values, kitNoneType_Values, kitValues_str⟩
  have KC0 : KC K CCell := ⟨⟨⟨pgCell, hdCell, poCell, saCell⟩, haCell, hn, htk, hmCell⟩, kitCell_Cell, sfC, ⟨boC, ni1, ni2⟩⟩
  have NE : NeOwn K CValues := ⟨nneV, nsubV⟩
  have NEC : NeOwn K CCell := ⟨nneC, nsubC⟩
  have D_is_letter_of := has_fn (P := l.prog) (w := w) (base := base) (k := 1) (ps := ["letters", "value"]) X G ais_letter_of xfis_letter_of (fun _ _ _ _ _ _ us hl => match us, hl with | [_, _], _ => rfl) fun fd F => ok_let F B
  have D_are_unlike_letters := has_fn (P := l.prog) (w := w) (base := base) (k := 2) (ps := ["letters"]) X G aare_unlike_letters xfare_unlike_letters (fun _ _ _ _ _ _ us hl => match us, hl with | [_], _ => rfl) fun fd F => ok_unl F B G0 D_is_letter_of
  have D_unlL := has_fn (P := l.prog) (w := w) (base := base) (k := 2) (ps := ["letters"]) X G aare_unlike_letters xfare_unlike_letters (fun _ _ _ _ _ _ us hl => match us, hl with | [_], _ => rfl) fun fd F => ok_unlL F B G0 D_is_letter_of
  have M_Cell := has_mk (P := l.prog) (w := w) (base := base) (k := 1) (ps := ["self", "alphabet", "number"]) X G gCCell aiCell ifCell mkCell kcCell xiCell (fun _ _ _ _ _ _ us hl => match us, hl with | [_, _, _], _ => rfl) fun fd F => ok_cell F B VV
  have D_are_values_letters := has_fn (P := l.prog) (w := w) (base := base) (k := 3) (ps := ["letters"]) X G aare_values_letters xfare_values_letters (fun _ _ _ _ _ _ us hl => match us, hl with | [_], _ => rfl) fun fd F => ok_avl F B VV G0 D_are_unlike_letters
  have M_Values := has_mk (P := l.prog) (w := w) (base := base) (k := 4) (ps := ["self", "letters"]) X G gCValues aiValues ifValues mkValues kcValues xiValues (fun _ _ _ _ _ _ us hl => match us, hl with | [_, _], _ => rfl) fun fd F => ok_vals F B VV G0 D_are_values_letters M_Cell
  have D_eq := has_me (P := l.prog) (w := w) (mg := mg) (base := base) (k := 1) (C := CValues) (ps := ["self", "other"]) ammValues_DDeqDD immValues_DDeqDD xmValues_DDeqDD (fun _ _ _ _ _ _ us hl => match us, hl with | [_, _], _ => rfl) fun fd F => ok_eqV F B VV G0 KV
  have D_full := has_pr (P := l.prog) (w := w) (mg := mg) (base := base) (k := 1) (C := CValues) (ps := ["self"]) ⟨appValues_full, gppValues_full, tppValues_full, rppValues_full⟩ xgValues_full (fun _ _ _ _ _ _ us hl => match us, hl with | [_], _ => rfl) fun fd F => ok_full F B VV
  have D_sure := has_pr (P := l.prog) (w := w) (mg := mg) (base := base) (k := 1) (C := CCell) (ps := ["self"]) ⟨appCell_is_sure, gppCell_is_sure, tppCell_is_sure, rppCell_is_sure⟩ xgCell_is_sure (fun _ _ _ _ _ _ us hl => match us, hl with | [_], _ => rfl) fun fd F => ok_sure F B VV
  have D_is_integer := has_fn (P := l.prog) (w := w) (base := base) (k := 1) (ps := ["value"]) X G ais_integer xfis_integer (fun _ _ _ _ _ _ us hl => match us, hl with | [_], _ => rfl) fun fd F => ok_int F B
  have D_is_from := has_fn (P := l.prog) (w := w) (base := base) (k := 2) (ps := ["value", "low", "high"]) X G ais_from xfis_from (fun _ _ _ _ _ _ us hl => match us, hl with | [_, _, _], _ => rfl) fun fd F => ok_from F B D_is_integer
  have D_numbered := has_me (P := l.prog) (w := w) (mg := mg) (base := base) (k := 3) (C := CValues) (ps := ["self", "number"]) ammValues_numbered immValues_numbered xmValues_numbered (fun _ _ _ _ _ _ us hl => match us, hl with | [_, _], _ => rfl) fun fd F => ok_numb F B VV D_is_from
  have DK_numbered := has_meK (P := l.prog) (w := w) (mg := mg) (base := base) (k := 3) (C := CValues) (ps := ["self", "number"]) (ks := ["number"]) ammValues_numbered immValues_numbered xmValues_numbered (fun _ _ _ _ _ _ u ws hl => match ws, hl with | [_], _ => rfl) fun fd F => ok_numb F B VV D_is_from
  have D_number_of_letters := has_fn (P := l.prog) (w := w) (base := base) (k := 1) (ps := ["letters", "some"]) X G anumber_of_letters xfnumber_of_letters (fun _ _ _ _ _ _ us hl => match us, hl with | [_, _], _ => rfl) fun fd F => ok_nolG F B
  have D_cell := has_me (P := l.prog) (w := w) (mg := mg) (base := base) (k := 2) (C := CValues) (ps := ["self", "letters"]) ammValues_cell immValues_cell xmValues_cell (fun _ _ _ _ _ _ us hl => match us, hl with | [_, _], _ => rfl) fun fd F => ok_cellG F B VV D_number_of_letters
  have D_are_names := has_fn (P := l.prog) (w := w) (base := base) (k := 3) (ps := ["letters", "names"]) X G aare_names xfare_names (fun _ _ _ _ _ _ us hl => match us, hl with | [_, _], _ => rfl) fun fd F => ok_names F B nD D_unlL
  have D_renamed := has_me (P := l.prog) (w := w) (mg := mg) (base := base) (k := 6) (C := CValues) (ps := ["self", "names"]) ammValues_renamed immValues_renamed xmValues_renamed (fun _ _ _ _ _ _ us hl => match us, hl with | [_, _], _ => rfl) fun fd F => ok_renamed F B VV D_are_names M_Values
  have D_same_values := has_fn (P := l.prog) (w := w) (base := base) (k := 3) (ps := ["one", "other"]) X G asame_values xfsame_values (fun _ _ _ _ _ _ us hl => match us, hl with | [_, _], _ => rfl) fun fd F => ok_same F B VV NE D_eq
  have D_and := has_me (P := l.prog) (w := w) (mg := mg) (base := base) (k := 4) (C := CCell) (ps := ["self", "other"]) ammCell_DDandDD immCell_DDandDD xmCell_DDandDD (fun _ _ _ _ _ _ us hl => match us, hl with | [_, _], _ => rfl) fun fd F => ok_and F B VV D_same_values D_numbered
  have D_or := has_me (P := l.prog) (w := w) (mg := mg) (base := base) (k := 4) (C := CCell) (ps := ["self", "other"]) ammCell_DDorDD immCell_DDorDD xmCell_DDorDD (fun _ _ _ _ _ _ us hl => match us, hl with | [_, _], _ => rfl) fun fd F => ok_or F B VV D_same_values D_numbered
  have D_sub := has_me (P := l.prog) (w := w) (mg := mg) (base := base) (k := 4) (C := CCell) (ps := ["self", "other"]) ammCell_DDsubDD immCell_DDsubDD xmCell_DDsubDD (fun _ _ _ _ _ _ us hl => match us, hl with | [_, _], _ => rfl) fun fd F => ok_sub F B VV D_same_values D_numbered
  have D_inv := has_me (P := l.prog) (w := w) (mg := mg) (base := base) (k := 4) (C := CCell) (ps := ["self"]) ammCell_DDinvertDD immCell_DDinvertDD xmCell_DDinvertDD (fun _ _ _ _ _ _ us hl => match us, hl with | [_], _ => rfl) fun fd F => ok_inv F B VV D_full D_numbered
  have D_eqC := has_me (P := l.prog) (w := w) (mg := mg) (base := base) (k := 2) (C := CCell) (ps := ["self", "other"]) ammCell_DDeqDD immCell_DDeqDD xmCell_DDeqDD (fun _ _ _ _ _ _ us hl => match us, hl with | [_, _], _ => rfl) fun fd F => ok_eqC F B VV (PySem.W.mg_of X G gCCell) KC0 D_eq
  have D_eqC2 := has_me (P := l.prog) (w := w) (mg := mg) (base := base) (k := 2) (C := CCell) (ps := ["self", "other"]) ammCell_DDeqDD immCell_DDeqDD xmCell_DDeqDD (fun _ _ _ _ _ _ us hl => match us, hl with | [_, _], _ => rfl) fun fd F => ok_eqC2 F B VV (PySem.W.mg_of X G gCCell) KC0 D_eq
  have D_lenC := has_me (P := l.prog) (w := w) (mg := mg) (base := base) (k := 1) (C := CCell) (ps := ["self"]) ammCell_DDlenDD immCell_DDlenDD xmCell_DDlenDD (fun _ _ _ _ _ _ us hl => match us, hl with | [_], _ => rfl) fun fd F => ok_lenC F B VV
  have D_boolC := has_me (P := l.prog) (w := w) (mg := mg) (base := base) (k := 1) (C := CCell) (ps := ["self"]) ammCell_DDboolDD immCell_DDboolDD xmCell_DDboolDD (fun _ _ _ _ _ _ us hl => match us, hl with | [_], _ => rfl) fun fd F => ok_boolC F B VV
  have D_within := has_me (P := l.prog) (w := w) (mg := mg) (base := base) (k := 4) (C := CCell) (ps := ["self", "other"]) ammCell_within immCell_within xmCell_within (fun _ _ _ _ _ _ us hl => match us, hl with | [_, _], _ => rfl) fun fd F => ok_within F B VV D_same_values
  have OO : Ops l.prog w K mg base CValues CCell := ⟨D_and, D_or, D_sub, D_inv, D_eqC, D_eqC2, D_lenC, D_boolC, D_within, D_sure⟩
  obtain ⟨fdE, FE⟩ := xmValues_each_cell.get
  have ME : Meth K CValues "each_cell" mValues_each_cell := ⟨ammValues_each_cell, immValues_each_cell, xmValues_each_cell.kp⟩
  have BE : Binds K fdE ["self"] [] := FE.binds (fun _ _ _ _ _ _ us hl => match us, hl with | [_], _ => rfl)
  have D_law_pen := has_fn (P := l.prog) (w := w) (base := base) (k := 1) (ps := ["_law_script"]) X G alaw_pen xflaw_pen (fun _ _ _ _ _ _ us hl => match us, hl with | [_], _ => rfl) fun fd F => ok_pen F B
  have D_law_draw := has_fn (P := l.prog) (w := w) (base := base) (k := 1) (ps := ["_law_pen_here", "_law_limit"]) X G alaw_draw xflaw_draw (fun _ _ _ _ _ _ us hl => match us, hl with | [_, _], _ => rfl) fun fd F => ok_draw F B
  have D_law_pick := has_fn (P := l.prog) (w := w) (base := base) (k := 2) (ps := ["_law_pen_here", "_law_some"]) X G alaw_pick xflaw_pick (fun _ _ _ _ _ _ us hl => match us, hl with | [_, _], _ => rfl) fun fd F => ok_pick F B D_law_draw
  have D_law_letters := has_fn (P := l.prog) (w := w) (base := base) (k := 3) (ps := ["_law_pen_here"]) X G alaw_letters xflaw_letters (fun _ _ _ _ _ _ us hl => match us, hl with | [_], _ => rfl) fun fd F => ok_letters F B D_law_draw D_law_pick
  have D_law_names := has_fn (P := l.prog) (w := w) (base := base) (k := 2) (ps := ["_law_pen_here", "_law_letters_here"]) X G alaw_names xflaw_names (fun _ _ _ _ _ _ us hl => match us, hl with | [_, _], _ => rfl) fun fd F => ok_tab F B D_law_draw
  have D_law_cell_right := has_fn (P := l.prog) (w := w) (base := base) (k := 5) (ps := ["_law_values", "_law_other", "_law_table", "_law_cell"]) X G alaw_cell_right xflaw_cell_right (fun _ _ _ _ _ _ us hl => match us, hl with | [_, _, _, _], _ => rfl) fun fd F => ok_cell_right F B VV NEC OO D_eq DK_numbered D_cell
  exact ok_law FL B nD VV KC0 NE OO D_eq D_law_pen D_law_letters D_law_draw D_law_names D_renamed M_Values ME FE BE D_law_cell_right
end
end K6

open PySem PySem.W PyProof.Rows
set_option maxRecDepth 100000 in
set_option maxHeartbeats 0 in
theorem PySem.Challenge.cw_linestrikes_k06_whole_cells_under_other_holds : PySem.Challenge.rw_linestrikes_k06_whole_cells_under_other.Holds := by
  w_on; o_law; k_head; (case hw => w_witness2)
  k_fill
  refine L2.walk_of (CX := fun _ => L2.CX0) (l := PySem.Challenge.rw_linestrikes_k06_whole_cells_under_other) (n := 63) (k := 7) (x := "_law_script") (sp := fun w => K6.spLaw _) rfl (by decide) rfl ⟨rfl, by decide, by decide⟩ (fun w h Y => PySem.W.kIn_of Y) ?F (fun _ _ a ns hl _ hS => ⟨a, ns, rfl, hS, fun _ => rfl⟩) fun _ _ _ _ _ z => z
  case F =>
    intro w mg fa h KX G hmg
    refine' K6.all_mk KX G hmg ?blen ?blist ?btuple ?bint ?bstr ?bbool ?babs ?bsum ?ball ?bset ?brange ?benumerate ?bisinstance ?bdict ?gCValues ?mkValues ?kcValues ?pgValues ?hdValues ?poValues ?saValues ?gCCell ?mkCell ?kcCell ?pgCell ?hdCell ?poCell ?saCell ?noValuesletters ?noValuesby_number ?noCellalphabet ?noCellnumber ?noCellletters ?rdV ?gaV ?most ?small ?neV ?haValues ?hn ?htk ?hmValues ?haCell ?hmCell ?kitValues_Values ?kitstr_Values ?kitNoneType_Values ?kitValues_str ?kitCell_Cell ?nneV ?nsubV ?nneC ?nsubC ?sfC ?boC ?ni1 ?ni2 ?ais_letter_of ?xfis_letter_of ?aare_unlike_letters ?xfare_unlike_letters ?aiCell ?ifCell ?xiCell ?aare_values_letters ?xfare_values_letters ?aiValues ?ifValues ?xiValues ?ammValues_DDeqDD ?immValues_DDeqDD ?xmValues_DDeqDD ?appValues_full ?gppValues_full ?tppValues_full ?rppValues_full ?xgValues_full ?appCell_is_sure ?gppCell_is_sure ?tppCell_is_sure ?rppCell_is_sure ?xgCell_is_sure ?ais_integer ?xfis_integer ?ais_from ?xfis_from ?ammValues_numbered ?immValues_numbered ?xmValues_numbered ?anumber_of_letters ?xfnumber_of_letters ?ammValues_cell ?immValues_cell ?xmValues_cell ?aare_names ?xfare_names ?ammValues_renamed ?immValues_renamed ?xmValues_renamed ?asame_values ?xfsame_values ?ammCell_DDandDD ?immCell_DDandDD ?xmCell_DDandDD ?ammCell_DDorDD ?immCell_DDorDD ?xmCell_DDorDD ?ammCell_DDsubDD ?immCell_DDsubDD ?xmCell_DDsubDD ?ammCell_DDinvertDD ?immCell_DDinvertDD ?xmCell_DDinvertDD ?ammCell_DDeqDD ?immCell_DDeqDD ?xmCell_DDeqDD ?ammCell_DDlenDD ?immCell_DDlenDD ?xmCell_DDlenDD ?ammCell_DDboolDD ?immCell_DDboolDD ?xmCell_DDboolDD ?ammCell_within ?immCell_within ?xmCell_within ?ammValues_each_cell ?immValues_each_cell ?xmValues_each_cell ?alaw_pen ?xflaw_pen ?alaw_draw ?xflaw_draw ?alaw_pick ?xflaw_pick ?alaw_letters ?xflaw_letters ?alaw_names ?xflaw_names ?alaw_cell_right ?xflaw_cell_right ?alaw ?xflaw
    (case blen => k_is)
    (case blist => k_is)
    (case btuple => k_is)
    (case bint => k_is)
    (case bstr => k_is)
    (case bbool => k_is)
    (case babs => k_is)
    (case bsum => k_is)
    (case ball => k_is)
    (case bset => k_is)
    (case brange => k_is)
    (case benumerate => k_is)
    (case bisinstance => k_is)
    (case bdict => k_is)
    (case gCValues => k_is)
    (case mkValues => k_is)
    (case kcValues => k_is)
    (case pgValues => k_is)
    (case hdValues => k_is)
    (case poValues => k_is)
    (case saValues => k_is)
    (case gCCell => k_is)
    (case mkCell => k_is)
    (case kcCell => k_is)
    (case pgCell => k_is)
    (case hdCell => k_is)
    (case poCell => k_is)
    (case saCell => k_is)
    (case noValuesletters => k_is)
    (case noValuesby_number => k_is)
    (case noCellalphabet => k_is)
    (case noCellnumber => k_is)
    (case noCellletters => k_is)
    (case rdV => k_is)
    (case gaV => k_is)
    (case most => (refine' LB.MostX.mk ?z2; (case z2 => k_is)))
    (case small => (refine' LB.TextX.mk ?z3 ?z4; (case z3 => k_is); (case z4 => decide +kernel)))
    (case neV => decide)
    (case haValues => k_is)
    (case hn => k_is)
    (case htk => k_is)
    (case hmValues => k_is)
    (case haCell => k_is)
    (case hmCell => k_is)
    (case kitValues_Values => kernel_rfl)
    (case kitstr_Values => kernel_rfl)
    (case kitNoneType_Values => kernel_rfl)
    (case kitValues_str => kernel_rfl)
    (case kitCell_Cell => kernel_rfl)
    (case nneV => k_is)
    (case nsubV => k_is)
    (case nneC => k_is)
    (case nsubC => k_is)
    (case sfC => kernel_rfl)
    (case boC => kernel_rfl)
    (case ni1 => k_is)
    (case ni2 => k_is)
    (case ais_letter_of => k_is)
    (case xfis_letter_of => (refine' LB.FnX.mk ?ol ?oc ?ok; (case ol => k_is); (case oc => k_is); (case ok => k_is)))
    (case aare_unlike_letters => k_is)
    (case xfare_unlike_letters => (refine' LB.FnX.mk ?ol ?oc ?ok; (case ol => k_is); (case oc => k_is); (case ok => k_is)))
    (case aiCell => k_is)
    (case ifCell => k_is)
    (case xiCell => (refine' LB.FnX.mk ?ol ?oc ?ok; (case ol => k_is); (case oc => k_is); (case ok => k_is)))
    (case aare_values_letters => k_is)
    (case xfare_values_letters => (refine' LB.FnX.mk ?ol ?oc ?ok; (case ol => k_is); (case oc => k_is); (case ok => k_is)))
    (case aiValues => k_is)
    (case ifValues => k_is)
    (case xiValues => (refine' LB.FnX.mk ?ol ?oc ?ok; (case ol => k_is); (case oc => k_is); (case ok => k_is)))
    (case ammValues_DDeqDD => k_is)
    (case immValues_DDeqDD => k_is)
    (case xmValues_DDeqDD => (refine' LB.FnX.mk ?ol ?oc ?ok; (case ol => k_is); (case oc => k_is); (case ok => k_is)))
    (case appValues_full => k_is)
    (case gppValues_full => k_is)
    (case tppValues_full => k_is)
    (case rppValues_full => (refine' LB.RecX.mk ?z2; (case z2 => k_is)))
    (case xgValues_full => (refine' LB.FnX.mk ?ol ?oc ?ok; (case ol => k_is); (case oc => k_is); (case ok => k_is)))
    (case appCell_is_sure => k_is)
    (case gppCell_is_sure => k_is)
    (case tppCell_is_sure => k_is)
    (case rppCell_is_sure => (refine' LB.RecX.mk ?z2; (case z2 => k_is)))
    (case xgCell_is_sure => (refine' LB.FnX.mk ?ol ?oc ?ok; (case ol => k_is); (case oc => k_is); (case ok => k_is)))
    (case ais_integer => k_is)
    (case xfis_integer => (refine' LB.FnX.mk ?ol ?oc ?ok; (case ol => k_is); (case oc => k_is); (case ok => k_is)))
    (case ais_from => k_is)
    (case xfis_from => (refine' LB.FnX.mk ?ol ?oc ?ok; (case ol => k_is); (case oc => k_is); (case ok => k_is)))
    (case ammValues_numbered => k_is)
    (case immValues_numbered => k_is)
    (case xmValues_numbered => (refine' LB.FnX.mk ?ol ?oc ?ok; (case ol => k_is); (case oc => k_is); (case ok => k_is)))
    (case anumber_of_letters => k_is)
    (case xfnumber_of_letters => (refine' LB.FnX.mk ?ol ?oc ?ok; (case ol => k_is); (case oc => k_is); (case ok => k_is)))
    (case ammValues_cell => k_is)
    (case immValues_cell => k_is)
    (case xmValues_cell => (refine' LB.FnX.mk ?ol ?oc ?ok; (case ol => k_is); (case oc => k_is); (case ok => k_is)))
    (case aare_names => k_is)
    (case xfare_names => (refine' LB.FnX.mk ?ol ?oc ?ok; (case ol => k_is); (case oc => k_is); (case ok => k_is)))
    (case ammValues_renamed => k_is)
    (case immValues_renamed => k_is)
    (case xmValues_renamed => (refine' LB.FnX.mk ?ol ?oc ?ok; (case ol => k_is); (case oc => k_is); (case ok => k_is)))
    (case asame_values => k_is)
    (case xfsame_values => (refine' LB.FnX.mk ?ol ?oc ?ok; (case ol => k_is); (case oc => k_is); (case ok => k_is)))
    (case ammCell_DDandDD => k_is)
    (case immCell_DDandDD => k_is)
    (case xmCell_DDandDD => (refine' LB.FnX.mk ?ol ?oc ?ok; (case ol => k_is); (case oc => k_is); (case ok => k_is)))
    (case ammCell_DDorDD => k_is)
    (case immCell_DDorDD => k_is)
    (case xmCell_DDorDD => (refine' LB.FnX.mk ?ol ?oc ?ok; (case ol => k_is); (case oc => k_is); (case ok => k_is)))
    (case ammCell_DDsubDD => k_is)
    (case immCell_DDsubDD => k_is)
    (case xmCell_DDsubDD => (refine' LB.FnX.mk ?ol ?oc ?ok; (case ol => k_is); (case oc => k_is); (case ok => k_is)))
    (case ammCell_DDinvertDD => k_is)
    (case immCell_DDinvertDD => k_is)
    (case xmCell_DDinvertDD => (refine' LB.FnX.mk ?ol ?oc ?ok; (case ol => k_is); (case oc => k_is); (case ok => k_is)))
    (case ammCell_DDeqDD => k_is)
    (case immCell_DDeqDD => k_is)
    (case xmCell_DDeqDD => (refine' LB.FnX.mk ?ol ?oc ?ok; (case ol => k_is); (case oc => k_is); (case ok => k_is)))
    (case ammCell_DDlenDD => k_is)
    (case immCell_DDlenDD => k_is)
    (case xmCell_DDlenDD => (refine' LB.FnX.mk ?ol ?oc ?ok; (case ol => k_is); (case oc => k_is); (case ok => k_is)))
    (case ammCell_DDboolDD => k_is)
    (case immCell_DDboolDD => k_is)
    (case xmCell_DDboolDD => (refine' LB.FnX.mk ?ol ?oc ?ok; (case ol => k_is); (case oc => k_is); (case ok => k_is)))
    (case ammCell_within => k_is)
    (case immCell_within => k_is)
    (case xmCell_within => (refine' LB.FnX.mk ?ol ?oc ?ok; (case ol => k_is); (case oc => k_is); (case ok => k_is)))
    (case ammValues_each_cell => k_is)
    (case immValues_each_cell => k_is)
    (case xmValues_each_cell => (refine' LB.FnX.mk ?ol ?oc ?ok; (case ol => k_is); (case oc => k_is); (case ok => k_is)))
    (case alaw_pen => k_is)
    (case xflaw_pen => (refine' LB.FnX.mk ?ol ?oc ?ok; (case ol => k_is); (case oc => k_is); (case ok => k_is)))
    (case alaw_draw => k_is)
    (case xflaw_draw => (refine' LB.FnX.mk ?ol ?oc ?ok; (case ol => k_is); (case oc => k_is); (case ok => k_is)))
    (case alaw_pick => k_is)
    (case xflaw_pick => (refine' LB.FnX.mk ?ol ?oc ?ok; (case ol => k_is); (case oc => k_is); (case ok => k_is)))
    (case alaw_letters => k_is)
    (case xflaw_letters => (refine' LB.FnX.mk ?ol ?oc ?ok; (case ol => k_is); (case oc => k_is); (case ok => k_is)))
    (case alaw_names => k_is)
    (case xflaw_names => (refine' LB.FnX.mk ?ol ?oc ?ok; (case ol => k_is); (case oc => k_is); (case ok => k_is)))
    (case alaw_cell_right => k_is)
    (case xflaw_cell_right => (refine' LB.FnX.mk ?ol ?oc ?ok; (case ol => k_is); (case oc => k_is); (case ok => k_is)))
    (case alaw => k_is)
    (case xflaw => (refine' LB.FnX.mk ?ol ?oc ?ok; (case ol => k_is); (case oc => k_is); (case ok => k_is)))

