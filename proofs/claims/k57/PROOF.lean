import PyProof.Rows.All
import Wide.All
import OpenK.AllK
import Wide.FinOn
import HandS.ForExc
import HandS.ForMost
import HandS.IsInst
import HandS.Wide
import HandS.Walk
import HandS.TupAny
import HandS.Defaults
import HandS.SlotsOwn
import HandS.Codes
import HandS.RaiseMore
import PyProof.InstEq
import HandS.Set
import HandS.More
import HandS.SetTxt0
import HandS.SetFor
import PyProof.Rows.SortShellAny
import HandS.Iter
import KE.GoesEnumKw
import KE.GoesMore
import PyProof.Draws
import KE.KDictWalk
import KE.KeyNested
import KE.KDictDisplayH
import PyProof.Rows.TupDisplay
import HandS.Dict
import HandS.Small
import HandS.TupLen
import HandS.DictComp
import HandS.Conv
import HandS.Flow
import HandS.Words
import HandS.Deep
import HandS.MakeKwOnly
import PyProof.P3In
import PyProof.DictDisplay
import HandS.WordsDict
import HandS.Text
import HandS.FStr
import HandS.StrMore
import KE.IntTextLaws
import HandS.ExcInit
import HandS.ExcValue
import HandS.ExcIs
import HandS.ExcField
import HandS.ExcOwn
import HandS.WordsList
import KE.IntTextText
import HandS.Star
import HandS.ClsMeth
import HandS.Style
import PyProof.P3Eq
import PySem.Challenge.RW_midfall_k57_result_texts_nearly_right
set_option Elab.async false
set_option maxRecDepth 100000
/-! Heaps with a source of draws; calls by one fact; texts that are names. -/
namespace Mf
open PySem L2

/-! ### heaps -/
/-- all that was tracked but what stands at a is as it was -/
def Kp (a : Addr) (H H' : Hp) : Prop := ∀ b o, b ≠ a → H b = some o → H' b = some o
theorem Kp.refl {a : Addr} {H : Hp} : Kp a H H := fun _ _ _ h => h
theorem Kp.trans {a : Addr} {H H1 H2 : Hp} (x : Kp a H H1) (y : Kp a H1 H2) : Kp a H H2 := fun b o n h => y b o n (x b o n h)
theorem Kp.same {a : Addr} {H H' : Hp} (x : Same H H') : Kp a H H' := fun b o _ h => x b o h
theorem Kp.then {a : Addr} {H H1 H2 : Hp} (x : Kp a H H1) (y : Same H1 H2) : Kp a H H2 := x.trans (.same y)
theorem Kp.new {a p : Addr} {H : Hp} {o : HO} (h : H p = none) : Kp a H (upd H p o) := fun b u _ e => by rw [upd_ne (ne_of_none e h)]; exact e
theorem Kp.put {a : Addr} {H H1 : Hp} {o : HO} (x : Kp a H H1) : Kp a H (upd H1 a o) := fun b u n e => by rw [upd_ne n]; exact x b u n e
/-- p was not there at H: it may change -/
theorem Kp.mut {a p : Addr} {H H1 : Hp} {o : HO} (x : Kp a H H1) (h : H p = none) : Kp a H (upd H1 p o) := fun b u n e => by rw [upd_ne (ne_of_none e h)]; exact x b u n e
theorem Kp.lst {K : PySem.W.Frag} {a t : Addr} {H H' : Hp} {xs : List V} (x : Kp a H H') (n : t ≠ a) (h : SqL K H t xs) : SqL K H' t xs := by
  rcases h with (h | ⟨o, h⟩) | h
  · exact .inl (.inl (x _ _ n h))
  · exact .inl (.inr ⟨o, x _ _ n h⟩)
  · exact .inr h
theorem Kp.tup {K : PySem.W.Frag} {a t : Addr} {H H' : Hp} {xs : List V} (x : Kp a H H') (n : t ≠ a) (h : SqT K H t xs) : SqT K H' t xs := by
  rcases h with (h | ⟨o, h⟩) | h
  · exact .inl (.inl (x _ _ n h))
  · exact .inl (.inr ⟨o, x _ _ n h⟩)
  · exact .inr h
theorem _root_.L2.Same.new {p : Addr} {H : Hp} {o : HO} (h : H p = none) : Same H (upd H p o) := fun b u e => by rw [upd_ne (ne_of_none e h)]; exact e
theorem _root_.L2.Same.mut {p : Addr} {H H1 : Hp} {o : HO} (x : Same H H1) (h : H p = none) : Same H (upd H1 p o) := fun b u e => by rw [upd_ne (ne_of_none e h)]; exact x b u e
theorem _root_.L2.Same.tup {K : PySem.W.Frag} {t : Addr} {H H' : Hp} {xs : List V} (x : Same H H') (h : SqT K H t xs) : SqT K H' t xs := by
  rcases h with (h | ⟨o, h⟩) | h
  · exact .inl (.inl (x _ _ h))
  · exact .inl (.inr ⟨o, x _ _ h⟩)
  · exact .inr h
theorem ne_none {H : Hp} {p a : Addr} {o : HO} (h : H p = none) (h' : H a = some o) : p ≠ a := fun e => by rw [e, h'] at h; cases h

/-! ### the source of draws -/
/-- at a: a source that has n draws left, and more -/
def Src (H : Hp) (a : Addr) (n : Nat) : Prop := ∃ g s c : Int, H a = some (.lst [.int g, .int s, .int c]) ∧ 0 ≤ s ∧ s < 2147483647 ∧ 0 ≤ c ∧ c + n ≤ 1099511627776
theorem Src.mono {H : Hp} {a : Addr} {n m : Nat} (x : Src H a n) (h : m ≤ n) : Src H a m := let ⟨g, s, c, e, a1, a2, a3, a4⟩ := x; ⟨g, s, c, e, a1, a2, a3, by omega⟩
theorem Src.same {H H' : Hp} {a : Addr} {n : Nat} (x : Src H a n) (h : Same H H') : Src H' a n := let ⟨g, s, c, e, r⟩ := x; ⟨g, s, c, h _ _ e, r⟩
theorem Src.ne {H : Hp} {a p : Addr} {n : Nat} (x : Src H a n) (h : H p = none) : p ≠ a := let ⟨_, _, _, e, _⟩ := x; ne_none h e
theorem Src.new {H : Hp} {a p : Addr} {n : Nat} {o : HO} (x : Src H a n) (h : H p = none) : Src (upd H p o) a n := x.same (Same.new h)
theorem Src.put {H : Hp} {a p : Addr} {n : Nat} {o : HO} (x : Src H a n) (h : p ≠ a) : Src (upd H p o) a n := let ⟨g, s, c, e, r⟩ := x; ⟨g, s, c, by rw [upd_ne (Ne.symm h)]; exact e, r⟩

/-! ### a def that is called by its name: one fact -/
structure Cal (P : Program) (w : World) (K : PySem.W.Frag) (mg : Str → Option Value) (base : Heap) (CX : CXT) (k : Nat) (x : Str) (ps : List Str) (sp : Sp) : Prop where
  ex : ∃ (f : Addr) (fd : FuncData), FnOk P w K mg base CX k f fd ps sp ∧ mg x = some (.ref f) ∧ PySem.W.keepIn K (.ref f) = true ∧ Binds K fd ps []
theorem pe_cal {X : Cx} {CX : CXT} {k : Nat} {x : Str} {ps : List Str} {sp : Sp} {E : XK} {e : Expr} {es : List Expr} {t : TA} {p pos : Pos} (c : Cal X.prog X.w X.K X.mg X.base CX k x ps sp) (hr : Room k X.A) (hx : Passes CX X E) (ha : PA X (e :: es) t) (hg : Gl X x := by rfl)
    (hdb : (x == ("__debug__" : Str)) = false := by decide) (he : starEach (e :: es) X.env = (false, eval e X.env) :: starEach es X.env := by rfl) (hpl : (backTo pos (starEach es X.env)).any (·.1) = false := by rfl) :
    PE X (.Call (.Name x p) (e :: es) [] pos) (tCall sp [] E t) := by
  obtain ⟨f, fd, F, m, kp, b⟩ := c.ex
  exact pe_call F hr hg m kp b .nil hx ha hdb he hpl
theorem Cal.mono {P : Program} {w : World} {K : PySem.W.Frag} {mg : Str → Option Value} {base : Heap} {CX : CXT} {k j : Nat} {x : Str} {ps : List Str} {sp : Sp} (c : Cal P w K mg base CX k x ps sp) (h : k ≤ j) : Cal P w K mg base CX j x ps sp :=
  let ⟨f, fd, F, m, kp, b⟩ := c.ex
  ⟨⟨f, fd, F.mono h, m, kp, b⟩⟩

/-! ### names -/
def Low (c : Nat) : Prop := 97 ≤ c ∧ c ≤ 122
def IsName (z : Str) : Prop := 1 ≤ z.cps.size ∧ z.cps.size ≤ 8 ∧ ∀ c ∈ z.cps.toList, Low c
instance (z : Str) : Decidable (IsName z) := by unfold IsName Low; infer_instance
theorem IsName.len {z : Str} (h : IsName z) : z.length ≤ 8 := h.2.1

theorem alpha_at {i : Int} (h0 : 0 ≤ i) (h : i < 26) : ∃ c, atI ("abcdefghijklmnopqrstuvwxyz" : Str).cps.toList i = some c ∧ Low c := by
  obtain ⟨n, rfl⟩ := Int.eq_ofNat_of_zero_le h0
  have e : ∀ n : Fin 26, atI ("abcdefghijklmnopqrstuvwxyz" : Str).cps.toList ((n.val : Nat) : Int) = some (97 + n.val) := by decide +kernel
  exact ⟨97 + n, e ⟨n, by omega⟩, by unfold Low; omega⟩

theorem atI_mem {α : Type} {xs : List α} {v : Int} (h0 : 0 ≤ v) (h : v < xs.length) : ∃ x ∈ xs, atI xs v = some x := by
  obtain ⟨n, rfl⟩ := Int.eq_ofNat_of_zero_le h0
  have hn : n < xs.length := by omega
  refine ⟨xs[n], List.getElem_mem hn, ?_⟩
  exact atI_nat (List.getElem?_eq_getElem hn)
theorem inV_str {z : Str} {zs : List Str} : inV (.str z) (zs.map V.str) = decide (z ∈ zs) := by
  unfold inV
  induction zs with
  | nil => rfl
  | cons y ys ih =>
    rw [List.map_cons, List.any_cons, ih]
    show ((y == z) || _) = _
    by_cases h : y = z
    · subst h; simp
    · have h' : ¬ z = y := fun e => h e.symm
      simp [h, h']
theorem tl_inj {x y : Str} (h : x.cps.toList = y.cps.toList) : x = y := by
  cases x; cases y
  simp only [Str.mk.injEq]
  exact Array.toList_inj.mp h
theorem join_nil (ys : List Str) : (Txt.join ("" : Str) ys).cps.toList = (ys.map fun y => y.cps.toList).flatten := by
  rw [TL.join_eq, show (Str.join ("" : Str) ys).cps.toList = TL.tl (Str.join ("" : Str) ys) from rfl, TL.tl_join]
  show TL.joinL [] (ys.map TL.tl) = _
  generalize ys.map TL.tl = l
  induction l with
  | nil => rfl
  | cons p r ih =>
    cases r with
    | nil => simp [TL.joinL]
    | cons q r => show p ++ ([] ++ TL.joinL [] (q :: r)) = _; rw [ih]; simp
theorem join_signs (cs : List Nat) : Txt.join ("" : Str) (cs.map fun c => (⟨#[c]⟩ : Str)) = ⟨cs.toArray⟩ := by
  refine tl_inj ?_
  rw [join_nil, List.map_map]
  show (cs.map fun c => [c]).flatten = cs
  induction cs with
  | nil => rfl
  | cons c cs ih => rw [List.map_cons, List.flatten_cons, ih]; rfl
theorem str_add (x y : Str) : (x ++ y).cps.toList = x.cps.toList ++ y.cps.toList := TL.tl_append x y
theorem len_tl (z : Str) : z.length = z.cps.toList.length := by show z.cps.size = _; rw [Array.length_toList]

/-! ### rules whose reading names the written part (for comprehensions' blocks) -/
section
variable (K : PySem.W.Frag) {X : Cx}
theorem ixl (h : X.K = K := by rfl) : IxR X (rIxL K) := h ▸ ix_list
theorem ixt (h : X.K = K := by rfl) : IxR X (rIxT K) := h ▸ ix_tup
theorem oin (h : X.K = K := by rfl) : OpR X (compareOp .In) (rIn K false) := h ▸ op_in_seq
theorem nin (h : X.K = K := by rfl) : OpR X (compareOp .NotIn) (rIn K true) := h ▸ op_notIn_seq
def rLenK : List V → Hp → VK → Prop := fun xs H Q => ∃ p ys, xs = [.ref p] ∧ (SqL K H p ys ∨ SqT K H p ys) ∧ Q (.int (ys.length : Nat)) H
theorem k_len (h : X.K = K := by rfl) : CallR X (.builtin "len") (rLenK K) := h ▸ call_len_seq
def rListK : List V → Hp → VK → Prop := fun xs H Q => ∃ p ys, xs = [.ref p] ∧ (SqL K H p ys ∨ SqT K H p ys) ∧ ∀ l, H l = none → Q (.ref l) (upd H l (.lst ys))
theorem k_list (h : X.K = K := by rfl) : CallR X (.type "list") (rListK K) := h ▸ call_list_of
def rTupK : List V → Hp → VK → Prop := fun xs H Q => ∃ p ys, xs = [.ref p] ∧ ((SqL K H p ys ∧ ∀ l, H l = none → Q (.ref l) (upd H l (.tup ys))) ∨ (SqT K H p ys ∧ Q (.ref p) H))
theorem k_tuple (h : X.K = K := by rfl) : CallR X (.type "tuple") (rTupK K) := h ▸ call_tuple_of
theorem k_isi (h : X.K = K := by rfl) : CallR X (.builtin "isinstance") (rIsi K) := h ▸ call_isi
theorem k_all (hc : X.calm = true := by rfl) (h : X.K = K := by rfl) : CallR X (.builtin "all") (rAll K) := h ▸ cr_all hc
theorem k_any (hc : X.calm = true := by rfl) (h : X.K = K := by rfl) : CallR X (.builtin "any") (rAny K) := h ▸ cr_any hc
theorem k_sortedS (h : X.K = K := by rfl) : CallR X (.builtin "sorted") (rSortedS K) := h ▸ cr_sortedS
theorem eqD {k : Nat} (hr : Room k X.A) (h : X.K = K := by rfl) : OpR X (compareOp .Eq) (rEqD K) := h ▸ op_eqD hr.units
theorem neD {k : Nat} (hr : Room k X.A) (h : X.K = K := by rfl) : OpR X (compareOp .NotEq) (rNeD K) := h ▸ op_neD hr.units
theorem fldK {e : Expr} {ta : TE} {f : Str} {pos : Pos} (he : PE X e ta) (hb : attributeBase e f X.env (eval e X.env) = eval e X.env := by rfl) (h : X.K = K := by rfl) : PE X (.Attribute e f pos) (tFld K ta f) := h ▸ pe_fld he hb
end
theorem yes_then {σ : L2.St} {H : Hp} {A B : Hp → Prop} (h : A H) : tYes σ H (fun b H3 => if b = true then A H3 else B H3) := by
  show (if true = true then A H else B H)
  rw [if_pos rfl]
  exact h
end Mf
/-! Operators of own classes (dunder methods that are plain defs), over the hand layer. -/
namespace Mf
open PySem PySem.Spec PyProof.Rows L2

section
variable {X : Cx} {CX : CXT} {k : Nat} {f C a dx : Addr} {fd : FuncData} {ps : List Str} {sp : Sp} {E : XK} {ds : List Value} {dvs : List V} {pins : List (Addr × Obj)} {σ : L2.St} {H : Hp} {s : Shared} {fs : List (Str × V)}

theorem Inv.inst (I : Inv X pins σ H s) (e : H a = some (.ins C dx fs)) : ∃ od, PySem.W.InstAt s.heap a (PySem.W.instObj C dx) C (some od) :=
  let ⟨_, O, _⟩ := ins_get I.hok e
  let ⟨od, i, _⟩ := O.look
  ⟨od, i⟩

/-- a def runs, from anywhere under the body X -/
theorem run_in {A : Around} {Q : VK} {us : List Value} {vs : List V} (F : FnOk X.prog X.w X.K X.mg X.base CX k f fd ps sp) (hr : Room k A) (hb : Binds X.K fd ps ds) (hd : Vals dvs ds) (hx : Passes CX X E)
    (e0 : Env0 X.prog X.w X.K X.mg X.base A X.stack s H) (I : Inv X pins σ H s) (r : Vals vs us) (h : sp (vs ++ dvs) H Q E) : wpAny (model X.prog X.w) A (call (.ref f) us) (EP X pins σ Q) X.xe s := by
  have r2 : Vals (vs ++ dvs) (us ++ ds) := r.append hd
  have hl : (us ++ ds).length = ps.length := by rw [← r2.length]; exact F.len _ _ _ _ h
  refine wpAny_call (codeAny_mono (F.run A X.stack s H ⟨us, []⟩ (us ++ ds) (vs ++ dvs) Q E hr e0 (hb s us I.kIn hl) r2 h) fun r s' hq => ?_)
  rcases r with e | fl
  · exact hx pins σ H s e s' I hq
  · rcases fl with _ | _ | _ | u
    all_goals first | exact False.elim hq | exact I.after hq

/-- what type the other operand has: it isn't below C -/
def NotBelow (K : PySem.W.Frag) (C : Addr) (y : V) (H : Hp) : Prop := ∃ t, TyX K H y t ∧ PySem.W.notFirst K C t = true

/-- x op y by the class's own def -/
def rCmpO (K : PySem.W.Frag) (C : Addr) (sp : Sp) (E : XK) : R2 := fun x y H Q => ∃ a dx fs, x = .ref a ∧ H a = some (.ins C dx fs) ∧ NotBelow K C y H ∧ sp [x, y] H Q E
theorem op_cmpO {op : CmpOp} (m : Meth X.K C (cmpInfo op).2.1 f) (F : FnOk X.prog X.w X.K X.mg X.base CX k f fd ps sp) (hr : Room k X.A) (hb : Binds X.K fd ps []) (hx : Passes CX X E)
    (hop : ∀ a b, compareOp op a b = richCompare op a b := by exact fun _ _ => rfl) : OpR X (compareOp op) (rCmpO X.K C sp E) := by
  intro pins s σ H x y v u Q I rx ry h
  obtain ⟨a, dx, fs, rfl, ha, ⟨t, ty, nb⟩, q⟩ := h
  cases (show v = Value.ref a from rx)
  obtain ⟨od, J⟩ := Inv.inst I ha
  obtain ⟨mm, hF⟩ := I.fr
  obtain ⟨Pk, Z, p, _⟩ := kit_of I ry ty
  rw [hop]
  refine PySem.W.cmp_K (op := op) (tb := t) hr.units0 hF I.ok.mod.kin J (Z.ty _ _ I.kIn p) nb m.at_ m.fn ?_
  refine wpAny_mono (run_in (us := [.ref a, u]) (vs := [.ref a, y]) F hr hb .nil hx I.env0 I (.cons rfl (.cons ry .nil)) (by rw [List.append_nil]; exact q)) (fun z s' e => ?_) fun _ _ e => e
  obtain ⟨z', H', I', rz, qz⟩ := e
  exact SlX.cmpback rz ⟨z', H', I', rz, qz⟩

/-- x != y by the class's own __eq__ -/
def rNeO (K : PySem.W.Frag) (C : Addr) (sp : Sp) (E : XK) : R2 := fun x y H Q => ∃ a dx fs, x = .ref a ∧ H a = some (.ins C dx fs) ∧ NotBelow K C y H ∧ sp [x, y] H (fun v H' => ∃ b, v = .bl b ∧ Q (.bl (!b)) H') E
theorem op_neO (m : Meth X.K C "__eq__" f) (ne : PySem.W.findIn X.K (.ref C) "__ne__" = some (some (.builtin "object.__ne__"))) (mo : PySem.W.mroIn X.K C (.type "object") = some true)
    (F : FnOk X.prog X.w X.K X.mg X.base CX k f fd ps sp) (hr : Room (k + 1) X.A) (hb : Binds X.K fd ps []) (hx : Passes CX X E) : OpR X (compareOp .NotEq) (rNeO X.K C sp E) := by
  intro pins s σ H x y v u Q I rx ry h
  obtain ⟨a, dx, fs, rfl, ha, ⟨t, ty, nb⟩, q⟩ := h
  cases (show v = Value.ref a from rx)
  obtain ⟨od, J⟩ := Inv.inst I ha
  obtain ⟨Pk, Z, p, _⟩ := kit_of I ry ty
  have Lb : PySem.W.Looks (model X.prog X.w) s.heap (typeOf u) t := Z.ty _ _ I.kIn p
  have core : wpAny (model X.prog X.w) X.A (call (.builtin "object.__ne__") [.ref a, u]) (EP X pins σ Q) X.xe s := by
    refine wpAny_call (codeAny_call_builtin PySem.F.cmp_object.ne.plain PySem.F.cmpEntry_ne (PySem.W.check_slot (i := "object.__ne__") (owner := "object") (n := "__ne__") PySem.F.cmpKind_ne PySem.F.cmpSplit_ne (J.type.andThen (PySem.W.looks_mroIn I.kIn mo)) (PySem.F.cmpArgs_ne _ _) ?_))
    unfold Builtin.«object.__ne__»
    refine wpAny_bind (m := slotArgs "__ne__" 1 _) (wpAny_pure ?_)
    refine wpAny_bind (m := cRoomFor _ _) (wpAny_cRoomFor (hr.in1).units0 ?_)
    refine wpAny_bind (m := callSpecialIfBound? (.ref a) (Str.ofString "__eq__") _) (PySem.W.ifBound_K I.kIn J m.at_ m.fn ?_)
    refine wpAny_mono (run_in (us := [.ref a, u]) (vs := [.ref a, y]) F hr.in1 hb .nil hx I.env0.in1 I (.cons rfl (.cons ry .nil)) (by rw [List.append_nil]; exact q)) (fun z s' e => ?_) fun _ _ e => e
    obtain ⟨z', H', I', rz, b, rfl, qz⟩ := e
    cases (show z = Value.bool b from rz)
    exact wpAny_bind (wpAny_truthy_bool (wpAny_pure ⟨.bl (!b), H', I', rfl, qz⟩))
  have one : wpAny (model X.prog X.w) X.A (tryCompare (.ref a) "__ne__" u) (fun r s' => ∃ v, r = some v ∧ EP X pins σ Q v s') X.xe s := by
    unfold tryCompare
    refine wpAny_bind ?_
    simp only [callSpecialIfBound?, bindSpecialIfBound?]
    refine wpAny_holding (wpAny_bind (wpAny_bind (wpAny_bind (J.type.here ((PySem.W.looks_findIn I.kIn ne).here ?_)))))
    simp only [PySem.F.cmp_object.ne.bind]
    have fin : wpAny (model X.prog X.w) X.A (call (.builtin "object.__ne__") ([.ref a] ++ [u]) >>= fun v => pure (some v)) (fun a_1 s' => wpAny (model X.prog X.w) X.A (match a_1 with
        | some Value.notImplemented | none => pure none
        | some v => pure (some v)) (fun r s' => ∃ v, r = some v ∧ EP X pins σ Q v s') X.xe s') X.xe s := by
      refine wpAny_bind (wpAny_mono core (fun z s' e => wpAny_pure ?_) fun _ _ e => e)
      have e2 := e
      obtain ⟨z', H', I', rz, qz⟩ := e2
      have nn : PySem.W.CmpBack (fun z s' => EP X pins σ Q z s') z s' := SlX.cmpback rz e
      cases z <;> first | exact nn.elim | exact wpAny_pure ⟨_, rfl, nn⟩
    refine wpAny_bind (wpAny_askSetting (wpAny_ite ?_))
    split
    · exact wpAny_bind (wpAny_pure (wpAny_pure fin))
    · exact wpAny_tryCatch (wpAny_bind (wpAny_pure (wpAny_pure fin)))
  show wpAny _ _ (richCompare .NotEq (.ref a) u) _ _ s
  unfold richCompare
  simp only [oneThing_ref]
  refine wpAny_holding (wpAny_bind (wpAny_cRoomFor hr.units0 ?_))
  refine wpAny_bind (J.type.here (wpAny_bind (Lb.here ?_)))
  split
  · rename_i h1
    have e : PySem.W.subIn X.K t (.ref C) = some false := by
      rcases Bool.or_eq_true_iff.mp nb with e | e
      · rw [beq_iff_eq.mp e] at h1; simp at h1
      · exact beq_iff_eq.mp e
    refine wpAny_bind ((PySem.W.looks_subIn I.kIn e).here ?_)
    simp only [Bool.false_eq_true, if_false]
    refine wpAny_bind (wpAny_mono one (fun r s' z => ?_) fun _ _ e => e)
    obtain ⟨v, rfl, hq⟩ := z
    exact wpAny_pure hq
  · refine wpAny_bind (wpAny_pure ?_)
    simp only [Bool.false_eq_true, if_false]
    refine wpAny_bind (wpAny_mono one (fun r s' z => ?_) fun _ _ e => e)
    obtain ⟨v, rfl, hq⟩ := z
    exact wpAny_pure hq

/-- x op y, both of the class -/
def rBinO (C : Addr) (sp : Sp) (E : XK) : R2 := fun x y H Q => ∃ a dx fs b dy gs, x = .ref a ∧ y = .ref b ∧ H a = some (.ins C dx fs) ∧ H b = some (.ins C dy gs) ∧ sp [x, y] H Q E
theorem op_binO {op : Operator} (m : Meth X.K C (PySem.dunder op.info.2) f) (sf : PySem.W.selfFirst X.K C = true) (F : FnOk X.prog X.w X.K X.mg X.base CX k f fd ps sp) (hr : Room k X.A) (hb : Binds X.K fd ps []) (hx : Passes CX X E) :
    OpR X (binaryOp op) (rBinO C sp E) := by
  intro pins s σ H x y v u Q I rx ry h
  obtain ⟨a, dx, fs, b, dy, gs, rfl, rfl, ha, hb', q⟩ := h
  cases (show v = Value.ref a from rx)
  cases (show u = Value.ref b from ry)
  obtain ⟨od, J⟩ := Inv.inst I ha
  obtain ⟨oe, J'⟩ := Inv.inst I hb'
  obtain ⟨mm, hF⟩ := I.fr
  refine PySem.W.binop_K hF I.ok.mod.kin J J'.type sf m.at_ m.fn ?_
  refine wpAny_mono (run_in (us := [.ref a, .ref b]) (vs := [.ref a, .ref b]) F hr hb .nil hx I.env0 I (.cons rfl (.cons rfl .nil)) (by rw [List.append_nil]; exact q)) (fun z s' e => ?_) fun _ _ e => e
  obtain ⟨z', H', I', rz, qz⟩ := e
  exact SlX.cmpback rz ⟨z', H', I', rz, qz⟩

/-- y in x, y not in x -/
def rInO (C : Addr) (neg : Bool) (sp : Sp) (E : XK) : R2 := fun y x H Q => ∃ a dx fs, x = .ref a ∧ H a = some (.ins C dx fs) ∧ sp [x, y] H (fun v H' => ∃ b, v = .bl b ∧ Q (.bl (if neg then !b else b)) H') E
theorem op_inO (m : Meth X.K C "__contains__" f) (F : FnOk X.prog X.w X.K X.mg X.base CX k f fd ps sp) (hr : Room k X.A) (hb : Binds X.K fd ps []) (hx : Passes CX X E) : OpR X (compareOp .In) (rInO C false sp E) := by
  intro pins s σ H y x u v Q I ry rx h
  obtain ⟨a, dx, fs, rfl, ha, q⟩ := h
  cases (show v = Value.ref a from rx)
  obtain ⟨od, J⟩ := Inv.inst I ha
  obtain ⟨mm, hF⟩ := I.fr
  refine PySem.W.in_K hF I.ok.mod.kin J m.at_ m.fn ?_
  refine wpAny_mono (run_in (us := [.ref a, u]) (vs := [.ref a, y]) F hr hb .nil hx I.env0 I (.cons rfl (.cons ry .nil)) (by rw [List.append_nil]; exact q)) (fun z s' e => ?_) fun _ _ e => e
  obtain ⟨z', H', I', rz, b, rfl, qz⟩ := e
  cases (show z = Value.bool b from rz)
  exact wpAny_truthy_bool ⟨.bl b, H', I', rfl, qz⟩
theorem op_notInO (m : Meth X.K C "__contains__" f) (F : FnOk X.prog X.w X.K X.mg X.base CX k f fd ps sp) (hr : Room k X.A) (hb : Binds X.K fd ps []) (hx : Passes CX X E) : OpR X (compareOp .NotIn) (rInO C true sp E) := by
  intro pins s σ H y x u v Q I ry rx h
  obtain ⟨a, dx, fs, rfl, ha, q⟩ := h
  cases (show v = Value.ref a from rx)
  obtain ⟨od, J⟩ := Inv.inst I ha
  obtain ⟨mm, hF⟩ := I.fr
  refine PySem.W.notIn_K hF I.ok.mod.kin J m.at_ m.fn ?_
  refine wpAny_mono (run_in (us := [.ref a, u]) (vs := [.ref a, y]) F hr hb .nil hx I.env0 I (.cons rfl (.cons ry .nil)) (by rw [List.append_nil]; exact q)) (fun z s' e => ?_) fun _ _ e => e
  obtain ⟨z', H', I', rz, b, rfl, qz⟩ := e
  cases (show z = Value.bool b from rz)
  exact wpAny_truthy_bool ⟨.bl (!b), H', I', rfl, qz⟩

/-- len(x) -/
def rLenO (C : Addr) (sp : Sp) (E : XK) : List V → Hp → VK → Prop := fun xs H Q => ∃ a dx fs, xs = [.ref a] ∧ H a = some (.ins C dx fs) ∧ sp xs H (fun v H' => ∃ n : Nat, v = .int n ∧ n < 2 ^ 62 ∧ Q v H') E
theorem call_lenO (m : Meth X.K C "__len__" f) (F : FnOk X.prog X.w X.K X.mg X.base CX k f fd ps sp) (hr : Room (k + 1) X.A) (hb : Binds X.K fd ps []) (hx : Passes CX X E) : CallR X (.builtin "len") (rLenO C sp E) := by
  intro pins s σ H xs us Q I r h
  obtain ⟨a, dx, fs, rfl, ha, q⟩ := h
  rw [Vals.ref1 r]
  obtain ⟨od, J⟩ := Inv.inst I ha
  obtain ⟨mm, hF⟩ := I.fr
  refine PySem.W.len_K hF I.ok.mod.kin J m.at_ m.fn ?_
  refine wpAny_mono (run_in (us := [.ref a]) (vs := [.ref a]) F hr.in1 hb .nil hx I.env0.in1 I (.cons rfl .nil) (by rw [List.append_nil]; exact q)) (fun z s' e => ?_) fun _ _ e => e
  obtain ⟨z', H', I', rz, n, rfl, hn, qz⟩ := e
  obtain ⟨t, rfl⟩ := (show ∃ t, z = Value.int n t from rz)
  exact ⟨⟨by omega, by omega⟩, .int n, H', I'.tok _, ⟨_, rfl⟩, qz⟩

/-- x[y] -/
def rGetO (C : Addr) (sp : Sp) (E : XK) : R2 := fun x y H Q => ∃ a dx fs, x = .ref a ∧ H a = some (.ins C dx fs) ∧ sp [x, y] H Q E
theorem pe_getO {o i : Expr} {to ti : TE} {pos : Pos} (m : Meth X.K C "__getitem__" f) (fn : PySem.W.fnIn X.K f = true) (F : FnOk X.prog X.w X.K X.mg X.base CX k f fd ps sp) (hr : Room (k + 1) X.A) (hb : Binds X.K fd ps []) (hx : Passes CX X E) (ho : PE X o to) (hi : PE X i ti)
    (hsl : ∀ x y, subscripted i true x y = runValue (.builtin "lifetime.subscript" ⟨[x, y], []⟩) := by intro _ _; with_unfolding_all rfl) : PE X (.Subscript o i pos) (tOp (rGetO C sp E) to ti) := by
  refine ⟨fun pins s σ H Q I h => ?_⟩
  refine Subscript_ (binT ho hi I h fun v u s2 x y H2 I2 rx ry q => ?_)
  obtain ⟨a, dx, fs, rfl, ha, q⟩ := q
  cases (show v = Value.ref a from rx)
  obtain ⟨od, J⟩ := Inv.inst I2 ha
  obtain ⟨mm, hF⟩ := I2.fr
  refine PySem.W.sub_K hF I2.ok.mod.kin J m.at_ fn m.fn ?_ (hsl _ _)
  exact run_in (us := [.ref a, u]) (vs := [.ref a, y]) F hr.in1 hb .nil hx I2.env0.in1 I2 (.cons rfl (.cons ry .nil)) (by rw [List.append_nil]; exact q)
end
end Mf

/-! Sets of texts built by set(xs), and sorted(..) of them. -/
namespace Mf
open PySem PySem.Spec PyProof.Rows L2 PySem.Froz

section
variable {P : Program} {w : World} {A : Around} {E : Value → Shared → Prop} {s : Shared} {a : Addr} {l : List Str} {k : Str} {u : Tok}

/-- a set of the texts l (each once) at a -/
def TxR (P : Program) (w : World) (h : Heap) (a : Addr) (l : List Str) : Prop :=
  (∃ D : SD, h.get? a = some (sObj "set" D) ∧ TxOk P w D l ∧ Ris D.2.2.place.toList ∧ (w.params.followText "set-order" = true ∨ D.2.2.led = true)) ∧ l.Nodup ∧ l.length < scanBound

theorem TxR.keep {h h' : Heap} (R : TxR P w h a l) (q : ∀ o, h.get? a = some o → h'.get? a = some o) : TxR P w h' a l :=
  let ⟨⟨D, e, z⟩, n, f⟩ := R
  ⟨⟨D, q _ e, z⟩, n, f⟩

theorem add_order (D : SD) (x : Int) (v : Value) (r : Ris D.2.2.place.toList) : Ris (addTx x v D).2.2.place.toList ∧ (addTx x v D).2.2.led = D.2.2.led := by
  obtain ⟨es, ep, t⟩ := D
  have r1 := layNew_ris t es x v r
  have l1 := layNew_led t es x v
  show Ris (tailTx ep (layNew t es x v).1 (if (layNew t es x v).2.1.plain = true then { (layNew t es x v).2.1 with plain := false } else (layNew t es x v).2.1) (layNew t es x v).2.2.1).2.2.place.toList ∧ (tailTx ep (layNew t es x v).1 (if (layNew t es x v).2.1.plain = true then { (layNew t es x v).2.1 with plain := false } else (layNew t es x v).2.1) (layNew t es x v).2.2.1).2.2.led = t.led
  generalize layNew t es x v = Z at r1 l1 ⊢
  obtain ⟨es1, t1, wd, g⟩ := Z
  dsimp only at r1 l1 ⊢
  have r2 : Ris (if t1.plain = true then { t1 with plain := false } else t1).place.toList := by split <;> exact r1
  have l2 : (if t1.plain = true then { t1 with plain := false } else t1).led = t.led := by split <;> exact l1
  generalize (if t1.plain = true then { t1 with plain := false } else t1) = t2 at r2 l2 ⊢
  unfold tailTx
  split
  · exact ⟨relayAll_ris t2 es1 _, (relayAll_led t2 es1 _).trans l2⟩
  · exact ⟨r2, l2⟩

theorem add_dup {Q : Bool → Shared → Prop} {D : SD} (ho : s.heap.get? a = some (sObj "set" D)) (F : TxOk P w D l) (hk : k ∈ l) (hb : l.length < scanBound) (h : Q false s) : wpAny (model P w) A (setAddHashed a (.str k u) (hashStr w k)) Q E s := by
  obtain ⟨es, ep, t⟩ := D
  have dd : (sObj "set" (es, ep, t)).data = .set es ep t := rfl
  have ff : t.fits es.size = true := F.fit
  have el : ElemsOf (strKind P w) es.toList := F.el
  have zz : es.size = l.length := F.sz
  have b0 : es.size < scanBound := by omega
  have key : (strKind P w).is k (.str k u) = true := is_str k u
  unfold setAddHashed setAddHashedIn
  refine wpAny_holding (wpAny_bind (wpAny_setState_of ho dd ff ?_))
  dsimp only
  rw [byScan_of rfl b0 el]
  simp only [↓reduceIte]
  unfold setAddByScan
  refine wpAny_bind ?_
  refine wpAny_bind (wpAny_rule ?_)
  refine wpAny_bind (wpAny_setScan_of (knd := strKind P w) (k := k) key ho dd ff el ?_)
  cases hr : List.findIdx? (fun e => (strKind P w).is k e.2) es.toList with
  | some j => exact wpAny_pure (wpAny_pure h)
  | none =>
    obtain ⟨e, he, q⟩ := (F.mem k).mp hk
    have c := List.findIdx?_eq_none_iff.mp hr e he
    rw [q] at c
    cases c

theorem txr_add {Q : Bool → Shared → Prop} (R : TxR P w s.heap a l) (room : l.length + 1 < scanBound)
    (hQ : ∀ (b : Bool) h' l', Heap.SameBut a s.heap h' → TxR P w h' a l' → (∀ z, z ∈ l' ↔ z ∈ l ∨ z = k) → l'.length ≤ l.length + 1 → Q b { s with heap := h' }) :
    wpAny (model P w) A (setAddHashed a (.str k u) (hashStr w k)) Q E s := by
  obtain ⟨⟨D, ho, F, r, fl⟩, nd, few⟩ := id R
  by_cases hk : k ∈ l
  · refine add_dup ho F hk few ?_
    exact hQ false s.heap l (Heap.SameBut.refl a s.heap) R (fun z => ⟨Or.inl, fun q => q.elim id fun e => e ▸ hk⟩) (Nat.le_succ _)
  · refine add_x ho F hk room ?_
    have o := add_order D (hashStr w k) (.str k u) r
    refine hQ true _ (k :: l) (Heap.SameBut.update s.heap a _) ⟨⟨_, get_upd _ ho rfl, add_ok u F, o.1, fl.imp id fun z => o.2.trans z⟩, List.nodup_cons.mpr ⟨hk, nd⟩, room⟩ (fun z => ?_) (Nat.le_refl _)
    rw [List.mem_cons]
    exact Or.comm

theorem txr_new {h : Heap} (e : h.get? a = some { cls := .type "set", dict := none, data := .set #[] 0 (.fresh 0 0 (!w.params.followText "set-order")) }) : TxR P w h a [] := by
  refine ⟨⟨(#[], 0, .fresh 0 0 (!w.params.followText "set-order")), e, TxOk.nil rfl, List.Pairwise.nil, ?_⟩, List.nodup_nil, by decide⟩
  show _ ∨ (!w.params.followText "set-order") = true
  cases w.params.followText "set-order"
  · exact .inr rfl
  · exact .inl rfl

/-- set.update's turns over texts -/
theorem loop_txt {I : Addr} {fp wr : List Addr} {G : Array GenState → Array GenState → Prop} {n : Nat} {Pv : Nat → Value → Prop} {St : Nat → Shared → Prop} {R : Result → Shared → Prop}
    (W : WalksS P w A.in1 I fp wr G n Pv St) (S : Addr) (nS : S ∉ fp) (xs : List Str) (hn : n = xs.length) (room : n + 1 < scanBound) (val : ∀ i v, Pv i v → ∃ x t, xs[i]? = some x ∧ v = .str x t) :
    ∀ (k i : Nat) (s : Shared), n - i = k → i ≤ n → St i s → (∃ l, TxR P w s.heap S l ∧ (∀ z, z ∈ l ↔ z ∈ xs.take i) ∧ l.length ≤ i) →
      (∀ s' l, Moved (S :: wr) G s s' → TxR P w s'.heap S l → (∀ z, z ∈ l ↔ z ∈ xs) → R (.ok (.ret .none)) s') →
      codeAny (model P w) A (.builtin "set.update.loop" ⟨[.ref S, .ref I], []⟩) R s := by
  have sw : S ∉ wr := fun q => nS (W.sub _ q)
  have sub : ∀ b ∈ wr, b ∈ S :: wr := fun b q => List.mem_cons_of_mem _ q
  intro k
  induction k with
  | zero =>
    rintro i s hk hi hst ⟨l, hS, hm, _⟩ hR
    obtain rfl : i = n := by omega
    refine codeAny_builtin F.entry_set_update_loop ?_
    rw [Around.under_plainId F.plain_set_update_loop _]
    show wpAny _ A.in1 (pyNext (.ref I) >>= _) _ _ s
    refine wpAny_bind (W.done s _ _ hst fun s' mv => ?_)
    show wpAny _ A.in1 (ret Value.none) _ _ s'
    refine wpAny_pure (hR s' l (mv.mono sub) (hS.keep fun o e => mv.heap S o sw e) fun z => ?_)
    rw [hm z, hn, List.take_length]
  | succ k ih =>
    rintro i s hk hi hst ⟨l, hS, hm, hle⟩ hR
    have lt : i < n := by omega
    refine codeAny_builtin F.entry_set_update_loop ?_
    rw [Around.under_plainId F.plain_set_update_loop _]
    show wpAny _ A.in1 (pyNext (.ref I) >>= _) _ _ s
    refine wpAny_bind (W.item i s _ _ lt hst fun v s' pv' hst' mv => ?_)
    obtain ⟨x, t, ex, rfl⟩ := val i v pv'
    have hS' : TxR P w s'.heap S l := hS.keep fun o e => mv.heap S o sw e
    show wpAny _ A.in1 (holding [Value.str x t] (setAdd S (.str x t)) >>= _) _ _ s'
    refine wpAny_bind (wpAny_holding ?_)
    unfold setAdd
    refine wpAny_holding (wpAny_bind ((strKind P w).pyHash (is_str x t) ?_))
    refine txr_add (s := { s' with toks := s'.toks + 1 }) hS' (by omega) fun b h' l' same R' m' le' => ?_
    have tk : xs.take (i + 1) = xs.take i ++ [x] := by rw [List.take_add_one, ex]; rfl
    refine wpAny_pure ⟨plainId_quiet F.plain_set_update_loop _, ih (i + 1) _ (by omega) lt (W.frame _ s' _ _ hst' (Nat.le_add_right _ _) fun b hb o e => ?_) ⟨l', R', fun z => ?_, by omega⟩ fun s'' l2 mv2 R2 m2 => ?_⟩
    · rw [same.2 b (fun q : b = S => nS (q ▸ hb))]
      exact e
    · rw [m' z, hm z, tk, List.mem_append, List.mem_singleton]
    · refine hR s'' l2 (Moved.trans W.gtrans ((mv.mono sub).then_heap (Nat.le_add_right _ _) fun b o hb e => ?_) mv2) R2 m2
      rw [same.2 b (fun q : b = S => hb (q ▸ List.mem_cons_self))]
      exact e

abbrev set0 (w : World) : Obj := { cls := .type "set", dict := none, data := .set #[] 0 (.fresh 0 0 (!w.params.followText "set-order")) }

/-- how a builtin's tree ends, as a result R -/
def FinX (P : Program) (w : World) (B : Around) (R : Result → Shared → Prop) : Fin → Shared → Prop
  | .done f, s' => R (.ok f) s'
  | .again c', s' => c'.quiet = true ∧ codeAny (model P w) B c' R s'

/-- the set at S is filled from what stands at c -/
def Fills (P : Program) (w : World) (s : Shared) (c : Addr) (xs : List Str) : Prop :=
  ∀ (B : Around) (R : Result → Shared → Prop), B.handled = none →
    (∀ (h' : Heap) (tk : Nat) (l : List Str), TxR P w h' s.heap.objs.size l → (∀ z, z ∈ l ↔ z ∈ xs) → (∀ b o, s.heap.get? b = some o → h'.get? b = some o) → R (.ok (.ret .none)) { s with heap := h', toks := tk }) →
    wpAny (model P w) B.in1 (Builtin.«set.__init__» ⟨[.ref s.heap.objs.size, .ref c], []⟩) (FinX P w B R) (fun e s' => R (.error e) s') { s with heap := s.heap.push (set0 w) }

theorem strs_val {us : List Value} {xs : List Str} (h : StrsAre us xs) : us.length = xs.length ∧ ∀ (i : Nat) (v : Value), us[i]? = some v → ∃ x t, xs[i]? = some x ∧ v = .str x t := by
  induction h with
  | nil => exact ⟨rfl, fun i v q => by simp at q⟩
  | cons x t h ih =>
    refine ⟨congrArg (· + 1) ih.1, fun i v q => ?_⟩
    cases i with
    | zero => exact ⟨x, t, rfl, (Option.some.inj q).symm⟩
    | succ i => exact ih.2 i v q

section
variable {items : Array Value} {xs : List Str} {c : Addr}
theorem fill_end {I : Addr} {R : Result → Shared → Prop} (hI : I = s.heap.objs.size + 1)
    (hR : ∀ (h' : Heap) (tk : Nat) (l : List Str), TxR P w h' s.heap.objs.size l → (∀ z, z ∈ l ↔ z ∈ xs) → (∀ b o, s.heap.get? b = some o → h'.get? b = some o) → R (.ok (.ret .none)) { s with heap := h', toks := tk })
    {h0 : Heap} (k0 : ∀ b o, s.heap.get? b = some o → h0.get? b = some o) {s' : Shared} {l : List Str} (mv : Moved [s.heap.objs.size, I] (fun a b => b = a) { s with heap := h0 } s') (T : TxR P w s'.heap s.heap.objs.size l) (m : ∀ z, z ∈ l ↔ z ∈ xs) : R (.ok (.ret .none)) s' := by
  obtain ⟨h', g2, d2, t2, o2⟩ := s'
  have e1 : g2 = s.gens := mv.gens
  have e2 : d2 = s.drawn := mv.drawn
  have e3 : o2 = s.os := mv.os
  subst e1 e2 e3
  refine hR h' t2 l T m fun b o e => mv.heap b o (fun z => ?_) (k0 b o e)
  have lt : b < s.heap.objs.size := Heap.lt_size e
  rcases List.mem_cons.mp z with z | z
  · exact absurd z (Nat.ne_of_lt lt)
  · exact absurd ((List.mem_singleton.mp z).trans hI) (Nat.ne_of_lt (Nat.lt_succ_of_lt lt))

set_option maxHeartbeats 3200000 in
theorem fills_list (hl : s.heap.IsList c items) (hit : StrsAre items.toList xs) (room : xs.length + 1 < scanBound) : Fills P w s c xs := by
  intro B R hh hR
  obtain ⟨len, val⟩ := strs_val hit
  rw [Array.length_toList] at len
  obtain ⟨⟨k, dd, da, sl⟩, hob, hk, n, hd⟩ := hl
  simp only at hk hd
  subst hk hd
  have hob1 : (s.heap.push (set0 w)).get? c = some { cls := .type "list", dict := dd, data := .seq items n, slots := sl } := Heap.get?_push_of_some _ hob
  have f1 := F.sub_list_set
  have f2 := F.sub_list_frozenset
  have f3 : (Value.type "list" == Value.type "dict") = false := by decide
  have isl : (s.heap.push (set0 w)).IsList c items := ⟨_, hob1, rfl, n, rfl⟩
  unfold Builtin.«set.__init__» noKeywords Builtin.Frozenset.updateFrom
  generalize gq : pyIter = PI
  wp_walk
  subst gq
  refine wpAny_pyIter_list isl ?_
  refine wpAny_bind (wpAny_runValue ?_)
  have h3 : B.in1.in1.handled = none := by simp [hh]
  have lt : c < s.heap.objs.size := Heap.lt_size hob
  have z1 : (s.heap.push (set0 w)).objs.size = s.heap.objs.size + 1 := Heap.size_push ..
  have nI : c ≠ (s.heap.push (set0 w)).objs.size := by rw [z1]; exact Nat.ne_of_lt (Nat.lt_succ_of_lt lt)
  have nS : s.heap.objs.size ∉ [(s.heap.push (set0 w)).objs.size, c] := by
    rw [z1]
    simp only [List.mem_cons, List.not_mem_nil, or_false, not_or]
    exact ⟨Nat.ne_of_lt (Nat.lt_succ_self _), Nat.ne_of_gt lt⟩
  have get0 : (s.heap.push (set0 w)).get? s.heap.objs.size = some (set0 w) := Heap.get?_push_size _ rfl
  refine loop_txt ((Walks.list h3 _ c nI items).toS) s.heap.objs.size nS xs len (by omega) (fun i v q => val i v (by rw [Array.getElem?_toList]; exact q)) (items.size - 0) 0 _ (by omega) (Nat.zero_le _)
    ⟨⟨_, Heap.get?_push_size _ rfl, rfl, rfl⟩, isl.push _⟩ ⟨[], txr_new (Heap.get?_push_of_some _ get0), fun z => by simp, Nat.le_refl 0⟩ fun s' l mv T m => ?_
  have q := fill_end (R := R) z1 hR (fun b o e => Heap.get?_push_of_some _ (Heap.get?_push_of_some _ e)) mv T m
  show wpAny _ _ _ _ _ _
  refine wpAny_pure ?_
  show wpAny _ _ (ret Value.none) _ _ _
  exact wpAny_pure q
set_option maxHeartbeats 3200000 in
theorem fills_tuple (hl : s.heap.IsTuple c items) (hit : StrsAre items.toList xs) (room : xs.length + 1 < scanBound) : Fills P w s c xs := by
  intro B R hh hR
  obtain ⟨len, val⟩ := strs_val hit
  rw [Array.length_toList] at len
  obtain ⟨⟨k, dd, da, sl⟩, hob, hk, n, hd⟩ := hl
  simp only at hk hd
  subst hk hd
  have hob1 : (s.heap.push (set0 w)).get? c = some { cls := .type "tuple", dict := dd, data := .seq items n, slots := sl } := Heap.get?_push_of_some _ hob
  have f1 := F.sub_tuple_set
  have f2 := F.sub_tuple_frozenset
  have f3 : (Value.type "tuple" == Value.type "dict") = false := by decide
  have isl : (s.heap.push (set0 w)).IsTuple c items := ⟨_, hob1, rfl, n, rfl⟩
  unfold Builtin.«set.__init__» noKeywords Builtin.Frozenset.updateFrom
  generalize gq : pyIter = PI
  wp_walk
  subst gq
  refine wpAny_pyIter_tuple isl ?_
  refine wpAny_bind (wpAny_runValue ?_)
  have h3 : B.in1.in1.handled = none := by simp [hh]
  have lt : c < s.heap.objs.size := Heap.lt_size hob
  have z1 : (s.heap.push (set0 w)).objs.size = s.heap.objs.size + 1 := Heap.size_push ..
  have nI : c ≠ (s.heap.push (set0 w)).objs.size := by rw [z1]; exact Nat.ne_of_lt (Nat.lt_succ_of_lt lt)
  have nS : s.heap.objs.size ∉ [(s.heap.push (set0 w)).objs.size, c] := by
    rw [z1]
    simp only [List.mem_cons, List.not_mem_nil, or_false, not_or]
    exact ⟨Nat.ne_of_lt (Nat.lt_succ_self _), Nat.ne_of_gt lt⟩
  have get0 : (s.heap.push (set0 w)).get? s.heap.objs.size = some (set0 w) := Heap.get?_push_size _ rfl
  refine loop_txt ((Walks.tuple h3 _ c nI items).toS) s.heap.objs.size nS xs len (by omega) (fun i v q => val i v (by rw [Array.getElem?_toList]; exact q)) (items.size - 0) 0 _ (by omega) (Nat.zero_le _)
    ⟨⟨_, Heap.get?_push_size _ rfl, rfl, rfl⟩, isl.push _⟩ ⟨[], txr_new (Heap.get?_push_of_some _ get0), fun z => by simp, Nat.le_refl 0⟩ fun s' l mv T m => ?_
  have q := fill_end (R := R) z1 hR (fun b o e => Heap.get?_push_of_some _ (Heap.get?_push_of_some _ e)) mv T m
  show wpAny _ _ _ _ _ _
  refine wpAny_pure ?_
  show wpAny _ _ (ret Value.none) _ _ _
  exact wpAny_pure q

set_option maxHeartbeats 3200000 in
/-- set(xs), xs a list or tuple of texts -/
theorem set_call {Q : Value → Shared → Prop} (hh : A.handled = none) (fill : Fills P w s c xs)
    (h : ∀ (h' : Heap) (tk : Nat) (l : List Str), TxR P w h' s.heap.objs.size l → (∀ z, z ∈ l ↔ z ∈ xs) → (∀ b o, s.heap.get? b = some o → h'.get? b = some o) → Q (.ref s.heap.objs.size) { s with heap := h', toks := tk }) :
    wpAny (model P w) A (call (.type "set") [.ref c]) Q E s := by
  obtain ⟨c0, tl, hmro⟩ := F.called_set.mro
  have hmade := F.called_set.made
  have hsub := F.called_set.sub
  refine wpAny_call (codeAny_of_tree ?_)
  show wpAny _ _ (callAny (.type "set") _) _ _ _
  refine wpAny_pure ⟨Code.quiet_builtin _ (by decide +kernel), codeAny_builtin F.entry_type_call ?_⟩
  rw [Around.under_plain (weight_type_call_type "set" [.ref c] []) rfl]
  have h1 := F.called_set.notType
  have h2 := F.called_set.canCreate
  have h3 := F.typeCall_set_1 (.ref c)
  repeat (any_goals (first | assumption | wp_step))
  refine codeAny_mono (code_set_led1 (.ref c) (E := E) (Q₁ := fun obj s₁ => obj = .ref s.heap.objs.size ∧ s₁ = { s with heap := s.heap.push (set0 w) }) ⟨rfl, rfl⟩) fun r s1 hr => ?_
  rcases r with e | fl
  · exact hr
  rcases fl with _ | _ | _ | obj
  all_goals try exact hr.elim
  obtain ⟨rfl, rfl⟩ := hr
  have hS : (s.heap.push (set0 w)).get? s.heap.objs.size = some (set0 w) := Heap.get?_push_size _ rfl
  have tS : Shared.TypeIs { s with heap := s.heap.push (set0 w) } (.ref s.heap.objs.size) "set" := ⟨_, hS, rfl⟩
  have i1 := F.called_set.init.lookup
  have i2 := F.called_set.init.bind (.ref s.heap.objs.size)
  repeat (any_goals (first | assumption | wp_step))
  refine codeAny_mono (codeAny_call_builtin (R := wants (fun r s₂ => r = .none ∧ ∃ h' tk l, s₂ = { s with heap := h', toks := tk } ∧ TxR P w h' s.heap.objs.size l ∧ (∀ z, z ∈ l ↔ z ∈ xs) ∧ (∀ b o, s.heap.get? b = some o → h'.get? b = some o)) E)
    F.called_set.init.plain F.entry_set_init (check_set_init_1 tS ?_)) fun r2 s2 h2 => ?_
  · refine wpAny_mono (fill A.in1 (wants (fun r s₂ => r = .none ∧ ∃ h' tk l, s₂ = { s with heap := h', toks := tk } ∧ TxR P w h' s.heap.objs.size l ∧ (∀ z, z ∈ l ↔ z ∈ xs) ∧ (∀ b o, s.heap.get? b = some o → h'.get? b = some o)) E) (by simp [hh])
      fun h' tk l T m k => ⟨rfl, h', tk, l, rfl, T, m, k⟩) (fun fin s' q => ?_) fun _ _ q => q
    cases fin <;> exact q
  · rcases r2 with e | fl
    · exact h2
    rcases fl with _ | _ | _ | obj
    all_goals try exact h2.elim
    obtain ⟨rfl, h', tk, l, rfl, R, m, k⟩ := h2
    repeat (any_goals (first | assumption | wp_step))
    exact h _ _ _ R m k

theorem strs_get {l : List Str} : ∀ {vs : List Value}, (∀ v ∈ vs, ∃ x t, v = .str x t) → ∃ ys, StrsAre vs ys
  | [], _ => ⟨[], .nil⟩
  | v :: vs, h => by
    obtain ⟨x, t, rfl⟩ := h v List.mem_cons_self
    obtain ⟨ys, q⟩ := strs_get (l := l) fun u hu => h u (List.mem_cons_of_mem _ hu)
    exact ⟨x :: ys, .cons x t q⟩
theorem strs_mem {x : Str} : ∀ {vs : List Value} {ys : List Str}, StrsAre vs ys → (x ∈ ys ↔ ∃ t, Value.str x t ∈ vs)
  | _, _, .nil => by simp
  | _, _, .cons y t h => by
    rw [List.mem_cons, strs_mem h]
    constructor
    · rintro (rfl | ⟨u, q⟩)
      · exact ⟨t, List.mem_cons_self⟩
      · exact ⟨u, List.mem_cons_of_mem _ q⟩
    · rintro ⟨u, q⟩
      rcases List.mem_cons.mp q with e | q
      · injection e with e _
        exact .inl e
      · exact .inr ⟨u, q⟩

/-- sorted(a set of texts) -/
theorem sorted_txr {a : Addr} {l : List Str} {Q : Value → Shared → Prop} (T : TxR P w s.heap a l) (hh : A.handled = none)
    (hQ : ∀ s' p (out : Array Value) (c : Nat) (ys : List Str), (∀ b o, s.heap.get? b = some o → s'.heap.get? b = some o) → s'.gens = s.gens → s'.os = s.os → s.heap.objs.size ≤ p →
      s'.heap.get? p = some (seqObj "list" out c) → StrsAre out.toList ys → sortedS ys = true → (∀ z, z ∈ ys ↔ z ∈ l) → ys.length = l.length → Q (.ref p) s') :
    wpAny (model P w) A (call (.builtin "sorted") [.ref a]) Q E s := by
  obtain ⟨⟨⟨es, ep, t⟩, ho, F, r, fl⟩, nd, few⟩ := T
  have zz : es.size = l.length := F.sz
  refine Calls.call_function_entry kind_sorted plain_sorted entry_sorted (args_sorted1 _) ?_
  unfold Builtin.«sorted»
  refine wpAny_bind (m := checkCount "sorted" 1 1 _) (wpAny_pure ?_)
  refine wpAny_bind (collect_set (A := A.in1) hh ⟨_, ho, rfl, rfl⟩ F.fit (by rw [zz]; exact few) r fl fun s1 vs k1 hz g1 o1 pm => ?_)
  have all : ∀ v ∈ vs, ∃ x t, v = .str x t := fun v hv => by
    obtain ⟨e, he, rfl⟩ := List.mem_map.mp (pm.mem_iff.mp hv)
    obtain ⟨⟨x, hx, _⟩, _⟩ := F.el e he
    obtain ⟨t, q⟩ := Value.isStrOf_shape (x := x) (v := e.2) hx
    exact ⟨x, t, q⟩
  obtain ⟨ws, hS⟩ := strs_get (l := l) all
  have len := (strs_val hS).1
  have lvs : vs.length = l.length := by rw [pm.length_eq, List.length_map, Array.length_toList]; exact zz
  have mem : ∀ z, z ∈ ws ↔ z ∈ l := fun z => by
    rw [strs_mem hS, F.mem z]
    constructor
    · rintro ⟨t, q⟩
      obtain ⟨e, he, e2⟩ := List.mem_map.mp (pm.mem_iff.mp q)
      exact ⟨e, he, by rw [e2]; exact is_str z t⟩
    · rintro ⟨e, he, q⟩
      obtain ⟨t, e2⟩ := Value.isStrOf_shape (x := z) (v := e.2) q
      exact ⟨t, pm.mem_iff.mpr (List.mem_map.mpr ⟨e, he, e2⟩)⟩
  have few2 : vs.length ≤ sizeLine := by rw [lvs]; exact fits_of_scanBound few
  refine wpAny_bind (wpAny_newList ?_ few2)
  have hoL : (s1.heap.push (seqObj "list" vs.toArray 0)).get? s1.heap.objs.size = some (seqObj "list" vs.toArray 0) := Heap.get?_push_size _ rfl
  refine wpAny_bind (wpAny_holding (wpAny_call_entry slot_list_sort ⟨_, hoL, rfl⟩ entry_list_sort (list_sort_treeKAny strKind_oneLt hoL hS.keysOf (fun v₁ v₂ rest e => keyKind_strs (by rw [← e]; exact hS)) few2 fun st' hp hs => ⟨_, rfl, ?_⟩) (args_list_sort _)))
  obtain ⟨ys, g1', g2, g3⟩ := sorted_out_str hS hp hs
  obtain ⟨c, hc⟩ := sortedHeap_at (vs := vs) (out := (arrOf st').map (·.2)) hoL
  refine wpAny_pure ⟨_, rfl, hQ _ s1.heap.objs.size _ c ys (fun b u e => ?_) g1 o1 hz hc g1' g3 (fun z => by rw [g2.mem_iff, mem z]) (by rw [g2.length_eq, ← len, lvs])⟩
  have q := k1 b u e
  have lt := Heap.lt_size q
  show (sortedHeap (s1.heap.push (seqObj "list" vs.toArray 0)) s1.heap.objs.size vs _).get? b = some u
  rw [sortedHeap_old (Nat.ne_of_lt lt) (by rw [size_push']; exact Nat.lt_succ_of_lt lt)]
  exact Heap.get?_push_of_some _ q
end
end

/-! ### over the hand layer -/
section
variable {X : Cx}
def TxO (P : Program) (w : World) (a : Addr) (l : List Str) : HO := .ext fun h => TxR P w h a l
theorem txo_new {P : Program} {w : World} {H : Hp} {h : Heap} {a : Addr} {l : List Str} (R : TxR P w h a l) : ObjOk P w H h a (TxO P w a l) :=
  ⟨R, let ⟨⟨_, e, _⟩, _⟩ := R; ⟨_, e⟩, fun _ _ q k => q.keep k⟩

/-- set(xs) of a list or tuple of texts -/
def rSetS (K : PySem.W.Frag) (P : Program) (w : World) : List V → Hp → VK → Prop := fun vs H Q => ∃ (c : Addr) (xs : List Str), vs = [.ref c] ∧ (SqL K H c (xs.map V.str) ∨ SqT K H c (xs.map V.str)) ∧ xs.length < 4000 ∧
  ∀ (p : Addr) (l : List Str), H p = none → l.Nodup → (∀ z, z ∈ l ↔ z ∈ xs) → Q (.ref p) (upd H p (TxO P w p l))
theorem cr_setS (hc : X.calm = true) : CallR X (.type "set") (rSetS X.K X.prog X.w) := by
  intro pins s σ H vs us Q I r h
  obtain ⟨c, xs, rfl, hs, few, q⟩ := h
  rw [Vals.ref1 r]
  have hn : H s.heap.objs.size = none := I.hok.fresh (Nat.le_refl _)
  have fill : Fills X.prog X.w s c xs := by
    rcases hs with hs | hs
    · obtain ⟨its, rv, pl, hz⟩ := I.list hs
      exact fills_list pl.isList (by simpa using rv.strs) (by unfold scanBound; omega)
    · obtain ⟨its, rv, pl, hz⟩ := I.tuple hs
      exact fills_tuple pl (by simpa using rv.strs) (by unfold scanBound; omega)
  refine set_call (I.ok.hd hc) fill fun h' tk l T m k => ?_
  exact ⟨.ref s.heap.objs.size, _, I.laid (t' := tk) k (Nat.le_refl _) (txo_new T), rfl, q _ l hn T.2.1 m⟩

/-- sorted(a set of texts) -/
def rSortedX (P : Program) (w : World) : List V → Hp → VK → Prop := fun vs H Q => ∃ (a : Addr) (l : List Str), vs = [.ref a] ∧ H a = some (TxO P w a l) ∧
  ∀ (ys : List Str) (p : Addr), sortedS ys = true → (∀ z, z ∈ ys ↔ z ∈ l) → ys.length = l.length → H p = none → Q (.ref p) (upd H p (.lst (ys.map V.str)))
theorem cr_sortedX (hc : X.calm = true) : CallR X (.builtin "sorted") (rSortedX X.prog X.w) := by
  intro pins s σ H vs us Q I r h
  obtain ⟨a, l, rfl, ha, q⟩ := h
  have T : TxR X.prog X.w s.heap a l := (I.hok a _ ha).1
  rw [Vals.ref1 r]
  refine sorted_txr T (I.ok.hd hc) fun s' p out c ys k g o hp hg hS so m len => ?_
  have hn : H p = none := I.hok.fresh hp
  have few : (ys.map V.str).length ≤ sizeLine := by rw [List.length_map, len]; exact fits_of_scanBound T.2.2
  have J : Inv X pins σ (upd H p (.lst (ys.map V.str))) { s with heap := s'.heap, gens := s'.gens, drawn := s'.drawn, toks := s'.toks } :=
    I.call (ch := []) (Un.laid k hp hn) (I.hok.laid k hp ⟨few, out.toList, c, vals_of_strs hS, hg⟩) (by rw [g]; exact I.bare) fun _ z => nomatch z
  have e : s' = { s with heap := s'.heap, gens := s'.gens, drawn := s'.drawn, toks := s'.toks } := by
    rcases s' with ⟨_, _, _, _, _⟩
    cases o
    rfl
  rw [e]
  exact ⟨.ref p, _, J, rfl, q ys p so m len hn⟩
end
end Mf
/-! Sorted texts: the order, and that a sorted row without repeats is the only one of its members. -/
namespace Mf
open PySem L2
theorem lt_irr : ∀ l : List Nat, Spec.ltCps l l = false
  | [] => rfl
  | a :: r => by
    show (decide (a < a) || (a == a && Spec.ltCps r r)) = false
    rw [lt_irr r]; simp
theorem lt_asym : ∀ l m : List Nat, Spec.ltCps l m = true → Spec.ltCps m l = false
  | [], [], h => rfl
  | [], _ :: _, _ => rfl
  | _ :: _, [], h => by cases h
  | a :: r, b :: t, h => by
    have h : (decide (a < b) || (a == b && Spec.ltCps r t)) = true := h
    show (decide (b < a) || (b == a && Spec.ltCps t r)) = false
    simp only [Bool.or_eq_true, decide_eq_true_eq, Bool.and_eq_true, beq_iff_eq] at h
    simp only [Bool.or_eq_false_iff, decide_eq_false_iff_not, Bool.and_eq_false_iff, beq_eq_false_iff_ne]
    rcases h with h2 | ⟨rfl, h2⟩
    · exact ⟨by omega, .inl (by omega)⟩
    · exact ⟨by omega, .inr (lt_asym r t h2)⟩
theorem lt_tri : ∀ l m : List Nat, Spec.ltCps l m = false → Spec.ltCps m l = false → l = m
  | [], [], _, _ => rfl
  | [], _ :: _, h, _ => by cases h
  | _ :: _, [], _, h => by cases h
  | a :: r, b :: t, h, g => by
    have h : (decide (a < b) || (a == b && Spec.ltCps r t)) = false := h
    have g : (decide (b < a) || (b == a && Spec.ltCps t r)) = false := g
    simp only [Bool.or_eq_false_iff, decide_eq_false_iff_not, Bool.and_eq_false_iff, beq_eq_false_iff_ne] at h g
    obtain rfl : a = b := by omega
    rw [lt_tri r t (h.2.resolve_left fun n => n rfl) (g.2.resolve_left fun n => n rfl)]
theorem lt_trans : ∀ l m n : List Nat, Spec.ltCps l m = true → Spec.ltCps m n = true → Spec.ltCps l n = true
  | [], [], _, h, _ => by cases h
  | [], _ :: _, [], _, h => by cases h
  | [], _ :: _, _ :: _, _, _ => rfl
  | _ :: _, [], _, h, _ => by cases h
  | _ :: _, _ :: _, [], _, h => by cases h
  | a :: r, b :: t, c :: u, h, g => by
    have h : (decide (a < b) || (a == b && Spec.ltCps r t)) = true := h
    have g : (decide (b < c) || (b == c && Spec.ltCps t u)) = true := g
    show (decide (a < c) || (a == c && Spec.ltCps r u)) = true
    simp only [Bool.or_eq_true, decide_eq_true_eq, Bool.and_eq_true, beq_iff_eq] at h g ⊢
    rcases h with h2 | ⟨rfl, h2⟩
    · rcases g with g2 | ⟨rfl, g2⟩
      · left; omega
      · left; exact h2
    · rcases g with g2 | ⟨rfl, g2⟩
      · left; exact g2
      · right; exact ⟨rfl, lt_trans r t u h2 g2⟩
def Lt (x y : Str) : Prop := Spec.ltCps x.cps.toList y.cps.toList = true
theorem Lt.ne {x y : Str} (h : Lt x y) : x ≠ y := fun e => by subst e; unfold Lt at h; rw [lt_irr] at h; cases h
theorem Lt.asymm {x y : Str} (h : Lt x y) : ¬ Lt y x := fun g => by unfold Lt at h g; rw [lt_asym _ _ h] at g; cases g
theorem Lt.trans {x y z : Str} (h : Lt x y) (g : Lt y z) : Lt x z := lt_trans _ _ _ h g
theorem not_lt {x y : Str} (h : Spec.ltCps y.cps.toList x.cps.toList = false) (n : x ≠ y) : Lt x y := by
  unfold Lt
  cases e : Spec.ltCps x.cps.toList y.cps.toList with
  | true => rfl
  | false => exact absurd (tl_inj (lt_tri _ _ e h)) n
/-- in order, each once -/
def Up (l : List Str) : Prop := l.Pairwise Lt
theorem Up.nd {l : List Str} (h : Up l) : l.Nodup := List.Pairwise.imp (fun h => h.ne) h
theorem rising_up : ∀ (l : List Str) (p : Str), PyProof.Rows.risingS p l = true → (p :: l).Nodup → Up (p :: l)
  | [], p, _, _ => List.pairwise_singleton _ _
  | x :: r, p, h, nd => by
    have h : (!Spec.ltCps x.cps.toList p.cps.toList && PyProof.Rows.risingS x r) = true := h
    obtain ⟨h1, h2⟩ := Bool.and_eq_true_iff.mp h
    obtain ⟨n1, n2⟩ := List.nodup_cons.mp nd
    have u := rising_up r x h2 n2
    have px : Lt p x := not_lt (by simpa using h1) fun e => n1 (e ▸ List.mem_cons_self)
    refine List.pairwise_cons.mpr ⟨fun y hy => ?_, u⟩
    rcases List.mem_cons.mp hy with rfl | hy
    · exact px
    · exact px.trans ((List.pairwise_cons.mp u).1 y hy)
theorem up_of {l : List Str} (h : PyProof.Rows.sortedS l = true) (nd : l.Nodup) : Up l := by
  cases l with
  | nil => exact List.Pairwise.nil
  | cons x r => exact rising_up r x h nd
theorem up_one : ∀ {xs ys : List Str}, Up xs → Up ys → (∀ z, z ∈ xs ↔ z ∈ ys) → xs = ys
  | [], [], _, _, _ => rfl
  | [], y :: _, _, _, h => absurd ((h y).mpr List.mem_cons_self) (by simp)
  | x :: _, [], _, _, h => absurd ((h x).mp List.mem_cons_self) (by simp)
  | x :: xs, y :: ys, u, v, h => by
    obtain ⟨u1, u2⟩ := List.pairwise_cons.mp u
    obtain ⟨v1, v2⟩ := List.pairwise_cons.mp v
    have e : x = y := by
      rcases List.mem_cons.mp ((h x).mp List.mem_cons_self) with e | m
      · exact e
      · rcases List.mem_cons.mp ((h y).mpr List.mem_cons_self) with e | m'
        · exact e.symm
        · exact absurd (u1 y m') (v1 x m).asymm
    subst e
    rw [up_one u2 v2 fun z => ?_]
    constructor
    · intro m
      rcases List.mem_cons.mp ((h z).mp (List.mem_cons_of_mem _ m)) with e | q
      · exact absurd e.symm (u1 z m).ne
      · exact q
    · intro m
      rcases List.mem_cons.mp ((h z).mpr (List.mem_cons_of_mem _ m)) with e | q
      · exact absurd e.symm (v1 z m).ne
      · exact q
theorem nodup_le {α : Type} [DecidableEq α] : ∀ {l m : List α}, l.Nodup → l ⊆ m → l.length ≤ m.length
  | [], _, _, _ => Nat.zero_le _
  | x :: l, m, nd, sub => by
    obtain ⟨n1, n2⟩ := List.nodup_cons.mp nd
    have hx : x ∈ m := sub List.mem_cons_self
    have ih := nodup_le (m := m.erase x) n2 fun y hy => (List.mem_erase_of_ne (by rintro rfl; exact n1 hy)).mpr (sub (List.mem_cons_of_mem _ hy))
    rw [List.length_erase_of_mem hx] at ih
    have := List.length_pos_of_mem hx
    rw [List.length_cons]
    omega
theorem nodup_len {α : Type} [DecidableEq α] : ∀ {ys l : List α}, l.Nodup → l ⊆ ys → ys.length = l.length → ys.Nodup
  | [], _, _, _, _ => List.nodup_nil
  | y :: ys, l, nd, sub, e => by
    have hy : y ∈ l := Classical.byContradiction fun n => by
      have q := nodup_le (m := ys) nd fun z hz => (List.mem_cons.mp (sub hz)).resolve_left (by rintro rfl; exact n hz)
      rw [List.length_cons] at e
      omega
    have ny : y ∉ ys := fun m => by
      have q := nodup_le (m := ys) nd fun z hz => by
        rcases List.mem_cons.mp (sub hz) with rfl | h
        · exact m
        · exact h
      rw [List.length_cons] at e
      omega
    refine List.nodup_cons.mpr ⟨ny, nodup_len (l := l.erase y) (nd.erase y) (fun z hz => ?_) ?_⟩
    · obtain ⟨h1, h2⟩ := (nd.mem_erase_iff).mp hz
      exact (List.mem_cons.mp (sub h2)).resolve_left h1
    · rw [List.length_erase_of_mem hy, ← e, List.length_cons]; rfl
theorem sum_len {ys : List Str} {B : Nat} (h : ∀ y ∈ ys, y.length ≤ B) : (ys.map (·.length)).sum ≤ ys.length * B := by
  induction ys with
  | nil => simp
  | cons y ys ih =>
    rw [List.map_cons, List.sum_cons, List.length_cons, Nat.succ_mul]
    have a := h y List.mem_cons_self
    have b := ih fun z hz => h z (List.mem_cons_of_mem _ hz)
    omega
theorem flat_strs (zs : List Str) : (zs.map V.str).all flatV = true := by rw [List.all_map]; exact List.all_eq_true.mpr fun _ _ => rfl

/-! ### data that are compared -/
theorem dpS {K : PySem.W.Frag} {H : Hp} : ∀ zs : List Str, DpAll K H (zs.map V.str) (zs.map PyData.str)
  | [] => .nil
  | z :: zs => .cons (.str z) (dpS zs)
theorem dpB {K : PySem.W.Frag} {H : Hp} : ∀ bs : List Bool, DpAll K H (bs.map V.bl) (bs.map PyData.bool)
  | [] => .nil
  | b :: bs => .cons (.bl b) (dpB bs)
theorem eqvB : ∀ bs cs : List Bool, PyData.eqvAll (bs.map PyData.bool) (cs.map PyData.bool) = decide (bs = cs)
  | [], [] => rfl
  | [], _ :: _ => rfl
  | _ :: _, [] => rfl
  | b :: bs, c :: cs => by
    show ((b == c) && PyData.eqvAll (bs.map PyData.bool) (cs.map PyData.bool)) = _
    rw [eqvB bs cs]
    by_cases h : b = c <;> simp [h]
theorem eqvS : ∀ bs cs : List Str, PyData.eqvAll (bs.map PyData.str) (cs.map PyData.str) = decide (bs = cs)
  | [], [] => rfl
  | [], _ :: _ => rfl
  | _ :: _, [] => rfl
  | b :: bs, c :: cs => by
    show ((b == c) && PyData.eqvAll (bs.map PyData.str) (cs.map PyData.str)) = _
    rw [eqvS bs cs]
    by_cases h : b = c <;> simp [h]
theorem layB : ∀ bs : List Bool, PyData.canLayAll0 (bs.map PyData.bool) = true
  | [] => rfl
  | b :: bs => by show (true && PyData.canLayAll0 (bs.map PyData.bool)) = true; rw [layB bs]; rfl
theorem layS : ∀ zs : List Str, (∀ z ∈ zs, PyData.strOk z = true) → PyData.canLayAll0 (zs.map PyData.str) = true
  | [], _ => rfl
  | z :: zs, h => by
    show (PyData.strOk z && PyData.canLayAll0 (zs.map PyData.str)) = true
    rw [h z List.mem_cons_self, layS zs fun y hy => h y (List.mem_cons_of_mem _ hy)]; rfl
theorem depAll : ∀ {ds : List PyData}, (∀ d ∈ ds, PyData.depth d = 0) → PyData.depthAll ds = 0
  | [], _ => rfl
  | d :: ds, h => by
    show max (PyData.depth d) (PyData.depthAll ds) = 0
    rw [h d List.mem_cons_self, depAll fun y hy => h y (List.mem_cons_of_mem _ hy)]; rfl
theorem shB (bs : List Bool) : SeqAt.shaped (.list (bs.map PyData.bool)) = true := by
  refine Bool.and_eq_true_iff.mpr ⟨layB bs, decide_eq_true ?_⟩
  show PyData.depthAll (bs.map PyData.bool) + 1 ≤ 64
  rw [depAll fun d hd => by obtain ⟨b, _, rfl⟩ := List.mem_map.mp hd; rfl]
  decide
theorem shT {zs : List Str} (h : ∀ z ∈ zs, PyData.strOk z = true) : SeqAt.shaped (.tuple (zs.map PyData.str)) = true := by
  refine Bool.and_eq_true_iff.mpr ⟨layS zs h, decide_eq_true ?_⟩
  show PyData.depthAll (zs.map PyData.str) + 1 ≤ 64
  rw [depAll fun d hd => by obtain ⟨b, _, rfl⟩ := List.mem_map.mp hd; rfl]
  decide
theorem shL {zs : List Str} (h : ∀ z ∈ zs, PyData.strOk z = true) : SeqAt.shaped (.list (zs.map PyData.str)) = true := by
  refine Bool.and_eq_true_iff.mpr ⟨layS zs h, decide_eq_true ?_⟩
  show PyData.depthAll (zs.map PyData.str) + 1 ≤ 64
  rw [depAll fun d hd => by obtain ⟨b, _, rfl⟩ := List.mem_map.mp hd; rfl]
  decide
theorem IsName.ok {z : Str} (h : IsName z) : PyData.strOk z = true := by
  show z.cps.all (fun x => decide (x < 1114112)) = true
  rw [← Array.all_toList, List.all_eq_true]
  intro c hc
  have := (h.2.2 c hc).2
  exact decide_eq_true (by omega)
end Mf
/-! Classes and methods by one fact each; readings of the own operators. -/
namespace Mf
open PySem L2
/-- C(..): the class at C, its __init__'s promise, the defaults that fill up -/
structure CalC (P : Program) (w : World) (K : PySem.W.Frag) (mg : Str → Option Value) (base : Heap) (CX : CXT) (k : Nat) (x : Str) (C : Addr) (ps : List Str) (sp : Sp) (dvs : List V) : Prop where
  ex : ∃ (f : Addr) (fd : FuncData) (ds : List Value), Mk K C f ∧ FnOk P w K mg base CX k f fd ps sp ∧ mg x = some (.ref C) ∧ Binds K fd ps ds ∧ Vals dvs ds
/-- a method -/
structure CalM (P : Program) (w : World) (K : PySem.W.Frag) (mg : Str → Option Value) (base : Heap) (CX : CXT) (k : Nat) (C : Addr) (m : Str) (ps : List Str) (sp : Sp) : Prop where
  ex : ∃ (f : Addr) (fd : FuncData), Meth K C m f ∧ PySem.W.fnIn K f = true ∧ FnOk P w K mg base CX k f fd ps sp ∧ Binds K fd ps []
section
variable {X : Cx} {CX : CXT} {k : Nat} {x m : Str} {C : Addr} {ps : List Str} {sp : Sp} {dvs : List V} {E : XK} {e o : Expr} {es : List Expr} {t : TA} {p pos apos : Pos} {ta to ti : TE}
theorem pe_mkc (c : CalC X.prog X.w X.K X.mg X.base CX k x C ps sp dvs) (hr : Room (k + 1) X.A) (hx : Passes CX X E) (ha : PA X (e :: es) t) (hg : Gl X x := by rfl)
    (hdb : (x == ("__debug__" : Str)) = false := by decide) (he : starEach (e :: es) X.env = (false, eval e X.env) :: starEach es X.env := by rfl) (hpl : (backTo pos (starEach es X.env)).any (·.1) = false := by rfl) :
    PE X (.Call (.Name x p) (e :: es) [] pos) (tMake C sp dvs E t) := by
  obtain ⟨f, fd, ds, M, F, mm, b, v⟩ := c.ex
  exact pe_make M F hr hg mm b v hx ha hdb he hpl
theorem pe_mkc0 (c : CalC X.prog X.w X.K X.mg X.base CX k x C ps sp dvs) (hr : Room (k + 1) X.A) (hx : Passes CX X E) (hg : Gl X x := by rfl) (hdb : (x == ("__debug__" : Str)) = false := by decide) :
    PE X (.Call (.Name x p) [] [] pos) (tMake C sp dvs E tNil) := by
  obtain ⟨f, fd, ds, M, F, mm, b, v⟩ := c.ex
  exact pe_make0 M F hr hg mm b v hx hdb
theorem om_cmp {op : CmpOp} (K : PySem.W.Frag) (c : CalM X.prog X.w X.K X.mg X.base CX k C (cmpInfo op).2.1 ps sp) (hr : Room k X.A) (hx : Passes CX X E) (hop : ∀ a b, compareOp op a b = richCompare op a b := by exact fun _ _ => rfl) (h : X.K = K := by rfl) : OpR X (compareOp op) (rCmpO K C sp E) := by
  obtain ⟨f, fd, M, _, F, b⟩ := c.ex
  exact h ▸ op_cmpO M F hr b hx hop
theorem om_ne (K : PySem.W.Frag) (c : CalM X.prog X.w X.K X.mg X.base CX k C "__eq__" ps sp) (ne : PySem.W.findIn X.K (.ref C) "__ne__" = some (some (.builtin "object.__ne__"))) (mo : PySem.W.mroIn X.K C (.type "object") = some true)
    (hr : Room (k + 1) X.A) (hx : Passes CX X E) (h : X.K = K := by rfl) : OpR X (compareOp .NotEq) (rNeO K C sp E) := by
  obtain ⟨f, fd, M, _, F, b⟩ := c.ex
  exact h ▸ op_neO M ne mo F hr b hx
theorem om_bin {op : Operator} (c : CalM X.prog X.w X.K X.mg X.base CX k C (PySem.dunder op.info.2) ps sp) (sf : PySem.W.selfFirst X.K C = true) (hr : Room k X.A) (hx : Passes CX X E) : OpR X (binaryOp op) (rBinO C sp E) := by
  obtain ⟨f, fd, M, _, F, b⟩ := c.ex
  exact op_binO M sf F hr b hx
theorem om_in (c : CalM X.prog X.w X.K X.mg X.base CX k C "__contains__" ps sp) (hr : Room k X.A) (hx : Passes CX X E) : OpR X (compareOp .In) (rInO C false sp E) := by
  obtain ⟨f, fd, M, _, F, b⟩ := c.ex
  exact op_inO M F hr b hx
theorem om_notIn (c : CalM X.prog X.w X.K X.mg X.base CX k C "__contains__" ps sp) (hr : Room k X.A) (hx : Passes CX X E) : OpR X (compareOp .NotIn) (rInO C true sp E) := by
  obtain ⟨f, fd, M, _, F, b⟩ := c.ex
  exact op_notInO M F hr b hx
theorem om_len (c : CalM X.prog X.w X.K X.mg X.base CX k C "__len__" ps sp) (hr : Room (k + 1) X.A) (hx : Passes CX X E) : CallR X (.builtin "len") (rLenO C sp E) := by
  obtain ⟨f, fd, M, _, F, b⟩ := c.ex
  exact call_lenO M F hr b hx
theorem om_get {i : Expr} (c : CalM X.prog X.w X.K X.mg X.base CX k C "__getitem__" ps sp) (hr : Room (k + 1) X.A) (hx : Passes CX X E) (ho : PE X o to) (hi : PE X i ti)
    (hsl : ∀ x y, subscripted i true x y = runValue (.builtin "lifetime.subscript" ⟨[x, y], []⟩) := by intro _ _; with_unfolding_all rfl) : PE X (.Subscript o i pos) (tOp (rGetO C sp E) to ti) := by
  obtain ⟨f, fd, M, fn, F, b⟩ := c.ex
  exact pe_getO M fn F hr b hx ho hi hsl
theorem om_meth {pl : Sem Bool} (he : PE X o ta) (c : Cls X.K C) (cm : CalM X.prog X.w X.K X.mg X.base CX k C m ps sp) (hr : Room k X.A) (hx : Passes CX X E) (ha : PA X (e :: es) t)
    (hst : starEach (e :: es) X.env = (false, eval e X.env) :: starEach es X.env := by rfl) (hpl : (backTo pos (starEach es X.env)).any (·.1) = false := by rfl)
    (ht : eval (.Call (.Attribute o m apos) (e :: es) [] pos) X.env = (do
      let ov ← eval o X.env
      standAt apos.atName
      let (f, first) ← holding [ov] (getMethod ov m pl)
      callWith pos f first (backTo pos (starEach (e :: es) X.env)) (backToKw pos (keywordEach [] X.env))) := by rfl) :
    PE X (.Call (.Attribute o m apos) (e :: es) [] pos) (tMeth C m sp [] E ta t) := by
  obtain ⟨f, fd, M, fn, F, b⟩ := cm.ex
  exact pe_meth he c M F hr b .nil hx ha hst hpl ht
theorem om_meth0 {pl : Sem Bool} (he : PE X o ta) (c : Cls X.K C) (cm : CalM X.prog X.w X.K X.mg X.base CX k C m ps sp) (hr : Room k X.A) (hx : Passes CX X E)
    (ht : eval (.Call (.Attribute o m apos) [] [] pos) X.env = (do
      let ov ← eval o X.env
      standAt apos.atName
      let (f, first) ← holding [ov] (getMethod ov m pl)
      callWith pos f first (backTo pos (starEach [] X.env)) (backToKw pos (keywordEach [] X.env))) := by rfl) :
    PE X (.Call (.Attribute o m apos) [] [] pos) (tMeth C m sp [] E ta tNil) := by
  obtain ⟨f, fd, M, fn, F, b⟩ := cm.ex
  exact pe_meth0 he c M F hr b .nil hx ht
end
/-- c and b, where b is asked without a change of the heap -/
theorem and_then {c b : Bool} {σ : L2.St} {H : Hp} {tb : TE} {Q : VK} (ht : c = true → ∀ Q' : VK, Q' (.bl b) H → tb σ H Q') (k : Q (.bl (c && b)) H) : if c = true then tb σ H Q else Q (.bl false) H := by
  cases c with
  | true => exact iteT (ht rfl Q (by simpa using k))
  | false => exact iteF k
end Mf
/-! From the head's facts to calls. -/
namespace Mf
open PySem L2
theorem kit_self {K : PySem.W.Frag} {C : Addr} : PySem.W.kitOne K (.ref C) (.ref C) = some true := by unfold PySem.W.kitOne; rw [if_pos (by simp)]
theorem kit_own {K : PySem.W.Frag} {C : Addr} {T : String} {b : Bool} (i : PySem.W.isClsIn K C = true) (t : PySem.W.typeIn K (.ref C) = some (.type "type")) (s : PySem.W.subIn K (.type T) (.ref C) = some b) : PySem.W.kitOne K (.type T) (.ref C) = some b := by
  have i' : (PySem.W.clsIn K C).isSome = true := i
  unfold PySem.W.kitOne PySem.W.kitCls
  rw [if_neg (by simp)]
  show (if ((PySem.W.clsIn K C).isSome && PySem.W.typeIn K (.ref C) == some (.type "type")) = true then PySem.W.subIn K (.type T) (.ref C) else none) = some b
  rw [if_pos (by rw [i', t]; rfl)]
  exact s
theorem notFirst_of {K : PySem.W.Frag} {C : Addr} {T : String} (s : PySem.W.subIn K (.type T) (.ref C) = some false) : PySem.W.notFirst K C (.type T) = true := by
  unfold PySem.W.notFirst
  rw [s]; simp
/-- a def of the text as it stands behind the top -/
structure DefF (K : PySem.W.Frag) (x : Str) (st : Stmt) (f : Addr) : Prop where
  ex : ∃ (oc : Value) (od : Option Addr) (sl : Array (Option Value)) (kV dc pm : Value) (an : Option Addr) (cd ct : Value), PySem.W.nsIn K mainGlobals x = some (some (.ref f)) ∧
    K.lookup f = some ⟨oc, od, .func (PySem.W.fnOf x x (defArgs st) (defBody st) (defScope st) .none kV dc pm an cd ct), sl⟩ ∧ PySem.W.codeIn K cd x = true ∧ PySem.W.keepIn K (.ref f) = true
/-- a method of the class at C -/
structure MetF (K : PySem.W.Frag) (C : Addr) (m qual : Str) (st : Stmt) (f : Addr) : Prop where
  ex : ∃ (oc : Value) (od : Option Addr) (sl : Array (Option Value)) (kV dc pm : Value) (an : Option Addr) (cd ct : Value), PySem.W.findIn K (.ref C) m = some (some (.ref f)) ∧
    K.lookup f = some ⟨oc, od, .func (PySem.W.fnOf m qual (defArgs st) (defBody st) (defScope st) .none kV dc pm an cd ct), sl⟩ ∧ PySem.W.codeIn K cd qual = true ∧ PySem.W.keepIn K (.ref f) = true ∧ PySem.W.isFn K (.ref f) = true ∧ PySem.W.fnIn K f = true
section
variable {P : Program} {w : World} {K : PySem.W.Frag} {mg : Str → Option Value} {base h : Heap} {CX : CXT} {k : Nat} {x m qual : Str} {st : Stmt} {f C : Addr} {ps : List Str} {sp : Sp}
abbrev BindP (x qual : Str) (st : Stmt) (ps : List Str) : Prop := ∀ (kV doc pm : Value) (an : Option Addr) (cdv ct : Value) (us : List Value), us.length = ps.length → bindArgs (PySem.W.fnOf x qual (defArgs st) (defBody st) (defScope st) .none kV doc pm an cdv ct) ⟨us, []⟩ = pure (ps.zip us)
theorem DefF.cal (D : DefF K x st f) (X : K.In h) (G : h.Ns mainGlobals mg) (hb : BindP x x st ps) (ok : ∀ fd, Fun K x x st f fd → FnOk P w K mg base CX k f fd ps sp) : Cal P w K mg base CX k x ps sp := by
  obtain ⟨oc, od, sl, kV, dc, pm, an, cd, ct, a, l, c, q⟩ := D.ex
  have F := fun_mk (st := st) l c q
  exact ⟨⟨f, _, ok _ F, PySem.W.mg_of X G a, q, F.binds hb⟩⟩
theorem MetF.cal (D : MetF K C m qual st f) (hb : BindP m qual st ps) (ok : ∀ fd, Fun K m qual st f fd → FnOk P w K mg base CX k f fd ps sp) : CalM P w K mg base CX k C m ps sp := by
  obtain ⟨oc, od, sl, kV, dc, pm, an, cd, ct, a, l, c, q, i, n⟩ := D.ex
  have F := fun_mk (st := st) l c q
  exact ⟨⟨f, _, ⟨a, i, q⟩, n, ok _ F, F.binds hb⟩⟩
/-- the law itself -/
theorem DefF.law {fa : Addr} (D : DefF K "law" st f) (X : K.In h) (G : h.Ns mainGlobals mg) (hfa : mg "law" = some (.ref fa)) (hb : ∀ (kV doc pm : Value) (an : Option Addr) (cdv ct : Value) (s : Shared) (v : Value), BindsTo s (PySem.W.fnOf "law" "law" (defArgs st) (defBody st) (defScope st) .none kV doc pm an cdv ct) ⟨[v], []⟩ [("_law_script", v)])
    (ok : ∀ base : Heap, K.In base → base.Ns mainGlobals mg → ∀ fd, Fun K "law" "law" st f fd → FnOk P w K mg base CX0 k f fd ["_law_script"] sp) :
    ∃ fd : FuncData, (∀ (s : Shared) (v : Value), BindsTo s fd ⟨[v], []⟩ [("_law_script", v)]) ∧ ∀ base : Heap, K.In base → base.Ns mainGlobals mg → FnOk P w K mg base CX0 k fa fd ["_law_script"] sp := by
  obtain ⟨oc, od, sl, kV, dc, pm, an, cd, ct, a, l, c, q⟩ := D.ex
  have e := hfa.symm.trans (PySem.W.mg_of X G a)
  cases e
  exact ⟨_, hb kV dc pm an cd ct, fun base b1 b2 => ok base b1 b2 _ (fun_mk (st := st) l c q)⟩
/-- what a law takes and gives -/
def spLaw (K : PySem.W.Frag) : Sp := fun vs H Q _ => ∃ (a : Addr) (ns : List Int), vs = [.ref a] ∧ SqL K H a (ns.map V.int) ∧ ns.length ≤ 63 ∧ ∀ H', Q (.bl true) H'
end
theorem walk {n : Nat} {l : PySem.W.OpenLaw} {q : Program} {loose : List Str} {XP : (Str → Option Value) → Heap → Prop} {YP : World → Heap → Prop} {d : DefRec} {K : Params → PySem.W.Frag} (hn : l.most = some 63) (hdf : d.params.defaults = [])
    (hr : Room n callerA)
    (hY : ∀ (w : World) (h : Heap), YP w h → (K w.params).In h)
    (F : ∀ (w : World) (mg : Str → Option Value) (fa : Addr) (h : Heap), (K w.params).In h → h.Ns mainGlobals mg → mg d.name = some (.ref fa) →
      ∃ fd : FuncData, (∀ (s : Shared) (u : Value), BindsTo s fd ⟨[u], []⟩ [("_law_script", u)]) ∧ ∀ base : Heap, (K w.params).In base → base.Ns mainGlobals mg → FnOk l.prog w (K w.params) mg base CX0 n fa fd ["_law_script"] (spLaw (K w.params))) :
    PySem.W.WalkO q loose XP YP l.row.toRowW d [] (fun f vs => PySem.call f vs) :=
  L2.walk_of (n := 63) (k := n) (x := "_law_script") (CX := fun _ => CX0) (sp := fun w => spLaw (K w.params)) hn (by decide) hdf hr hY F (fun _ _ a ns hl _ hS => ⟨a, ns, rfl, hS, hl, fun _ => rfl⟩) fun _ _ _ _ _ z => z
end Mf
/-! Counting loops that begin at another number. -/
namespace Mf
open PySem L2

/-- what such a loop yields; G i H x: the i-th thing is x -/
def ItN (k₀ : Int) (go : Nat → Hp → Prop) (stop : Nat → Hp → Prop) (is : Nat → Hp → V → Prop) : It :=
  { go := go, stop := stop, yld := fun i H v H' => ∃ T x, v = .ref T ∧ H T = none ∧ H' = upd H T (.tup [.int (k₀ + i), x]) ∧ is i H x }

/-- the turns, over any source that draws -/
theorem turn_from {P : Program} {w : World} {K : W.Frag} {elts : List PySem.Expr} {kk : Nat} {tpos : Pos} (k₀ : Int) (e it : Addr)
    {go stop : Nat → Hp → Prop} {is : Nat → Hp → V → Prop} {SI : Nat → Heap → Prop}
    (obj : ∀ i h, SI i h → ∃ o, h.get? it = some o ∧ ∀ v : Option Value, o.data ≠ .cell v)
    (keep : ∀ i h h', SI i h → (∀ o, h.get? it = some o → h'.get? it = some o) → SI i h')
    (src : ∀ (X : Cx), X.prog = P → X.w = w → X.K = K → X.calm = true → ∀ (i : Nat) (pins : List (Addr × Obj)) (s : Shared) (σ : St) (H : Hp),
      L2.Inv X pins σ H s → (∀ b ∈ [e, it], FpOk X pins H b) → (∃ old, IsEnum s.heap e it (k₀ + i) old) → SI i s.heap → e ≠ it → (go i H ∨ stop i H) →
      ∃ (n : Nat) (fp : List Addr) (S : Nat → Heap → Prop) (Q : Nat → Value → Prop), Draws P w (Around.in1 X.A) it fp n Q S ∧ S i s.heap ∧ e ∉ fp ∧
        (go i H → i < n) ∧ (stop i H → i = n) ∧ (∀ h, S (i + 1) h → SI (i + 1) h) ∧ ∀ v, Q i v → go i H → ∃ x, RelV x v ∧ is i H x) :
    Turn P w K (.Tuple elts kk tpos) (ItN k₀ go stop is) [e, it] e fun i h => (∃ old, IsEnum h e it (k₀ + i) old) ∧ SI i h ∧ e ≠ it := by
  have mE : e ∈ [e, it] := List.mem_cons_self
  have mI : it ∈ [e, it] := List.mem_cons_of_mem _ List.mem_cons_self
  refine ⟨mE, ?_, ?_, ?_, ?_, ?_⟩
  · rintro i h ⟨⟨old, he⟩, hi, ne⟩ b hb
    simp only [List.mem_cons, List.not_mem_nil, or_false] at hb
    rcases hb with rfl | rfl
    · exact ⟨_, he, fun v q => nomatch q⟩
    · exact obj i h hi
  · rintro i h h' ⟨⟨old, he⟩, hi, ne⟩ k
    exact ⟨⟨old, k e mE _ he⟩, keep i h h' hi (k it mI), ne⟩
  · rintro X hP hw hK hc i pins s σ H E I hf ⟨⟨old, he⟩, hi, ne⟩ hg
    obtain ⟨n, fp, S, Q, D, s0, nf, lt, -, fw, rel⟩ := src X hP hw hK hc i pins s σ H I hf ⟨old, he⟩ hi ne (.inl hg)
    refine wpAny_pyNext_enum_itemC D he s0 (lt hg) ne nf fun x h' tk qx ho hS hT hsz hk => ?_
    refine ⟨_, rfl, wpAny_letOwnedTupleGo_enum ho fun h'' he' sb => ?_⟩
    obtain ⟨y, ry, iy⟩ := rel x qx hg
    have hel := Heap.lt_size he
    have hil : it < s.heap.objs.size := by obtain ⟨o, q, _⟩ := obj i _ hi; exact Heap.lt_size q
    have hT2 := (sb.right s.heap.objs.size (Nat.ne_of_gt hel)).trans hT
    have new : ObjOk X.prog X.w (upd H s.heap.objs.size (.tup [.int (k₀ + i), y])) h'' s.heap.objs.size (.tup [.int (k₀ + i), y]) :=
      ⟨(by show 2 ≤ sizeLine; decide), [.int (k₀ + i) tk, x], .cons ⟨tk, rfl⟩ (.cons ry .nil), _, hT2, rfl, 0, rfl⟩
    have I1 := I.turnedNew (t' := tk + 1) (fun b ob hb q => (sb.right b fun z => hb (z ▸ mE)).trans (hk b ob (fun z => hb (z ▸ mE)) (fun z => hb (z ▸ mI)) q)) hf (Nat.le_refl _) new
    refine ⟨.ref s.heap.objs.size, _, I1, rfl, ⟨_, y, rfl, I.hok.fresh (Nat.le_refl _), rfl, iy⟩, ⟨⟨x, ?_⟩, ?_, ne⟩, ?_⟩
    · have e1 : k₀ + ((i + 1 : Nat) : Int) = k₀ + i + 1 := by omega
      rw [e1]; exact he'
    · exact keep (i + 1) h' h'' (fw _ hS) fun o q => (sb.right it (Ne.symm ne)).trans q
    · intro b hb
      have hb' : b < s.heap.objs.size := by
        simp only [List.mem_cons, List.not_mem_nil, or_false] at hb
        rcases hb with rfl | rfl <;> assumption
      rw [upd_ne (Nat.ne_of_lt hb')]
      exact (hf b hb).1
  · rintro X hP hw hK hc i pins s σ H E I hf ⟨⟨old, he⟩, hi, ne⟩ hg
    obtain ⟨n, fp, S, Q, D, s0, nf, -, eq, -, -⟩ := src X hP hw hK hc i pins s σ H I hf ⟨old, he⟩ hi ne (.inr hg)
    obtain ⟨f0, f1, f2, f3, f4, f5⟩ := hf it mI
    have hin := eq hg
    subst hin
    exact wpAny_pyNext_enum_endD D he s0 fun h' eb => ⟨rfl, I.turned (fun b o hb q => eb b o hb q) f0 f1 f3 f4 f5⟩
  · rintro A i s Q E ⟨⟨old, he⟩, _⟩ h
    exact wpAny_pyIter_enum he h
end Mf
namespace Mf
open PySem L2
theorem callType_kw {M : Model} {A : Around} {E : Value → Shared → Prop} {s : Shared} {env : Env} {pos : Pos} {T : String} {e : Expr} {rest : List Expr} {kws : List Keyword} {Q : Value → Shared → Prop}
    (h : wpAny M A (spliced (backTo pos (starEach (e :: rest) env))) (fun vs s₁ => wpAny M A (evalAll ((backToKw pos (keywordEach kws env)).map (·.2)))
      (fun ks s₂ => wpAny M A (call (.type T) vs (((backToKw pos (keywordEach kws env)).filterMap (·.1)).zip ks)) Q E s₂) E s₁) E s)
    (h0 : backTo pos (starEach (e :: rest) env) = (false, eval e env) :: backTo pos (starEach rest env))
    (h1 : (backTo pos (starEach (e :: rest) env)).any (·.1) = false) (h2 : (backToKw pos (keywordEach kws env)).all (fun x => x.1.isSome) = true)
    (h3 : (backToKw pos (keywordEach kws env)).any (fun x => x.1.isNone) = false) :
    wpAny M A (callWith pos (.type T) [] (backTo pos (starEach (e :: rest) env)) (backToKw pos (keywordEach kws env))) Q E s := by
  rw [h0] at h h1 ⊢
  unfold callWith
  refine wpAny_bind (wpAny_holding (evalArgs_kw h2 (wpAny_mono h ?_ fun _ _ q => q)))
  intro vs s1 h
  refine wpAny_mono h ?_ fun _ _ q => q
  intro ks s2 h
  rw [h1, h3]
  refine wpAny_bind (wpAny_standAt ?_)
  refine wpAny_bind (wpAny_pure ?_)
  refine wpAny_bind (wpAny_mono h ?_ fun _ _ q => q)
  intro v s3 q
  exact wpAny_bind (wpAny_holding (wpAny_point (wpAny_pure q)))

/-- enumerate(.., start=k₀) over a list or a tuple -/
def iEnumS (K : W.Frag) (k₀ : Int) (te : TA) : TI := fun σ H R => te σ H fun vs H1 => ∃ (a : Addr) (xs : List V), vs = [.ref a] ∧
  ((SqL K H1 a xs ∧ R (ItN k₀ (fun i H => ∃ xs x, SqL K H a xs ∧ xs[i]? = some x) (fun i H => ∃ xs, SqL K H a xs ∧ xs.length = i) fun i H x => ∀ xs, SqL K H a xs → xs[i]? = some x) H1) ∨
   (SqT K H1 a xs ∧ R (ItN k₀ (fun i H => ∃ xs x, SqT K H a xs ∧ xs[i]? = some x) (fun i H => ∃ xs, SqT K H a xs ∧ xs.length = i) fun i H x => ∀ xs, SqT K H a xs → xs[i]? = some x) H1))
theorem back_get {xs : List V} {us : List Value} (r : Vals xs us) {i : Nat} {u : Value} (h : us[i]? = some u) : ∃ x, RelV x u ∧ xs[i]? = some x := by
  have hi : i < us.length := by
    rcases Nat.lt_or_ge i us.length with q | q
    · exact q
    · rw [List.getElem?_eq_none q] at h; cases h
  rw [← r.length] at hi
  obtain ⟨u', hu, ru⟩ := Vals.get r (List.getElem?_eq_getElem hi)
  rw [h] at hu
  cases hu
  exact ⟨_, ru, List.getElem?_eq_getElem hi⟩
theorem turn_fromL {P : Program} {w : World} {K : W.Frag} {elts : List Expr} {kk : Nat} {tpos : Pos} (k₀ : Int) (e it a : Addr) :
    Turn P w K (.Tuple elts kk tpos) (ItN k₀ (fun i H => ∃ xs x, SqL K H a xs ∧ xs[i]? = some x) (fun i H => ∃ xs, SqL K H a xs ∧ xs.length = i) fun i H x => ∀ xs, SqL K H a xs → xs[i]? = some x) [e, it] e
      fun i h => (∃ old, IsEnum h e it (k₀ + i) old) ∧ Heap.IsListIter h it a i ∧ e ≠ it := by
  refine turn_from k₀ e it ?_ ?_ ?_
  · rintro i h ⟨o, ho, hc, hd⟩
    exact ⟨o, ho, fun v q => by rw [hd] at q; cases q⟩
  · intro i h h' q k
    exact q.at fun o z => k o z
  · rintro X rfl rfl rfl hc i pins s σ H I hf ⟨old, he⟩ hi ne hg
    have key : ∀ xs, SqL X.K H a xs → ∃ (n : Nat) (fp : List Addr) (S : Nat → Heap → Prop) (Q : Nat → Value → Prop), Draws X.prog X.w (Around.in1 X.A) it fp n Q S ∧ S i s.heap ∧ e ∉ fp ∧
        n = xs.length ∧ (∀ h, S (i + 1) h → Heap.IsListIter h it a (i + 1)) ∧ ∀ v, Q i v → ∃ x, RelV x v ∧ xs[i]? = some x := by
      intro xs hq
      obtain ⟨its, rv, p, hz⟩ := I.list hq
      have pl := p.isList
      have n1 : a ≠ it := fun q => by
        obtain ⟨o, ho, hc, _⟩ := pl
        obtain ⟨o', ho', hc', _⟩ := hi
        rw [q, ho'] at ho; cases ho; rw [hc'] at hc; injection hc with hc; exact absurd hc (by decide)
      have n2 : a ≠ e := fun q => by
        obtain ⟨o, ho, hc, _⟩ := pl
        have he' : s.heap.get? e = _ := he
        rw [q, he'] at ho; cases ho; injection hc with hc; exact absurd hc (by decide)
      refine ⟨_, _, _, _, Draws.list (show (Around.in1 X.A).handled = none from I.ok.hd hc) it a n1 its.toArray, ⟨hi, pl⟩, ?_, ?_, fun h q => q.1, ?_⟩
      · intro q
        simp only [List.mem_cons, List.not_mem_nil, or_false] at q
        rcases q with q | q
        · exact ne q
        · exact n2 q.symm
      · rw [List.size_toArray, rv.length]
      · intro v hv
        have hv : its[i]? = some v := by rw [← List.getElem?_toArray]; exact hv
        exact back_get rv hv
    rcases hg with ⟨xs, x, hq, hx⟩ | ⟨xs, hq, hx⟩
    · obtain ⟨n, fp, S, Q, D, s0, nf, hn, fw, rel⟩ := key xs hq
      refine ⟨n, fp, S, Q, D, s0, nf, fun _ => ?_, ?_, fw, fun v qv _ => ?_⟩
      · rw [hn]
        rcases Nat.lt_or_ge i xs.length with q | q
        · exact q
        · rw [List.getElem?_eq_none q] at hx; cases hx
      · rintro ⟨ys, hy, rfl⟩
        rw [hn, I.list_inj hq hy]
      · obtain ⟨x', rx, hx'⟩ := rel v qv
        exact ⟨x', rx, fun ys hy => by rw [I.list_inj hy hq]; exact hx'⟩
    · obtain ⟨n, fp, S, Q, D, s0, nf, hn, fw, rel⟩ := key xs hq
      refine ⟨n, fp, S, Q, D, s0, nf, ?_, fun _ => by rw [hn, hx], fw, fun v qv _ => ?_⟩
      · rintro ⟨ys, y, hy, hyi⟩
        rw [I.list_inj hy hq, List.getElem?_eq_none (by omega)] at hyi; cases hyi
      · obtain ⟨x', rx, hx'⟩ := rel v qv
        exact ⟨x', rx, fun ys hy => by rw [I.list_inj hy hq]; exact hx'⟩
theorem isTuple_of {h : Heap} {a : Addr} {its : Array Value} (p : PyProof.Rows.IsTup h a its) : Heap.IsTuple h a its := p
theorem turn_fromT {P : Program} {w : World} {K : W.Frag} {elts : List Expr} {kk : Nat} {tpos : Pos} (k₀ : Int) (e it a : Addr) :
    Turn P w K (.Tuple elts kk tpos) (ItN k₀ (fun i H => ∃ xs x, SqT K H a xs ∧ xs[i]? = some x) (fun i H => ∃ xs, SqT K H a xs ∧ xs.length = i) fun i H x => ∀ xs, SqT K H a xs → xs[i]? = some x) [e, it] e
      fun i h => (∃ old, IsEnum h e it (k₀ + i) old) ∧ Heap.IsTupleIter h it a i ∧ e ≠ it := by
  refine turn_from k₀ e it ?_ ?_ ?_
  · rintro i h ⟨o, ho, hc, hd⟩
    exact ⟨o, ho, fun v q => by rw [hd] at q; cases q⟩
  · intro i h h' q k
    exact q.at fun o z => k o z
  · rintro X rfl rfl rfl hc i pins s σ H I hf ⟨old, he⟩ hi ne hg
    have key : ∀ xs, SqT X.K H a xs → ∃ (n : Nat) (fp : List Addr) (S : Nat → Heap → Prop) (Q : Nat → Value → Prop), Draws X.prog X.w (Around.in1 X.A) it fp n Q S ∧ S i s.heap ∧ e ∉ fp ∧
        n = xs.length ∧ (∀ h, S (i + 1) h → Heap.IsTupleIter h it a (i + 1)) ∧ ∀ v, Q i v → ∃ x, RelV x v ∧ xs[i]? = some x := by
      intro xs hq
      obtain ⟨its, rv, p, hz⟩ := I.tuple hq
      have pl := isTuple_of p
      have n1 : a ≠ it := fun q => by
        obtain ⟨o, ho, hc, _⟩ := pl
        obtain ⟨o', ho', hc', _⟩ := hi
        rw [q, ho'] at ho; cases ho; rw [hc'] at hc; injection hc with hc; exact absurd hc (by decide)
      have n2 : a ≠ e := fun q => by
        obtain ⟨o, ho, hc, _⟩ := pl
        have he' : s.heap.get? e = _ := he
        rw [q, he'] at ho; cases ho; injection hc with hc; exact absurd hc (by decide)
      refine ⟨_, _, _, _, Draws.tuple (show (Around.in1 X.A).handled = none from I.ok.hd hc) it a n1 its.toArray, ⟨hi, pl⟩, ?_, ?_, fun h q => q.1, ?_⟩
      · intro q
        simp only [List.mem_cons, List.not_mem_nil, or_false] at q
        rcases q with q | q
        · exact ne q
        · exact n2 q.symm
      · rw [List.size_toArray, rv.length]
      · intro v hv
        have hv : its[i]? = some v := by rw [← List.getElem?_toArray]; exact hv
        exact back_get rv hv
    rcases hg with ⟨xs, x, hq, hx⟩ | ⟨xs, hq, hx⟩
    · obtain ⟨n, fp, S, Q, D, s0, nf, hn, fw, rel⟩ := key xs hq
      refine ⟨n, fp, S, Q, D, s0, nf, fun _ => ?_, ?_, fw, fun v qv _ => ?_⟩
      · rw [hn]
        rcases Nat.lt_or_ge i xs.length with q | q
        · exact q
        · rw [List.getElem?_eq_none q] at hx; cases hx
      · rintro ⟨ys, hy, rfl⟩
        rw [hn, I.tuple_inj hq hy]
      · obtain ⟨x', rx, hx'⟩ := rel v qv
        exact ⟨x', rx, fun ys hy => by rw [I.tuple_inj hy hq]; exact hx'⟩
    · obtain ⟨n, fp, S, Q, D, s0, nf, hn, fw, rel⟩ := key xs hq
      refine ⟨n, fp, S, Q, D, s0, nf, ?_, fun _ => by rw [hn, hx], fw, fun v qv _ => ?_⟩
      · rintro ⟨ys, y, hy, hyi⟩
        rw [I.tuple_inj hy hq, List.getElem?_eq_none (by omega)] at hyi; cases hyi
      · obtain ⟨x', rx, hx'⟩ := rel v qv
        exact ⟨x', rx, fun ys hy => by rw [I.tuple_inj hy hq]; exact hx'⟩
theorem pi_enumS {X : Cx} {e : Expr} {ta : TA} {p pos tpos kp cq : Pos} {cp : Nat} {elts : List Expr} {kk : Nat} {k₀ : Int} (hg : Gl X "enumerate") (hm : X.mg "enumerate" = none) (ha : PA X [e] ta)
    (b0 : -2 ^ 63 ≤ k₀) (b1 : k₀ < 2 ^ 63)
    (h0 : backTo pos (starEach [e] X.env) = (false, eval e X.env) :: backTo pos (starEach [] X.env) := by rfl)
    (h1 : (backTo pos (starEach [e] X.env)).any (·.1) = false := by rfl) :
    PI X (.Tuple elts kk tpos) (.Call (.Name "enumerate" p) [e] [⟨some "start", .Constant (.int k₀) cp cq, kp⟩] pos) (iEnumS X.K k₀ ta) := by
  refine ⟨fun pins s σ H R I h => wpAny_Call_Name_kw (ld_blt I hg hm PyProof.Rows.boot_enumerate (callType_kw (thn (ha.run pos pins s σ H _ I h) ?_) h0 h1 rfl rfl))⟩
  rintro us s1 ⟨vs, H1, I1, r1, q1⟩
  have pk : PK X [⟨some "start", .Constant (.int k₀) cp cq, kp⟩] (tCons (tC (.int k₀)) tNil) := pk_cons pe_int pk_nil
  refine thn (pk.run pos pins s1 σ H1 (fun zs H' => zs = [.int k₀] ∧ H' = H1) I1 ⟨rfl, rfl⟩) ?_
  rintro ks s2 ⟨zs, H2, I2, r2, rfl, rfl⟩
  match ks, r2 with
  | [_], .cons ⟨t, ht⟩ .nil =>
    subst ht
    obtain ⟨a, xs, rfl, q1⟩ := q1
    match us, r1 with
    | [_], .cons ra .nil =>
      have ra : _ = Value.ref a := ra
      subst ra
      rcases q1 with ⟨hq, q⟩ | ⟨hq, q⟩
      · obtain ⟨its, rv, p', hz⟩ := I2.list hq
        refine enum_begins_start (begins_list a its.toArray) p'.isList b0 b1 fun h' he ho hsz hk => ?_
        refine wpAny_pyIter_enum he ?_
        have I3 := I2.kept (t' := s2.toks) hk
        refine ⟨_, [s2.heap.objs.size + 1, s2.heap.objs.size], _, _, H2, rfl, I3, turn_fromL k₀ _ _ a, ⟨⟨_, by simpa using he⟩, ⟨_, ho, rfl, rfl⟩, Nat.succ_ne_self _⟩, ?_, q⟩
        intro b hb
        simp only [List.mem_cons, List.not_mem_nil, or_false] at hb
        rcases hb with rfl | rfl
        · exact I2.fpOk (Nat.le_succ _) (I2.hok.fresh (Nat.le_succ _))
        · exact I2.fpOk (Nat.le_refl _) (I2.hok.fresh (Nat.le_refl _))
      · obtain ⟨its, rv, p', hz⟩ := I2.tuple hq
        refine enum_begins_start (begins_tuple a its.toArray) (isTuple_of p') b0 b1 fun h' he ho hsz hk => ?_
        refine wpAny_pyIter_enum he ?_
        have I3 := I2.kept (t' := s2.toks) hk
        refine ⟨_, [s2.heap.objs.size + 1, s2.heap.objs.size], _, _, H2, rfl, I3, turn_fromT k₀ _ _ a, ⟨⟨_, by simpa using he⟩, ⟨_, ho, rfl, rfl⟩, Nat.succ_ne_self _⟩, ?_, q⟩
        intro b hb
        simp only [List.mem_cons, List.not_mem_nil, or_false] at hb
        rcases hb with rfl | rfl
        · exact I2.fpOk (Nat.le_succ _) (I2.hok.fresh (Nat.le_succ _))
        · exact I2.fpOk (Nat.le_refl _) (I2.hok.fresh (Nat.le_refl _))
theorem walk_enumSL {K : W.Frag} {k₀ : Int} {a : Addr} {xs : List V} :
    Walk (ItN k₀ (fun i H => ∃ xs x, SqL K H a xs ∧ xs[i]? = some x) (fun i H => ∃ xs, SqL K H a xs ∧ xs.length = i) fun i H x => ∀ xs, SqL K H a xs → xs[i]? = some x) xs.length (fun H => SqL K H a xs)
      (YPair (fun i => some (.int (k₀ + i))) fun i => xs[i]?) where
  goes := fun i H hi h => ⟨xs, xs[i], h, List.getElem?_eq_getElem hi⟩
  stops := fun H h => ⟨xs, h, rfl⟩
  yields := by
    rintro i H x H' hi h ⟨T, y, rfl, hT, rfl, hy⟩
    exact ⟨T, _, y, rfl, hT, rfl, rfl, hy xs h⟩
theorem walk_enumST {K : W.Frag} {k₀ : Int} {a : Addr} {xs : List V} :
    Walk (ItN k₀ (fun i H => ∃ xs x, SqT K H a xs ∧ xs[i]? = some x) (fun i H => ∃ xs, SqT K H a xs ∧ xs.length = i) fun i H x => ∀ xs, SqT K H a xs → xs[i]? = some x) xs.length (fun H => SqT K H a xs)
      (YPair (fun i => some (.int (k₀ + i))) fun i => xs[i]?) where
  goes := fun i H hi h => ⟨xs, xs[i], h, List.getElem?_eq_getElem hi⟩
  stops := fun H h => ⟨xs, h, rfl⟩
  yields := by
    rintro i H x H' hi h ⟨T, y, rfl, hT, rfl, hy⟩
    exact ⟨T, _, y, rfl, hT, rfl, rfl, hy xs h⟩
end Mf
namespace Mf
open PySem L2
theorem next_val {prog : Program} {w : World} {A : Around} {E : Value → Shared → Prop} {s : Shared} {it d : Addr} {i ep : Nat} {es : Array DictEntry} {Q : Value → Shared → Prop}
    (hi : Heap.IsValIter s.heap it d i es.size ep) (hd : Heap.DictRaw s.heap d es ep) (hlt : i < es.size)
    (h : ∀ h' : Heap, Heap.IsValIter h' it d (i + 1) es.size ep → Heap.SameBut it s.heap h' → Q es[i].val { s with heap := h' }) :
    wpAny (model prog w) A (Builtin.SmallTypes.nextOf (.ref it)) Q E s := by
  unfold Builtin.SmallTypes.nextOf
  refine wpAny_bind (wpAny_callSpecial?_slot hi.typeIs F.slot_dict_valueiterator_next ?_)
  refine wpAny_call_entry F.slot_dict_valueiterator_next hi.typeIs F.entry_dict_valueiterator_next ?_ (F.args_dict_valueiterator_next_1 _)
  unfold Builtin.«dict_valueiterator.__next__»
  have ty := hi.typeIs
  obtain ⟨o, ho, hc, hdat⟩ := hi
  obtain ⟨od, hod, -, hodd⟩ := hd
  refine wpAny_bind (wpAny_of_eq (a := .ref it) rfl ?_)
  refine wpAny_bind ?_
  refine wpAny_bind (wpAny_bind (wpAny_typeNameOfWhole_valiter ty (wpAny_pure ?_)))
  refine wpAny_bind (wpAny_fieldsOf ho hdat ?_)
  have ow : (if Builtin.Dict_items.ownsTuple "dict_valueiterator" = true then 2 else 0) = 0 := by decide +kernel
  rw [ow]
  refine wpAny_ite_false (by rfl) ?_
  refine wpAny_bind (wpAny_of_eq (a := d) rfl ?_)
  refine wpAny_bind (wpAny_dictEntries hod hodd ?_)
  refine wpAny_ite_false (by simp) ?_
  refine wpAny_bind (wpAny_of_eq (a := d) rfl ?_)
  refine wpAny_bind (wpAny_dictEpoch hod hodd ?_)
  refine wpAny_ite_false (by simp) ?_
  refine wpAny_pure ?_
  have e2 : (if ((i : Nat) : Int) < 0 then none else es[((i : Nat) : Int).toNat]?) = some es[i] := by
    rw [if_neg (by omega)]
    show es[i]? = _
    rw [Array.getElem?_eq_getElem hlt]
  dsimp only
  rw [e2]
  dsimp only
  refine wpAny_bind (wpAny_bind (wpAny_typeNameOfWhole_valiter ty (wpAny_pure ?_)))
  refine wpAny_bind (wpAny_isOneOf_valiter ty ?_)
  rw [ow]
  refine wpAny_bind (wpAny_setField ho hdat (by show 1 < 4; decide) ?_)
  rw [if_neg (by decide +kernel)]
  have sb := Heap.SameBut.update s.heap it (Obj.mapFields fun x => x.setIfInBounds (0 + 1) (rawInt ((i : Int) + 1)))
  have hn : Heap.IsValIter (s.heap.update it (Obj.mapFields fun x => x.setIfInBounds (0 + 1) (rawInt ((i : Int) + 1)))) it d (i + 1) es.size ep := by
    have dm := Obj.data_mapFields hdat fun x => x.setIfInBounds (0 + 1) (rawInt ((i : Int) + 1))
    refine ⟨_, Heap.get?_update_self _ ho (Obj.isFreed_of_fields dm), ?_, ?_⟩
    · rw [Obj.cls_mapFields]; exact hc
    · rw [dm]
      simp [rawInt]
  generalize s.heap.update it (Obj.mapFields fun x => x.setIfInBounds (0 + 1) (rawInt ((i : Int) + 1))) = h2 at sb hn ⊢
  have ty2 : Shared.TypeIs { s with heap := h2 } (.ref it) "dict_valueiterator" := hn.typeIs
  refine wpAny_bind (wpAny_holding (wpAny_bind (wpAny_isOneOf_valiter ty2 ?_)))
  refine wpAny_ite_false (by decide +kernel) ?_
  refine wpAny_bind (wpAny_isOneOf_valiter ty2 ?_)
  refine wpAny_ite_true (by decide +kernel) ?_
  refine wpAny_pure ?_
  refine wpAny_pure ⟨_, rfl, ?_⟩
  exact wpAny_pure (h h2 hn sb)
theorem next_val_end {prog : Program} {w : World} {A : Around} {E : Value → Shared → Prop} {s : Shared} {it d : Addr} {ep : Nat} {es : Array DictEntry} {Q : Value → Shared → Prop}
    (hh : A.handled = none) (hi : Heap.IsValIter s.heap it d es.size es.size ep) (hd : Heap.DictRaw s.heap d es ep)
    (h : ∀ (h' : Heap) (e : Addr), Heap.ExtBut it s.heap h' → (∃ o, h'.get? e = some o ∧ o.cls = .type "StopIteration") → E (.ref e) { s with heap := h' }) :
    wpAny (model prog w) A (Builtin.SmallTypes.nextOf (.ref it)) Q E s := by
  unfold Builtin.SmallTypes.nextOf
  refine wpAny_bind (wpAny_callSpecial?_slot hi.typeIs F.slot_dict_valueiterator_next ?_)
  refine wpAny_call_entry F.slot_dict_valueiterator_next hi.typeIs F.entry_dict_valueiterator_next ?_ (F.args_dict_valueiterator_next_1 _)
  unfold Builtin.«dict_valueiterator.__next__»
  have ty := hi.typeIs
  obtain ⟨o, ho, hc, hdat⟩ := hi
  obtain ⟨od, hod, -, hodd⟩ := hd
  refine wpAny_bind (wpAny_of_eq (a := .ref it) rfl ?_)
  refine wpAny_bind ?_
  refine wpAny_bind (wpAny_bind (wpAny_typeNameOfWhole_valiter ty (wpAny_pure ?_)))
  refine wpAny_bind (wpAny_fieldsOf ho hdat ?_)
  have ow : (if Builtin.Dict_items.ownsTuple "dict_valueiterator" = true then 2 else 0) = 0 := by decide +kernel
  rw [ow]
  refine wpAny_ite_false (by rfl) ?_
  refine wpAny_bind (wpAny_of_eq (a := d) rfl ?_)
  refine wpAny_bind (wpAny_dictEntries hod hodd ?_)
  refine wpAny_ite_false (by simp) ?_
  refine wpAny_bind (wpAny_of_eq (a := d) rfl ?_)
  refine wpAny_bind (wpAny_dictEpoch hod hodd ?_)
  refine wpAny_ite_false (by simp) ?_
  refine wpAny_pure ?_
  have e2 : (if ((es.size : Nat) : Int) < 0 then none else es[((es.size : Nat) : Int).toNat]?) = none := by
    rw [if_neg (by omega)]
    show es[es.size]? = _
    exact Array.getElem?_eq_none (Nat.le_refl _)
  dsimp only
  rw [e2]
  dsimp only
  refine wpAny_bind (wpAny_bind (wpAny_typeNameOfWhole_valiter ty (wpAny_pure ?_)))
  rw [ow]
  refine wpAny_bind (wpAny_setField ho hdat (by show 0 < 4; decide) ?_)
  have sb := Heap.SameBut.update s.heap it (Obj.mapFields fun x => x.setIfInBounds 0 Value.none)
  generalize s.heap.update it (Obj.mapFields fun x => x.setIfInBounds 0 Value.none) = h2 at sb ⊢
  unfold newExc newTuple
  refine wpAny_bind (wpAny_bind (wpAny_newObj_type ?_ (by show 0 ≤ sizeLine; decide)))
  refine wpAny_bind (wpAny_of_eq (a := .none) rfl ?_)
  refine wpAny_newObj_type ?_ (sizeOk_excFields _ _ _ _ _ _ _ _)
  refine wpAny_raiseNew_none (show (Around.in1 A).handled = none from hh) ?_
  exact h _ _ ((sb.extBut.push _).push _) ⟨_, Heap.get?_push_size _ rfl, rfl⟩
theorem draws_val {prog : Program} {w : World} {A : Around} (hh : A.handled = none) (it d : Addr) (ne : d ≠ it) (es : Array DictEntry) (ep : Nat) :
    Draws prog w A it [it, d] es.size (fun i v => ∃ e, es[i]? = some e ∧ v = e.val) fun i h => Heap.IsValIter h it d i es.size ep ∧ Heap.DictRaw h d es ep where
  live := fun i h q => let ⟨o, ho, _⟩ := q.1; ⟨o, ho⟩
  frame := fun i h h' q k => ⟨q.1.at fun o z => k it (by simp) o z, let ⟨o, ho, r⟩ := q.2; ⟨o, k d (by simp) o ho, r⟩⟩
  item := fun i s Q E hi q f => next_val q.1 q.2 hi fun h' x sb => f _ h' s.toks ⟨_, Array.getElem?_eq_getElem hi, rfl⟩
    ⟨x, let ⟨o, ho, r⟩ := q.2; ⟨o, (sb.right d ne).trans ho, r⟩⟩ sb
  done := fun s Q E q f => next_val_end hh q.1 q.2 fun h' e a b => f h' e a b
end Mf
namespace Mf
open PySem L2
abbrev ItV (k₀ : Int) (d : Addr) (o : Obj) (kvs : List (Key × V)) : It :=
  ItN k₀ (fun i H => H d = some (.frz o (.dK kvs)) ∧ i < kvs.length) (fun i H => H d = some (.frz o (.dK kvs)) ∧ kvs.length = i) fun i _ x => ∃ k, kvs[i]? = some (k, x)
theorem pairs_val {prog : Program} {w : World} {knd : KeyKind prog w Key} {es : List DictEntry} {vs : List (Key × Value)} (h : Pairs knd es vs) :
    es.length = vs.length ∧ ∀ (i : Nat) (e : DictEntry), es[i]? = some e → ∃ p, vs[i]? = some p ∧ e.val = p.2 := by
  induction h with
  | nil => exact ⟨rfl, fun i e h => by simp at h⟩
  | cons a b r ih =>
    refine ⟨by rw [List.length_cons, List.length_cons, ih.1], fun i e h => ?_⟩
    match i, h with
    | 0, h =>
      cases h
      exact ⟨_, rfl, b⟩
    | i + 1, h => exact ih.2 i e h
theorem kv_back {kvs : List (Key × V)} {vs : List (Key × Value)} (r : KV kvs vs) {i : Nat} {p : Key × Value} (h : vs[i]? = some p) : ∃ x, RelV x p.2 ∧ ∃ k, kvs[i]? = some (k, x) := by
  have l := Paired.length r
  have hi : i < kvs.length := by
    rcases Nat.lt_or_ge i kvs.length with q | q
    · exact q
    · rw [List.getElem?_eq_none (by omega)] at h; cases h
  obtain ⟨u, hu, ru⟩ := kv_get r (k := kvs[i].1) (v := kvs[i].2) (List.getElem?_eq_getElem hi)
  rw [h] at hu
  cases hu
  exact ⟨_, ru, _, List.getElem?_eq_getElem hi⟩
theorem turn_fromV {P : Program} {w : World} {K : W.Frag} {elts : List Expr} {kk : Nat} {tpos : Pos} (k₀ : Int) (e it d : Addr) {o : Obj} {es : Array DictEntry} {ep : Nat} {kvs : List (Key × V)} (hod : o.data = .dict es ep) :
    Turn P w K (.Tuple elts kk tpos) (ItV k₀ d o kvs) [e, it] e
      fun i h => (∃ old, IsEnum h e it (k₀ + i) old) ∧ Heap.IsValIter h it d i kvs.length ep ∧ e ≠ it := by
  refine turn_from k₀ e it ?_ ?_ ?_
  · rintro i h ⟨o, ho, hc, hd⟩
    exact ⟨o, ho, fun v q => by rw [hd] at q; cases q⟩
  · intro i h h' q k
    exact q.at fun o z => k o z
  · rintro X rfl rfl rfl hc i pins s σ H I hf ⟨old, he⟩ hi ne hg
    have hH : H d = some (.frz o (.dK kvs)) := hg.elim (·.1) (·.1)
    obtain ⟨hs, hgd, hx, es', ep', vs, hdt, hsz, kv, hm⟩ := I.frzK hH
    obtain ⟨rfl, rfl⟩ := dict_ep hod hdt
    obtain ⟨o2, es2, g1, g2, g3, g4, g5, g6⟩ := hm
    rw [hgd] at g1
    cases g1
    obtain ⟨q1, _⟩ := dict_ep hdt g3
    subst q1
    have pv := pairs_val g5
    have n1 : d ≠ it := fun q => by
      obtain ⟨o', ho', hc', hd'⟩ := hi
      rw [← q, hgd] at ho'; cases ho'
      rw [hdt] at hd'; cases hd'
    have n2 : d ≠ e := fun q => by
      have he' : s.heap.get? e = _ := he
      rw [← q, hgd] at he'; cases he'
      cases hdt
    rw [← hsz] at hi
    refine ⟨_, _, _, _, draws_val (show (Around.in1 X.A).handled = none from I.ok.hd hc) it d n1 es2 ep', ⟨hi, ⟨_, hgd, hx, hdt⟩⟩, ?_, ?_, ?_, fun h q => by rw [hsz] at q; exact q.1, ?_⟩
    · intro q
      simp only [List.mem_cons, List.not_mem_nil, or_false] at q
      rcases q with q | q
      · exact ne q
      · exact n2 q.symm
    · rintro ⟨_, q⟩; rw [hsz]; exact q
    · rintro ⟨_, q⟩; rw [hsz]; exact q.symm
    · rintro v ⟨en, hen, rfl⟩ _
      obtain ⟨p, hp, ev⟩ := pv.2 i en (by rw [Array.getElem?_toList]; exact hen)
      rw [ev]
      exact kv_back kv hp
theorem begins_values (v d : Addr) (es : Array DictEntry) (ep : Nat) :
    Begins (.ref v) ⟨.type "dict_valueiterator", none, .fields #[.ref d, .int 0 0, .int (es.size : Nat) 0, .int (ep : Nat) 0], #[]⟩ (fun h => Heap.IsValuesView h v d ∧ Heap.DictRaw h d es ep) where
  iter := fun prog w A E s Q hq q => wpAny_pyIter_values_raw hq.1 hq.2 q
  keeps := by
    rintro h h' ⟨⟨o, a, b, c⟩, o2, g1, g2⟩ k
    exact ⟨⟨o, k _ _ a, b, c⟩, o2, k _ _ g1, g2⟩
  free := rfl
def iEnumV (k₀ : Int) (td : TE) : TI := fun σ H R => td σ H fun x H1 => ∃ d o kvs, x = .ref d ∧ H1 d = some (.frz o (.dK kvs)) ∧ R (ItV k₀ d o kvs) H1
theorem pi_enumV {X : Cx} {e : Expr} {td : TE} {p pos cpos apos tpos kp cq : Pos} {cp : Nat} {elts : List Expr} {kk : Nat} {k₀ : Int} (hg : Gl X "enumerate") (hm : X.mg "enumerate" = none) (he : PE X e td)
    (b0 : -2 ^ 63 ≤ k₀) (b1 : k₀ < 2 ^ 63)
    (hbase : attributeBase e "values" X.env (eval e X.env) = eval e X.env := by rfl) (hline : (apos.endLine == cpos.line) = true := by rfl) :
    PI X (.Tuple elts kk tpos) (.Call (.Name "enumerate" p) [.Call (.Attribute e "values" apos) [] [] cpos] [⟨some "start", .Constant (.int k₀) cp cq, kp⟩] pos) (iEnumV k₀ td) := by
  refine ⟨fun pins s σ H R I h => wpAny_Call_Name_kw (ld_blt I hg hm PyProof.Rows.boot_enumerate (callType_kw ?_ rfl rfl rfl rfl))⟩
  refine Calls.spliced_cons ?_
  refine wpAny_Call_method hbase rfl hline F.plainAttrs_dict F.slot_dict_values F.type_dict_values (thn (he.run pins s σ H _ I h) ?_)
  rintro u s1 ⟨x, H1, I1, rx, d, o, kvs, rfl, hd, q⟩
  have ex : u = .ref d := rx
  subst ex
  obtain ⟨hs, hgd, hx, es, ep, vs, hdt, hsz, kv, hm⟩ := I1.frzK hd
  have hl := Paired.length kv
  refine ⟨hm.dictOf.typeIs, hm.dictOf.mapOf.noDict, ?_⟩
  refine method_meetsIn F.slot_dict_values F.entry_dict_values rfl (evalArgs_none ?_)
  refine ⟨rfl, hm.dictOf.typeIs, F.args_dict_values_1 _, _, meets_dict_values (mixKind X.prog X.w) d hs, ⟨vs, hm.dictOf⟩, ?_⟩
  show wpAny (model X.prog X.w) X.A (spliced []) _ _ _
  refine Calls.spliced_nil ?_
  have I2 := I1.kept (t' := s1.toks) fun b ob q => Heap.get?_push_of_some ⟨.type "dict_values", none, .fields #[.ref d], #[]⟩ q
  refine wpAny_evalAll_cons (wpAny_bind (wpAny_Constant_int (wpAny_bind (wpAny_standAt (wpAny_pure (wpAny_evalAll_nil ?_))))))
  have vw : Heap.IsValuesView (s1.heap.push ⟨.type "dict_values", none, .fields #[.ref d], #[]⟩) s1.heap.objs.size d := ⟨_, Heap.get?_push_size _ rfl, rfl, rfl⟩
  refine enum_begins_start (begins_values s1.heap.objs.size d es ep) ⟨vw, ⟨_, Heap.get?_push_of_some _ hgd, hx, hdt⟩⟩ b0 b1 fun h' he ho hsz2 hk => ?_
  refine wpAny_pyIter_enum he ?_
  have I3 := I2.kept (t' := s1.toks + 1) hk
  refine ⟨_, [(s1.heap.push ⟨.type "dict_values", none, .fields #[.ref d], #[]⟩).objs.size + 1, (s1.heap.push ⟨.type "dict_values", none, .fields #[.ref d], #[]⟩).objs.size], _, _, H1, rfl, I3, turn_fromV k₀ _ _ d hdt, ⟨⟨_, by simpa using he⟩, ⟨_, ho, rfl, by rw [← hsz]; rfl⟩, Nat.succ_ne_self _⟩, ?_, q⟩
  intro b hb
  simp only [List.mem_cons, List.not_mem_nil, or_false] at hb
  rcases hb with rfl | rfl
  · exact I2.fpOk (Nat.le_succ _) (I2.hok.fresh (Nat.le_succ _))
  · exact I2.fpOk (Nat.le_refl _) (I2.hok.fresh (Nat.le_refl _))
theorem walk_enumV {k₀ : Int} {d : Addr} {o : Obj} {kvs : List (Key × V)} :
    Walk (ItV k₀ d o kvs) kvs.length (fun H => H d = some (.frz o (.dK kvs))) (fun i H v H' => ∃ T x k, v = .ref T ∧ H T = none ∧ H' = upd H T (.tup [.int (k₀ + i), x]) ∧ kvs[i]? = some (k, x)) where
  goes := fun i H hi h => ⟨h, hi⟩
  stops := fun H h => ⟨h, rfl⟩
  yields := by
    rintro i H x H' hi h ⟨T, y, rfl, hT, rfl, k, hy⟩
    exact ⟨T, y, k, rfl, hT, rfl, hy⟩
end Mf
namespace Mf
open PySem L2
def top (i : Nat) : Stmt := PySem.Challenge.pw_midfall_k57_result_texts_nearly_right.main.body.getD i (.Pass ⟨0, 0, 0, 0⟩)
abbrev sSource : Stmt := top 33
abbrev sDraw : Stmt := top 34
section
variable {P : Program} {w : World} {K : PySem.W.Frag} {mg : Str → Option Value} {base : Heap}

/-! ### _law_source -/
def spSource (K : PySem.W.Frag) : Sp := fun vs H Q _ => ∃ (a : Addr) (ns : List Int), vs = [.ref a] ∧ SqL K H a (ns.map V.int) ∧ ns.length ≤ 63 ∧ ∀ p H', H p = none → Same H H' → Src H' p 1000000000 → Q (.ref p) H'
theorem scSource : FnScope ["_law_script", "_law_great", "_law_seed", "_law_k", "_law_cell"] ["_law_script"] (defScope sSource) := ⟨rfl, rfl, rfl, by decide +kernel, rfl, by decide +kernel, by decide +kernel⟩
theorem ok_source {f : Addr} {fd : FuncData} (F : Fun K "_law_source" "_law_source" sSource f fd) (mI : mg "int" = none) (mE : mg "enumerate" = none) : FnOk P w K mg base CX0 1 f fd ["_law_script"] (spSource K) := by
  refine F.ok scSource (fun vs H Q E h => ?_) (fun cdv A outer s H vs Q E hr h => ?_)
  · obtain ⟨a, ns, rfl, _⟩ := h
    rfl
  · obtain ⟨a, ns, rfl, hs, hl, k⟩ := h
    refine ⟨_, pss_cons (ps_set (i := 1) scSource.nd rfl (.inl rfl) pe_int) (pss_cons (ps_set (i := 2) scSource.nd rfl (.inl rfl) pe_int)
      (pss_cons (ps_for PassesOwn.never rfl (pi_enum (by rfl) mE (pa_cons (pv 0) pa_nil)) (pg_tup rfl (pgs_cons (pg_name (i := 3) scSource.nd rfl (.inl rfl)) (pgs_cons (pg_name (i := 4) scSource.nd rfl (.inl rfl)) pgs_nil)))
        (C8.pss_cut (ps_if (PW.pt (pw_and (pt_cmpR op_eq (pv 1) pe_int (nomark _)) (pw_and1 (pt_cmpR op_ge (pv 4) (pe_op op_pow pe_int pe_int) (nomark _))))) (pss_one (ps_set (i := 1) scSource.nd rfl (.inl rfl) (pv 4))) pss_nil)
        (pss_one (ps_set (i := 2) scSource.nd rfl (.inl rfl) (pe_op op_mod (pe_callTy call_int1 (by rfl) mI (by decide +kernel) (pa_cons (pe_op op_add (pe_op op_mul (pe_op op_add (pv 2) (pe_op op_mod (pe_callTy call_int1 (by rfl) mI (by decide +kernel) (pa_cons (pv 4) pa_nil)) pe_int)) pe_int) (pv 3)) pa_nil)) pe_int)))))
      (pss_one (ps_ret (pe_lst (pa_cons (pv 1) (pa_cons (pv 2) (pa_cons pe_int pa_nil)))))))), ?_⟩
    refine ⟨_, rfl, a, _, rfl, hs, ?_⟩
    refine for_it walk_enum (fun i σ H' => ∃ (g s : Int) (vk vc : Option V), σ = [some (.ref a), some (.int g), some (.int s), vk, vc] ∧ 0 ≤ s ∧ s < 2147483647 ∧ Same H H') ⟨0, 104729, none, none, rfl, by decide, by decide, Same.refl H⟩ (fun i σ H' _ h => h.choose_spec.choose_spec.choose_spec.choose_spec.2.2.2.seq hs) ?_ ?_
    · rintro i x σ H1 H2 hi ⟨g, s, vk, vc, rfl, s0, s1, sm⟩ ⟨T, x1, y, rfl, hT, rfl, e1, e2⟩
      obtain rfl : x1 = .int (i : Nat) := (Option.some.inj e1).symm
      have e2 : (ns.map V.int)[i]? = some y := e2
      rw [List.getElem?_map] at e2
      obtain ⟨m, _, rfl⟩ := Option.map_eq_some_iff.mp e2
      refine ⟨T, _, rfl, .of upd_same, rfl, _, _, rfl, _, _, rfl, rfl, ?_⟩
      refine ⟨fun σ' H' => ∃ g' : Int, σ' = [some (.ref a), some (.int g'), some (.int s), some (.int (i : Nat)), some (.int m)] ∧ H' = upd H1 T (.tup [.int (i : Nat), .int m]), ?_, ?_⟩
      · refine ⟨_, rfl, rfl, _, rfl, ite2 (fun _ => ?_) fun _ => ?_⟩
        · refine ⟨_, rfl, _, _, rfl, rfl, ⟨by decide, by decide, by decide⟩, _, _, rfl, rfl, _, rfl, ite2 (fun _ => ?_) fun _ => ?_⟩
          · exact ⟨_, rfl, m, rfl, rfl⟩
          · exact ⟨g, rfl, rfl⟩
        · exact iteF ⟨g, rfl, rfl⟩
      · rintro σ' H' ⟨g', rfl, rfl⟩
        refine ⟨_, rfl, _, rfl, .inl ⟨_, rfl, _, _, rfl, rfl, (by show (0 : Int) < 2147483629; decide), _, _, rfl, rfl, _, _, rfl, rfl, .inr ⟨(by show -(2 ^ 64) < (48271 : Int); decide), (by show (48271 : Int) < 2 ^ 64; decide)⟩, _, rfl, _, _, rfl, rfl, .inl ⟨_, rfl, _, _, rfl, rfl, (by show (0 : Int) < 2147483647; decide), ?_⟩⟩⟩
        exact ⟨_, _, _, _, rfl, Int.emod_nonneg _ (by decide), Int.emod_lt_of_pos _ (by decide), sm.trans (Same.new hT)⟩
    · rintro σ H1 ⟨g, s, vk, vc, rfl, s0, s1, sm⟩
      refine ⟨_, rfl, _, rfl, (by show 3 ≤ sizeLine; decide), fun p hp => ?_⟩
      exact k p _ (sm.free hp) (sm.trans (Same.new hp)) ⟨g, s, 0, upd_same, s0, s1, by decide, by decide⟩

/-! ### _law_draw -/
def spDraw : Sp := fun vs H Q _ => ∃ (a : Addr) (many : Int) (n : Nat), vs = [.ref a, .int many] ∧ 0 < many ∧ many.natAbs < 2 ^ 200 ∧ Src H a (n + 1) ∧ ∀ v H', 0 ≤ v → v < many → Kp a H H' → Src H' a n → Q (.int v) H'
theorem scDraw : FnScope ["_law_source_here", "_law_many", "_law_value", "_law_stirred"] ["_law_source_here", "_law_many"] (defScope sDraw) := ⟨rfl, rfl, rfl, by decide +kernel, rfl, by decide +kernel, by decide +kernel⟩
theorem ok_draw {f : Addr} {fd : FuncData} (F : Fun K "_law_draw" "_law_draw" sDraw f fd) (mI : mg "int" = none) : FnOk P w K mg base CX0 1 f fd ["_law_source_here", "_law_many"] spDraw := by
  refine F.ok scDraw (fun vs H Q E h => ?_) (fun cdv A outer s H vs Q E hr h => ?_)
  · obtain ⟨a, m, n, rfl, _⟩ := h
    rfl
  · obtain ⟨a, many, n, rfl, m0, mb, ⟨g, sd, c, ha, s0, s1, c0, c1⟩, k⟩ := h
    refine ⟨_, pss_cons (ps_if (pt_cmpR op_gt (pe_ix ix_list (pv 0) pe_int (fun _ _ => rfl)) pe_int (nomark _))
        (pss_cons (ps_set (i := 2) scDraw.nd rfl (.inl rfl) (pe_op op_mod (pe_callTy call_int1 (by rfl) mI (by decide +kernel) (pa_cons (pe_ix ix_list (pv 0) pe_int (fun _ _ => rfl)) pa_nil)) (pv 1)))
        (pss_cons (ps_asg (pe_op op_fdivW (pe_ix ix_list (pv 0) pe_int (fun _ _ => rfl)) (pv 1)) (pg_sub (pv 0) pe_int set_list))
        (pss_one (ps_ret (pv 2))))) pss_nil)
      (pss_cons (ps_asg (pe_op op_add (pe_ix ix_list (pv 0) pe_int (fun _ _ => rfl)) pe_int) (pg_sub (pv 0) pe_int set_list))
      (pss_cons (ps_set (i := 3) scDraw.nd rfl (.inl rfl) (pe_op op_mod (pe_callTy call_int1 (by rfl) mI (by decide +kernel) (pa_cons (pe_op op_pow (pe_op op_add (pe_ix ix_list (pv 0) pe_int (fun _ _ => rfl)) (pe_op op_mul pe_int (pe_ix ix_list (pv 0) pe_int (fun _ _ => rfl)))) pe_int) pa_nil)) pe_int))
      (pss_one (ps_ret (pe_op op_mod (pe_callTy call_int1 (by rfl) mI (by decide +kernel) (pa_cons (pe_op op_mod (pe_callTy call_int1 (by rfl) mI (by decide +kernel) (pa_cons (pe_op op_mul (pe_op op_add (pv 3) (pe_ix ix_list (pv 0) pe_int (fun _ _ => rfl))) pe_int) pa_nil)) pe_int) pa_nil)) (pv 1)))))), ?_⟩
    refine ⟨_, rfl, a, _, _, _, rfl, rfl, .of ha, rfl, _, _, rfl, rfl, _, rfl, ite2 (fun _ => ?_) fun _ => ?_⟩
    · refine ⟨_, rfl, a, _, _, _, rfl, rfl, .of ha, rfl, .inl ⟨_, rfl, _, rfl, _, _, rfl, rfl, m0, ?_⟩⟩
      refine ⟨_, rfl, a, _, _, _, rfl, rfl, .of ha, rfl, _, rfl, _, _, rfl, rfl, wide_div m0 mb (by decide) (by decide), _, rfl, a, _, _, 0, rfl, rfl, ha, rfl, _, rfl, ?_⟩
      exact k _ _ (Int.emod_nonneg _ (by omega)) (Int.emod_lt_of_pos _ m0) (Kp.refl.put) ⟨g / many, sd, c, upd_same, s0, s1, c0, by omega⟩
    · refine ⟨_, rfl, a, _, _, _, rfl, rfl, .of ha, rfl, _, _, rfl, rfl, _, rfl, a, _, _, 2, rfl, rfl, ha, rfl, ?_⟩
      have h2 : (upd H a (.lst [.int g, .int sd, .int (c + 1)])) a = some (.lst [.int g, .int sd, .int (c + 1)]) := upd_same
      refine ⟨_, rfl, a, _, _, _, rfl, rfl, .of h2, rfl, _, rfl, a, _, _, _, rfl, rfl, .of h2, rfl, _, _, rfl, rfl, .inl ⟨(by show -(2 ^ 64) < (7919 : Int); decide), (by show (7919 : Int) < 2 ^ 64; decide)⟩, _, _, rfl, rfl, _, _, rfl, rfl, ⟨by decide, by decide, ?_⟩, .inl ⟨_, rfl, _, _, rfl, rfl, (by show (0 : Int) < 2147483647; decide), ?_⟩⟩
      · show (sd + 7919 * (c + 1)).natAbs < 2 ^ 64
        omega
      · refine ⟨_, rfl, _, rfl, a, _, _, _, rfl, rfl, .of h2, rfl, _, _, rfl, rfl, _, _, rfl, rfl, .inr ⟨(by show -(2 ^ 64) < (40692 : Int); decide), (by show (40692 : Int) < 2 ^ 64; decide)⟩, .inl ⟨_, rfl, _, _, rfl, rfl, (by show (0 : Int) < 2147483629; decide), .inl ⟨_, rfl, _, rfl, _, _, rfl, rfl, m0, ?_⟩⟩⟩
        exact k _ _ (Int.emod_nonneg _ (by omega)) (Int.emod_lt_of_pos _ m0) (Kp.refl.put) ⟨g, sd, c + 1, h2, s0, s1, by omega, by omega⟩
end
end Mf
namespace Mf
open PySem L2
section
variable {P : Program} {w : World} {K : PySem.W.Frag} {mg : Str → Option Value} {base : Heap}

/-! ### is_name -/
def nameB (z : Str) : Bool := decide (1 ≤ z.length) && decide (z.length ≤ 8) && z.cps.toList.all fun c => decide (97 ≤ c) && decide (c ≤ 122)
theorem nameB_iff (z : Str) : nameB z = true ↔ IsName z := by
  have h : z.length = z.cps.size := rfl
  unfold nameB IsName
  rw [h, Bool.and_eq_true_iff, Bool.and_eq_true_iff, List.all_eq_true]
  refine ⟨fun ⟨⟨a, b⟩, c⟩ => ⟨of_decide_eq_true a, of_decide_eq_true b, fun x hx => ?_⟩, fun ⟨a, b, c⟩ => ⟨⟨decide_eq_true a, decide_eq_true b⟩, fun x hx => ?_⟩⟩
  · have q := Bool.and_eq_true_iff.mp (c x hx)
    exact ⟨of_decide_eq_true q.1, of_decide_eq_true q.2⟩
  · have q := c x hx
    exact Bool.and_eq_true_iff.mpr ⟨decide_eq_true q.1, decide_eq_true q.2⟩
theorem sign_le (a b : Nat) : (!decide ([b] < [a])) = decide (a ≤ b) := by
  have e : ([b] < [a]) ↔ b < a := by
    rw [List.cons_lt_cons_iff]
    simp
  by_cases h : a ≤ b
  · rw [decide_eq_true h, decide_eq_false (fun q => by have := e.mp q; omega)]; rfl
  · rw [decide_eq_false h, decide_eq_true (e.mpr (by omega))]; rfl
theorem le_of_sign {c : Nat} (q : (!decide ([c] < [97])) = true) : 97 ≤ c := by
  rw [sign_le] at q; exact of_decide_eq_true q
theorem le_sign {c : Nat} (q : 97 ≤ c) : (!decide ([c] < [97])) = true := by
  rw [sign_le]; exact decide_eq_true q
def spIsName : Sp := fun vs H Q _ => ∃ z : Str, vs = [.str z] ∧ z.length ≤ sizeLine ∧ ∀ H', Same H H' → Q (.bl (nameB z)) H'
abbrev sIs_name : Stmt := top 7
theorem scIs_name : FnScope ["value", "letter"] ["value"] (defScope sIs_name) := ⟨rfl, rfl, rfl, by decide +kernel, rfl, by decide +kernel, by decide +kernel⟩
theorem ok_is_name {f : Addr} {fd : FuncData} {t : Tok} (F : Fun K "is_name" "is_name" sIs_name f fd) (mIsi : mg "isinstance" = none) (mStr : mg "str" = none) (mLen : mg "len" = none) (mAll : mg "all" = none) (mg_LONGEST_NAME : mg "LONGEST_NAME" = some (.int 8 t)) : FnOk P w K mg base CX0 1 f fd ["value"] spIsName := by
  refine F.ok scIs_name (fun vs H Q E h => ?_) (fun cdv A outer s H vs Q E hr h => ?_)
  · obtain ⟨z, rfl, _⟩ := h
    rfl
  · obtain ⟨z, rfl, hz, k⟩ := h
    refine ⟨_, (pss_cons (ps_if (PW.pt (pw_or (pt_not (pt_val (pe_callB (k_isi K) (by rfl) mIsi (by decide +kernel) (pa_cons (pv 0) (pa_cons (pe_bltn (v := .ty "str") (by rfl) mStr (by decide +kernel) rfl) pa_nil))))) (pw_or1 (pt_not (pt_chain op_le op_le pe_int (pe_callB call_len_str (by rfl) mLen (by decide +kernel) (pa_cons (pv 0) pa_nil)) (pe_glob (v := .int 8) rfl mg_LONGEST_NAME ⟨_, rfl⟩))))))
        (pss_one (ps_ret pe_bl)) pss_nil)
      (pss_one (ps_ret (pe_callB (k_all K) (by rfl) mAll (by decide +kernel) (pa_cons (pe_lc (own := [("letter", 1)]) (g := (gName 1)) (tt := tYes) rfl scIs_name.nd (pi_str (pv 0)) (blkOk_by (own := [("letter", 1)]) (N := ["value", "letter"]) (sc := defScope sIs_name) (by decide +kernel)) (fun _ _ _ _ _ => (pg_name (i := 1) scIs_name.nd rfl (by first | exact Or.inl rfl | exact Or.inr rfl))) (fun _ _ _ _ _ => pts_nil) (fun _ _ _ _ _ => (pe_chain op_le_str op_le_str pe_str (pv 1) pe_str))) pa_nil))))), ?_⟩
    refine ⟨_, rfl, _, _, _, _, true, rfl, .ty _, .base (.str _), kit_ty (by decide +kernel), _, rfl, iteF ?_⟩
    refine ⟨_, rfl, z, rfl, hz, _, _, rfl, rfl, _, rfl, ite2 (fun a1 => ?_) fun a1 => ?_⟩
    · have b1 : 1 ≤ z.length := by have := of_decide_eq_true a1; omega
      refine ⟨_, _, rfl, rfl, _, rfl, ite2 (fun a2 => ?_) fun a2 => ?_⟩
      · have b2 : ¬ z.length ≤ 8 := fun q => by
          rw [decide_eq_true (by omega : (z.length : Int) ≤ 8)] at a2; cases a2
        have e : nameB z = false := by unfold nameB; rw [decide_eq_false b2, Bool.and_false, Bool.false_and]
        have q := k H (Same.refl H)
        rw [e] at q; exact q
      · have b2 : z.length ≤ 8 := by
          by_cases q : z.length ≤ 8
          · exact q
          · rw [decide_eq_false (by omega : ¬ (z.length : Int) ≤ 8)] at a2; exact absurd a2 (by decide)
        refine ⟨_, rfl, _, rfl, fun D hD => ?_⟩
        refine lc_it walk_str (fun i H' => H' D = some (.lst (((z.cps.toList.take i).map fun c => decide (97 ≤ c) && decide (c ≤ 122)).map V.bl)) ∧ Same H H') ⟨upd_same, Same.new hD⟩ (fun _ _ _ _ => trivial) ?_ ?_
        · rintro i x H4 H5 hi ⟨h4, s4⟩ ⟨rfl, c, hc, rfl⟩
          refine ⟨rfl, yes_then ?_⟩
          have hc' : z.cps.toList[i]? = some c := by rw [Array.getElem?_toList]; exact hc
          have hlen : i < z.length := hi
          have fin : ∀ b : Bool, b = (decide (97 ≤ c) && decide (c ≤ 122)) → ∃ acc, H5 D = some (.lst acc) ∧ acc.length < sizeLine ∧
              upd H5 D (.lst (acc ++ [.bl b])) D = some (.lst (((z.cps.toList.take (i + 1)).map fun c => decide (97 ≤ c) && decide (c ≤ 122)).map V.bl)) ∧ Same H (upd H5 D (.lst (acc ++ [.bl b]))) := by
            rintro b rfl
            refine ⟨_, h4, ?_, ?_, s4.mut hD⟩
            · rw [List.length_map, List.length_map]
              exact Nat.lt_of_le_of_lt (List.length_take_le _ _) (Nat.lt_of_lt_of_le (by omega : i < 9) (by decide))
            · rw [upd_same, List.take_add_one, hc', List.map_append, List.map_append]; rfl
          refine ⟨_, rfl, _, _, rfl, rfl, _, rfl, ite2 (fun q => ?_) fun q => ?_⟩
          · refine ⟨_, _, rfl, rfl, ?_⟩
            refine fin _ ?_
            have e1 : 97 ≤ c := le_of_sign q
            rw [decide_eq_true e1, Bool.true_and]
            exact sign_le c 122
          · refine fin false ?_
            have e1 : ¬ 97 ≤ c := fun h => q (le_sign h)
            rw [decide_eq_false e1, Bool.false_and]
        · rintro H4 ⟨h4, s4⟩
          refine ⟨D, _, rfl, .of h4, ?_⟩
          have e : nameB z = (((z.cps.toList.take z.cps.size).map fun c => decide (97 ≤ c) && decide (c ≤ 122)).all id) := by
            unfold nameB
            rw [decide_eq_true b1, decide_eq_true b2, List.take_of_length_le (by rw [Array.length_toList]; exact Nat.le_refl _), List.all_map]
            rfl
          have q := k H4 s4
          rw [e] at q
          exact q
    · have b1 : ¬ 1 ≤ z.length := fun q => by
        rw [decide_eq_true (by omega : (1 : Int) ≤ z.length)] at a1; exact a1 rfl
      have e : nameB z = false := by unfold nameB; rw [decide_eq_false b1, Bool.false_and, Bool.false_and]
      have q := k H (Same.refl H)
      rw [e] at q
      exact ⟨_, rfl, iteT q⟩
end
end Mf
namespace Mf
open PySem L2
section
variable {P : Program} {w : World} {K : PySem.W.Frag} {mg : Str → Option Value} {base : Heap}
abbrev psD : List Str := ["_law_source_here", "_law_many"]

/-! ### _law_name -/
/-- a drawn name -/
def DrN (z : Str) : Prop := IsName z ∧ (z.cps.size = 6 → z.cps.toList.head? = some 113)
instance (z : Str) : Decidable (DrN z) := by unfold DrN; infer_instance
def spName (K : PySem.W.Frag) : Sp := fun vs H Q _ => ∃ (a t : Addr) (taken : List Str) (n : Nat), vs = [.ref a, .ref t] ∧ Src H a (n + 10) ∧ t ≠ a ∧ SqL K H t (taken.map V.str) ∧ taken.length ≤ 16 ∧
  ∀ z H', DrN z → z ∉ taken → Kp a H H' → Src H' a n → Q (.str z) H'
abbrev sName : Stmt := top 35
theorem scName : FnScope ["_law_source_here", "_law_taken", "_law_size", "_law_name_here", "_law_k", "_law_one", "_law_letter"] ["_law_source_here", "_law_taken"] (defScope sName) := ⟨rfl, rfl, rfl, by decide +kernel, rfl, by decide +kernel, by decide +kernel⟩
def zAt (c : Nat) : Str := ("z" : Str) ++ ⟨#[c]⟩
theorem zAt_name {c : Nat} (h : Low c) : IsName (zAt c) := by
  have e : (zAt c).cps.toList = [122, c] := str_add _ _
  refine ⟨?_, ?_, ?_⟩
  · rw [← Array.length_toList, e]; exact (by decide : 1 ≤ 2)
  · rw [← Array.length_toList, e]; exact (by decide : 2 ≤ 8)
  · rw [e]; intro d hd
    rcases List.mem_cons.mp hd with rfl | hd
    · unfold Low; omega
    · rw [List.mem_singleton.mp hd]; exact h
theorem zAt_dr {c : Nat} (h : Low c) : DrN (zAt c) := ⟨zAt_name h, fun l => by
  have e : (zAt c).cps.toList = [122, c] := str_add _ _
  rw [← Array.length_toList, e] at l
  exact absurd l (by show ¬ (2 = 6); decide)⟩
theorem zAt_inj {c d : Nat} (h : zAt c = zAt d) : c = d := by
  have e : (zAt c).cps.toList = (zAt d).cps.toList := by rw [h]
  have e1 : (zAt c).cps.toList = [122, c] := str_add _ _
  have e2 : (zAt d).cps.toList = [122, d] := str_add _ _
  rw [e1, e2] at e
  simpa using e
theorem sizes_at {v : Int} (h0 : 0 ≤ v) (h : v < 13) : ∃ m : Nat, atI [V.int 8, .int 4, .int 5, .int 6, .int 7, .int 1, .int 2, .int 3, .int 1, .int 2, .int 3, .int 1, .int 2] v = some (.int (m : Nat)) ∧ 1 ≤ m ∧ m ≤ 8 := by
  obtain ⟨n, rfl⟩ := Int.eq_ofNat_of_zero_le h0
  have e : ∀ n : Fin 13, atI [V.int 8, .int 4, .int 5, .int 6, .int 7, .int 1, .int 2, .int 3, .int 1, .int 2, .int 3, .int 1, .int 2] ((n.val : Nat) : Int) = some (.int (([8, 4, 5, 6, 7, 1, 2, 3, 1, 2, 3, 1, 2].getD n.val 0 : Nat))) ∧ 1 ≤ ([8, 4, 5, 6, 7, 1, 2, 3, 1, 2, 3, 1, 2].getD n.val 0) ∧ ([8, 4, 5, 6, 7, 1, 2, 3, 1, 2, 3, 1, 2].getD n.val 0) ≤ 8 := by decide +kernel
  exact ⟨_, e ⟨n, by omega⟩⟩
theorem cut_q {z : Str} (h : IsName z) (h8 : z.length < 8) : DrN (("q" : Str) ++ cutS z (some 1) none) := by
  have hz : z.cps.toList.length = z.length := Array.length_toList
  have e : (("q" : Str) ++ cutS z (some 1) none).cps.toList = 113 :: (z.cps.toList.drop (HT.sIx z.length 0 (some 1))).take (HT.sIx z.length z.length none - HT.sIx z.length 0 (some 1)) := str_add _ _
  have l : (z.cps.toList.drop (HT.sIx z.length 0 (some 1))).take (HT.sIx z.length z.length none - HT.sIx z.length 0 (some 1)) ⊆ z.cps.toList := fun c hc => List.mem_of_mem_drop (List.mem_of_mem_take hc)
  have b : ((z.cps.toList.drop (HT.sIx z.length 0 (some 1))).take (HT.sIx z.length z.length none - HT.sIx z.length 0 (some 1))).length ≤ 7 := by
    rw [List.length_take, List.length_drop, hz]; omega
  refine ⟨⟨?_, ?_, ?_⟩, fun _ => by rw [e]; rfl⟩
  · rw [← Array.length_toList, e, List.length_cons]; omega
  · rw [← Array.length_toList, e, List.length_cons]; omega
  · rw [e]; intro c hc
    rcases List.mem_cons.mp hc with rfl | hc
    · unfold Low; omega
    · exact h.2.2 c (l hc)
theorem kinds_names : ∀ z ∈ ([("read" : Str), "call", "say", "try"] : List Str), DrN z := by decide +kernel
theorem zs_fresh {taken : List Str} (h : taken.length ≤ 16) : (("abcdefghijklmnopq" : Str).cps.toList.map zAt).filter (fun z => !decide (z ∈ taken)) ≠ [] := by
  intro e
  have sub : (("abcdefghijklmnopq" : Str).cps.toList.map zAt) ⊆ taken := fun z hz => by
    refine Classical.byContradiction fun n => ?_
    have m : z ∈ (("abcdefghijklmnopq" : Str).cps.toList.map zAt).filter (fun z => !decide (z ∈ taken)) := List.mem_filter.mpr ⟨hz, by simp [n]⟩
    rw [e] at m
    cases m
  have nd : (("abcdefghijklmnopq" : Str).cps.toList.map zAt).Nodup := by
    refine List.Pairwise.map _ (fun a b (n : a ≠ b) q => n (zAt_inj q)) ?_
    show (("abcdefghijklmnopq" : Str).cps.toList).Nodup
    decide +kernel
  have l := nodup_le nd sub
  rw [List.length_map] at l
  have : ("abcdefghijklmnopq" : Str).cps.toList.length = 17 := by decide +kernel
  omega
theorem ok_name {f : Addr} {fd : FuncData} (F : Fun K "_law_name" "_law_name" sName f fd) (c_draw : Cal P w K mg base CX0 1 "_law_draw" psD spDraw) (mRange : mg "range" = none) : FnOk P w K mg base CX0 2 f fd ["_law_source_here", "_law_taken"] (spName K) := by
  refine F.ok scName (fun vs H Q E h => ?_) (fun cdv A outer s H vs Q E hr h => ?_)
  · obtain ⟨a, t, taken, n, rfl, _⟩ := h
    rfl
  · obtain ⟨a, t, taken, n, rfl, S, ta, ht, tl, k⟩ := h
    have hr_draw : Room 1 (A.deeper (PyProof.Rows.envOfC "_law_name" (defScope sName) s.heap.objs.size f cdv)) := hr
    refine ⟨_, (pss_cons (ps_set (i := 2) scName.nd rfl (by first | exact Or.inl rfl | exact Or.inr rfl) (pe_ix (ixl K) (pe_lst (pa_cons pe_int (pa_cons pe_int (pa_cons pe_int (pa_cons pe_int (pa_cons pe_int (pa_cons pe_int (pa_cons pe_int (pa_cons pe_int (pa_cons pe_int (pa_cons pe_int (pa_cons pe_int (pa_cons pe_int (pa_cons pe_int pa_nil)))))))))))))) (pe_cal c_draw hr_draw pass0 (pa_cons (pv 0) (pa_cons pe_int pa_nil))) (fun _ _ => rfl)))
      (pss_cons (ps_set (i := 3) scName.nd rfl (by first | exact Or.inl rfl | exact Or.inr rfl) (pe_join pe_str (pe_lc (own := [("_law_k", 4)]) (g := (gName 4)) (tt := tYes) rfl scName.nd (pi_range1 (by rfl) mRange (pa_cons (pv 2) pa_nil)) (blkOk_by (own := [("_law_k", 4)]) (N := ["_law_source_here", "_law_taken", "_law_size", "_law_name_here", "_law_k", "_law_one", "_law_letter"]) (sc := defScope sName) (by decide +kernel)) (fun _ _ _ _ _ => (pg_name (i := 4) scName.nd rfl (by first | exact Or.inl rfl | exact Or.inr rfl))) (fun _ _ _ _ _ => pts_nil) (fun _ _ _ _ _ => (pe_ix ix_str pe_str (pe_cal c_draw hr_draw pass0 (pa_cons (pv 0) (pa_cons pe_int pa_nil))) (fun _ _ => rfl))))))
      (C8.pss_cut (ps_if (pt_chain op_lt op_lt pe_int (pv 2) pe_int)
        (pss_one (ps_set (i := 3) scName.nd rfl (by first | exact Or.inl rfl | exact Or.inr rfl) (pe_ix (ixl K) (pe_lst (pa_cons pe_str (pa_cons pe_str (pa_cons pe_str (pa_cons pe_str (pa_cons (pe_op op_add_str pe_str (pe_slice sl_str (pv 3) (po_some pe_int) po_none)) pa_nil)))))) (pe_cal c_draw hr_draw pass0 (pa_cons (pv 0) (pa_cons pe_int pa_nil))) (fun _ _ => rfl)))) pss_nil)
      (pss_cons (ps_if (pt_cmpR (nin K) (pv 3) (pv 1) (by rfl))
        (pss_one (ps_ret (pv 3))) pss_nil)
      (pss_one (ps_ret (pe_ix (ixl K) (pe_lc (own := [("_law_one", 5)]) (g := (gName 5)) rfl scName.nd (pi_list (pe_lc (own := [("_law_letter", 6)]) (g := (gName 6)) (tt := tYes) rfl scName.nd (pi_str pe_str) (blkOk_by (own := [("_law_letter", 6)]) (N := ["_law_source_here", "_law_taken", "_law_size", "_law_name_here", "_law_k", "_law_one", "_law_letter"]) (sc := defScope sName) (by decide +kernel)) (fun _ _ _ _ _ => (pg_name (i := 6) scName.nd rfl (by first | exact Or.inl rfl | exact Or.inr rfl))) (fun _ _ _ _ _ => pts_nil) (fun _ _ _ _ _ => (pe_op op_add_str pe_str (pv 6))))) (blkOk_by (own := [("_law_one", 5)]) (N := ["_law_source_here", "_law_taken", "_law_size", "_law_name_here", "_law_k", "_law_one", "_law_letter"]) (sc := defScope sName) (by decide +kernel)) (fun _ _ _ _ _ => (pg_name (i := 5) scName.nd rfl (by first | exact Or.inl rfl | exact Or.inr rfl))) (fun _ _ _ _ _ => pts_one (pt_cmpR (nin K) (pv 5) (pv 1) (by rfl))) (fun _ _ _ _ _ => (pv 5))) pe_int (fun _ _ => rfl)))))))), ?_⟩
    refine ⟨(by show 13 ≤ sizeLine; decide), fun l hl => ⟨_, rfl, a, 13, n + 9, rfl, by decide, by decide, S.new hl, fun v H1 v0 v1 k1 S1 => ?_⟩⟩
    obtain ⟨m, hm, m1, m8⟩ := sizes_at v0 v1
    refine ⟨l, _, v, _, rfl, rfl, .of (k1 _ _ (S.ne hl) upd_same), hm, ?_⟩
    have k1 : Kp a H H1 := (Kp.new hl).trans k1
    refine ⟨⟨_, rfl⟩, _, rfl, m, rfl, by omega, by omega, fun D hD => ?_⟩
    refine lc_range (lo := 0) (n := m) (fun i H' => ∃ cs : List Nat, cs.length = i ∧ (∀ c ∈ cs, Low c) ∧ H' D = some (.lst (cs.map fun c => V.str ⟨#[c]⟩)) ∧ Kp a H1 H' ∧ Src H' a (n + 9 - i) ∧ D ≠ a) ⟨[], rfl, (by simp), upd_same, Kp.new hD, S1.new hD, S1.ne hD⟩ ?_ ?_
    · rintro i H2 hi ⟨cs, hc, low, h2, k2, S2, Da⟩
      refine ⟨rfl, yes_then ?_⟩
      refine ⟨_, rfl, a, 26, n + 8 - i, rfl, by decide, by decide, S2.mono (by omega), fun v H3 v0 v1 k3 S3 => ?_⟩
      obtain ⟨c, hcc, lc⟩ := alpha_at v0 v1
      refine ⟨_, v, c, rfl, rfl, (by show 26 ≤ sizeLine; decide), hcc, _, k3 _ _ Da h2, (by rw [List.length_map, hc]; exact Nat.lt_of_lt_of_le (by omega : i < 9) (by decide)), cs ++ [c], by rw [List.length_append, hc]; rfl, fun d hd => ?_, ?_, ?_, ?_, Da⟩
      · rcases List.mem_append.mp hd with hd | hd
        · exact low d hd
        · rw [List.mem_singleton.mp hd]; exact lc
      · rw [upd_same, List.map_append]; rfl
      · exact (k2.trans k3).mut (H := H1) hD
      · exact (S3.put Da).mono (by omega)
    · rintro H2 ⟨cs, hc, low, h2, k2, S2, Da⟩
      have e1 : (cs.map fun c => V.str ⟨#[c]⟩) = ((cs.map fun c => (⟨#[c]⟩ : Str)).map V.str) := by rw [List.map_map]; rfl
      rw [e1] at h2
      have one : ∀ y ∈ cs.map (fun c => (⟨#[c]⟩ : Str)), y.length ≤ 1 := fun y hy => by
        obtain ⟨c, _, rfl⟩ := List.mem_map.mp hy
        exact Nat.le_refl 1
      refine ⟨_, D, _, rfl, rfl, .inl (.of h2), ?_, ?_⟩
      · have q := sum_len one
        rw [List.length_map] at q ⊢
        show _ + cs.length * 0 ≤ _
        omega
      rw [join_signs]
      have nm : IsName (⟨cs.toArray⟩ : Str) := ⟨by show 1 ≤ cs.toArray.size; simp; omega, by show cs.toArray.size ≤ 8; simp; omega, fun c hc => low c (by simpa using hc)⟩
      have sz : (⟨cs.toArray⟩ : Str).cps.size = m := by show cs.toArray.size = m; simp; omega
      generalize (⟨cs.toArray⟩ : Str) = z at nm sz
      have k2 : Kp a H H2 := k1.trans k2
      refine ⟨fun σ' H' => ∃ z, σ' = [some (.ref a), some (.ref t), some (.int (m : Nat)), some (.str z), none, none, none] ∧ DrN z ∧ Kp a H H' ∧ Src H' a n, ?_, ?_⟩
      · refine ⟨_, rfl, _, _, rfl, rfl, _, rfl, ite2 (fun h3 => ?_) fun n3 => ?_⟩
        · refine ⟨_, _, rfl, rfl, _, rfl, ite2 (fun h8 => ?_) fun n8 => ?_⟩
          · have m7 : (m : Int) < 8 := of_decide_eq_true h8
            refine ⟨_, rfl, _, rfl, z, rfl, Nat.le_trans nm.len (by decide), _, _, rfl, rfl, ?_, ?_⟩
            · have q := cutS_length z (some 1) none
              have q2 := nm.len
              show 1 + _ ≤ _
              exact Nat.le_trans (by omega : _ ≤ 9) (by decide)
            refine ⟨(by show 5 ≤ sizeLine; decide), fun l2 hl2 => ⟨_, rfl, a, 5, n, rfl, by decide, by decide, (S2.mono (by omega : n + 1 ≤ n + 9 - m)).new hl2, fun v H3 v0 v1 k3 S3 => ?_⟩⟩
            obtain ⟨x, hx, hat⟩ := atI_mem (xs := [V.str "read", .str "call", .str "say", .str "try", .str (("q" : Str) ++ cutS z (some 1) none)]) v0 v1
            have hx' : ∃ y, x = .str y ∧ DrN y := by
              have kk := kinds_names
              simp only [List.mem_cons, List.not_mem_nil, or_false] at hx kk
              rcases hx with rfl | rfl | rfl | rfl | rfl
              · exact ⟨_, rfl, kk _ (by simp)⟩
              · exact ⟨_, rfl, kk _ (by simp)⟩
              · exact ⟨_, rfl, kk _ (by simp)⟩
              · exact ⟨_, rfl, kk _ (by simp)⟩
              · exact ⟨_, rfl, cut_q nm (by have : z.length = z.cps.size := rfl; omega)⟩
            obtain ⟨y, rfl, ny⟩ := hx'
            exact ⟨l2, _, v, _, rfl, rfl, .of (k3 _ _ (S2.ne hl2) upd_same), hat, y, rfl, ny, (k2.trans (Kp.new hl2)).trans k3, S3⟩
          · exact ⟨z, rfl, ⟨nm, fun l => absurd (decide_eq_true (by omega)) n8⟩, k2, S2.mono (by omega)⟩
        · exact ⟨_, rfl, iteF ⟨z, rfl, ⟨nm, fun l => absurd (decide_eq_true (by omega)) n3⟩, k2, S2.mono (by omega)⟩⟩
      · rintro σ' H3 ⟨z, rfl, nm, k3, S3⟩
        have ht3 := k3.lst ta ht
        have fl : (taken.map V.str).all flatV = true := by rw [List.all_map]; exact List.all_eq_true.mpr fun _ _ => rfl
        refine ⟨_, rfl, _, rfl, t, _, rfl, .inl ht3, rfl, fl, _, rfl, ?_⟩
        show if (!inV (.str z) (taken.map V.str)) = true then _ else _
        rw [inV_str]
        by_cases hz : z ∈ taken
        · rw [decide_eq_true hz]
          refine iteF ?_
          refine ⟨_, rfl, fun E1 hE1 => ?_⟩
          refine lc_it walk_str (fun i H' => H' E1 = some (.lst ((("abcdefghijklmnopq" : Str).cps.toList.take i).map fun c => V.str (zAt c))) ∧ Kp a H3 H' ∧ Src H' a n) ⟨upd_same, Kp.new hE1, S3.new hE1⟩ (fun _ _ _ _ => trivial) ?_ ?_
          · rintro i x H4 _ hi ⟨h4, k4, S4⟩ ⟨rfl, c, hc, rfl⟩
            refine ⟨rfl, yes_then ?_⟩
            refine ⟨_, rfl, _, _, rfl, rfl, (by show 1 + 1 ≤ sizeLine; decide), _, h4, ?_, ?_, ?_, ?_⟩
            · rw [List.length_map]
              exact Nat.lt_of_le_of_lt (List.length_take_le _ _) (Nat.lt_of_lt_of_le (show i < 17 from hi) (by decide))
            · rw [upd_same, List.take_add_one, List.map_append]
              have e : ("abcdefghijklmnopq" : Str).cps.toList[i]? = some c := by rw [Array.getElem?_toList]; exact hc
              rw [e]; rfl
            · exact k4.mut hE1
            · exact S4.put (S3.ne hE1)
          · rintro H4 ⟨h4, k4, S4⟩
            have e17 : (("abcdefghijklmnopq" : Str).cps.toList.take ("abcdefghijklmnopq" : Str).cps.size).map (fun c => V.str (zAt c)) = (("abcdefghijklmnopq" : Str).cps.toList.map zAt).map V.str := by
              rw [List.take_of_length_le (by rw [Array.length_toList]; exact Nat.le_refl _), List.map_map]; rfl
            rw [e17] at h4
            have low : ∀ z ∈ ("abcdefghijklmnopq" : Str).cps.toList.map zAt, DrN z := fun z hz => by
              obtain ⟨c, hc, rfl⟩ := List.mem_map.mp hz
              refine zAt_dr ?_
              have all : ∀ c ∈ ("abcdefghijklmnopq" : Str).cps.toList, 97 ≤ c ∧ c ≤ 122 := by decide +kernel
              exact all c hc
            have fresh := zs_fresh tl
            have len17 : (("abcdefghijklmnopq" : Str).cps.toList.map zAt).length = 17 := by decide +kernel
            generalize ("abcdefghijklmnopq" : Str).cps.toList.map zAt = zs at h4 low fresh len17
            refine ⟨E1, rfl, ⟨_, .of h4⟩, fun E2 hE2 => ?_⟩
            have n21 : E1 ≠ E2 := Ne.symm (ne_none hE2 h4)
            refine lc_it walk_list (fun i H' => H' E2 = some (.lst (((zs.take i).filter fun z => !decide (z ∈ taken)).map V.str)) ∧ Kp a H4 H' ∧ Src H' a n) ⟨upd_same, Kp.new hE2, S4.new hE2⟩ (fun i H' _ q => .of (q.2.1 _ _ (by exact ne_none hE1 (show H3 a = some _ from S3.choose_spec.choose_spec.choose_spec.1)) h4)) ?_ ?_
            · rintro i x H5 _ hi ⟨h5, k5, S5⟩ ⟨rfl, hx⟩
              rw [List.getElem?_map] at hx
              obtain ⟨y, hy, rfl⟩ := Option.map_eq_some_iff.mp hx
              have ht5 := (k4.trans k5).lst ta ht3
              have tk : zs.take (i + 1) = zs.take i ++ [y] := by rw [List.take_add_one, hy]; rfl
              refine ⟨rfl, _, rfl, _, rfl, t, _, rfl, .inl ht5, rfl, fl, _, rfl, ?_⟩
              show if (!inV (.str y) (taken.map V.str)) = true then _ else _
              rw [inV_str]
              by_cases hz : y ∈ taken
              · rw [decide_eq_true hz]
                refine iteF ⟨?_, k5, S5⟩
                rw [tk, List.filter_append, List.filter_cons_of_neg (by simp [hz]), List.filter_nil, List.append_nil]
                exact h5
              · rw [decide_eq_false hz]
                refine iteT ⟨_, rfl, _, h5, ?_, ?_, k5.mut hE2, S5.put (S4.ne hE2)⟩
                · rw [List.length_map]
                  refine Nat.lt_of_le_of_lt (Nat.le_trans (List.length_filter_le _ _) (List.length_take_le _ _)) (Nat.lt_of_lt_of_le (show i < 17 by rw [List.length_map, len17] at hi; exact hi) (by decide))
                · rw [upd_same, tk, List.filter_append, List.filter_cons_of_pos (by simp [hz]), List.filter_nil, List.map_append]
                  rfl
            · rintro H5 ⟨h5, k5, S5⟩
              rw [List.length_map, List.take_length] at h5
              have nice : ∀ z ∈ zs.filter (fun z => !decide (z ∈ taken)), DrN z ∧ z ∉ taken := fun z hz => by
                obtain ⟨m1, m2⟩ := List.mem_filter.mp hz
                exact ⟨low z m1, by simpa using m2⟩
              generalize zs.filter (fun z => !decide (z ∈ taken)) = fs at fresh nice h5
              rcases fs with _ | ⟨y, ys⟩
              · exact absurd rfl fresh
              · obtain ⟨n1, n2⟩ := nice y List.mem_cons_self
                exact ⟨E2, _, 0, .str y, rfl, rfl, .of h5, atI_nat (j := 0) rfl, k y H5 n1 n2 ((k3.trans k4).trans k5) S5⟩
        · rw [decide_eq_false hz]
          exact iteT ⟨_, rfl, k z H3 nm hz k3 S3⟩
def spNames : Sp := fun vs H Q _ => ∃ (a : Addr) (many n : Nat), vs = [.ref a, .int many] ∧ many ≤ 16 ∧ Src H a (n + 10 * many) ∧
  ∀ (p : Addr) (zs : List Str) (H' : Hp), zs.length = many → zs.Nodup → (∀ z ∈ zs, DrN z) → H p = none → H' p = some (.lst (zs.map V.str)) → Kp a H H' → Src H' a n → Q (.ref p) H'
abbrev sNames : Stmt := top 36
theorem scNames : FnScope ["_law_source_here", "_law_many", "_law_names_here", "_law_k"] ["_law_source_here", "_law_many"] (defScope sNames) := ⟨rfl, rfl, rfl, by decide +kernel, rfl, by decide +kernel, by decide +kernel⟩
theorem ok_names {f : Addr} {fd : FuncData} (F : Fun K "_law_names" "_law_names" sNames f fd) (c_name : Cal P w K mg base CX0 2 "_law_name" ["_law_source_here", "_law_taken"] (spName K)) (mRange : mg "range" = none) (mList : mg "list" = none) : FnOk P w K mg base CX0 3 f fd ["_law_source_here", "_law_many"] spNames := by
  refine F.ok scNames (fun vs H Q E h => ?_) (fun cdv A outer s H vs Q E hr h => ?_)
  · obtain ⟨a, many, n, rfl, _⟩ := h
    rfl
  · obtain ⟨a, many, n, rfl, m16, S, k⟩ := h
    have hr_name := hr
    refine ⟨_, (pss_cons (ps_set (i := 2) scNames.nd rfl (by first | exact Or.inl rfl | exact Or.inr rfl) (pe_lst pa_nil))
      (pss_cons (ps_for PassesOwn.never rfl (pi_range1 (by rfl) mRange (pa_cons (pv 1) pa_nil)) (pg_name (i := 3) scNames.nd rfl (by first | exact Or.inl rfl | exact Or.inr rfl))
        (pss_one (ps_expr (pe_bm PySem.F.plainAttrs_list PySem.F.slot_list_append PySem.F.type_list_append mt_append (pv 2) (pa_cons (pe_cal c_name hr_name pass0 (pa_cons (pv 0) (pa_cons (pe_callTy (k_list K) (by rfl) mList (by decide +kernel) (pa_cons (pv 2) pa_nil)) pa_nil))) pa_nil)))))
      (pss_one (ps_ret (pv 2))))), ?_⟩
    refine ⟨(by show 0 ≤ sizeLine; decide), fun p hp => ⟨_, rfl, many, rfl, by omega, by omega, ?_⟩⟩
    refine for_range (lo := 0) (n := many) (fun i σ H' => ∃ (zs : List Str) (vk : Option V), σ = [some (.ref a), some (.int many), some (.ref p), vk] ∧ zs.length = i ∧ zs.Nodup ∧ (∀ z ∈ zs, DrN z) ∧ H' p = some (.lst (zs.map V.str)) ∧ Kp a H H' ∧ Src H' a (n + 10 * (many - i)))
      ⟨[], none, rfl, rfl, List.nodup_nil, (by simp), upd_same, Kp.new hp, S.new hp⟩ ?_ ?_
    · rintro i σ H1 hi ⟨zs, vk, rfl, hl, nd, nm, h1, k1, S1⟩
      have pa : p ≠ a := S.ne hp
      refine ⟨_, rfl, .inl ⟨rfl, _, .of h1⟩, _, rfl, _, rfl, p, _, rfl, .inl (.of h1), fun l hl' => ?_⟩
      refine ⟨a, l, zs, n + 10 * (many - (i + 1)), rfl, (S1.new hl').mono (by omega), S1.ne hl', .of upd_same, by omega, fun z H2 nz fz k2 S2 => ?_⟩
      have h2 : H2 p = some (.lst (zs.map V.str)) := k2 _ _ pa ((Same.new hl') _ _ h1)
      refine ⟨p, _, _, rfl, rfl, h2, ?_, ?_⟩
      · rw [List.length_map]
        exact Nat.lt_of_lt_of_le (by omega : zs.length < 16) (by decide)
      · refine ⟨zs ++ [z], _, rfl, by rw [List.length_append, hl]; rfl, ?_, fun y hy => ?_, by rw [upd_same, List.map_append]; rfl, ?_, S2.put pa⟩
        · exact List.nodup_append.mpr ⟨nd, List.nodup_cons.mpr ⟨by simp, List.nodup_nil⟩, fun y hy u hu e => fz (by rw [List.mem_singleton.mp hu] at e; exact e ▸ hy)⟩
        · rcases List.mem_append.mp hy with hy | hy
          · exact nm y hy
          · rw [List.mem_singleton.mp hy]; exact nz
        · exact ((k1.trans (Kp.new hl')).trans k2).mut hp
    · rintro σ H1 ⟨zs, vk, rfl, hl, nd, nm, h1, k1, S1⟩
      exact ⟨_, rfl, k p zs H1 hl nd nm hp h1 k1 (S1.mono (by omega))⟩
end
end Mf
/-! Any walk; data of steps and procedures compared; lists of a heap that keep their kind. -/
namespace Mf
open PySem L2
theorem it_any {J : It} {n : Nat} {G : Hp → Prop} {Y : Nat → Hp → V → Hp → Prop} (w : Walk J n G Y) {B : (Hp → Prop) → V → Hp → Prop} {Qd : Hp → Prop} {H1 : Hp} (Pv : Nat → Hp → Prop) (h0 : Pv 0 H1) (hG : ∀ i H, i ≤ n → Pv i H → G H)
    (hs : ∀ i x H H', i < n → Pv i H → Y i H x H' → B (Pv (i + 1)) x H') (hd : ∀ H, Pv n H → Qd H) :
    ∃ W : Nat → Nat → Hp → Prop, (∃ m, W 0 m H1) ∧ ∀ i m H, W i m H → (J.stop i H ∧ Qd H) ∨ (J.go i H ∧ ∃ Nx : Hp → Prop, (∀ H', Nx H' → ∃ m', m' < m ∧ W (i + 1) m' H') ∧ ∀ x H', J.yld i H x H' → B Nx x H') := by
  refine ⟨fun i m H => m = n - i ∧ i ≤ n ∧ Pv i H, ⟨n, by simp, Nat.zero_le _, h0⟩, ?_⟩
  rintro i m H ⟨rfl, hi, p⟩
  have q := hG i H hi p
  by_cases hlt : i < n
  · exact .inr ⟨w.goes i H hlt q, Pv (i + 1), fun H' p' => ⟨n - (i + 1), by omega, rfl, hlt, p'⟩, fun x H' y => hs i x H H' hlt p (w.yields i H x H' hlt q y)⟩
  · have e : i = n := by omega
    subst e
    exact .inl ⟨w.stops H q, hd H p⟩
section
variable (K : PySem.W.Frag) {X : Cx}
theorem piL {tg l : Expr} {tl : TE} (hl : PE X l tl) (h : X.K = K := by rfl) : PI X tg l (iList K tl) := h ▸ pi_list hl
theorem piT {tg l : Expr} {tl : TE} (hl : PE X l tl) (h : X.K = K := by rfl) : PI X tg l (iTup K tl) := h ▸ pi_tup hl
end

/-! ### data -/
theorem eqvMap {α : Type} [DecidableEq α] {f : α → PyData} (h : ∀ x y, PyData.eqv (f x) (f y) = decide (x = y)) : ∀ xs ys : List α, PyData.eqvAll (xs.map f) (ys.map f) = decide (xs = ys)
  | [], [] => rfl
  | [], _ :: _ => rfl
  | _ :: _, [] => rfl
  | x :: xs, y :: ys => by
    show (PyData.eqv (f x) (f y) && PyData.eqvAll (xs.map f) (ys.map f)) = _
    rw [h, eqvMap h xs ys]
    by_cases e : x = y <;> simp [e]
/-- data that can be laid, of depth at most k -/
def Sh (k : Nat) (d : PyData) : Prop := d.canLay0 = true ∧ PyData.depth d ≤ k
theorem Sh.up {k m : Nat} {d : PyData} (h : Sh k d) (l : k ≤ m) : Sh m d := ⟨h.1, Nat.le_trans h.2 l⟩
theorem Sh.all {k : Nat} : ∀ {ds : List PyData}, (∀ d ∈ ds, Sh k d) → PyData.canLayAll0 ds = true ∧ PyData.depthAll ds ≤ k
  | [], _ => ⟨rfl, Nat.zero_le _⟩
  | d :: ds, h => by
    obtain ⟨a, b⟩ := Sh.all (ds := ds) fun y hy => h y (List.mem_cons_of_mem _ hy)
    obtain ⟨a', b'⟩ := h d List.mem_cons_self
    refine ⟨?_, ?_⟩
    · show (d.canLay0 && PyData.canLayAll0 ds) = true
      rw [a, a']; rfl
    · show max (PyData.depth d) (PyData.depthAll ds) ≤ k
      omega
theorem Sh.list {k : Nat} {ds : List PyData} (h : ∀ d ∈ ds, Sh k d) : Sh (k + 1) (.list ds) := ⟨(Sh.all h).1, Nat.succ_le_succ (Sh.all h).2⟩
theorem Sh.tuple {k : Nat} {ds : List PyData} (h : ∀ d ∈ ds, Sh k d) : Sh (k + 1) (.tuple ds) := ⟨(Sh.all h).1, Nat.succ_le_succ (Sh.all h).2⟩
theorem Sh.listM {α : Type} {k : Nat} {xs : List α} {f : α → PyData} (h : ∀ x ∈ xs, Sh k (f x)) : Sh (k + 1) (.list (xs.map f)) := .list fun d hd => by obtain ⟨x, hx, rfl⟩ := List.mem_map.mp hd; exact h x hx
theorem Sh.tupleM {α : Type} {k : Nat} {xs : List α} {f : α → PyData} (h : ∀ x ∈ xs, Sh k (f x)) : Sh (k + 1) (.tuple (xs.map f)) := .tuple fun d hd => by obtain ⟨x, hx, rfl⟩ := List.mem_map.mp hd; exact h x hx
theorem Sh.str {z : Str} (h : PyData.strOk z = true) : Sh 0 (.str z) := ⟨h, Nat.le_refl _⟩
theorem Sh.int (i : Int) : Sh 0 (.int i) := ⟨rfl, Nat.le_refl _⟩
theorem Sh.sh {k : Nat} {d : PyData} (h : Sh k d) (l : k ≤ 64 := by decide) : SeqAt.shaped d = true := Bool.and_eq_true_iff.mpr ⟨h.1, decide_eq_true (Nat.le_trans h.2 l)⟩
theorem dpMap {K : PySem.W.Frag} {H : Hp} {α : Type} {g : α → V} {f : α → PyData} : ∀ {xs : List α}, (∀ x ∈ xs, Dp K H (g x) (f x)) → DpAll K H (xs.map g) (xs.map f)
  | [], _ => .nil
  | x :: xs, h => .cons (h x List.mem_cons_self) (dpMap fun y hy => h y (List.mem_cons_of_mem _ hy))
theorem dpPair {K : PySem.W.Frag} {H : Hp} {α β : Type} {R : α → β → Prop} {g : α → V} {f : β → PyData} {as : List α} {bs : List β} (p : Paired R as bs) (h : ∀ a b, R a b → Dp K H (g a) (f b)) : DpAll K H (as.map g) (bs.map f) := by
  induction p with
  | nil => exact .nil
  | cons a _ ih => exact .cons (h _ _ a) ih
/-! ### steps and procedures as data -/
abbrev Step := Str × Str
abbrev Pc := Str × List Step
def stD (s : Step) : PyData := .tuple [.str s.1, .str s.2]
def bdL (ss : List Step) : PyData := .list (ss.map stD)
def bdT (ss : List Step) : PyData := .tuple (ss.map stD)
def pcL (x : Pc) : PyData := .tuple [.str x.1, bdL x.2]
theorem eqv_str (x y : Str) : PyData.eqv (.str x) (.str y) = decide (x = y) := by
  show (x == y) = _
  by_cases e : x = y <;> simp [e]
theorem eqv_st (x y : Step) : PyData.eqv (stD x) (stD y) = decide (x = y) := by
  obtain ⟨a, b⟩ := x
  obtain ⟨c, d⟩ := y
  show (PyData.eqv (.str a) (.str c) && (PyData.eqv (.str b) (.str d) && true)) = _
  rw [eqv_str, eqv_str]
  by_cases e : a = c <;> by_cases f : b = d <;> simp [e, f]
theorem eqv_bdL (x y : List Step) : PyData.eqv (bdL x) (bdL y) = decide (x = y) := eqvMap eqv_st x y
theorem eqv_bdT (x y : List Step) : PyData.eqv (bdT x) (bdT y) = decide (x = y) := eqvMap eqv_st x y
theorem eqv_pcL (x y : Pc) : PyData.eqv (pcL x) (pcL y) = decide (x = y) := by
  obtain ⟨a, b⟩ := x
  obtain ⟨c, d⟩ := y
  show (PyData.eqv (.str a) (.str c) && (PyData.eqv (bdL b) (bdL d) && true)) = _
  rw [eqv_str, eqv_bdL]
  by_cases e : a = c <;> by_cases f : b = d <;> simp [e, f]
def StOk (s : Step) : Prop := PyData.strOk s.1 = true ∧ PyData.strOk s.2 = true
theorem sh_st {s : Step} (h : StOk s) : Sh 1 (stD s) := .tuple fun d hd => by
  simp only [List.mem_cons, List.not_mem_nil, or_false] at hd
  rcases hd with rfl | rfl
  · exact .str h.1
  · exact .str h.2
theorem sh_bdL {ss : List Step} (h : ∀ s ∈ ss, StOk s) : Sh 2 (bdL ss) := .listM fun s hs => sh_st (h s hs)
theorem sh_bdT {ss : List Step} (h : ∀ s ∈ ss, StOk s) : Sh 2 (bdT ss) := .tupleM fun s hs => sh_st (h s hs)
theorem sh_pcL {x : Pc} (h : PyData.strOk x.1 = true) (h2 : ∀ s ∈ x.2, StOk s) : Sh 3 (pcL x) := .tuple fun d hd => by
  simp only [List.mem_cons, List.not_mem_nil, or_false] at hd
  rcases hd with rfl | rfl
  · exact (Sh.str h).up (by decide)
  · exact sh_bdL h2

/-! ### all but lists stays -/
def NoL (o : HO) : Prop := ∀ xs, o ≠ .lst xs
def SameN (H H' : Hp) : Prop := ∀ b o, NoL o → H b = some o → H' b = some o
theorem SameN.refl {H : Hp} : SameN H H := fun _ _ _ h => h
theorem SameN.of {H H' : Hp} (x : Same H H') : SameN H H' := fun b o _ h => x b o h
theorem SameN.trans {H H1 H2 : Hp} (x : SameN H H1) (y : SameN H1 H2) : SameN H H2 := fun b o n h => y b o n (x b o n h)
theorem SameN.put {H H1 : Hp} {p : Addr} {xs : List V} {o : HO} (x : SameN H H1) (h : H1 p = some (.lst xs)) : SameN H (upd H1 p o) := fun b u n e => by
  have q := x b u n e
  rw [upd_ne (fun z => by rw [z, h] at q; exact n xs (Option.some.inj q).symm)]
  exact q
theorem noL_tup {xs : List V} : NoL (.tup xs) := fun _ h => nomatch h
theorem noL_dK {k : List (Key × V)} : NoL (.dK k) := fun _ h => nomatch h
theorem noL_ins {C d : Addr} {f : List (Str × V)} : NoL (.ins C d f) := fun _ h => nomatch h
theorem SameN.tup {K : PySem.W.Frag} {t : Addr} {H H' : Hp} {xs : List V} (x : SameN H H') (h : SqT K H t xs) : SqT K H' t xs := by
  rcases h with (h | ⟨o, h⟩) | h
  · exact .inl (.inl (x _ _ noL_tup h))
  · exact .inl (.inr ⟨o, x _ _ (fun _ h => nomatch h) h⟩)
  · exact .inr h
/-- all but a, and but lists, stays -/
theorem refs_ne {H : Hp} {a x : Addr} {n : Nat} {ts : List Addr} (S : Src H a n) (h : H x = some (.lst (ts.map V.ref))) : x ≠ a := fun e => by
  obtain ⟨g, s, c, q, _⟩ := S
  rw [e, q] at h
  cases ts with
  | nil => simp at h
  | cons t ts => simp at h
theorem strs_ne {H : Hp} {a x : Addr} {n : Nat} {zs : List Str} (S : Src H a n) (h : H x = some (.lst (zs.map V.str))) : x ≠ a := fun e => by
  obtain ⟨g, s, c, q, _⟩ := S
  rw [e, q] at h
  cases zs with
  | nil => simp at h
  | cons t ts => simp at h
theorem noL_ne {H : Hp} {a x : Addr} {n : Nat} {o : HO} (S : Src H a n) (k : NoL o) (h : H x = some o) : x ≠ a := fun e => by
  obtain ⟨g, s, c, q, _⟩ := S
  rw [e, q] at h
  exact k _ (Option.some.inj h).symm
theorem Kp.noL {H H' : Hp} {a : Addr} {n : Nat} (x : Kp a H H') (S : Src H a n) : SameN H H' := fun b o k h => x b o (noL_ne S k h) h
end Mf
/-! items of rows -/
namespace Mf
open PySem L2
inductive Itm
  | num (n : Int)
  | wd (w : Str)
  | gap
  | nd (i : Nat)
def itV : Itm → List V
  | .num n => [.str "number", .int n]
  | .wd w => [.str "word", .str w]
  | .gap => [.str "gap"]
  | .nd i => [.str "node", .int i]
def itmDec : (a b : Itm) → Decidable (a = b)
  | .num n, .num m => if h : n = m then isTrue (by rw [h]) else isFalse fun e => h (Itm.num.inj e)
  | .wd n, .wd m => if h : n = m then isTrue (by rw [h]) else isFalse fun e => h (Itm.wd.inj e)
  | .gap, .gap => isTrue rfl
  | .nd n, .nd m => if h : n = m then isTrue (by rw [h]) else isFalse fun e => h (Itm.nd.inj e)
  | .num _, .wd _ => isFalse fun e => nomatch e
  | .num _, .gap => isFalse fun e => nomatch e
  | .num _, .nd _ => isFalse fun e => nomatch e
  | .wd _, .num _ => isFalse fun e => nomatch e
  | .wd _, .gap => isFalse fun e => nomatch e
  | .wd _, .nd _ => isFalse fun e => nomatch e
  | .gap, .num _ => isFalse fun e => nomatch e
  | .gap, .wd _ => isFalse fun e => nomatch e
  | .gap, .nd _ => isFalse fun e => nomatch e
  | .nd _, .num _ => isFalse fun e => nomatch e
  | .nd _, .wd _ => isFalse fun e => nomatch e
  | .nd _, .gap => isFalse fun e => nomatch e
instance : DecidableEq Itm := itmDec
def ItA (K : PySem.W.Frag) (H : Hp) (t : Addr) (it : Itm) : Prop := SqT K H t (itV it)
theorem ItA.same {K : PySem.W.Frag} {H H' : Hp} {t : Addr} {it : Itm} (x : ItA K H t it) (s : Same H H') : ItA K H' t it := s.tup x
theorem ItA.sameN {K : PySem.W.Frag} {H H' : Hp} {t : Addr} {it : Itm} (x : ItA K H t it) (s : SameN H H') : ItA K H' t it := s.tup x
theorem it_tag (it : Itm) : ∃ tg rest, itV it = .str tg :: rest ∧ (tg = "node" ↔ ∃ i, it = .nd i) := by
  cases it with
  | num n => exact ⟨"number", _, rfl, fun h => absurd h (by decide), fun h => by obtain ⟨i, h⟩ := h; cases h⟩
  | wd w => exact ⟨"word", _, rfl, fun h => absurd h (by decide), fun h => by obtain ⟨i, h⟩ := h; cases h⟩
  | gap => exact ⟨"gap", _, rfl, fun h => absurd h (by decide), fun h => by obtain ⟨i, h⟩ := h; cases h⟩
  | nd i => exact ⟨"node", _, rfl, fun _ => ⟨i, rfl⟩, fun _ => rfl⟩
/-! ### as data -/
def itD : Itm → PyData
  | .num n => .tuple [.str "number", .int n]
  | .wd w => .tuple [.str "word", .str w]
  | .gap => .tuple [.str "gap"]
  | .nd i => .tuple [.str "node", .int i]
theorem dp_it {K : PySem.W.Frag} {H : Hp} {t : Addr} {it : Itm} (h : ItA K H t it) : Dp K H (.ref t) (itD it) := by
  cases it with
  | num n => exact .tup h (.cons (.str _) (.cons (.int _) .nil))
  | wd w => exact .tup h (.cons (.str _) (.cons (.str _) .nil))
  | gap => exact .tup h (.cons (.str _) .nil)
  | nd i => exact .tup h (.cons (.str _) (.cons (.int _) .nil))
theorem sh_it {it : Itm} (h : ∀ w, it = .wd w → PyData.strOk w = true) : Sh 1 (itD it) := by
  have two : ∀ {a b : PyData}, Sh 0 a → Sh 0 b → Sh 1 (.tuple [a, b]) := fun {a b} ha hb => .tuple fun d hd => by
    simp only [List.mem_cons, List.not_mem_nil, or_false] at hd
    rcases hd with rfl | rfl
    · exact ha
    · exact hb
  cases it with
  | num n => exact two (.str (by decide +kernel)) (.int _)
  | wd w => exact two (.str (by decide +kernel)) (.str (h w rfl))
  | gap => exact .tuple fun d hd => by rw [List.mem_singleton.mp hd]; exact .str (by decide +kernel)
  | nd i => exact two (.str (by decide +kernel)) (.int _)
theorem eqv_s (z : Str) : PyData.eqv (.str z) (.str z) = true := by rw [eqv_str]; simp
theorem eqv_ne2 {a b c d : PyData} (h : PyData.eqv a c = false) : PyData.eqv (.tuple [a, b]) (.tuple [c, d]) = false := by
  show (PyData.eqv a c && (PyData.eqv b d && true)) = false
  rw [h]; rfl
theorem eqv_2 {a b c d : PyData} (h : PyData.eqv a c = true) : PyData.eqv (.tuple [a, b]) (.tuple [c, d]) = PyData.eqv b d := by
  show (PyData.eqv a c && (PyData.eqv b d && true)) = _
  rw [h, Bool.true_and, Bool.and_true]
theorem eqv_21 {a b c : PyData} : PyData.eqv (.tuple [a, b]) (.tuple [c]) = false := by
  show (PyData.eqv a c && false) = false
  rw [Bool.and_false]
theorem eqv_12 {a b c : PyData} : PyData.eqv (.tuple [c]) (.tuple [a, b]) = false := by
  show (PyData.eqv c a && false) = false
  rw [Bool.and_false]
theorem eqv_int (n m : Int) : PyData.eqv (.int n) (.int m) = decide (n = m) := by
  show (n == m) = _
  by_cases e : n = m <;> simp [e]
theorem eqv_t {x y : Str} (h : x ≠ y) : PyData.eqv (.str x) (.str y) = false := by rw [eqv_str]; exact decide_eq_false h
theorem eqv_it (a b : Itm) : PyData.eqv (itD a) (itD b) = decide (a = b) := by
  cases a with
  | num n => cases b with
    | num m => exact ((eqv_2 (eqv_s _)).trans (eqv_int n m)).trans (by by_cases e : n = m <;> simp [e])
    | gap => exact eqv_21.trans (decide_eq_false (by simp)).symm
    | wd z => exact (eqv_ne2 (eqv_t (by decide))).trans (decide_eq_false (by simp)).symm
    | nd j => exact (eqv_ne2 (eqv_t (by decide))).trans (decide_eq_false (by simp)).symm
  | wd z => cases b with
    | num m => exact (eqv_ne2 (eqv_t (by decide))).trans (decide_eq_false (by simp)).symm
    | wd u => exact ((eqv_2 (eqv_s _)).trans (eqv_str z u)).trans (by by_cases e : z = u <;> simp [e])
    | gap => exact eqv_21.trans (decide_eq_false (by simp)).symm
    | nd j => exact (eqv_ne2 (eqv_t (by decide))).trans (decide_eq_false (by simp)).symm
  | gap => cases b with
    | gap => exact (show PyData.eqv (itD .gap) (itD .gap) = true by decide +kernel).trans (decide_eq_true rfl).symm
    | _ => exact eqv_12.trans (decide_eq_false (by simp)).symm
  | nd i => cases b with
    | num m => exact (eqv_ne2 (eqv_t (by decide))).trans (decide_eq_false (by simp)).symm
    | wd u => exact (eqv_ne2 (eqv_t (by decide))).trans (decide_eq_false (by simp)).symm
    | gap => exact eqv_21.trans (decide_eq_false (by simp)).symm
    | nd j => exact ((eqv_2 (eqv_s _)).trans (eqv_int _ _)).trans (by by_cases e : i = j <;> simp [e, Int.ofNat_inj])
/-! ### as keys -/
def nkI : Itm → NestedKey
  | .num n => .tup [.text "number", .num n]
  | .wd w => .tup [.text "word", .text w]
  | .gap => .tup [.text "gap"]
  | .nd i => .tup [.text "node", .num i]
theorem nkI_inj {a b : Itm} (h : nkI a = nkI b) : a = b := by
  cases a <;> cases b <;> simp only [nkI, NestedKey.tup.injEq, List.cons.injEq, NestedKey.text.injEq, NestedKey.num.injEq, and_true, true_and] at h
  all_goals first
    | exact absurd h.1 (by decide)
    | rw [h]
    | rw [Int.ofNat.inj h]
    | rfl
    | exact absurd h.2 (by simp)
    | exact absurd h (by simp)
def nkRow (r : List Itm) : NestedKey := .tup (r.map nkI)
theorem nkRow_inj {a b : List Itm} (h : nkRow a = nkRow b) : a = b := by
  unfold nkRow at h
  injection h with h
  induction a generalizing b with
  | nil => cases b with
    | nil => rfl
    | cons y ys => simp at h
  | cons x xs ih => cases b with
    | nil => simp at h
    | cons y ys =>
      rw [List.map_cons, List.map_cons, List.cons.injEq] at h
      rw [nkI_inj h.1, ih h.2]
theorem nkI_depth (a : Itm) : (nkI a).depth ≤ 1 := by cases a <;> simp [nkI, NestedKey.depth, NestedKey.depthAll]
theorem nkRow_depth (r : List Itm) : (nkRow r).depth ≤ 8 := by
  unfold nkRow
  have h : NestedKey.depthAll (r.map nkI) ≤ 1 := by
    induction r with
    | nil => simp [NestedKey.depthAll]
    | cons x xs ih =>
      rw [List.map_cons, NestedKey.depthAll]
      have := nkI_depth x
      omega
  rw [NestedKey.depth]
  omega
end Mf
/-! the classes of rows, purely -/
namespace Mf
open PySem L2
section
variable {α : Type} [DecidableEq α]
def ixG (k : α) : List α → Nat
  | [] => 0
  | d :: ds => if d = k then 0 else ixG k ds + 1
theorem ixG_at {k : α} : ∀ {ds : List α}, k ∈ ds → ds[ixG k ds]? = some k
  | [], h => nomatch h
  | d :: ds, h => by
    unfold ixG
    by_cases e : d = k
    · rw [if_pos e, e]; rfl
    · rw [if_neg e]
      rcases List.mem_cons.mp h with q | q
      · exact absurd q.symm e
      · exact ixG_at q
theorem ixG_lt {k : α} {ds : List α} (h : k ∈ ds) : ixG k ds < ds.length := (List.getElem?_eq_some_iff.mp (ixG_at h)).1
theorem ixG_app {k : α} : ∀ {ds : List α} (e : List α), k ∈ ds → ixG k (ds ++ e) = ixG k ds
  | [], _, h => nomatch h
  | d :: ds, e, h => by
    show ixG k (d :: (ds ++ e)) = _
    unfold ixG
    by_cases c : d = k
    · rw [if_pos c, if_pos c]
    · rw [if_neg c, if_neg c]
      rcases List.mem_cons.mp h with q | q
      · exact absurd q.symm c
      · rw [ixG_app e q]
theorem ixG_new {k : α} : ∀ {ds : List α} (e : List α), k ∉ ds → ixG k (ds ++ k :: e) = ds.length
  | [], e, _ => by show ixG k (k :: e) = 0; unfold ixG; rw [if_pos rfl]
  | d :: ds, e, h => by
    show ixG k (d :: (ds ++ k :: e)) = _
    unfold ixG
    rw [if_neg (fun c => h (by rw [c]; exact List.mem_cons_self)), ixG_new e (fun m => h (List.mem_cons_of_mem _ m)), List.length_cons]
theorem ixG_inj {a b : α} {ds : List α} (ha : a ∈ ds) (hb : b ∈ ds) (e : ixG a ds = ixG b ds) : a = b := by
  have x := ixG_at ha
  rw [e, ixG_at hb] at x
  exact (Option.some.inj x).symm
/-- the different ones, in the order of their occurrence -/
def dd : List α → List α → List α
  | ds, [] => ds
  | ds, k :: ks => if k ∈ ds then dd ds ks else dd (ds ++ [k]) ks
theorem dd_pre : ∀ (ks ds : List α), ∃ e, dd ds ks = ds ++ e
  | [], ds => ⟨[], by rw [List.append_nil]; rfl⟩
  | k :: ks, ds => by
    unfold dd
    by_cases c : k ∈ ds
    · rw [if_pos c]; exact dd_pre ks ds
    · rw [if_neg c]
      obtain ⟨e, h⟩ := dd_pre ks (ds ++ [k])
      exact ⟨k :: e, by rw [h, List.append_assoc]; rfl⟩
theorem dd_mem : ∀ {ks ds : List α} {k : α}, k ∈ ks → k ∈ dd ds ks
  | [], _, _, h => nomatch h
  | k' :: ks, ds, k, h => by
    unfold dd
    by_cases c : k' ∈ ds
    · rw [if_pos c]
      rcases List.mem_cons.mp h with q | q
      · obtain ⟨e, he⟩ := dd_pre ks ds
        rw [he, q]; exact List.mem_append_left _ c
      · exact dd_mem q
    · rw [if_neg c]
      rcases List.mem_cons.mp h with q | q
      · obtain ⟨e, he⟩ := dd_pre ks (ds ++ [k'])
        rw [he, q]; exact List.mem_append_left _ (List.mem_append_right _ (List.mem_singleton.mpr rfl))
      · exact dd_mem q
theorem dd_sub : ∀ {ks ds : List α} {k : α}, k ∈ dd ds ks → k ∈ ds ∨ k ∈ ks
  | [], _, _, h => .inl h
  | k' :: ks, ds, k, h => by
    unfold dd at h
    by_cases c : k' ∈ ds
    · rw [if_pos c] at h
      exact (dd_sub h).imp id fun m => List.mem_cons_of_mem _ m
    · rw [if_neg c] at h
      rcases dd_sub h with m | m
      · rcases List.mem_append.mp m with m | m
        · exact .inl m
        · exact .inr (by rw [List.mem_singleton.mp m]; exact List.mem_cons_self)
      · exact .inr (List.mem_cons_of_mem _ m)
/-- the number of each: the place among the different ones -/
def numK (ks : List α) : List Nat := ks.map fun k => ixG k (dd [] ks)
theorem dd_snoc : ∀ (ks ds : List α) (k : α), dd ds (ks ++ [k]) = if k ∈ dd ds ks then dd ds ks else dd ds ks ++ [k]
  | [], ds, k => by
    show dd ds [k] = _
    unfold dd
    rfl
  | k' :: ks, ds, k => by
    show dd ds (k' :: (ks ++ [k])) = _
    unfold dd
    by_cases c : k' ∈ ds
    · rw [if_pos c, if_pos c]; exact dd_snoc ks ds k
    · rw [if_neg c, if_neg c]; exact dd_snoc ks _ k
theorem dd_app (ks ms ds : List α) : ∃ e, dd ds (ks ++ ms) = dd ds ks ++ e := by
  induction ks generalizing ds with
  | nil => exact dd_pre ms ds
  | cons k ks ih =>
    show ∃ e, dd ds (k :: (ks ++ ms)) = dd ds (k :: ks) ++ e
    unfold dd
    by_cases c : k ∈ ds
    · rw [if_pos c, if_pos c]; exact ih ds
    · rw [if_neg c, if_neg c]; exact ih _
theorem dd_nd : ∀ (ks ds : List α), ds.Nodup → (dd ds ks).Nodup
  | [], _, h => h
  | k :: ks, ds, h => by
    unfold dd
    by_cases c : k ∈ ds
    · rw [if_pos c]; exact dd_nd ks ds h
    · rw [if_neg c]
      refine dd_nd ks _ (List.nodup_append.mpr ⟨h, List.nodup_cons.mpr ⟨by simp, List.nodup_nil⟩, fun a ha b hb e => c (by rw [← List.mem_singleton.mp hb, ← e]; exact ha)⟩)
theorem numK_len (ks : List α) : (numK ks).length = ks.length := by unfold numK; rw [List.length_map]
theorem numK_at {ks : List α} {i : Nat} {k : α} (h : ks[i]? = some k) : (numK ks)[i]? = some (ixG k (dd [] ks)) := by unfold numK; rw [List.getElem?_map, h]; rfl
theorem numK_eq {ks : List α} {i j : Nat} {a b : α} (hi : ks[i]? = some a) (hj : ks[j]? = some b) : (numK ks)[i]? = (numK ks)[j]? ↔ a = b := by
  rw [numK_at hi, numK_at hj]
  exact ⟨fun e => ixG_inj (dd_mem (List.mem_of_getElem? hi)) (dd_mem (List.mem_of_getElem? hj)) (Option.some.inj e), fun e => by rw [e]⟩
/-- the smaller numbers stand before -/
theorem numK_fo {ks : List α} {i : Nat} {v : Nat} (h : (numK ks)[i]? = some v) : ∀ u, u < v → ∃ j, j < i ∧ (numK ks)[j]? = some u := by
  intro u hu
  obtain ⟨k, hk, rfl⟩ : ∃ k, ks[i]? = some k ∧ ixG k (dd [] ks) = v := by
    unfold numK at h
    rw [List.getElem?_map] at h
    obtain ⟨k, a, b⟩ := Option.map_eq_some_iff.mp h
    exact ⟨k, a, b⟩
  -- the different ones of what stands before i and k itself
  have split : ks = ks.take i ++ (ks.drop i) := (List.take_append_drop i ks).symm
  have dr : ks.drop i = k :: ks.drop (i + 1) := List.drop_eq_getElem?_toList_append.trans (by rw [hk]; rfl)
  obtain ⟨e, he⟩ := dd_app (ks.take i ++ [k]) (ks.drop (i + 1)) []
  have hks : ks = ks.take i ++ [k] ++ ks.drop (i + 1) := by
    rw [List.append_assoc]
    conv => lhs; rw [split, dr]
    rfl
  rw [← hks, dd_snoc] at he
  -- u is the place of one that stands before
  have key : ∃ x ∈ ks.take i, ixG x (dd [] ks) = u := by
    by_cases c : k ∈ dd [] (ks.take i)
    · rw [if_pos c] at he
      rw [he, ixG_app e c] at hu
      have lt : u < (dd [] (ks.take i)).length := Nat.lt_trans hu (ixG_lt c)
      have hx := List.getElem?_eq_getElem lt
      generalize (dd [] (ks.take i))[u] = x at hx
      have xm := List.mem_of_getElem? hx
      refine ⟨x, (dd_sub xm).elim (fun h => nomatch h) id, ?_⟩
      rw [he, ixG_app e xm]
      have nd := dd_nd (ks.take i) [] List.nodup_nil
      have a := ixG_at xm
      exact ((List.getElem?_inj lt nd).mp (hx.trans a.symm)).symm
    · rw [if_neg c] at he
      rw [he, List.append_assoc, show [k] ++ e = k :: e from rfl, ixG_new e c] at hu
      have hx := List.getElem?_eq_getElem hu
      generalize (dd [] (ks.take i))[u] = x at hx
      have xm := List.mem_of_getElem? hx
      refine ⟨x, (dd_sub xm).elim (fun h => nomatch h) id, ?_⟩
      rw [he, List.append_assoc, ixG_app _ xm]
      have nd := dd_nd (ks.take i) [] List.nodup_nil
      have a := ixG_at xm
      exact ((List.getElem?_inj hu nd).mp (hx.trans a.symm)).symm
  obtain ⟨x, hx, ex⟩ := key
  obtain ⟨j, hj⟩ := List.mem_iff_getElem?.mp hx
  have ji : j < i := by
    have := (List.getElem?_eq_some_iff.mp hj).1
    rw [List.length_take] at this
    omega
  refine ⟨j, ji, ?_⟩
  rw [List.getElem?_take_of_lt ji] at hj
  rw [numK_at hj, ex]
end
/-! ### the classes of the rows -/
def ptI (f : Nat → Nat) : Itm → Itm
  | .nd i => .nd (f i)
  | it => it
def ptRow (cls : List Nat) (row : List Itm) : List Itm := row.map (ptI fun i => cls.getD i 0)
def fin (R : List (List Itm)) (cls : List Nat) : List Nat := numK (R.map (ptRow cls))
def clsN (R : List (List Itm)) : Nat → List Nat
  | 0 => List.replicate R.length 0
  | k + 1 => fin R (clsN R k)
theorem fin_len (R : List (List Itm)) (cls : List Nat) : (fin R cls).length = R.length := by unfold fin; rw [numK_len, List.length_map]
theorem clsN_len (R : List (List Itm)) : ∀ k, (clsN R k).length = R.length
  | 0 => List.length_replicate
  | k + 1 => fin_len R _
/-- the nodes lead to rows -/
def NdOk (R : List (List Itm)) : Prop := ∀ r ∈ R, ∀ i, Itm.nd i ∈ r → i < R.length
/-- c' parts what c parts -/
def Ref (n : Nat) (c' c : List Nat) : Prop := ∀ i j, i < n → j < n → c'[i]? = c'[j]? → c[i]? = c[j]?
theorem getD_eq {c : List Nat} {n i j : Nat} (l : c.length = n) (hi : i < n) (hj : j < n) : c.getD i 0 = c.getD j 0 ↔ c[i]? = c[j]? := by
  rw [List.getD_eq_getElem?_getD, List.getD_eq_getElem?_getD, List.getElem?_eq_getElem (show i < c.length by omega), List.getElem?_eq_getElem (show j < c.length by omega)]
  simp
theorem pt_ref {n : Nat} {c' c : List Nat} (l' : c'.length = n) (l : c.length = n) (rf : Ref n c' c) : ∀ {r1 r2 : List Itm}, (∀ i, Itm.nd i ∈ r1 → i < n) → (∀ i, Itm.nd i ∈ r2 → i < n) → ptRow c' r1 = ptRow c' r2 → ptRow c r1 = ptRow c r2
  | [], [], _, _, _ => rfl
  | [], b :: r2, _, _, h => by unfold ptRow at h; simp at h
  | a :: r1, [], _, _, h => by unfold ptRow at h; simp at h
  | a :: r1, b :: r2, h1, h2, h => by
    unfold ptRow at h ⊢
    rw [List.map_cons, List.map_cons, List.cons.injEq] at h
    rw [List.map_cons, List.map_cons]
    have ih := pt_ref l' l rf (r1 := r1) (r2 := r2) (fun i m => h1 i (List.mem_cons_of_mem _ m)) (fun i m => h2 i (List.mem_cons_of_mem _ m)) h.2
    unfold ptRow at ih
    rw [ih]
    congr 1
    cases a <;> cases b <;> first
      | exact h.1
      | (exfalso; have q := h.1; simp [ptI] at q; done)
      | skip
    rename_i x y
    have q := h.1
    simp only [ptI, Itm.nd.injEq] at q ⊢
    have hx := h1 x List.mem_cons_self
    have hy := h2 y List.mem_cons_self
    exact (getD_eq l hx hy).mpr (rf x y hx hy ((getD_eq l' hx hy).mp q))
theorem fin_eq {R : List (List Itm)} {cls : List Nat} {i j : Nat} {r1 r2 : List Itm} (hi : R[i]? = some r1) (hj : R[j]? = some r2) : (fin R cls)[i]? = (fin R cls)[j]? ↔ ptRow cls r1 = ptRow cls r2 :=
  numK_eq (by rw [List.getElem?_map, hi]; rfl) (by rw [List.getElem?_map, hj]; rfl)
theorem fin_ref {R : List (List Itm)} (ok : NdOk R) {c' c : List Nat} (l' : c'.length = R.length) (l : c.length = R.length) (rf : Ref R.length c' c) : Ref R.length (fin R c') (fin R c) := fun i j hi hj h => by
  have h1 := List.getElem?_eq_getElem hi
  have h2 := List.getElem?_eq_getElem hj
  exact (fin_eq h1 h2).mpr (pt_ref l' l rf (fun x m => ok _ (List.getElem_mem hi) x m) (fun x m => ok _ (List.getElem_mem hj) x m) ((fin_eq h1 h2).mp h))
theorem cls_ref {R : List (List Itm)} (ok : NdOk R) : ∀ k, Ref R.length (clsN R (k + 1)) (clsN R k)
  | 0 => fun i j hi hj _ => by
    show (List.replicate R.length 0)[i]? = (List.replicate R.length 0)[j]?
    rw [List.getElem?_replicate, List.getElem?_replicate, if_pos hi, if_pos hj]
  | k + 1 => fin_ref ok (clsN_len R _) (clsN_len R _) (cls_ref ok k)
/-- numbers by the first occurrence -/
def Fo (c : List Nat) : Prop := ∀ (i v : Nat), c[i]? = some v → ∀ u, u < v → ∃ j, j < i ∧ c[j]? = some u
theorem cls_fo (R : List (List Itm)) : ∀ k, Fo (clsN R k)
  | 0 => fun i v h u hu => by
    have h : (List.replicate R.length 0)[i]? = some v := h
    rw [List.getElem?_replicate] at h
    by_cases c : i < R.length
    · rw [if_pos c] at h; cases h; omega
    · rw [if_neg c] at h; cases h
  | k + 1 => fun i v h u hu => numK_fo h u hu
/-- the same parts, the same numbers -/
theorem fo_same {n : Nat} {c c' : List Nat} (l : c.length = n) (l' : c'.length = n) (f : Fo c) (f' : Fo c') (h : ∀ i j, i < n → j < n → (c[i]? = c[j]? ↔ c'[i]? = c'[j]?)) : ∀ i, i < n → c[i]? = c'[i]? := by
  intro i
  induction i using Nat.strongRecOn with
  | _ i ih =>
    intro hi
    have hv := List.getElem?_eq_getElem (show i < c.length by omega)
    have hv' := List.getElem?_eq_getElem (show i < c'.length by omega)
    generalize c[i] = v at hv
    generalize c'[i] = v' at hv'
    rw [hv, hv']
    rcases Nat.lt_trichotomy v v' with q | q | q
    · exfalso
      obtain ⟨j, hj, e⟩ := f' i v' hv' v q
      have e2 := ih j hj (by omega)
      have e3 : c[j]? = c[i]? := by rw [e2, e, hv]
      have e4 := (h j i (by omega) hi).mp e3
      rw [e, hv'] at e4
      have := Option.some.inj e4
      omega
    · rw [q]
    · exfalso
      obtain ⟨j, hj, e⟩ := f i v hv v' q
      have e2 := ih j hj (by omega)
      have e3 : c'[j]? = c'[i]? := by rw [← e2, e, hv']
      have e4 := (h j i (by omega) hi).mpr e3
      rw [e, hv] at e4
      have := Option.some.inj e4
      omega
/-- how many classes: the places where one stands first -/
def isF (c : List Nat) (i : Nat) : Bool := (List.range i).all fun j => !decide (c[j]? = c[i]?)
theorem isF_iff {c : List Nat} {i : Nat} : isF c i = true ↔ ∀ j, j < i → c[j]? ≠ c[i]? := by
  unfold isF
  rw [List.all_eq_true]
  constructor
  · intro h j hj e
    have := h j (List.mem_range.mpr hj)
    rw [decide_eq_true e] at this
    cases this
  · intro h j hj
    rw [decide_eq_false (h j (List.mem_range.mp hj))]; rfl
def cnt (n : Nat) (c : List Nat) : Nat := (List.range n).countP (isF c)
theorem countP_mono {α : Type} {p q : α → Bool} : ∀ {l : List α}, (∀ x ∈ l, p x = true → q x = true) → l.countP p ≤ l.countP q
  | [], _ => Nat.le_refl _
  | x :: l, h => by
    have ih := countP_mono (l := l) fun y hy => h y (List.mem_cons_of_mem _ hy)
    by_cases c : p x = true
    · rw [List.countP_cons_of_pos c, List.countP_cons_of_pos (h x List.mem_cons_self c)]; omega
    · rw [List.countP_cons_of_neg c]
      by_cases d : q x = true
      · rw [List.countP_cons_of_pos d]; omega
      · rw [List.countP_cons_of_neg d]; exact ih
theorem countP_lt {α : Type} {p q : α → Bool} : ∀ {l : List α}, (∀ x ∈ l, p x = true → q x = true) → (∃ x ∈ l, p x = false ∧ q x = true) → l.countP p < l.countP q
  | [], _, h => by obtain ⟨x, hx, _⟩ := h; cases hx
  | x :: l, h, w => by
    have mono := countP_mono (l := l) fun y hy => h y (List.mem_cons_of_mem _ hy)
    obtain ⟨y, hy, py, qy⟩ := w
    rcases List.mem_cons.mp hy with e | hy
    · subst e
      rw [List.countP_cons_of_neg (by rw [py]; decide), List.countP_cons_of_pos qy]; omega
    · have ih := countP_lt (l := l) (fun y hy => h y (List.mem_cons_of_mem _ hy)) ⟨y, hy, py, qy⟩
      by_cases c : p x = true
      · rw [List.countP_cons_of_pos c, List.countP_cons_of_pos (h x List.mem_cons_self c)]; omega
      · rw [List.countP_cons_of_neg c]
        by_cases d : q x = true
        · rw [List.countP_cons_of_pos d]; omega
        · rw [List.countP_cons_of_neg d]; exact ih
theorem cnt_le (n : Nat) (c : List Nat) : cnt n c ≤ n := by
  have := List.countP_le_length (p := isF c) (l := List.range n)
  rw [List.length_range] at this
  exact this
/-- the first place of the class of i -/
theorem first_of (c : List Nat) : ∀ i, ∃ a, a ≤ i ∧ c[a]? = c[i]? ∧ isF c a = true := by
  intro i
  induction i using Nat.strongRecOn with
  | _ i ih =>
    by_cases h : isF c i = true
    · exact ⟨i, Nat.le_refl _, rfl, h⟩
    · have : ∃ j, j < i ∧ c[j]? = c[i]? := by
        apply Classical.byContradiction
        intro no
        exact h (isF_iff.mpr fun j hj e => no ⟨j, hj, e⟩)
      obtain ⟨j, hj, e⟩ := this
      obtain ⟨a, ha, e2, f⟩ := ih j hj
      exact ⟨a, by omega, e2.trans e, f⟩
theorem cnt_lt {n : Nat} {c c' : List Nat} (l : c.length = n) (l' : c'.length = n) (f : Fo c) (f' : Fo c') (rf : Ref n c' c) (ne : c' ≠ c) : cnt n c < cnt n c' := by
  unfold cnt
  refine countP_lt (fun i hi p => ?_) ?_
  · have hi := List.mem_range.mp hi
    exact isF_iff.mpr fun j hj e => isF_iff.mp p j hj (rf j i (by omega) hi e)
  · -- two of one class of c, that are apart in c'
    have ex : ∃ i j, i < n ∧ j < n ∧ c[i]? = c[j]? ∧ c'[i]? ≠ c'[j]? := by
      apply Classical.byContradiction
      intro no
      apply ne
      apply List.ext_getElem?
      intro i
      by_cases hi : i < n
      · refine (fo_same l l' f f' (fun i j hi hj => ⟨fun e => ?_, fun e => rf i j hi hj e⟩) i hi).symm
        apply Classical.byContradiction
        intro q
        exact no ⟨i, j, hi, hj, e, q⟩
      · rw [List.getElem?_eq_none (by omega), List.getElem?_eq_none (by omega)]
    obtain ⟨i, j, hi, hj, e, q⟩ := ex
    obtain ⟨a, ai, ea, fa⟩ := first_of c' i
    obtain ⟨b, bj, eb, fb⟩ := first_of c' j
    have ca : c[a]? = c[i]? := rf a i (by omega) hi ea
    have cb : c[b]? = c[j]? := rf b j (by omega) hj eb
    have ab : a ≠ b := fun z => q (by rw [← ea, ← eb, z])
    have cab : c[a]? = c[b]? := by rw [ca, cb, e]
    rcases Nat.lt_or_gt_of_ne ab with h | h
    · refine ⟨b, List.mem_range.mpr (by omega), ?_, fb⟩
      cases z : isF c b with
      | false => rfl
      | true => exact absurd cab (isF_iff.mp z a h)
    · refine ⟨a, List.mem_range.mpr (by omega), ?_, fa⟩
      cases z : isF c a with
      | false => rfl
      | true => exact absurd cab.symm (isF_iff.mp z b h)
/-- after as many rounds as there are rows nothing changes -/
theorem cls_step {R : List (List Itm)} (ok : NdOk R) (k : Nat) (ne : clsN R (k + 1) ≠ clsN R k) : cnt R.length (clsN R k) < cnt R.length (clsN R (k + 1)) :=
  cnt_lt (clsN_len R k) (clsN_len R (k + 1)) (cls_fo R k) (cls_fo R (k + 1)) (cls_ref ok k) ne
theorem cls_stay {R : List (List Itm)} {k : Nat} (h : clsN R (k + 1) = clsN R k) : ∀ m, clsN R (k + m) = clsN R k
  | 0 => rfl
  | m + 1 => by
    show fin R (clsN R (k + m)) = _
    rw [cls_stay h m]
    exact h
theorem cls_grow {R : List (List Itm)} (ok : NdOk R) : ∀ k, (∀ m, m < k → clsN R (m + 1) ≠ clsN R m) → k ≤ cnt R.length (clsN R k)
  | 0, _ => Nat.zero_le _
  | k + 1, h => by
    have a := cls_grow ok k fun m hm => h m (by omega)
    have b := cls_step ok k (h k (by omega))
    omega
/-- the classes that stay -/
def clsE (R : List (List Itm)) : List Nat := clsN R R.length
theorem cls_end {R : List (List Itm)} (ok : NdOk R) : clsN R (R.length + 1) = clsE R := by
  apply Classical.byContradiction
  intro ne
  have all : ∀ m, m ≤ R.length → clsN R (m + 1) ≠ clsN R m := fun m hm e => by
    apply ne
    have a := cls_stay e (R.length + 1 - m)
    have b := cls_stay e (R.length - m)
    rw [show m + (R.length + 1 - m) = R.length + 1 by omega] at a
    rw [show m + (R.length - m) = R.length by omega] at b
    rw [a]
    exact b.symm
  have g := cls_grow ok (R.length + 1) fun m hm => all m (by omega)
  have l := cnt_le R.length (clsN R (R.length + 1))
  omega
theorem cls_fix {R : List (List Itm)} (ok : NdOk R) {k : Nat} (h : clsN R (k + 1) = clsN R k) : clsN R k = clsE R := by
  rcases Nat.le_total k R.length with q | q
  · have a := cls_stay h (R.length - k)
    rw [show k + (R.length - k) = R.length by omega] at a
    exact a.symm
  · have a := cls_stay (show clsN R (R.length + 1) = clsN R R.length from cls_end ok) (k - R.length)
    rw [show R.length + (k - R.length) = k by omega] at a
    exact a
def nds (row : List Itm) : List Nat := row.filterMap fun it => match it with | .nd i => some i | _ => none
theorem nds_snoc_nd (r : List Itm) (i : Nat) : nds (r ++ [.nd i]) = nds r ++ [i] := by unfold nds; rw [List.filterMap_append]; rfl
theorem nds_snoc_no {it : Itm} (r : List Itm) (h : ¬ ∃ i, it = .nd i) : nds (r ++ [it]) = nds r := by
  unfold nds
  rw [List.filterMap_append]
  cases it with
  | nd i => exact absurd ⟨i, rfl⟩ h
  | _ => simp
theorem nds_mem {row : List Itm} {i : Nat} : i ∈ nds row ↔ Itm.nd i ∈ row := by
  unfold nds
  rw [List.mem_filterMap]
  constructor
  · rintro ⟨it, h, e⟩
    cases it with
    | nd j => cases e; exact h
    | _ => cases e
  · intro h; exact ⟨_, h, rfl⟩
/-! ### the rows that are found, and their numbers -/
def cl (c : List Nat) (i : Nat) : Nat := c.getD i 0
def visN (c : List Nat) : List Nat → List Nat → List Nat
  | fd, [] => fd
  | fd, i :: is => visN c (if cl c i ∈ fd.map (cl c) then fd else fd ++ [i]) is
def growN (R : List (List Itm)) (c : List Nat) : Nat → Nat → List Nat → List Nat
  | 0, _, fd => fd
  | n + 1, at_, fd => match fd[at_]? with
    | none => fd
    | some i => growN R c n (at_ + 1) (visN c fd (nds (R.getD i [])))
def foundN (R : List (List Itm)) (c : List Nat) (st : Nat) : List Nat := growN R c (R.length + 1) 0 [st]
def numRow (c fd : List Nat) (row : List Itm) : List Itm := row.map (ptI fun j => ixG (cl c j) (fd.map (cl c)))
/-- the rows of the result of row st -/
def canonN (R : List (List Itm)) (st : Nat) : List (List Itm) := (foundN R (clsE R) st).map fun i => numRow (clsE R) (foundN R (clsE R) st) (R.getD i [])
/-- what is found: each class once -/
structure FdOk (n : Nat) (c fd : List Nat) : Prop where
  nd : (fd.map (cl c)).Nodup
  lt : ∀ i ∈ fd, i < n
theorem nodup_of_map {α β : Type} {f : α → β} : ∀ {xs : List α}, (xs.map f).Nodup → xs.Nodup
  | [], _ => List.nodup_nil
  | x :: xs, h => by
    rw [List.map_cons, List.nodup_cons] at h
    exact List.nodup_cons.mpr ⟨fun m => h.1 (List.mem_map.mpr ⟨x, m, rfl⟩), nodup_of_map h.2⟩
theorem FdOk.few {n : Nat} {c fd : List Nat} (F : FdOk n c fd) : fd.length ≤ n := by
  have q := nodup_le (nodup_of_map F.nd) (m := List.range n) fun i hi => List.mem_range.mpr (F.lt i hi)
  rw [List.length_range] at q
  exact q
theorem FdOk.put {n : Nat} {c fd : List Nat} (F : FdOk n c fd) {i : Nat} (hi : i < n) : FdOk n c (if cl c i ∈ fd.map (cl c) then fd else fd ++ [i]) := by
  by_cases h : cl c i ∈ fd.map (cl c)
  · rw [if_pos h]; exact F
  · rw [if_neg h]
    refine ⟨?_, fun j hj => ?_⟩
    · rw [List.map_append, List.nodup_append]
      exact ⟨F.nd, List.nodup_cons.mpr ⟨by simp, List.nodup_nil⟩, fun a ha b hb e => h (by
        have hb : b = cl c i := List.mem_singleton.mp hb
        rw [← hb, ← e]; exact ha)⟩
    · rcases List.mem_append.mp hj with q | q
      · exact F.lt j q
      · rw [List.mem_singleton.mp q]; exact hi
theorem put_pre (c fd : List Nat) (i : Nat) : ∃ e, (if cl c i ∈ fd.map (cl c) then fd else fd ++ [i]) = fd ++ e := by
  by_cases h : cl c i ∈ fd.map (cl c)
  · exact ⟨[], by rw [if_pos h, List.append_nil]⟩
  · exact ⟨[i], by rw [if_neg h]⟩
theorem put_mem (c fd : List Nat) (i : Nat) : cl c i ∈ (if cl c i ∈ fd.map (cl c) then fd else fd ++ [i]).map (cl c) := by
  by_cases h : cl c i ∈ fd.map (cl c)
  · rw [if_pos h]; exact h
  · rw [if_neg h, List.map_append]; exact List.mem_append_right _ (List.mem_singleton.mpr rfl)
theorem visN_snoc (c : List Nat) : ∀ (is fd : List Nat) (i : Nat), visN c fd (is ++ [i]) = (if cl c i ∈ (visN c fd is).map (cl c) then visN c fd is else visN c fd is ++ [i])
  | [], fd, i => rfl
  | j :: is, fd, i => visN_snoc c is _ i
theorem growN_succ (R : List (List Itm)) (c : List Nat) (n at_ : Nat) (fd : List Nat) : growN R c (n + 1) at_ fd = match fd[at_]? with
    | none => fd
    | some i => growN R c n (at_ + 1) (visN c fd (nds (R.getD i []))) := rfl
end Mf
/-! dicts of whole numbers, keyed by tuples of tuples -/
namespace Mf
open PySem PySem.Spec PyProof.Rows L2
mutual
/-- the value v is the key k -/
inductive NKv (K : PySem.W.Frag) (H : Hp) : NestedKey → V → Prop
  | int (i : Int) : NKv K H (.num i) (.int i)
  | str (z : Str) : NKv K H (.text z) (.str z)
  | tup {a : Addr} {vs : List V} {ks : List NestedKey} : SqT K H a vs → NKall K H ks vs → NKv K H (.tup ks) (.ref a)
inductive NKall (K : PySem.W.Frag) (H : Hp) : List NestedKey → List V → Prop
  | nil : NKall K H [] []
  | cons {k : NestedKey} {v : V} {ks : List NestedKey} {vs : List V} : NKv K H k v → NKall K H ks vs → NKall K H (k :: ks) (v :: vs)
end
mutual
theorem NKv.mv {K : PySem.W.Frag} {H H' : Hp} (f : ∀ a vs, SqT K H a vs → SqT K H' a vs) : ∀ {k : NestedKey} {v : V}, NKv K H k v → NKv K H' k v
  | _, _, .int i => .int i
  | _, _, .str z => .str z
  | _, _, .tup s t => .tup (f _ _ s) (NKall.mv f t)
theorem NKall.mv {K : PySem.W.Frag} {H H' : Hp} (f : ∀ a vs, SqT K H a vs → SqT K H' a vs) : ∀ {ks : List NestedKey} {vs : List V}, NKall K H ks vs → NKall K H' ks vs
  | _, _, .nil => .nil
  | _, _, .cons a b => .cons (NKv.mv f a) (NKall.mv f b)
end
mutual
theorem NKv.is {X : Cx} {pins : List (Addr × Obj)} {σ : L2.St} {H : Hp} {s : Shared} (I : Inv X pins σ H s) : ∀ {k : NestedKey} {v : V} {u : Value}, NKv X.K H k v → RelV v u → NestedIs s.heap k u
  | _, _, u, .int i, r => by obtain ⟨t, rfl⟩ := (show ∃ t, u = .int i t from r); exact .int i t
  | _, _, u, .str z, r => by obtain ⟨t, rfl⟩ := (show ∃ t, u = .str z t from r); exact .text z t
  | _, _, u, .tup (a := a) sq al, r => by
    obtain rfl : u = .ref a := r
    obtain ⟨its, rv, ⟨o, ho, hc, n, hd⟩, _⟩ := I.tuple sq
    exact .tup ho hc hd (by simpa using NKall.is I al rv)
theorem NKall.is {X : Cx} {pins : List (Addr × Obj)} {σ : L2.St} {H : Hp} {s : Shared} (I : Inv X pins σ H s) : ∀ {ks : List NestedKey} {vs : List V} {us : List Value}, NKall X.K H ks vs → Vals vs us → NestedAll s.heap ks us
  | _, _, _, .nil, r => by cases r; exact .nil
  | _, _, _, .cons a b, r => by
    cases r with
    | cons r1 r2 => exact .cons (NKv.is I a r1) (NKall.is I b r2)
end
abbrev NE := NestedKey × Addr × Int
/-- what stands at a dict's own object -/
def NDo (P : Program) (w : World) (a : Addr) (kvs : List NE) : HO := .ext fun h => (a == sysModules) = false ∧ kvs.length ≤ sizeLine ∧ ∃ (q : Obj) (es : Array DictEntry) (ep : Nat) (xs : List (NestedKey × Addr × Value)), h.get? a = some q ∧ q.ExactDict ∧ q.data = .dict es ep ∧
  es.toList = xs.map (entryOfKey (nestedKind P w)) ∧ (xs.map (·.1)).Nodup ∧ Paired (fun (kv : NE) (x : NestedKey × Addr × Value) => kv.1 = x.1 ∧ kv.2.1 = x.2.1 ∧ ∃ t, x.2.2 = Value.int kv.2.2 t) kvs xs
/-- a dict keyed by tuples of tuples stands at a -/
structure NDict (P : Program) (w : World) (K : PySem.W.Frag) (H : Hp) (a : Addr) (kvs : List NE) : Prop where
  o : H a = some (NDo P w a kvs)
  k : ∀ kv ∈ kvs, NKv K H kv.1 (.ref kv.2.1) ∧ kv.1.depth ≤ 8
section
variable {X : Cx} {pins : List (Addr × Obj)} {σ : L2.St} {H : Hp} {s : Shared} {a : Addr} {kvs : List NE}
theorem nd_of (I : Inv X pins σ H s) (N : NDict X.prog X.w X.K H a kvs) : (a == sysModules) = false ∧ kvs.length ≤ sizeLine ∧ ∃ xs, s.heap.DictOfH (nestedKind X.prog X.w) a xs ∧ Paired (fun (kv : NE) (x : NestedKey × Addr × Value) => kv.1 = x.1 ∧ kv.2.1 = x.2.1 ∧ ∃ t, x.2.2 = Value.int kv.2.2 t) kvs xs := by
  obtain ⟨⟨hs, hl, q, es, ep, xs, h1, h2, h3, h4, h5, pr⟩, _, _⟩ := (show ObjOk X.prog X.w H s.heap a (NDo X.prog X.w a kvs) from I.hok a _ N.o)
  refine ⟨hs, hl, xs, ⟨q, es, ep, h1, h2, h3, h4, ?_, h5⟩, pr⟩
  have all : ∀ {l : List NE} {m : List (NestedKey × Addr × Value)}, Paired (fun (kv : NE) (x : NestedKey × Addr × Value) => kv.1 = x.1 ∧ kv.2.1 = x.2.1 ∧ ∃ t, x.2.2 = Value.int kv.2.2 t) l m → (∀ kv ∈ l, NKv X.K H kv.1 (.ref kv.2.1) ∧ kv.1.depth ≤ 8) → ∀ x ∈ m, (nestedKind X.prog X.w).is s.heap x.1 x.2.1 := by
    intro l m r
    induction r with
    | nil => intro _ x hx; cases hx
    | @cons p q ps qs hq _ ih =>
      intro hk x hx
      rcases List.mem_cons.mp hx with e | hx
      · subst e
        obtain ⟨n1, n2⟩ := hk p List.mem_cons_self
        exact ⟨by rw [← hq.1, ← hq.2.1]; exact NKv.is I n1 rfl, by rw [← hq.1]; exact n2⟩
      · exact ih (fun kv h => hk kv (List.mem_cons_of_mem _ h)) x hx
  exact all pr N.k
/-- what the dict holds at a key -/
def atN (kvs : List NE) (k : NestedKey) : Option Int := (kvs.find? fun kv => decide (kv.1 = k)).map (·.2.2)
theorem atN_rel {kvs : List NE} {xs : List (NestedKey × Addr × Value)} (r : Paired (fun (kv : NE) (x : NestedKey × Addr × Value) => kv.1 = x.1 ∧ kv.2.1 = x.2.1 ∧ ∃ t, x.2.2 = Value.int kv.2.2 t) kvs xs) (k : NestedKey) :
    (atN kvs k = none ∧ atKey xs k = none) ∨ ∃ n b t, atN kvs k = some n ∧ atKey xs k = some (b, .int n t) := by
  induction r with
  | nil => exact .inl ⟨rfl, rfl⟩
  | @cons p q ps qs hq _ ih =>
    unfold atN atKey at ih ⊢
    obtain ⟨h1, h2, t, h3⟩ := hq
    by_cases e : p.1 = k
    · have e2 : q.1 = k := by rw [← h1]; exact e
      rw [List.find?_cons_of_pos (p := fun kv : NE => decide (kv.1 = k)) (decide_eq_true e), List.find?_cons_of_pos (p := fun x : NestedKey × Addr × Value => decide (x.1 = k)) (decide_eq_true e2)]
      refine .inr ⟨p.2.2, q.2.1, t, rfl, ?_⟩
      show some q.2 = _
      rw [← h3]
    · have e2 : ¬ q.1 = k := by rw [← h1]; exact e
      rw [List.find?_cons_of_neg (p := fun kv : NE => decide (kv.1 = k)) (by rw [decide_eq_false e]; decide), List.find?_cons_of_neg (p := fun x : NestedKey × Addr × Value => decide (x.1 = k)) (by rw [decide_eq_false e2]; decide)]
      exact ih
/-- {}, to be such a dict -/
def tNDNew (P : Program) (w : World) : TE := fun _ H Q => ∀ p, H p = none → Q (.ref p) (upd H p (NDo P w p []))
theorem nd_empty {P : Program} {w : World} {H : Hp} (h : Heap) (hb : sysModules < h.objs.size) : ObjOk P w H (h.push { cls := .type "dict", data := .dict #[] }) h.objs.size (NDo P w h.objs.size []) := by
  refine ⟨⟨beq_eq_false_iff_ne.mpr (Ne.symm (Nat.ne_of_lt hb)), Nat.zero_le _, _, #[], 0, [], Heap.get?_push_size _ rfl, ⟨rfl, rfl, rfl⟩, rfl, rfl, List.nodup_nil, .nil⟩, ⟨_, Heap.get?_push_size _ rfl⟩, ?_⟩
  rintro h1 h2 ⟨a1, a2, q, es, ep, xs, b1, b2⟩ st
  exact ⟨a1, a2, q, es, ep, xs, st _ b1, b2⟩
theorem pe_ndnew {pos : Pos} : PE X (.Dict [] [] pos) (tNDNew X.prog X.w) := ⟨fun pins s σ H Q I h =>
  wpAny_Dict_empty ⟨.ref s.heap.objs.size, _, I.laid (a := s.heap.objs.size) (o := NDo X.prog X.w s.heap.objs.size []) (t' := s.toks) (fun _ _ q => Heap.get?_push_of_some _ q) (Nat.le_refl _) (nd_empty s.heap I.big), rfl, h _ (I.hok.fresh (Nat.le_refl _))⟩⟩
def tNDNotIn (P : Program) (w : World) (K : PySem.W.Frag) (ty td : TE) : TE := fun σ H Q => ty σ H fun y H1 => td σ H1 fun x H2 => ∃ a kvs k b, x = .ref a ∧ y = .ref b ∧ NDict P w K H2 a kvs ∧ NKv K H2 k (.ref b) ∧ k.depth ≤ 8 ∧ Q (.bl (!(atN kvs k).isSome)) H2
theorem pc_ndnotin {i o : Expr} {ty td : TE} (hu : X.A.units + 9 < cLine) (hi : PE X i ty) (ho : PE X o td) : PC X .NotIn i o (tNDNotIn X.prog X.w X.K ty td) := by
  refine ⟨fun pins s σ H Q I h => ?_⟩
  refine thn (hi.run pins s σ H _ I h) fun iv s1 ⟨y, H1, I1, ry, q1⟩ => thn (ho.run pins s1 σ H1 _ I1 q1) fun u s2 ⟨x, H2, I2, rx, a, kvs, k, b, ex, ey, N, nk, dp, q2⟩ => ?_
  subst ex ey
  obtain rfl : u = Value.ref a := rx
  obtain rfl : iv = Value.ref b := ry
  obtain ⟨hs, hl, xs, dd, pr⟩ := nd_of I2 N
  refine wpAny_notIn_heap (knd := nestedKind X.prog X.w) (show X.A.in1.units + 8 < cLine by show X.A.units + 1 + 8 < cLine; omega) (show (nestedKind X.prog X.w).is s2.heap k b from ⟨NKv.is I2 nk rfl, dp⟩) hs dd ?_
  have e : (atKey xs k).isSome = (atN kvs k).isSome := by
    rcases atN_rel pr k with ⟨e1, e2⟩ | ⟨n, b', t, e1, e2⟩
    · rw [e1, e2]; rfl
    · rw [e1, e2]; rfl
  rw [e]
  exact ⟨.bl (!(atN kvs k).isSome), H2, I2.tok _, rfl, q2⟩
def tNDGet (P : Program) (w : World) (K : PySem.W.Frag) (td ty : TE) : TE := fun σ H Q => td σ H fun x H1 => ty σ H1 fun y H2 => ∃ a kvs k b n, x = .ref a ∧ y = .ref b ∧ NDict P w K H2 a kvs ∧ NKv K H2 k (.ref b) ∧ k.depth ≤ 8 ∧ atN kvs k = some n ∧ Q (.int n) H2
theorem pe_ndget {o i : Expr} {td ty : TE} {pos : Pos} (hu : X.A.units + 9 < cLine) (ho : PE X o td) (hi : PE X i ty) (hs : NoSl i) : PE X (.Subscript o i pos) (tNDGet X.prog X.w X.K td ty) := by
  refine ⟨fun pins s σ H Q I h => ?_⟩
  refine subD_of PySem.F.slot_dict_getitem.lookup hs (thn (ho.run pins s σ H _ I h) fun u s1 ⟨x, H1, I1, rx, q1⟩ => thn (hi.run pins s1 σ H1 _ I1 q1) fun iv s2 ⟨y, H2, I2, ry, a, kvs, k, b, n, ex, ey, N, nk, dp, e, q2⟩ => ?_)
  subst ex ey
  obtain rfl : u = Value.ref a := rx
  obtain rfl : iv = Value.ref b := ry
  obtain ⟨hs', hl, xs, dd, pr⟩ := nd_of I2 N
  rcases atN_rel pr k with ⟨e1, _⟩ | ⟨n', b', t, e1, e2⟩
  · rw [e] at e1; cases e1
  · rw [e] at e1; cases e1
    refine ⟨dd.typeIs, ?_⟩
    refine wpAny_getItem_heap (knd := nestedKind X.prog X.w) (show X.A.in1.units + 8 < cLine by show X.A.units + 1 + 8 < cLine; omega) (show (nestedKind X.prog X.w).is s2.heap k b from ⟨NKv.is I2 nk rfl, dp⟩) dd e2 ?_
    exact ⟨.int n, H2, I2.tok _, ⟨t, rfl⟩, q2⟩
/-- d[k] = n, k not there -/
def rSetN (P : Program) (w : World) (K : PySem.W.Frag) : TSet := fun o i v H Q => ∃ a kvs k b n, o = .ref a ∧ i = .ref b ∧ v = .int n ∧ NDict P w K H a kvs ∧ NKv K H k (.ref b) ∧ k.depth ≤ 8 ∧ atN kvs k = none ∧ kvs.length < sizeLine ∧ Q (upd H a (NDo P w a (kvs ++ [(k, b, n)])))
theorem set_nd (hu : X.A.units + 9 < cLine) : PSet X (rSetN X.prog X.w X.K) := by
  intro pins s σ H o i v ov iv u Q I ro ri rv h
  obtain ⟨a, kvs, k, b, n, eo, ei, ev, N, nk, dp, e, lt, q⟩ := h
  subst eo ei ev
  cases (show ov = Value.ref a from ro)
  cases (show iv = Value.ref b from ri)
  obtain ⟨t, rfl⟩ := (show ∃ t, u = Value.int n t from rv)
  obtain ⟨hs', hl, xs, dd, pr⟩ := nd_of I N
  have hz : xs.length ≤ sizeLine := by rw [← Paired.length pr]; exact hl
  rcases atN_rel pr k with ⟨_, e2⟩ | ⟨n', b', t', e1, _⟩
  · refine wpAny_setItem_heap (knd := nestedKind X.prog X.w) (hsz := hz) (show X.A.in1.units + 8 < cLine by show X.A.units + 1 + 8 < cLine; omega) (show (nestedKind X.prog X.w).is s.heap k b from ⟨NKv.is I nk rfl, dp⟩) dd fun h' dd' hsb => ?_
    rw [storedH_new e2] at dd'
    obtain ⟨q', es, ep, hq, h2, h3, h4, _, h5⟩ := dd'
    refine ⟨_, d_write I (ob := NDo X.prog X.w a (kvs ++ [(k, b, n)])) (by rw [N.o]; exact True.intro) hsb ⟨q', hq⟩ ⟨⟨hs', by rw [List.length_append, List.length_singleton]; omega, q', es, ep, _, hq, h2, h3, h4, h5, pr.snoc ⟨rfl, rfl, t, rfl⟩⟩, ⟨q', hq⟩, ?_⟩, q⟩
    rintro h1 h2 ⟨a1, a2, q, es, ep, xs, b1, b2⟩ st
    exact ⟨a1, a2, q, es, ep, xs, st _ b1, b2⟩
  · rw [e] at e1; cases e1
def rLenN (P : Program) (w : World) (K : PySem.W.Frag) : List V → Hp → VK → Prop := fun xs H Q => ∃ a kvs, xs = [.ref a] ∧ NDict P w K H a kvs ∧ Q (.int (kvs.length : Nat)) H
theorem call_len_nd : CallR X (.builtin "len") (rLenN X.prog X.w X.K) := by
  intro pins s σ H xs us Q I r h
  obtain ⟨p, kvs, rfl, N, q⟩ := h
  obtain ⟨u, rfl, rx⟩ := vals1 r
  obtain rfl : u = .ref p := rx
  obtain ⟨hs', hl, ys, dd, pr⟩ := nd_of I N
  have hl2 : kvs.length = ys.length := Paired.length pr
  refine call_len_dictH hs' dd (by rw [← hl2]; rw [sizeLine_eq] at hl; omega) ?_
  rw [← hl2]
  exact ⟨.int ((kvs.length : Nat) : Int), H, I.tok _, ⟨_, rfl⟩, q⟩
end
end Mf
/-! A walk over a list or a tuple; a def that is called with fewer arguments than it has; what is reached along steps. -/
namespace Mf
open PySem PySem.Spec PyProof.Rows L2
theorem same_SqL {K : PySem.W.Frag} {t : Addr} {H H' : Hp} {xs : List V} (x : Same H H') (h : SqL K H t xs) : SqL K H' t xs := by
  rcases h with (h | ⟨o, h⟩) | h
  · exact .inl (.inl (x _ _ h))
  · exact .inl (.inr ⟨o, x _ _ h⟩)
  · exact .inr h
theorem same_Seq {K : PySem.W.Frag} {t : Addr} {H H' : Hp} {xs : List V} (x : Same H H') (h : SqL K H t xs ∨ SqT K H t xs) : SqL K H' t xs ∨ SqT K H' t xs := h.imp (same_SqL x) x.tup
section
variable {X : Cx} {tg : Expr}
/-- a walk over a list or a tuple -/
def iSeq (K : PySem.W.Frag) (tl : TE) : TI := fun σ H R => tl σ H fun x H1 => ∃ a xs, x = .ref a ∧ (SqL K H1 a xs ∨ SqT K H1 a xs) ∧ ∀ (J : It) (G : Hp → Prop), Walk J xs.length G (YAt xs) → (∀ H', Same H1 H' → G H') → R J H1
theorem pi_seq {l : Expr} {tl : TE} (hl : PE X l tl) : PI X tg l (iSeq X.K tl) := by
  refine ⟨fun pins s σ H R I h => ?_⟩
  refine thn (hl.run pins s σ H _ I h) fun v s1 ⟨x, H1, I1, r1, q1⟩ => ?_
  obtain ⟨a, xs, e, hq | hq, q⟩ := q1
  · subst e
    cases r1
    obtain ⟨its, rv, p, hz⟩ := I1.list hq
    refine wpAny_pyIter_list p.isList ?_
    refine ⟨s1.heap.objs.size, [s1.heap.objs.size], _, _, H1, rfl, I1.kept (t' := s1.toks) fun b o e => Heap.get?_push_of_some _ e, turn_list a _, ⟨_, Heap.get?_push_size _ rfl, rfl, rfl⟩, fun b hb => ?_, q _ _ walk_list fun H' s => same_SqL s hq⟩
    have e : b = s1.heap.objs.size := by simpa using hb
    subst e
    exact I1.fpOk (Nat.le_refl _) (I1.hok.fresh (Nat.le_refl _))
  · subst e
    cases r1
    obtain ⟨its, rv, p, hz⟩ := I1.tuple hq
    refine wpAny_pyIter_tuple (show s1.heap.IsTuple a its.toArray from p) ?_
    refine ⟨s1.heap.objs.size, [s1.heap.objs.size], _, _, H1, rfl, I1.kept (t' := s1.toks) fun b o e => Heap.get?_push_of_some _ e, turn_tuple a _, ⟨_, Heap.get?_push_size _ rfl, rfl, rfl⟩, fun b hb => ?_, q _ _ walk_tup fun H' s => s.tup hq⟩
    have e : b = s1.heap.objs.size := by simpa using hb
    subst e
    exact I1.fpOk (Nat.le_refl _) (I1.hok.fresh (Nat.le_refl _))
theorem piS (K : PySem.W.Frag) {l : Expr} {tl : TE} (hl : PE X l tl) (h : X.K = K := by rfl) : PI X tg l (iSeq K tl) := h ▸ pi_seq hl
end
/-! ### name = {..} on one line, the name a local -/
section
variable {X : Cx}
theorem ps_setDc {i : Nat} {y : Str} {py : Pos} {kx vx tg iter : Expr} {ifs : List Expr} {scope : Scope} {own : List (Str × Nat)} {pos spos : Pos} {wi : TI} {g : TG} {tt : TT} {tk tv : TE} (hc : X.calm = true) (hN : X.N.Nodup) (hy : X.N[i]? = some y) (hyl : X.env.scope.names.lookup y = some .local)
    (hsw : swapsWith (.DictComp kx vx [⟨tg, iter, ifs, 0⟩] scope pos) (some (.Name y py)) spos.line X.env = pure true) (hi : PI X tg iter wi) (ok : BlkOk X.N X.env.scope scope own)
    (hg : ∀ (s : Shared) (H : Hp) (C : Addr) (cl : List (Str × Addr)) (fp : List Addr), PG (X.blk s H scope (compEnvC scope cl C X.env) fp) tg g) (ht : ∀ (s : Shared) (H : Hp) (C : Addr) (cl : List (Str × Addr)) (fp : List Addr), PTs (X.blk s H scope (compEnvC scope cl C X.env) fp) ifs tt)
    (hk : ∀ (s : Shared) (H : Hp) (C : Addr) (cl : List (Str × Addr)) (fp : List Addr), PE (X.blk s H scope (compEnvC scope cl C X.env) fp) kx tk)
    (he : ∀ (s : Shared) (H : Hp) (C : Addr) (cl : List (Str × Addr)) (fp : List Addr), PE (X.blk s H scope (compEnvC scope cl C X.env) fp) vx tv) (hs : ∀ x, foldedSetIterable iter X.env x = pure x := by intro _; rfl) :
    PS X (.Assign [.Name y py] (.DictComp kx vx [⟨tg, iter, ifs, 0⟩] scope pos) spos) (tAsg (tDc wi g tt tk tv (own.map (·.2))) (gName i)) := by
  refine ⟨fun pins s σ H D I h => ?_⟩
  rw [exec_Assign_Name_used _ _ _ _ hsw]
  refine wpAny_bind (wpAny_standAt (wpAny_bind ?_))
  show wpAny _ X.A (do let _ ← comprehension (.DictComp kx vx [⟨tg, iter, ifs, 0⟩] scope pos) scope X.env (firstIterPos [⟨tg, iter, ifs, 0⟩] pos) newDict false (eval iter X.env) (some (assign (.Name y py) X.env))) _ _ s
  have h : tDc wi g tt tk tv (own.map (·.2)) σ H (fun x H1 => gName i x σ H1 D.nx) := h
  refine wpAny_bind (thn (dc_core (Qf := fun _ s' => SP X pins D .next s') hc hN I hi ok hg ht hk he hs h fun L C s' m H' I' q hn f => ?_) fun _ s' hq => wpAny_pure (wpAny_pure hq))
  show wpAny _ _ (assign (.Name y py) X.env (.ref L)) _ _ _
  refine wpAny_assign_Name (store_ok2 (v := V.ref L) I' hN hy (.inl hyl) rfl (fun s2 I2 ⟨a, sb, ha⟩ => ?_) (.inr hyl))
  obtain ⟨f0, f1, f2, f3, f4, f5⟩ := f
  have haC : C ≠ a := by
    rcases ha with z | z
    · rw [z]; exact f1
    · exact fun e => f4 y a z e.symm
  refine ⟨m, hn.sameBut sb haC, fun h3 sb3 => ?_⟩
  exact ⟨_, H', I2.turned (t' := s2.toks) (fun b o hb e => (sb3.2 b hb).trans e) f0 f1 f3 f4 f5, q⟩
theorem sw_trueD {kx vx : Expr} {gs : List Comprehension} {scope : Scope} {pos py : Pos} {y : Str} {l : Nat} {env : Env} (hk : env.scope.kind = .function) (hy : env.scope.names.lookup y = some .local) (hl : (py.line == pos.line) = true)
    (ha : (scope.names.any fun (n, k) => n == y && (k == .local || k == .cell)) = false) : swapsWith (.DictComp kx vx gs scope pos) (some (.Name y py)) l env = pure true := by
  have ky : env.kindOf y = some .local := hy
  have hb : env.blockKind = .function := by unfold Env.blockKind; rw [hk]; rfl
  unfold swapsWith
  simp only [hb, ky, ha, Expr.pos, hl]
  rfl
end
/-- a def with default values, in which nothing is raised -/
theorem funD_ok {P : Program} {w : World} {K : PySem.W.Frag} {mg : Str → Option Value} {base : Heap} {x qual : Str} {params : Arguments} {body : List Stmt} {scope : Scope} {dvs : List V} {kws : List (Str × V)} {f : Addr} {fd : FuncData} {N ps : List Str} {k : Nat} {sp : Sp} (F : FunD K x qual params body scope dvs kws f fd) (S : FnScope N ps scope) (len : ∀ vs H Q E, sp vs H Q E → vs.length = ps.length)
    (hbody : ∀ (cdv : Value) (A : Around) (outer : List Env) (s : Shared) (H : Hp) (vs : List V) (Q : VK) (E : XK), Room k (A.deeper (envOfC qual scope s.heap.objs.size f cdv)) → sp vs H Q E →
      ∃ t, PSs (cxOf CX0 P w K mg base N qual scope f cdv A outer s H E).nox body t ∧ t { nx := fun _ H' => Q .non H', rt := Q } (start N vs) H) : FnOk P w K mg base CX0 (k + 1) f fd ps sp :=
  F.ok S len fun cdv A outer s H vs Q E hr hsp =>
    let ⟨t, h, q⟩ := hbody cdv A outer s H vs Q E hr hsp
    ⟨t, h.nox, q⟩
/-! ### a list of truths -/
theorem lc_bools {J : It} {G : Hp → Prop} {xs : List V} {fs : List Bool} (w : Walk J xs.length G (YAt xs)) {g : TG} {tt : TT} {te : TE} {vs : List Nat} {σ : L2.St} {H0 : Hp} {D : Addr} {Qd : Hp → Prop} (hl : fs.length = xs.length) (few : fs.length ≤ 4000) (hD : H0 D = none) (hG : ∀ H, Same H0 H → G H)
    (hs : ∀ (i : Nat) (x : V) (b : Bool) (H' : Hp) (Qe : VK) (Pf : Hp → Prop), xs[i]? = some x → fs[i]? = some b → Same H0 H' → (∀ H3, Same H' H3 → Qe (.bl b) H3) → g x (wipe σ vs) H' fun σ2 H2 => wipe σ2 vs = wipe σ vs ∧ tt σ2 H2 fun c H3 => if c = true then te σ2 H3 Qe else Pf H3)
    (hd : ∀ H, Same H0 H → H D = some (.lst (fs.map V.bl)) → Qd H) :
    ∃ W : Nat → Nat → Hp → Prop, (∃ m, W 0 m (upd H0 D (.lst []))) ∧ ∀ i m H, W i m H →
      (J.stop i H ∧ Qd H) ∨ (J.go i H ∧ ∃ Nx : Hp → Prop, (∀ H', Nx H' → ∃ m', m' < m ∧ W (i + 1) m' H') ∧ ∀ x H', J.yld i H x H' → g x (wipe σ vs) H' fun σ2 H2 => wipe σ2 vs = wipe σ vs ∧ tt σ2 H2 fun b H3 =>
        if b = true then te σ2 H3 fun y H4 => ∃ acc, H4 D = some (.lst acc) ∧ acc.length < sizeLine ∧ Nx (upd H4 D (.lst (acc ++ [y]))) else Nx H3) := by
  refine lc_it w (fun i H' => Same H0 H' ∧ H' D = some (.lst ((fs.take i).map V.bl))) ⟨Same.new hD, upd_same⟩ (fun i H' _ q => hG _ q.1) ?_ fun H' ⟨s1, h1⟩ => hd H' s1 (by rw [← hl, List.take_length] at h1; exact h1)
  rintro i x _ H1 hi ⟨s1, h1⟩ ⟨rfl, hx⟩
  have hb := List.getElem?_eq_getElem (show i < fs.length by omega)
  refine hs i x fs[i] H1 _ _ hx hb s1 fun H3 s3 => ⟨_, s3 _ _ h1, ?_, (s1.trans s3).mut hD, ?_⟩
  · rw [List.length_map]
    exact Nat.lt_of_le_of_lt (List.length_take_le _ _) (Nat.lt_of_lt_of_le (by omega : i < 4000) (by decide))
  · rw [upd_same, List.take_add_one, hb, List.map_append]; rfl
/-- all of them true -/
theorem lc_yes {J : It} {G : Hp → Prop} {xs : List V} (w : Walk J xs.length G (YAt xs)) {g : TG} {tt : TT} {te : TE} {vs : List Nat} {σ : L2.St} {H0 : Hp} {D : Addr} {Qd : Hp → Prop} (few : xs.length ≤ 4000) (hD : H0 D = none) (hG : ∀ H, Same H0 H → G H)
    (hs : ∀ (i : Nat) (x : V) (H' : Hp) (Qe : VK) (Pf : Hp → Prop), xs[i]? = some x → Same H0 H' → (∀ H3, Same H' H3 → Qe (.bl true) H3) → g x (wipe σ vs) H' fun σ2 H2 => wipe σ2 vs = wipe σ vs ∧ tt σ2 H2 fun c H3 => if c = true then te σ2 H3 Qe else Pf H3)
    (hd : ∀ (H : Hp) (fs : List Bool), Same H0 H → H D = some (.lst (fs.map V.bl)) → fs.all id = true → Qd H) :
    ∃ W : Nat → Nat → Hp → Prop, (∃ m, W 0 m (upd H0 D (.lst []))) ∧ ∀ i m H, W i m H →
      (J.stop i H ∧ Qd H) ∨ (J.go i H ∧ ∃ Nx : Hp → Prop, (∀ H', Nx H' → ∃ m', m' < m ∧ W (i + 1) m' H') ∧ ∀ x H', J.yld i H x H' → g x (wipe σ vs) H' fun σ2 H2 => wipe σ2 vs = wipe σ vs ∧ tt σ2 H2 fun b H3 =>
        if b = true then te σ2 H3 fun y H4 => ∃ acc, H4 D = some (.lst acc) ∧ acc.length < sizeLine ∧ Nx (upd H4 D (.lst (acc ++ [y]))) else Nx H3) := by
  refine lc_bools (fs := List.replicate xs.length true) w (by simp) (by simpa using few) hD hG (fun i x b H' Qe Pf hx hb s1 k => ?_) fun H s1 h1 => hd H _ s1 h1 (by simp)
  have e : b = true := by
    have := List.mem_of_getElem? hb
    exact (List.mem_replicate.mp this).2
  subst e
  exact hs i x H' Qe Pf hx s1 k
/-! ### a def called with its last parameters left to their defaults -/
structure CalD (P : Program) (w : World) (K : PySem.W.Frag) (mg : Str → Option Value) (base : Heap) (CX : CXT) (k : Nat) (x : Str) (ps : List Str) (sp : Sp) (dvs : List V) : Prop where
  ex : ∃ (f : Addr) (fd : FuncData) (ds : List Value), FnOk P w K mg base CX k f fd ps sp ∧ mg x = some (.ref f) ∧ PySem.W.keepIn K (.ref f) = true ∧ Binds K fd ps ds ∧ Vals dvs ds
theorem pe_cald {X : Cx} {CX : CXT} {k : Nat} {x : Str} {ps : List Str} {sp : Sp} {dvs : List V} {E : XK} {e : Expr} {es : List Expr} {t : TA} {p pos : Pos} (c : CalD X.prog X.w X.K X.mg X.base CX k x ps sp dvs) (hr : Room k X.A) (hx : Passes CX X E) (ha : PA X (e :: es) t) (hg : Gl X x := by rfl)
    (hdb : (x == ("__debug__" : Str)) = false := by decide) (he : starEach (e :: es) X.env = (false, eval e X.env) :: starEach es X.env := by rfl) (hpl : (backTo pos (starEach es X.env)).any (·.1) = false := by rfl) :
    PE X (.Call (.Name x p) (e :: es) [] pos) (tCall sp dvs E t) := by
  obtain ⟨f, fd, ds, F, m, kp, b, v⟩ := c.ex
  exact pe_call F hr hg m kp b v hx ha hdb he hpl

/-- x in t, t a tuple of data -/
def rInDT (K : PySem.W.Frag) : R2 := fun x y H Q => ∃ d ds, Dp K H x d ∧ Dp K H y (.tuple ds) ∧ SeqAt.shaped d = true ∧ SeqAt.shaped (.tuple ds) = true ∧ Q (.bl (ds.any fun z => PyData.eqv z d)) H
theorem op_inDT {X : Cx} (hu : X.A.units + 65 < cLine) : OpR X (compareOp .In) (rInDT X.K) := by
  intro pins s σ H x y v u Q I rx ry h
  obtain ⟨d, ds, hd, he, sd, se, q⟩ := h
  obtain ⟨as, r1⟩ := Dp.reads I d x v hd rx
  obtain ⟨bs, r2⟩ := Dp.reads I (.tuple ds) y u he ry
  exact SeqAt.in_tuple_reads r2 r1 (SeqAt.canLay_of_shaped se) (SeqAt.canLay_of_shaped sd) (room_in_shaped sd hu) ⟨.bl _, H, I, rfl, q⟩
theorem inDT {X : Cx} (K : PySem.W.Frag) {k : Nat} (hr : Room (k + 1) X.A) (h : X.K = K := by rfl) : OpR X (compareOp .In) (rInDT K) := h ▸ op_inDT (Room.in1 hr).units
/-- a def with keyword-only parameters, called with keywords ks -/
structure CalK (P : Program) (w : World) (K : PySem.W.Frag) (mg : Str → Option Value) (base : Heap) (CX : CXT) (k : Nat) (x : Str) (ps : List Str) (sp : Sp) (n : Nat) (ks : List Str) (gV : List V → List V → List V) : Prop where
  ex : ∃ (f : Addr) (fd : FuncData) (g : List Value → List Value → List Value), FnOk P w K mg base CX k f fd ps sp ∧ mg x = some (.ref f) ∧ PySem.W.keepIn K (.ref f) = true ∧ KBn K fd ps n ks g gV
theorem pe_calk {X : Cx} {CX : CXT} {k n : Nat} {x : Str} {ps ks : List Str} {sp : Sp} {gV : List V → List V → List V} {E : XK} {e : Expr} {es : List Expr} {kws : List Keyword} {t tk : TA} {p pos : Pos} (c : CalK X.prog X.w X.K X.mg X.base CX k x ps sp n ks gV) (hr : Room k X.A) (hx : Passes CX X E) (ha : PA X (e :: es) t) (hkw : PK X kws tk) (hg : Gl X x := by rfl)
    (hall : (backToKw pos (keywordEach kws X.env)).all (·.1.isSome) = true := by rfl) (hks : (backToKw pos (keywordEach kws X.env)).filterMap (·.1) = ks := by rfl)
    (hdb : (x == ("__debug__" : Str)) = false := by decide) (he : starEach (e :: es) X.env = (false, eval e X.env) :: starEach es X.env := by rfl)
    (hpl : ((backTo pos (starEach (e :: es) X.env)).any (·.1) || (backToKw pos (keywordEach kws X.env)).any (·.1.isNone)) = false := by rfl) :
    PE X (.Call (.Name x p) (e :: es) kws pos) (tCallN n ks.length sp gV E t tk) := by
  obtain ⟨f, fd, g, F, m, kp, b⟩ := c.ex
  exact pe_callN F hr hg m kp b hx ha hkw hall hks hdb he hpl
/-- C(..) of a class that stands in a local name -/
theorem pe_mkl {X : Cx} {CX : CXT} {k : Nat} {x y : Str} {C : Addr} {ps : List Str} {sp : Sp} {dvs : List V} {E : XK} {e : Expr} {es : List Expr} {t : TA} {p pos : Pos} {te : TE} (c : CalC X.prog X.w X.K X.mg X.base CX k x C ps sp dvs) (hr : Room (k + 1) X.A) (hx : Passes CX X E) (hn : PE X (.Name y p) te) (ha : PA X (e :: es) t)
    (he : starEach (e :: es) X.env = (false, eval e X.env) :: starEach es X.env := by rfl) (hpl : (backTo pos (starEach es X.env)).any (·.1) = false := by rfl) :
    PE X (.Call (.Name y p) (e :: es) [] pos) (fun σ H Q => te σ H fun v H1 => v = .ref C ∧ tMake C sp dvs E t σ H1 Q) := by
  obtain ⟨f, fd, ds, M, F, mm, b, v⟩ := c.ex
  refine ⟨fun pins s σ H Q I h => ?_⟩
  refine wpAny_Call_Name_kw (thn (hn.run pins s σ H _ I h) fun u s1 ⟨w, H1, I1, rw, ew, q⟩ => ?_)
  subst ew
  obtain rfl : u = Value.ref C := rw
  refine PySem.W.callWith_K (h₀ := X.base) I1.ok.mod.kin M.kp (thn (ha.run pos pins s1 σ H1 _ I1 q) fun us s2 ⟨vs, H2, I2, r, q⟩ => ⟨I2.kIn, ?_⟩) he hpl
  exact run_make M F hr b v hx I2 r q
/-! ### what is reached along steps -/
/-- a step of y, of one of the kinds, names z -/
def Suc (x : List Pc) (kds : List Str) (y z : Str) : Prop := ∃ ss, (y, ss) ∈ x ∧ ∃ s ∈ ss, s.1 ∈ kds ∧ s.2 = z
inductive Rch (S : Str → Str → Prop) (out : Str → Prop) (st : Str → Prop) : Str → Prop
  | base {z : Str} (h : st z) (n : ¬ out z) : Rch S out st z
  | step {y z : Str} (h : Rch S out st y) (s : S y z) (n : ¬ out z) : Rch S out st z
theorem Rch.sub {S : Str → Str → Prop} {out st : Str → Prop} {fl : Str → Prop} (h1 : ∀ z, st z → ¬ out z → fl z) (h2 : ∀ y z, fl y → S y z → ¬ out z → fl z) : ∀ {z}, Rch S out st z → fl z := fun h => by
  induction h with
  | base h n => exact h1 _ h n
  | step _ s n ih => exact h2 _ _ ih s n
theorem Rch.mono {S : Str → Str → Prop} {out st st' : Str → Prop} (h : ∀ z, st z → ¬ out z → Rch S out st' z) {z : Str} (r : Rch S out st z) : Rch S out st' z := r.sub h fun _ _ a b c => .step a b c
theorem pc_one : ∀ {x : List Pc} {y : Str} {ss tt : List Step}, (x.map (·.1)).Nodup → (y, ss) ∈ x → (y, tt) ∈ x → tt = ss
  | [], _, _, _, _, h, _ => by cases h
  | a :: x, y, ss, tt, nd, h, g => by
    rw [List.map_cons, List.nodup_cons] at nd
    rcases List.mem_cons.mp h with h1 | h1
    · rcases List.mem_cons.mp g with g1 | g1
      · rw [← h1] at g1
        exact (Prod.mk.injEq .. ▸ g1).2
      · exact absurd (List.mem_map.mpr ⟨(y, tt), g1, by rw [← h1]⟩) nd.1
    · rcases List.mem_cons.mp g with g1 | g1
      · exact absurd (List.mem_map.mpr ⟨(y, ss), h1, by rw [← g1]⟩) nd.1
      · exact pc_one nd.2 h1 g1
theorem Suc.one {x : List Pc} {kds : List Str} {y z : Str} {ss : List Step} (nd : (x.map (·.1)).Nodup) (h : (y, ss) ∈ x) : Suc x kds y z ↔ ∃ s ∈ ss, s.1 ∈ kds ∧ s.2 = z :=
  ⟨fun ⟨tt, h2, q⟩ => by rw [pc_one nd h h2] at q; exact q, fun q => ⟨ss, h, q⟩⟩

/-! ### all but lists and dicts stays -/
def NoLD (o : HO) : Prop := (∀ xs, o ≠ .lst xs) ∧ ∀ k, o ≠ .dK k
def SameT (H H' : Hp) : Prop := ∀ b o, NoLD o → H b = some o → H' b = some o
theorem SameT.refl {H : Hp} : SameT H H := fun _ _ _ h => h
theorem SameT.of {H H' : Hp} (x : Same H H') : SameT H H' := fun b o _ h => x b o h
theorem SameT.trans {H H1 H2 : Hp} (x : SameT H H1) (y : SameT H1 H2) : SameT H H2 := fun b o n h => y b o n (x b o n h)
theorem SameT.putL {H H1 : Hp} {p : Addr} {xs : List V} {o : HO} (x : SameT H H1) (h : H1 p = some (.lst xs)) : SameT H (upd H1 p o) := fun b u n e => by
  have q := x b u n e
  rw [upd_ne (fun z => by rw [z, h] at q; exact n.1 xs (Option.some.inj q).symm)]
  exact q
theorem SameT.putD {H H1 : Hp} {p : Addr} {xs : List (Key × V)} {o : HO} (x : SameT H H1) (h : H1 p = some (.dK xs)) : SameT H (upd H1 p o) := fun b u n e => by
  have q := x b u n e
  rw [upd_ne (fun z => by rw [z, h] at q; exact n.2 xs (Option.some.inj q).symm)]
  exact q
theorem noLD_tup {xs : List V} : NoLD (.tup xs) := ⟨(fun _ h => nomatch h), (fun _ h => nomatch h)⟩
theorem SameT.tup {K : PySem.W.Frag} {t : Addr} {H H' : Hp} {xs : List V} (x : SameT H H') (h : SqT K H t xs) : SqT K H' t xs := by
  rcases h with (h | ⟨o, h⟩) | h
  · exact .inl (.inl (x _ _ noLD_tup h))
  · exact .inl (.inr ⟨o, x _ _ ⟨(fun _ h => nomatch h), (fun _ h => nomatch h)⟩ h⟩)
  · exact .inr h
theorem take_not {α : Type} {xs : List α} {i : Nat} {z : α} (nd : xs.Nodup) (h : xs[i]? = some z) : ¬ z ∈ xs.take i := fun m => by
  have e : xs.take (i + 1) = xs.take i ++ [z] := by rw [List.take_add_one, h]; rfl
  have n : (xs.take (i + 1)).Nodup := (List.take_sublist _ _).nodup nd
  rw [e, List.nodup_append] at n
  exact n.2.2 z m z (List.mem_singleton.mpr rfl) rfl
end Mf
namespace Mf
open PySem L2
/-- a row: a list or a tuple of items -/
def RowQ (K : PySem.W.Frag) (H : Hp) (v : V) (row : List Itm) : Prop := ∃ (a : Addr) (ts : List Addr), v = .ref a ∧ (SqL K H a (ts.map V.ref) ∨ SqT K H a (ts.map V.ref)) ∧ Paired (ItA K H) ts row
/-- rows: a list or a tuple of rows -/
def RowsQ (K : PySem.W.Frag) (H : Hp) (v : V) (R : List (List Itm)) : Prop := ∃ (a : Addr) (bs : List V), v = .ref a ∧ (SqL K H a bs ∨ SqT K H a bs) ∧ Paired (RowQ K H) bs R
theorem SameL {K : PySem.W.Frag} {t : Addr} {H H' : Hp} {xs : List V} (x : Same H H') (h : SqL K H t xs) : SqL K H' t xs := by
  rcases h with (h | ⟨o, h⟩) | h
  · exact .inl (.inl (x _ _ h))
  · exact .inl (.inr ⟨o, x _ _ h⟩)
  · exact .inr h
theorem seq_same {K : PySem.W.Frag} {H H' : Hp} {a : Addr} {xs : List V} (h : SqL K H a xs ∨ SqT K H a xs) (s : Same H H') : SqL K H' a xs ∨ SqT K H' a xs := h.imp (fun z => SameL s z) fun z => s.tup z
theorem paired_same {α β : Type} {R S : α → β → Prop} {xs : List α} {ys : List β} (r : Paired R xs ys) (h : ∀ a b, R a b → S a b) : Paired S xs ys := by
  induction r with
  | nil => exact .nil
  | cons a _ ih => exact .cons (h _ _ a) ih
theorem paired_snoc {α β : Type} {R : α → β → Prop} {xs : List α} {ys : List β} (r : Paired R xs ys) {x : α} {y : β} (h : R x y) : Paired R (xs ++ [x]) (ys ++ [y]) := by
  induction r with
  | nil => exact .cons h .nil
  | cons a _ ih => exact .cons a ih
theorem paired_at {α β : Type} {R : α → β → Prop} {xs : List α} {ys : List β} (r : Paired R xs ys) : ∀ {i : Nat} {y : β}, ys[i]? = some y → ∃ x, xs[i]? = some x ∧ R x y := by
  induction r with
  | nil => intro i y h; simp at h
  | cons a _ ih =>
    intro i y h
    cases i with
    | zero => cases h; exact ⟨_, rfl, a⟩
    | succ i => exact ih h
theorem paired_get {α β : Type} {R : α → β → Prop} {xs : List α} {ys : List β} (r : Paired R xs ys) : ∀ {i : Nat} {x : α}, xs[i]? = some x → ∃ y, ys[i]? = some y ∧ R x y := by
  induction r with
  | nil => intro i y h; simp at h
  | cons a _ ih =>
    intro i y h
    cases i with
    | zero => cases h; exact ⟨_, rfl, a⟩
    | succ i => exact ih h
theorem RowQ.same {K : PySem.W.Frag} {H H' : Hp} {v : V} {row : List Itm} (x : RowQ K H v row) (s : Same H H') : RowQ K H' v row := let ⟨a, ts, e, h, p⟩ := x; ⟨a, ts, e, seq_same h s, paired_same p fun _ _ q => q.same s⟩
theorem RowsQ.same {K : PySem.W.Frag} {H H' : Hp} {v : V} {R : List (List Itm)} (x : RowsQ K H v R) (s : Same H H') : RowsQ K H' v R := let ⟨a, bs, e, h, p⟩ := x; ⟨a, bs, e, seq_same h s, paired_same p fun _ _ q => q.same s⟩
section
variable {P : Program} {w : World} {K : PySem.W.Frag} {mg : Str → Option Value} {base : Heap}
/-! ### _pointing_row, _node_indexes -/
def spPoint (K : PySem.W.Frag) : Sp := fun vs H Q _ => ∃ (v : V) (tl : Addr) (ts : List V) (row : List Itm) (f : Nat → Nat), vs = [v, .ref tl] ∧ RowQ K H v row ∧ SqL K H tl ts ∧ row.length ≤ 4000 ∧ (∀ i, Itm.nd i ∈ row → atI ts (i : Nat) = some (.int (f i : Nat))) ∧
  ∀ D H' us, H D = none → H' D = some (.lst (us.map V.ref)) → Paired (ItA K H') us (row.map (ptI f)) → Same H H' → Q (.ref D) H'
abbrev sPointing_row : Stmt := top 25
theorem scPointing_row : FnScope ["row", "targets", "item"] ["row", "targets"] (defScope sPointing_row) := ⟨rfl, rfl, rfl, by decide +kernel, rfl, by decide +kernel, by decide +kernel⟩
theorem ok_point {f : Addr} {fd : FuncData} (F : Fun K "_pointing_row" "_pointing_row" sPointing_row f fd) : FnOk P w K mg base CX0 1 f fd ["row", "targets"] (spPoint K) := by
  refine F.ok scPointing_row (fun vs H Q E h => ?_) (fun cdv A outer s H vs Q E hr h => ?_)
  · obtain ⟨v, tl, ts, row, f, rfl, _⟩ := h
    rfl
  · obtain ⟨v, tl, ts, row, f, rfl, ⟨a, us0, rfl, hq, pr⟩, ht, lr, hf, k⟩ := h
    refine ⟨_, (pss_one (ps_ret (pe_lc (own := [("item", 2)]) (g := (gName 2)) (tt := tYes) rfl scPointing_row.nd (piS K (pv 0)) (blkOk_by (own := [("item", 2)]) (N := ["row", "targets", "item"]) (sc := defScope sPointing_row) (by decide +kernel)) (fun _ _ _ _ _ => (pg_name (i := 2) scPointing_row.nd rfl (by first | exact Or.inl rfl | exact Or.inr rfl))) (fun _ _ _ _ _ => pts_nil) (fun _ _ _ _ _ => (pe_ifExp (pt_cmpR op_eq (pe_ix (ixt K) (pv 2) pe_int (fun _ _ => rfl)) pe_str (nomark _)) (pe_tup (pa_cons pe_str (pa_cons (pe_ix (ixl K) (pv 1) (pe_ix (ixt K) (pv 2) pe_int (fun _ _ => rfl)) (fun _ _ => rfl)) pa_nil))) (pv 2)))))), ?_⟩
    have sz : (5000 : Nat) < sizeLine := by decide
    have lu := Paired.length pr
    refine ⟨_, rfl, a, _, rfl, hq, fun J G wk hG D hD => ?_⟩
    refine it_any wk (fun i H' => Same H H' ∧ ∃ us : List Addr, H' D = some (.lst (us.map V.ref)) ∧ us.length = i ∧ Paired (ItA K H') us ((row.take i).map (ptI f))) ⟨Same.new hD, [], upd_same, rfl, .nil⟩ (fun i H' _ q => hG _ q.1) ?_ ?_
    · rintro i x _ H1 hi ⟨s1, us, h1, l1, p1⟩ ⟨rfl, hx⟩
      rw [List.getElem?_map] at hx
      obtain ⟨t, ht0, rfl⟩ := Option.map_eq_some_iff.mp hx
      obtain ⟨it, hit, sq⟩ := paired_get pr ht0
      rw [List.length_map, lu] at hi
      have tk : row.take (i + 1) = row.take i ++ [it] := by rw [List.take_add_one, hit]; rfl
      have sq1 : SqT K H1 t (itV it) := s1.tup sq
      refine ⟨rfl, yes_then ?_⟩
      have fin : ∀ t2 H2, Same H1 H2 → ItA K H2 t2 (ptI f it) → ∃ acc, H2 D = some (.lst acc) ∧ acc.length < sizeLine ∧ (Same H (upd H2 D (.lst (acc ++ [.ref t2]))) ∧ ∃ us : List Addr, (upd H2 D (.lst (acc ++ [.ref t2]))) D = some (.lst (us.map V.ref)) ∧ us.length = i + 1 ∧ Paired (ItA K (upd H2 D (.lst (acc ++ [.ref t2])))) us ((row.take (i + 1)).map (ptI f))) := fun t2 H2 s2 it2 => by
        have h2 := s2 _ _ h1
        have pn : SameN H2 (upd H2 D (.lst (us.map V.ref ++ [.ref t2]))) := SameN.refl.put h2
        refine ⟨_, h2, by rw [List.length_map, l1]; omega, (s1.trans s2).mut hD, us ++ [t2], by rw [upd_same, List.map_append]; rfl, by rw [List.length_append, l1]; rfl, ?_⟩
        rw [tk, List.map_append]
        exact paired_snoc (paired_same p1 fun _ _ q => (q.same s2).sameN pn) (it2.sameN pn)
      by_cases isn : ∃ j, it = .nd j
      · obtain ⟨j, rfl⟩ := isn
        refine ⟨_, rfl, t, _, (0 : Nat), _, rfl, rfl, sq1, rfl, rfl, _, rfl, ite2 (fun _ => ?_) fun e => absurd (decide_eq_true rfl) e⟩
        refine ⟨_, rfl, _, rfl, t, _, (1 : Nat), _, rfl, rfl, sq1, rfl, tl, _, (j : Nat), _, rfl, rfl, SameL s1 ht, hf j (List.mem_of_getElem? hit), (by show 2 ≤ sizeLine; decide), fun t2 nt2 => ?_⟩
        exact fin t2 _ (Same.new nt2) (.of upd_same)
      · obtain ⟨tg, rest, e1, e2⟩ := it_tag it
        have sq2 := sq1
        rw [e1] at sq2
        refine ⟨_, rfl, t, _, (0 : Nat), _, rfl, rfl, sq2, atI_nat rfl, rfl, _, rfl, ite2 (fun e => absurd (e2.mp (V.str.inj (of_decide_eq_true e))) isn) fun _ => ?_⟩
        refine ⟨_, rfl, ?_⟩
        have ep : ptI f it = it := by
          cases it with
          | nd j => exact absurd ⟨j, rfl⟩ isn
          | _ => rfl
        exact fin t H1 (Same.refl _) (by rw [ep]; exact sq1)
    · rintro H1 ⟨s1, us, h1, l1, p1⟩
      rw [List.length_map, lu, List.take_length] at p1
      exact k D H1 us hD h1 p1 s1
def spNodes (K : PySem.W.Frag) : Sp := fun vs H Q _ => ∃ (v : V) (row : List Itm), vs = [v] ∧ RowQ K H v row ∧ row.length ≤ 4000 ∧ ∀ D H', H D = none → H' D = some (.lst ((nds row).map fun i => V.int (i : Nat))) → Same H H' → Q (.ref D) H'
abbrev sNode_indexes : Stmt := top 22
theorem scNode_indexes : FnScope ["row", "item"] ["row"] (defScope sNode_indexes) := ⟨rfl, rfl, rfl, by decide +kernel, rfl, by decide +kernel, by decide +kernel⟩
theorem ok_nodes {f : Addr} {fd : FuncData} (F : Fun K "_node_indexes" "_node_indexes" sNode_indexes f fd) : FnOk P w K mg base CX0 1 f fd ["row"] (spNodes K) := by
  refine F.ok scNode_indexes (fun vs H Q E h => ?_) (fun cdv A outer s H vs Q E hr h => ?_)
  · obtain ⟨v, row, rfl, _⟩ := h
    rfl
  · obtain ⟨v, row, rfl, ⟨a, us0, rfl, hq, pr⟩, lr, k⟩ := h
    refine ⟨_, (pss_one (ps_ret (pe_lc (own := [("item", 1)]) (g := (gName 1)) rfl scNode_indexes.nd (piS K (pv 0)) (blkOk_by (own := [("item", 1)]) (N := ["row", "item"]) (sc := defScope sNode_indexes) (by decide +kernel)) (fun _ _ _ _ _ => (pg_name (i := 1) scNode_indexes.nd rfl (by first | exact Or.inl rfl | exact Or.inr rfl))) (fun _ _ _ _ _ => pts_one (pt_cmpR op_eq (pe_ix (ixt K) (pv 1) pe_int (fun _ _ => rfl)) pe_str (nomark _))) (fun _ _ _ _ _ => (pe_ix (ixt K) (pv 1) pe_int (fun _ _ => rfl)))))), ?_⟩
    have sz : (5000 : Nat) < sizeLine := by decide
    have lu := Paired.length pr
    refine ⟨_, rfl, a, _, rfl, hq, fun J G wk hG D hD => ?_⟩
    refine it_any wk (fun i H' => Same H H' ∧ H' D = some (.lst ((nds (row.take i)).map fun i => V.int (i : Nat)))) ⟨Same.new hD, upd_same⟩ (fun i H' _ q => hG _ q.1) ?_ ?_
    · rintro i x _ H1 hi ⟨s1, h1⟩ ⟨rfl, hx⟩
      rw [List.getElem?_map] at hx
      obtain ⟨t, ht0, rfl⟩ := Option.map_eq_some_iff.mp hx
      obtain ⟨it, hit, sq⟩ := paired_get pr ht0
      rw [List.length_map, lu] at hi
      have tk : row.take (i + 1) = row.take i ++ [it] := by rw [List.take_add_one, hit]; rfl
      have sq1 : SqT K H1 t (itV it) := s1.tup sq
      by_cases isn : ∃ j, it = .nd j
      · obtain ⟨j, rfl⟩ := isn
        refine ⟨rfl, _, rfl, t, _, (0 : Nat), _, rfl, rfl, sq1, rfl, rfl, _, rfl, ite2 (fun _ => ?_) fun e => absurd (decide_eq_true rfl) e⟩
        refine ⟨_, rfl, t, _, (1 : Nat), _, rfl, rfl, sq1, rfl, _, h1, ?_, s1.mut hD, ?_⟩
        · rw [List.length_map]
          exact Nat.lt_of_le_of_lt (Nat.le_trans (List.length_filterMap_le _ _) (List.length_take_le _ _)) (by omega)
        · rw [upd_same, tk, nds_snoc_nd, List.map_append]; rfl
      · obtain ⟨tg, rest, e1, e2⟩ := it_tag it
        have sq2 := sq1
        rw [e1] at sq2
        refine ⟨rfl, _, rfl, t, _, (0 : Nat), _, rfl, rfl, sq2, atI_nat rfl, rfl, _, rfl, ite2 (fun e => absurd (e2.mp (V.str.inj (of_decide_eq_true e))) isn) fun _ => ⟨s1, ?_⟩⟩
        rw [tk, nds_snoc_no _ isn]
        exact h1
    · rintro H1 ⟨s1, h1⟩
      rw [List.length_map, lu, List.take_length] at h1
      exact k D H1 hD h1 s1
end
end Mf
/-! {k: v}, k a tuple of ints and texts -/
namespace Mf
open PySem PySem.Spec PyProof.Rows L2
def tD1T (tk tv : TE) : TE := fun σ H Q => ∀ p, H p = none → tPairs [(tk, tv)] σ (upd H p (.dT [])) fun ps H2 => ∃ x y b ks, ps = [(x, y)] ∧ x = .ref b ∧ H2 b = some (.tup (ks.map kV)) ∧ H2 p = some (.dT []) ∧ Q (.ref p) (upd H2 p (.dT [(ks, y)]))
theorem pe_d1T {X : Cx} {k v : Expr} {tk tv : TE} {pos : Pos} (hu : X.A.units + 1 < cLine) (hk : PE X k tk) (hv : PE X v tv) : PE X (.Dict [some k] [v] pos) (tD1T tk tv) := by
  refine ⟨fun pins s σ H Q I q => ?_⟩
  have hn := I.hok.fresh (Nat.le_refl s.heap.objs.size)
  have I1 := I.laid (a := s.heap.objs.size) (o := .dT []) (h' := s.heap.push { cls := .type "dict", data := .dict #[] }) (t' := s.toks) (fun _ _ q => Heap.get?_push_of_some _ q) (Nat.le_refl _) (dt_empty s.heap I.big)
  have one : ([some k] : List (Option Expr)).length ≤ 15 := by show 1 ≤ 15; decide
  refine wpAny_Dict_any rfl rfl (by simp) one (thn ((pps_cons (pos := pos) hk hv pps_nil).run pins _ σ _ (fun ps H2 => ∃ x y b ks, ps = [(x, y)] ∧ x = .ref b ∧ H2 b = some (.tup (ks.map kV)) ∧ H2 s.heap.objs.size = some (.dT []) ∧ Q (.ref s.heap.objs.size) (upd H2 s.heap.objs.size (.dT [(ks, y)]))) I1 ?_) fun ws s2 ⟨ps, H2, I2, rel, x, y, b, ks, e1, e2, eb, ed, g⟩ => ?_)
  · exact q _ hn
  · subst e1 e2
    cases rel with
    | @cons _ q _ qs h t =>
      cases t
      obtain ⟨u, r⟩ := q
      obtain ⟨ru, rr⟩ := h
      cases (show u = Value.ref b from ru)
      obtain ⟨z, hd, xs, kt, dd⟩ := dt_of I2.hok ed
      cases kt
      have room : (tupleKind (mixKind X.prog X.w)).room X.A := Nat.lt_of_succ_lt hu
      refine wpAny_storeAllH (knd := tupleKind (mixKind X.prog X.w)) room [(.ref b, r)] [(ks, b, r)] [] s2 _ ⟨rfl, rfl, key_of I2.hok eb, trivial⟩ dd (by show 0 + 1 ≤ sizeLine; decide) fun h' tk' dd' hs => ?_
      obtain ⟨q, es, ep, hq, h2, h3, h4, _, h5⟩ := dd'
      have new : ObjOk X.prog X.w (upd H2 s.heap.objs.size (.dT [(ks, y)])) h' s.heap.objs.size (.dT [(ks, y)]) :=
        ⟨(by show 1 ≤ sizeLine; decide), hd, [(ks, b, r)], .cons ⟨rfl, by rw [upd_ne (ne_of eb ed (fun z => nomatch z))]; exact eb, rr⟩ .nil, q, es, ep, hq, h2, h3, h4, h5⟩
      exact ⟨.ref s.heap.objs.size, _, d_write I2 (by rw [ed]; exact True.intro) hs ⟨q, hq⟩ new, rfl, g⟩
end Mf
/-! {k: v}, k an int or a text -/
namespace Mf
open PySem PySem.Spec PyProof.Rows L2
def tD1K (tk tv : TE) : TE := fun σ H Q => ∀ p, H p = none → tPairs [(tk, tv)] σ (upd H p (.dK [])) fun ps H2 => ∃ x y k, ps = [(x, y)] ∧ x = kV k ∧ H2 p = some (.dK []) ∧ Q (.ref p) (upd H2 p (.dK [(k, y)]))
theorem pe_d1K {X : Cx} {k v : Expr} {tk tv : TE} {pos : Pos} (hk : PE X k tk) (hv : PE X v tv) : PE X (.Dict [some k] [v] pos) (tD1K tk tv) := by
  refine ⟨fun pins s σ H Q I q => ?_⟩
  have hn := I.hok.fresh (Nat.le_refl s.heap.objs.size)
  have I1 := I.laid (a := s.heap.objs.size) (o := .dK []) (h' := s.heap.push { cls := .type "dict", data := .dict #[] }) (t' := s.toks) (fun _ _ q => Heap.get?_push_of_some _ q) (Nat.le_refl _) (dk_empty s.heap I.big)
  have one : ([some k] : List (Option Expr)).length ≤ 15 := by show 1 ≤ 15; decide
  refine wpAny_Dict_any rfl rfl (by simp) one (thn ((pps_cons (pos := pos) hk hv pps_nil).run pins _ σ _ (fun ps H2 => ∃ x y k, ps = [(x, y)] ∧ x = kV k ∧ H2 s.heap.objs.size = some (.dK []) ∧ Q (.ref s.heap.objs.size) (upd H2 s.heap.objs.size (.dK [(k, y)]))) I1 ?_) fun ws s2 ⟨ps, H2, I2, rel, x, y, kk, e1, e2, ed, g⟩ => ?_)
  · exact q _ hn
  · subst e1 e2
    cases rel with
    | @cons _ q _ qs h t =>
      cases t
      obtain ⟨u, r⟩ := q
      obtain ⟨ru, rr⟩ := h
      obtain ⟨z, hd, vs, kt, dd⟩ := dk_of I2.hok ed
      cases kt
      refine wpAny_storeAll (knd := mixKind X.prog X.w) [(u, r)] [(kk, r)] [] s2 _ ⟨kV_is ru, rfl, trivial⟩ dd (by show 0 + 1 ≤ sizeLine; decide) fun h' dd' hs => ?_
      have he : ∃ q, h'.get? s.heap.objs.size = some q := let ⟨q, _, _, hq, _⟩ := dd'; ⟨q, hq⟩
      have new : ObjOk X.prog X.w (upd H2 s.heap.objs.size (.dK [(kk, y)])) h' s.heap.objs.size (.dK [(kk, y)]) :=
        ⟨(by show 1 ≤ sizeLine; decide), hd, [(kk, r)], .cons ⟨rfl, rr⟩ .nil, dd'⟩
      exact ⟨.ref s.heap.objs.size, _, d_write I2 (by rw [ed]; exact True.intro) hs he new, rfl, g⟩
end Mf
/-! a walk over a list or a tuple that stays, whatever else changes -/
namespace Mf
open PySem PySem.Spec PyProof.Rows L2
section
variable {X : Cx} {tg : Expr}
/-- a walk over a list or a tuple -/
def iSeq2 (K : PySem.W.Frag) (tl : TE) : TI := fun σ H R => tl σ H fun x H1 => ∃ a xs, x = .ref a ∧ ((SqL K H1 a xs ∧ ∀ (J : It) (G : Hp → Prop), Walk J xs.length G (YAt xs) → (∀ H', SqL K H' a xs → G H') → R J H1) ∨
  (SqT K H1 a xs ∧ ∀ (J : It) (G : Hp → Prop), Walk J xs.length G (YAt xs) → (∀ H', SqT K H' a xs → G H') → R J H1))
theorem seq2_of {K : PySem.W.Frag} {H H1 : Hp} {a : Addr} {xs : List V} {R : It → Prop} (h : SqL K H a xs ∨ SqT K H a xs) (s : Same H H1) (k : ∀ (J : It) (G : Hp → Prop), Walk J xs.length G (YAt xs) → (∀ H', Same H H' → G H') → R J) :
    (SqL K H1 a xs ∧ ∀ (J : It) (G : Hp → Prop), Walk J xs.length G (YAt xs) → (∀ H', SqL K H' a xs → G H') → R J) ∨ (SqT K H1 a xs ∧ ∀ (J : It) (G : Hp → Prop), Walk J xs.length G (YAt xs) → (∀ H', SqT K H' a xs → G H') → R J) :=
  h.elim (fun h => .inl ⟨same_SqL s h, fun J G w g => k J G w fun H' s' => g H' (same_SqL s' h)⟩) fun h => .inr ⟨s.tup h, fun J G w g => k J G w fun H' s' => g H' (s'.tup h)⟩
theorem pi_seq2 {l : Expr} {tl : TE} (hl : PE X l tl) : PI X tg l (iSeq2 X.K tl) := by
  refine ⟨fun pins s σ H R I h => ?_⟩
  refine thn (hl.run pins s σ H _ I h) fun v s1 ⟨x, H1, I1, r1, q1⟩ => ?_
  obtain ⟨a, xs, e, ⟨hq, q⟩ | ⟨hq, q⟩⟩ := q1
  · subst e
    cases r1
    obtain ⟨its, rv, p, hz⟩ := I1.list hq
    refine wpAny_pyIter_list p.isList ?_
    refine ⟨s1.heap.objs.size, [s1.heap.objs.size], _, _, H1, rfl, I1.kept (t' := s1.toks) fun b o e => Heap.get?_push_of_some _ e, turn_list a _, ⟨_, Heap.get?_push_size _ rfl, rfl, rfl⟩, fun b hb => ?_, q _ _ walk_list fun H' s => s⟩
    have e : b = s1.heap.objs.size := by simpa using hb
    subst e
    exact I1.fpOk (Nat.le_refl _) (I1.hok.fresh (Nat.le_refl _))
  · subst e
    cases r1
    obtain ⟨its, rv, p, hz⟩ := I1.tuple hq
    refine wpAny_pyIter_tuple (show s1.heap.IsTuple a its.toArray from p) ?_
    refine ⟨s1.heap.objs.size, [s1.heap.objs.size], _, _, H1, rfl, I1.kept (t' := s1.toks) fun b o e => Heap.get?_push_of_some _ e, turn_tuple a _, ⟨_, Heap.get?_push_size _ rfl, rfl, rfl⟩, fun b hb => ?_, q _ _ walk_tup fun H' s => s⟩
    have e : b = s1.heap.objs.size := by simpa using hb
    subst e
    exact I1.fpOk (Nat.le_refl _) (I1.hok.fresh (Nat.le_refl _))
theorem piS2 (K : PySem.W.Frag) {l : Expr} {tl : TE} (hl : PE X l tl) (h : X.K = K := by rfl) : PI X tg l (iSeq2 K tl) := h ▸ pi_seq2 hl
end
end Mf
namespace Mf
open PySem L2
theorem eqv_int' (x y : Nat) : PyData.eqv (.int (x : Nat)) (.int (y : Nat)) = decide ((x : Int) = (y : Int)) := eqv_int _ _
theorem nk_all {K : PySem.W.Frag} {H : Hp} {us : List Addr} {row : List Itm} (p : Paired (ItA K H) us row) : NKall K H (row.map nkI) (us.map V.ref) := by
  induction p with
  | nil => exact .nil
  | @cons u it us row a _ ih =>
    refine .cons ?_ ih
    cases it with
    | num n => exact .tup a (.cons (.str _) (.cons (.int _) .nil))
    | wd z => exact .tup a (.cons (.str _) (.cons (.str _) .nil))
    | gap => exact .tup a (.cons (.str _) .nil)
    | nd i => exact .tup a (.cons (.str _) (.cons (.int _) .nil))
/-- a dict's object is put: tuples stay -/
theorem ext_tup {K : PySem.W.Frag} {H : Hp} {N : Addr} {φ : Heap → Prop} {o : HO} (h : H N = some (.ext φ)) : ∀ a vs, SqT K H a vs → SqT K (upd H N o) a vs := fun a vs q => by
  rcases q with (q | ⟨x, q⟩) | q
  · exact .inl (.inl (by rw [upd_ne (ne_of q h (by intro z; cases z))]; exact q))
  · exact .inl (.inr ⟨x, by rw [upd_ne (ne_of q h (by intro z; cases z))]; exact q⟩)
  · exact .inr q
/-- the dict's keys and numbers -/
inductive KD : Nat → List NE → List (List Itm) → Prop
  | nil {n : Nat} : KD n [] []
  | cons {n : Nat} {b : Addr} {r : List Itm} {kvs : List NE} {ds : List (List Itm)} : KD (n + 1) kvs ds → KD n ((nkRow r, b, (n : Int)) :: kvs) (r :: ds)
theorem KD.len {n : Nat} {kvs : List NE} {ds : List (List Itm)} (h : KD n kvs ds) : kvs.length = ds.length := by
  induction h with
  | nil => rfl
  | cons _ ih => rw [List.length_cons, List.length_cons, ih]
theorem KD.at {n : Nat} {kvs : List NE} {ds : List (List Itm)} (h : KD n kvs ds) (r : List Itm) : atN kvs (nkRow r) = if r ∈ ds then some ((n + ixG r ds : Nat) : Int) else none := by
  induction h with
  | nil => rfl
  | @cons n b r' kvs ds _ ih =>
    unfold atN at ih ⊢
    unfold ixG
    by_cases e : r' = r
    · subst e
      rw [List.find?_cons_of_pos (p := fun kv : NE => decide (kv.1 = nkRow r')) (decide_eq_true rfl), if_pos List.mem_cons_self, if_pos rfl]
      rfl
    · rw [List.find?_cons_of_neg (p := fun kv : NE => decide (kv.1 = nkRow r)) (by rw [decide_eq_false (fun q => e (nkRow_inj q))]; decide), ih, if_neg e]
      by_cases m : r ∈ ds
      · rw [if_pos m, if_pos (List.mem_cons_of_mem _ m), show n + 1 + ixG r ds = n + (ixG r ds + 1) by omega]
      · rw [if_neg m, if_neg (fun q => (List.mem_cons.mp q).elim (fun q => e q.symm) m)]
theorem KD.snoc {n : Nat} {kvs : List NE} {ds : List (List Itm)} (h : KD n kvs ds) (r : List Itm) (b : Addr) : KD n (kvs ++ [(nkRow r, b, ((n + ds.length : Nat) : Int))]) (ds ++ [r]) := by
  induction h with
  | nil => exact .cons .nil
  | @cons n b' r' kvs ds _ ih =>
    rw [List.length_cons, show n + (ds.length + 1) = n + 1 + ds.length by omega]
    exact .cons ih
/-- what is asked of rows -/
structure RwOk (R : List (List Itm)) : Prop where
  few : R.length ≤ 1000
  row : ∀ r ∈ R, r.length ≤ 4000
  nd : NdOk R
section
variable {P : Program} {w : World} {K : PySem.W.Frag} {mg : Str → Option Value} {base : Heap}
abbrev nsV (c : List Nat) : List V := c.map fun i => V.int (i : Nat)
theorem nsV_app (a b : List Nat) : nsV (a ++ b) = nsV a ++ nsV b := List.map_append ..
theorem nsV_at {c : List Nat} {i : Nat} (h : i < c.length) : atI (nsV c) (i : Nat) = some (.int (c.getD i 0 : Nat)) := atI_nat (by
  rw [List.getElem?_map, List.getElem?_eq_getElem h, List.getD_eq_getElem?_getD, List.getElem?_eq_getElem h]; rfl)
/-! ### _finer_classes -/
def spFiner (K : PySem.W.Frag) : Sp := fun vs H Q _ => ∃ (v : V) (cl : Addr) (R : List (List Itm)) (cls : List Nat), vs = [v, .ref cl] ∧ RowsQ K H v R ∧ RwOk R ∧ H cl = some (.lst (nsV cls)) ∧ cls.length = R.length ∧
  ∀ D H', H D = none → H' D = some (.lst (nsV (fin R cls))) → Same H H' → Q (.ref D) H'
abbrev sFiner_classes : Stmt := top 24
theorem scFiner_classes : FnScope ["rows", "classes", "numbers", "finer", "row", "key"] ["rows", "classes"] (defScope sFiner_classes) := ⟨rfl, rfl, rfl, by decide +kernel, rfl, by decide +kernel, by decide +kernel⟩
set_option maxHeartbeats 1000000 in
theorem ok_finer {f : Addr} {fd : FuncData} (F : Fun K "_finer_classes" "_finer_classes" sFiner_classes f fd) (mTuple : mg "tuple" = none) (mLen : mg "len" = none) (c__pointing_row : Cal P w K mg base CX0 1 "_pointing_row" ["row", "targets"] (spPoint K)) : FnOk P w K mg base CX0 2 f fd ["rows", "classes"] (spFiner K) := by
  refine F.ok scFiner_classes (fun vs H Q E h => ?_) (fun cdv A outer s H vs Q E hr h => ?_)
  · obtain ⟨v, cl, R, cls, rfl, _⟩ := h
    rfl
  · obtain ⟨v, cl, R, cls, rfl, ⟨a, bs, rfl, hq, pr⟩, ok, hc, lc, k⟩ := h
    have hu : (A.deeper (PyProof.Rows.envOfC "_finer_classes" (defScope sFiner_classes) s.heap.objs.size f cdv)).units + 9 < cLine := by have := hr.units; omega
    have hr__pointing_row := hr
    refine ⟨_, (pss_cons (ps_set (i := 2) scFiner_classes.nd rfl (by first | exact Or.inl rfl | exact Or.inr rfl) pe_ndnew)
      (pss_cons (ps_set (i := 3) scFiner_classes.nd rfl (by first | exact Or.inl rfl | exact Or.inr rfl) (pe_lst pa_nil))
      (pss_cons (ps_for PassesOwn.never rfl (piS2 K (pv 0)) (pg_name (i := 4) scFiner_classes.nd rfl (by first | exact Or.inl rfl | exact Or.inr rfl))
        (pss_cons (ps_set (i := 5) scFiner_classes.nd rfl (by first | exact Or.inl rfl | exact Or.inr rfl) (pe_callTy (k_tuple K) (by rfl) mTuple (by decide +kernel) (pa_cons (pe_cal c__pointing_row hr__pointing_row pass0 (pa_cons (pv 4) (pa_cons (pv 1) pa_nil))) pa_nil)))
        (pss_cons (ps_if (pt_cmp (pc_ndnotin hu (pv 5) (pv 2)))
          (pss_one (ps_asg (pe_callB call_len_nd (by rfl) mLen (by decide +kernel) (pa_cons (pv 2) pa_nil)) (pg_sub (pv 2) (pv 5) (set_nd hu)))) pss_nil)
        (pss_one (ps_expr (pe_bm PySem.F.plainAttrs_list PySem.F.slot_list_append PySem.F.type_list_append mt_append (pv 3) (pa_cons (pe_ndget hu (pv 2) (pv 5) (fun _ _ => rfl)) pa_nil)))))))
      (pss_one (ps_ret (pv 3)))))), ?_⟩
    have sz : (5000 : Nat) < sizeLine := by decide
    have lb := Paired.length pr
    have few := ok.few
    refine fun N hN => ⟨(by show 0 ≤ sizeLine; decide), fun F hF => ?_⟩
    have hF : (upd H N (NDo P w N [])) F = none := hF
    have sN := Same.new (o := NDo P w N []) hN
    have nFN : F ≠ N := ne_none hF upd_same
    have nF : H F = none := by
      cases e : H F with
      | none => rfl
      | some o => rw [sN _ _ e] at hF; cases hF
    have s0 : Same H (upd (upd H N (NDo P w N [])) F (.lst [])) := sN.trans (Same.new hF)
    have N0 : NDict P w K (upd (upd H N (NDo P w N [])) F (.lst [])) N [] := ⟨(Same.new hF) _ _ upd_same, by simp⟩
    have keyl : (R.map (ptRow cls)).length = R.length := List.length_map ..
    refine ⟨_, rfl, a, bs, rfl, seq2_of hq s0 fun J G wk hG => ?_⟩
    refine for_it wk (fun i σ H' => ∃ (v4 v5 : Option V) (kvs : List NE), σ = [some (.ref a), some (.ref cl), some (.ref N), some (.ref F), v4, v5] ∧ Same H H' ∧ NDict P w K H' N kvs ∧ KD 0 kvs (dd [] ((R.map (ptRow cls)).take i)) ∧
        H' F = some (.lst (nsV (((R.map (ptRow cls)).take i).map fun r => ixG r (dd [] ((R.map (ptRow cls)).take i))))))
      ⟨none, none, [], rfl, s0, N0, .nil, upd_same⟩ (fun i σ H' _ q => hG _ q.choose_spec.choose_spec.choose_spec.2.1) ?_ ?_
    · rintro i x σ _ H1 hi ⟨v4, v5, kvs, rfl, s1, N1, kd, h1⟩ ⟨rfl, hx⟩
      obtain ⟨row, hrow, rq⟩ := paired_get pr hx
      have rm := List.mem_of_getElem? hrow
      have hk : (R.map (ptRow cls))[i]? = some (ptRow cls row) := by rw [List.getElem?_map, hrow]; rfl
      have tk : (R.map (ptRow cls)).take (i + 1) = (R.map (ptRow cls)).take i ++ [ptRow cls row] := by rw [List.take_add_one, hk]; rfl
      generalize hkeys : R.map (ptRow cls) = keys at *
      have rowlen := ok.row row rm
      refine ⟨_, rfl, _, rfl, x, cl, nsV cls, row, (fun i => cls.getD i 0), rfl, rq.same s1, .of (s1 _ _ hc), rowlen, fun j hj => nsV_at (by rw [lc]; exact ok.nd row rm j hj), fun L H2 us nL hL pu s2 => ?_⟩
      refine ⟨L, _, rfl, .inl ⟨.of hL, fun b nb => ?_⟩⟩
      have s3 := s2.trans (Same.new (o := .tup (us.map V.ref)) nb)
      have hb : (upd H2 b (.tup (us.map V.ref))) b = some (.tup (us.map V.ref)) := upd_same
      have pb : Paired (ItA K (upd H2 b (.tup (us.map V.ref)))) us (ptRow cls row) := paired_same pu fun _ _ q => q.same (Same.new nb)
      generalize upd H2 b (.tup (us.map V.ref)) = H3 at s3 hb pb
      have nk : NKv K H3 (nkRow (ptRow cls row)) (.ref b) := .tup (.of hb) (nk_all pb)
      have N3 : NDict P w K H3 N kvs := ⟨s3 _ _ N1.o, fun kv h => ⟨(N1.k kv h).1.mv fun _ _ q => s3.tup q, (N1.k kv h).2⟩⟩
      have h3 := s3 _ _ h1
      have s13 := s1.trans s3
      have at_ := kd.at (ptRow cls row)
      have ll : kvs.length ≤ i := by
        rw [kd.len]
        have q := nodup_le (dd_nd (keys.take i) [] List.nodup_nil) (m := keys.take i) fun k hk => (dd_sub hk).elim (fun h => nomatch h) id
        rw [List.length_take] at q
        omega
      have hi2 : i < R.length := by rw [← lb]; exact hi
      refine ⟨_, rfl, _, rfl, N, kvs, _, b, rfl, rfl, N3, nk, nkRow_depth _, _, rfl, ?_⟩
      rw [at_]
      by_cases c : ptRow cls row ∈ dd [] (keys.take i)
      · have ed : dd [] (keys.take (i + 1)) = dd [] (keys.take i) := by rw [tk, dd_snoc, if_pos c]
        rw [if_pos c] at at_ ⊢
        refine iteF ?_
        refine ⟨_, rfl, .inl ⟨rfl, _, .of h3⟩, _, rfl, _, rfl, N, kvs, _, b, _, rfl, rfl, N3, nk, nkRow_depth _, at_, F, _, _, rfl, rfl, h3, by rw [List.length_map, List.length_map, List.length_take]; omega, ?_⟩
        refine ⟨_, _, kvs, rfl, s13.mut nF, ⟨by rw [upd_ne (Ne.symm nFN)]; exact N3.o, fun kv h => ⟨(N3.k kv h).1.mv fun _ _ q => (SameN.refl.put h3).tup q, (N3.k kv h).2⟩⟩, by rw [ed]; exact kd, ?_⟩
        rw [upd_same, ed, tk, List.map_append, nsV_app, Nat.zero_add]
        rfl
      · have ed : dd [] (keys.take (i + 1)) = dd [] (keys.take i) ++ [ptRow cls row] := by rw [tk, dd_snoc, if_neg c]
        rw [if_neg c] at at_ ⊢
        refine iteT ?_
        refine ⟨_, rfl, N, kvs, rfl, N3, _, rfl, _, rfl, N, kvs, _, b, _, rfl, rfl, rfl, N3, nk, nkRow_depth _, at_, by omega, ?_⟩
        have lkd := kd.len
        have N4 : NDict P w K (upd H3 N (NDo P w N (kvs ++ [(nkRow (ptRow cls row), b, ((kvs.length : Nat) : Int))]))) N (kvs ++ [(nkRow (ptRow cls row), b, ((kvs.length : Nat) : Int))]) := ⟨upd_same, fun kv h => by
          rcases List.mem_append.mp h with h | h
          · exact ⟨(N3.k kv h).1.mv (ext_tup N3.o), (N3.k kv h).2⟩
          · rw [List.mem_singleton.mp h]; exact ⟨nk.mv (ext_tup N3.o), nkRow_depth _⟩⟩
        have nk4 : NKv K (upd H3 N (NDo P w N (kvs ++ [(nkRow (ptRow cls row), b, ((kvs.length : Nat) : Int))]))) (nkRow (ptRow cls row)) (.ref b) := nk.mv (ext_tup N3.o)
        have h4 : (upd H3 N (NDo P w N (kvs ++ [(nkRow (ptRow cls row), b, ((kvs.length : Nat) : Int))]))) F = some (.lst (nsV ((keys.take i).map fun r => ixG r (dd [] (keys.take i))))) := by rw [upd_ne nFN]; exact h3
        have kd4 := kd.snoc (ptRow cls row) b
        rw [Nat.zero_add, ← lkd] at kd4
        have s14 : Same H (upd H3 N (NDo P w N (kvs ++ [(nkRow (ptRow cls row), b, ((kvs.length : Nat) : Int))]))) := s13.mut hN
        have at4 := kd4.at (ptRow cls row)
        rw [if_pos (List.mem_append_right _ (List.mem_singleton.mpr rfl)), ixG_new [] c, Nat.zero_add] at at4
        refine ⟨_, rfl, .inl ⟨rfl, _, .of h4⟩, _, rfl, _, rfl, N, _, _, b, _, rfl, rfl, N4, nk4, nkRow_depth _, at4, F, _, _, rfl, rfl, h4, by rw [List.length_map, List.length_map, List.length_take]; omega, ?_⟩
        refine ⟨_, _, _, rfl, s14.mut nF, ⟨by rw [upd_ne (Ne.symm nFN)]; exact N4.o, fun kv h => ⟨(N4.k kv h).1.mv fun _ _ q => (SameN.refl.put h4).tup q, (N4.k kv h).2⟩⟩, by rw [ed]; exact kd4, ?_⟩
        rw [upd_same, ed, tk, List.map_append, nsV_app]
        have e1 : (keys.take i).map (fun r => ixG r (dd [] (keys.take i) ++ [ptRow cls row])) = (keys.take i).map fun r => ixG r (dd [] (keys.take i)) := List.map_congr_left fun r hr => ixG_app _ (dd_mem hr)
        rw [e1]
        show _ = some (HO.lst (_ ++ [V.int ((ixG (ptRow cls row) (dd [] (keys.take i) ++ [ptRow cls row]) : Nat) : Int)]))
        rw [ixG_new [] c]
    · rintro σ H1 ⟨v4, v5, kvs, rfl, s1, N1, kd, h1⟩
      refine ⟨_, rfl, k F H1 nF ?_ s1⟩
      rw [h1, lb, ← keyl, List.take_length]
      rfl
/-! ### _classes -/
theorem eqv_nsV (a b : List Nat) : PyData.eqv (.list (a.map fun i => PyData.int (i : Nat))) (.list (b.map fun i => PyData.int (i : Nat))) = decide (a = b) :=
  eqvMap (f := fun i : Nat => PyData.int (i : Nat)) (fun x y => (eqv_int' x y).trans (by by_cases e : x = y <;> simp [e, Int.ofNat_inj])) a b
theorem dp_nsV {H : Hp} {a : Addr} {c : List Nat} (h : H a = some (.lst (nsV c))) : Dp K H (.ref a) (.list (c.map fun i => PyData.int (i : Nat))) := .lst (.of h) (dpMap fun _ _ => .int _)
theorem sh_nsV (c : List Nat) : SeqAt.shaped (.list (c.map fun i : Nat => PyData.int (i : Nat))) = true := (Sh.listM (k := 0) fun _ _ => .int _).sh
def muC (n : Nat) : L2.St → Hp → Nat := fun σ H => match σ[1]? with
  | some (some (V.ref a)) => match H a with
    | some (.lst vs) => n - cnt n (vs.map fun v => match v with | V.int i => i.toNat | _ => 0)
    | _ => 0
  | _ => 0
theorem muC_at {n : Nat} {σ : L2.St} {H : Hp} {a : Addr} {c : List Nat} (h1 : σ[1]? = some (some (V.ref a))) (h2 : H a = some (.lst (nsV c))) : muC n σ H = n - cnt n c := by
  unfold muC
  rw [h1]
  simp only
  rw [h2]
  simp only
  rw [List.map_map]
  have e : ((fun v => match v with | V.int i => i.toNat | _ => 0) ∘ fun i : Nat => V.int (i : Nat)) = id := funext fun i => by simp
  rw [e, List.map_id]
def spClasses (K : PySem.W.Frag) : Sp := fun vs H Q _ => ∃ (v : V) (R : List (List Itm)), vs = [v] ∧ RowsQ K H v R ∧ RwOk R ∧ ∀ D H', H' D = some (.lst (nsV (clsE R))) → Same H H' → Q (.ref D) H'
abbrev sClasses : Stmt := top 23
theorem scClasses : FnScope ["rows", "classes", "finer"] ["rows"] (defScope sClasses) := ⟨rfl, rfl, rfl, by decide +kernel, rfl, by decide +kernel, by decide +kernel⟩
theorem ok_classes {f : Addr} {fd : FuncData} (F : Fun K "_classes" "_classes" sClasses f fd) (mLen : mg "len" = none) (c__finer_classes : Cal P w K mg base CX0 2 "_finer_classes" ["rows", "classes"] (spFiner K)) : FnOk P w K mg base CX0 3 f fd ["rows"] (spClasses K) := by
  refine F.ok scClasses (fun vs H Q E h => ?_) (fun cdv A outer s H vs Q E hr h => ?_)
  · obtain ⟨v, R, rfl, _⟩ := h
    rfl
  · obtain ⟨v, R, rfl, hR, ok, k⟩ := h
    have hr__finer_classes := hr
    refine ⟨_, (pss_cons (ps_set (i := 1) scClasses.nd rfl (by first | exact Or.inl rfl | exact Or.inr rfl) (pe_op op_rep (pe_lst (pa_cons pe_int pa_nil)) (pe_callB (k_len K) (by rfl) mLen (by decide +kernel) (pa_cons (pv 0) pa_nil))))
      (pss_cons (ps_set (i := 2) scClasses.nd rfl (by first | exact Or.inl rfl | exact Or.inr rfl) (pe_cal c__finer_classes hr__finer_classes pass0 (pa_cons (pv 0) (pa_cons (pv 1) pa_nil))))
      (pss_cons (ps_while PassesOwn.never (pt_cmpR (neD K hr) (pv 2) (pv 1) (nomark _))
        (pss_cons (ps_set (i := 1) scClasses.nd rfl (by first | exact Or.inl rfl | exact Or.inr rfl) (pv 2))
        (pss_one (ps_set (i := 2) scClasses.nd rfl (by first | exact Or.inl rfl | exact Or.inr rfl) (pe_cal c__finer_classes hr__finer_classes pass0 (pa_cons (pv 0) (pa_cons (pv 1) pa_nil)))))))
      (pss_one (ps_ret (pv 1)))))), ?_⟩
    have hR0 := hR
    obtain ⟨a, bs, rfl, hq, pr⟩ := hR0
    have lb := Paired.length pr
    have few := ok.few
    have sz : (5000 : Nat) < sizeLine := by decide
    refine ⟨(by show 1 ≤ sizeLine; decide), fun L0 nL0 => ⟨_, rfl, a, bs, rfl, seq_same hq (Same.new nL0), L0, _, _, rfl, rfl, upd_same, by omega, by omega, by show 1 * _ ≤ _; omega, fun L1 nL1 => ?_⟩⟩
    have sL : Same H (upd (upd H L0 (.lst [.int 0])) L1 (.lst (List.replicate ((bs.length : Nat) : Int).toNat [V.int 0]).flatten)) := (Same.new nL0).trans (Same.new nL1)
    have hL1 : (upd (upd H L0 (.lst [.int 0])) L1 (.lst (List.replicate ((bs.length : Nat) : Int).toNat [V.int 0]).flatten)) L1 = some (.lst (nsV (clsN R 0))) := by
      rw [upd_same]
      have e : (List.replicate ((bs.length : Nat) : Int).toNat [V.int 0]).flatten = nsV (clsN R 0) := by
        show _ = (List.replicate R.length 0).map _
        rw [Int.toNat_natCast, lb, List.map_replicate, List.flatten_replicate_singleton]
        rfl
      rw [e]
    generalize upd (upd H L0 (.lst [.int 0])) L1 (.lst (List.replicate ((bs.length : Nat) : Int).toNat [V.int 0]).flatten) = H0 at sL hL1
    refine ⟨_, rfl, _, rfl, .ref a, L1, R, clsN R 0, rfl, hR.same sL, ok, hL1, clsN_len R 0, fun D1 H1 _ hD1 s1 => ?_⟩
    refine while_by (fun σ H' => ∃ (c fl : Addr) (m : Nat), σ = [some (.ref a), some (.ref c), some (.ref fl)] ∧ H' c = some (.lst (nsV (clsN R m))) ∧ H' fl = some (.lst (nsV (clsN R (m + 1)))) ∧ Same H H') (muC R.length) ⟨L1, D1, 0, rfl, s1 _ _ hL1, hD1, sL.trans s1⟩ ?_ ?_
    · rintro σ H2 ⟨c, fl, m, rfl, hc, hf, s2⟩
      refine ⟨_, rfl, _, rfl, _, _, dp_nsV hf, dp_nsV hc, sh_nsV _, sh_nsV _, _, rfl, ?_⟩
      rw [eqv_nsV]
      by_cases e : clsN R (m + 1) = clsN R m
      · rw [decide_eq_true e]
        refine iteF ⟨_, rfl, k c H2 ?_ s2⟩
        rw [hc, cls_fix ok.nd e]
      · rw [decide_eq_false e]
        refine iteT ?_
        refine ⟨_, rfl, _, rfl, _, rfl, .ref a, fl, R, clsN R (m + 1), rfl, hR.same s2, ok, hf, clsN_len R _, fun D3 H3 _ hD3 s3 => ?_⟩
        refine ⟨⟨fl, D3, m + 1, rfl, s3 _ _ hf, hD3, s2.trans s3⟩, ?_⟩
        rw [muC_at (a := fl) (c := clsN R (m + 1)) rfl (s3 _ _ hf), muC_at (a := c) (c := clsN R m) rfl hc]
        have g := cls_step ok.nd m e
        have l := cnt_le R.length (clsN R (m + 1))
        omega
    · rintro σ H' Q Q' m ⟨x, e1, y, e2, d, e, a1, a2, a3, a4, b, eb, q⟩
      exact ⟨x, e1, y, e2, d, e, a1, a2, a3, a4, b, eb, m _ _ q⟩
end
end Mf
namespace Mf
open PySem L2
section
variable {P : Program} {w : World} {K : PySem.W.Frag} {mg : Str → Option Value} {base : Heap}
theorem ixq (K : PySem.W.Frag) {X : Cx} (h : X.K = K := by rfl) : IxR X (rIx K) := h ▸ ix_seq
theorem rix_of {H : Hp} {Q : VK} {a : Addr} {xs : List V} {i : Int} {v : V} (h : SqL K H a xs ∨ SqT K H a xs) (e : atI xs i = some v) (k : Q v H) : rIx K (.ref a) (.int i) H Q :=
  h.elim (fun h => .inl ⟨a, xs, i, v, rfl, rfl, h, e, k⟩) fun h => .inr (.inl ⟨a, xs, i, v, rfl, rfl, h, e, k⟩)
/-! ### numbered_rows -/
/-- the dict of the numbers -/
def NumK (kvs : List (Key × V)) (cs : List Nat) : Prop := kvs.length = cs.length ∧ ∀ x : Nat, valV kvs (Sum.inl (x : Int)) = if x ∈ cs then some (.int (ixG x cs : Nat)) else none
theorem NumK.snoc {kvs : List (Key × V)} {cs : List Nat} (h : NumK kvs cs) {x : Nat} (n : x ∉ cs) : NumK (putK kvs (Sum.inl (x : Int)) (.int (cs.length : Nat))) (cs ++ [x]) := by
  have hn : valV kvs (Sum.inl (x : Int)) = none := by rw [h.2 x, if_neg n]
  refine ⟨by rw [putK_new _ hn, List.length_append, List.length_append, h.1]; rfl, fun y => ?_⟩
  rw [valV_put]
  by_cases e : y = x
  · subst e
    rw [if_pos rfl, if_pos (List.mem_append_right _ (List.mem_singleton.mpr rfl)), ixG_new [] n]
  · have ne : ¬ (Sum.inl (y : Int) : Key) = Sum.inl (x : Int) := fun q => e (Int.ofNat.inj (Sum.inl.inj q))
    rw [if_neg ne, h.2 y]
    by_cases m : y ∈ cs
    · rw [if_pos m, if_pos (List.mem_append_left _ m), ixG_app _ m]
    · rw [if_neg m, if_neg (fun q => (List.mem_append.mp q).elim m fun q => e (List.mem_singleton.mp q))]
def muN : L2.St → Hp → Nat := fun σ _ => match σ[5]? with
  | some (some (V.int j)) => 100000 - j.toNat
  | _ => 0
def spNumbered (K : PySem.W.Frag) : Sp := fun vs H Q _ => ∃ (v : V) (R : List (List Itm)) (st : Nat), vs = [v, .int st] ∧ RowsQ K H v R ∧ RwOk R ∧ st < R.length ∧ ∀ D H' us, H D = none → H' D = some (.lst (us.map V.ref)) → Paired (fun u row => ∃ ts : List Addr, H' u = some (.lst (ts.map V.ref)) ∧ Paired (ItA K H') ts row) us (canonN R st) → (∀ u ∈ us, u ≠ D ∧ H u = none) → Same H H' → Q (.ref D) H'
abbrev sNumbered_rows : Stmt := top 21
theorem scNumbered_rows : FnScope ["rows", "start", "classes", "numbers", "found", "at", "renumbered", "row", "index", "number"] ["rows", "start"] (defScope sNumbered_rows) := ⟨rfl, rfl, rfl, by decide +kernel, rfl, by decide +kernel, by decide +kernel⟩
set_option maxHeartbeats 1000000 in
theorem ok_numbered {f : Addr} {fd : FuncData} (F : Fun K "numbered_rows" "numbered_rows" sNumbered_rows f fd) (mLen : mg "len" = none) (c__classes : Cal P w K mg base CX0 3 "_classes" ["rows"] (spClasses K)) (c__node_indexes : Cal P w K mg base CX0 1 "_node_indexes" ["row"] (spNodes K)) (c__pointing_row : Cal P w K mg base CX0 1 "_pointing_row" ["row", "targets"] (spPoint K)) :
    FnOk P w K mg base CX0 4 f fd ["rows", "start"] (spNumbered K) := by
  refine F.ok scNumbered_rows (fun vs H Q E h => ?_) (fun cdv A outer s H vs Q E hr h => ?_)
  · obtain ⟨v, R, st, rfl, _⟩ := h
    rfl
  · obtain ⟨v, R, st, rfl, hR, ok, lst, k⟩ := h
    have hu : (A.deeper (PyProof.Rows.envOfC "numbered_rows" (defScope sNumbered_rows) s.heap.objs.size f cdv)).units + 1 < cLine := by have := hr.units; omega
    have hr__classes := hr; have hr__node_indexes : Room 1 _ := hr.mono (by decide : 1 ≤ 3); have hr__pointing_row := hr__node_indexes
    refine ⟨_, (pss_cons (ps_set (i := 2) scNumbered_rows.nd rfl (by first | exact Or.inl rfl | exact Or.inr rfl) (pe_cal c__classes hr__classes pass0 (pa_cons (pv 0) pa_nil)))
      (pss_cons (ps_set (i := 3) scNumbered_rows.nd rfl (by first | exact Or.inl rfl | exact Or.inr rfl) (pe_d1K (pe_ix (ixl K) (pv 2) (pv 1) (fun _ _ => rfl)) pe_int))
      (pss_cons (ps_set (i := 4) scNumbered_rows.nd rfl (by first | exact Or.inl rfl | exact Or.inr rfl) (pe_lst (pa_cons (pv 1) pa_nil)))
      (pss_cons (ps_set (i := 5) scNumbered_rows.nd rfl (by first | exact Or.inl rfl | exact Or.inr rfl) pe_int)
      (pss_cons (ps_while PassesOwn.never (pt_cmpR op_lt (pv 5) (pe_callB (k_len K) (by rfl) mLen (by decide +kernel) (pa_cons (pv 4) pa_nil)) (nomark _))
        (pss_cons (ps_set (i := 7) scNumbered_rows.nd rfl (by first | exact Or.inl rfl | exact Or.inr rfl) (pe_ix (ixq K) (pv 0) (pe_ix (ixl K) (pv 4) (pv 5) (fun _ _ => rfl)) (fun _ _ => rfl)))
        (pss_cons (ps_for PassesOwn.never rfl (pi_list (pe_cal c__node_indexes hr__node_indexes pass0 (pa_cons (pv 7) pa_nil))) (pg_name (i := 8) scNumbered_rows.nd rfl (by first | exact Or.inl rfl | exact Or.inr rfl))
          (pss_one (ps_if (pt_cmp (pc_dnotin hu (pe_ix (ixl K) (pv 2) (pv 8) (fun _ _ => rfl)) (pv 3)))
            (pss_cons (ps_asg (pe_callB (k_len K) (by rfl) mLen (by decide +kernel) (pa_cons (pv 4) pa_nil)) (pg_sub (pv 3) (pe_ix (ixl K) (pv 2) (pv 8) (fun _ _ => rfl)) (set_dict hu)))
            (pss_one (ps_expr (pe_bm PySem.F.plainAttrs_list PySem.F.slot_list_append PySem.F.type_list_append mt_append (pv 4) (pa_cons (pv 8) pa_nil))))) pss_nil)))
        (pss_one (ps_aug (i := 5) scNumbered_rows.nd rfl (by first | exact Or.inl rfl | exact Or.inr rfl) pe_int ip_add)))))
      (pss_cons (ps_set (i := 6) scNumbered_rows.nd rfl (by first | exact Or.inl rfl | exact Or.inr rfl) (pe_lc (own := [("number", 9)]) (g := (gName 9)) (tt := tYes) rfl scNumbered_rows.nd (pi_list (pv 2)) (blkOk_by (own := [("number", 9)]) (N := ["rows", "start", "classes", "numbers", "found", "at", "renumbered", "row", "index", "number"]) (sc := defScope sNumbered_rows) (by decide +kernel)) (fun _ _ _ _ _ => (pg_name (i := 9) scNumbered_rows.nd rfl (by first | exact Or.inl rfl | exact Or.inr rfl))) (fun _ _ _ _ _ => pts_nil) (fun _ _ _ _ _ => (pe_dget1 hu (pv 3) (pv 9) ⟨rfl, rfl, rfl, rfl⟩))))
      (pss_one (ps_ret (pe_lc (own := [("index", 8)]) (g := (gName 8)) (tt := tYes) rfl scNumbered_rows.nd (pi_list (pv 4)) (blkOk_by (own := [("index", 8)]) (N := ["rows", "start", "classes", "numbers", "found", "at", "renumbered", "row", "index", "number"]) (sc := defScope sNumbered_rows) (by decide +kernel)) (fun _ _ _ _ _ => (pg_name (i := 8) scNumbered_rows.nd rfl (by first | exact Or.inl rfl | exact Or.inr rfl))) (fun _ _ _ _ _ => pts_nil) (fun _ _ _ _ _ => (pe_cal c__pointing_row hr__pointing_row pass0 (pa_cons (pe_ix (ixq K) (pv 0) (pv 8) (fun _ _ => rfl)) (pa_cons (pv 6) pa_nil))))))))))))), ?_⟩
    obtain ⟨a, bs, rfl, hq, pr⟩ := id hR
    have lb := Paired.length pr
    have few := ok.few
    have sz : (5000 : Nat) < sizeLine := by decide
    refine ⟨_, rfl, .ref a, R, rfl, hR, ok, fun C H1 hC s1 => ?_⟩
    have lE : (clsE R).length = R.length := clsN_len R _
    refine fun N nN => ⟨_, rfl, _, rfl, C, _, (st : Nat), _, rfl, rfl, .of ((Same.new nN) _ _ hC), nsV_at (by rw [lE]; exact lst), ?_⟩
    refine ⟨_, _, Sum.inl ((clsE R).getD st 0 : Nat), rfl, rfl, upd_same, ?_⟩
    generalize hcE : clsE R = c at hC lE
    have sN : Same H1 (upd (upd H1 N (.dK [])) N (.dK [(Sum.inl ((c.getD st 0 : Nat) : Int), .int 0)])) := (Same.new nN).mut nN
    have hN0 : (upd (upd H1 N (.dK [])) N (.dK [(Sum.inl ((c.getD st 0 : Nat) : Int), .int 0)])) N = some (.dK [(Sum.inl ((c.getD st 0 : Nat) : Int), .int 0)]) := upd_same
    generalize (upd (upd H1 N (.dK [])) N (.dK [(Sum.inl ((c.getD st 0 : Nat) : Int), .int 0)])) = H2 at sN hN0
    refine ⟨_, rfl, (by show 1 ≤ sizeLine; decide), fun F hF => ?_⟩
    have FN : F ≠ N := ne_none hF hN0
    have nF : H1 F = none := by
      cases e : H1 F with
      | none => rfl
      | some o => rw [sN _ _ e] at hF; cases hF
    have nk0 : NumK [(Sum.inl ((c.getD st 0 : Nat) : Int), V.int 0)] ([st].map (cl c)) := ⟨rfl, fun x => by
      show valV [((Sum.inl ((c.getD st 0 : Nat) : Int) : Key), V.int 0)] (Sum.inl (x : Int)) = if x ∈ [cl c st] then some (.int (ixG x [cl c st] : Nat)) else none
      by_cases e : cl c st = x
      · rw [valV_pos (by rw [← e]; rfl), if_pos (by rw [e]; exact List.mem_singleton.mpr rfl)]
        unfold ixG
        rw [if_pos e]; rfl
      · have ne : ¬ ((Sum.inl ((c.getD st 0 : Nat) : Int) : Key)) = Sum.inl (x : Int) := fun q => e (Int.ofNat.inj (Sum.inl.inj q))
        rw [valV_neg ne, if_neg (fun q => e (List.mem_singleton.mp q).symm)]; rfl⟩
    have fd0 : FdOk R.length c [st] := ⟨List.nodup_cons.mpr ⟨by simp, List.nodup_nil⟩, fun i hi => by rw [List.mem_singleton.mp hi]; exact lst⟩
    refine while_by (fun σ H' => ∃ (fd : List Nat) (n : Nat) (v7 v8 : Option V) (kvs : List (Key × V)), σ = [some (.ref a), some (.int (st : Nat)), some (.ref C), some (.ref N), some (.ref F), some (.int (n : Nat)), none, v7, v8, none] ∧ H' F = some (.lst (nsV fd)) ∧ H' N = some (.dK kvs) ∧ NumK kvs (fd.map (cl c)) ∧
        FdOk R.length c fd ∧ n ≤ fd.length ∧ growN R c (R.length + 1 - n) n fd = foundN R c st ∧ (∀ p i, p < n → fd[p]? = some i → ∀ j ∈ nds (R.getD i []), cl c j ∈ fd.map (cl c)) ∧ Same H1 H') muN
      ⟨[st], 0, none, none, _, rfl, upd_same, (Same.new hF) _ _ hN0, nk0, fd0, Nat.zero_le _, rfl, fun p i hp => absurd hp (Nat.not_lt_zero _), sN.trans (Same.new hF)⟩ ?_ ?_
    · rintro σ H3 ⟨fd, n, v7, v8, kvs, rfl, hF3, hN3, nk, fo, ln, gr, clo, s3⟩
      have fl := fo.few
      refine ⟨_, rfl, _, rfl, F, _, rfl, .inl (.of hF3), _, _, rfl, rfl, _, rfl, ?_⟩
      rw [List.length_map]
      by_cases lt : n < fd.length
      · rw [decide_eq_true (by omega : (n : Int) < (fd.length : Nat))]
        refine iteT ?_
        have hi := List.getElem?_eq_getElem lt
        generalize fd[n] = i0 at hi
        have i0l := fo.lt i0 (List.mem_of_getElem? hi)
        have hrow : R[i0]? = some R[i0] := List.getElem?_eq_getElem i0l
        have rg : R.getD i0 [] = R[i0] := by rw [List.getD_eq_getElem?_getD, hrow]; rfl
        generalize R[i0] = row at hrow rg
        obtain ⟨x, hbx, rq⟩ := paired_at pr hrow
        have rowlen := ok.row row (List.mem_of_getElem? hrow)
        have s03 := s1.trans s3
        have fm : (nsV fd)[n]? = some (.int (i0 : Nat)) := by rw [List.getElem?_map, hi]; rfl
        refine ⟨_, rfl, _, rfl, _, rfl, F, _, (n : Nat), _, rfl, rfl, .of hF3, atI_nat fm, ?_⟩
        refine rix_of (seq_same hq s03) (atI_nat hbx) ?_
        refine ⟨_, rfl, x, row, rfl, rq.same s03, rowlen, fun D2 H4 nD2 hD2 s4 => ⟨D2, rfl, ⟨_, .of hD2⟩, ?_⟩⟩
        have D2F : D2 ≠ F := ne_none nD2 hF3
        have D2N : D2 ≠ N := ne_none nD2 hN3
        have gr' : growN R c (R.length + 1 - (n + 1)) (n + 1) (visN c fd (nds row)) = foundN R c st := by
          rw [show R.length + 1 - n = R.length + 1 - (n + 1) + 1 by omega, growN_succ, hi] at gr
          rw [← rg]; exact gr
        refine for_it walk_list (fun m σ H' => ∃ (fd' : List Nat) (v8 : Option V) (kvs' : List (Key × V)), σ = [some (.ref a), some (.int (st : Nat)), some (.ref C), some (.ref N), some (.ref F), some (.int (n : Nat)), none, some x, v8, none] ∧ H' F = some (.lst (nsV fd')) ∧ H' N = some (.dK kvs') ∧ NumK kvs' (fd'.map (cl c)) ∧
            FdOk R.length c fd' ∧ fd' = visN c fd ((nds row).take m) ∧ (∃ e, fd' = fd ++ e) ∧ (∀ j ∈ (nds row).take m, cl c j ∈ fd'.map (cl c)) ∧ Same H1 H' ∧ H' D2 = some (.lst (nsV (nds row)))) ⟨fd, v8, kvs, rfl, s4 _ _ hF3, s4 _ _ hN3, nk, fo, rfl, ⟨[], (List.append_nil _).symm⟩, by simp, s3.trans s4, hD2⟩ (fun m σ H' _ q => by
            obtain ⟨_, _, _, _, _, _, _, _, _, _, _, _, hq2⟩ := q
            exact .of hq2) ?_ ?_
        · rintro m y σ _ H5 hm ⟨fd', v8, kvs', rfl, hF5, hN5, nk5, fo5, ev, ⟨e5, pre5⟩, mem5, s5, hD5⟩ ⟨rfl, hx⟩
          rw [List.getElem?_map] at hx
          obtain ⟨j, hj, rfl⟩ := Option.map_eq_some_iff.mp hx
          have jm := List.mem_of_getElem? hj
          have jl : j < R.length := ok.nd row (List.mem_of_getElem? hrow) j (nds_mem.mp jm)
          have fl5 := fo5.few
          have tk : (nds row).take (m + 1) = (nds row).take m ++ [j] := by rw [List.take_add_one, hj]; rfl
          have hC5 := s5 _ _ hC
          have cj : atI (nsV c) (j : Nat) = some (.int (cl c j : Nat)) := nsV_at (by rw [lE]; exact jl)
          have ev2 : visN c fd ((nds row).take (m + 1)) = if cl c j ∈ fd'.map (cl c) then fd' else fd' ++ [j] := by rw [tk, visN_snoc, ← ev]
          have fo6 := fo5.put jl
          by_cases h : cl c j ∈ fd'.map (cl c)
          · rw [if_pos h] at ev2
            refine ⟨_, rfl, _, rfl, C, _, (j : Nat), _, rfl, rfl, .of hC5, cj, _, rfl, N, _, rfl, .inl ⟨kvs', Sum.inl ((cl c j : Nat) : Int), .inl hN5, rfl, (nk5.2 (cl c j)).symm⟩, _, rfl, ?_⟩
            rw [if_pos h]
            refine iteF ⟨fd', _, kvs', rfl, hF5, hN5, nk5, fo5, ev2.symm, ⟨e5, pre5⟩, fun j' hj' => ?_, s5, hD5⟩
            rw [tk] at hj'
            rcases List.mem_append.mp hj' with q | q
            · exact mem5 j' q
            · rw [List.mem_singleton.mp q]; exact h
          · rw [if_neg h] at ev2 fo6
            refine ⟨_, rfl, _, rfl, C, _, (j : Nat), _, rfl, rfl, .of hC5, cj, _, rfl, N, _, rfl, .inl ⟨kvs', Sum.inl ((cl c j : Nat) : Int), .inl hN5, rfl, (nk5.2 (cl c j)).symm⟩, _, rfl, ?_⟩
            rw [if_neg h]
            refine iteT ?_
            have lk : kvs'.length = fd'.length := by rw [nk5.1, List.length_map]
            refine ⟨_, rfl, F, _, rfl, .inl (.of hF5), _, rfl, _, rfl, _, rfl, C, _, (j : Nat), _, rfl, rfl, .of hC5, cj, N, _, rfl, DPut.k (k := Sum.inl ((cl c j : Nat) : Int)) hN5 (by omega), ?_⟩
            have hF6 : (upd H5 N (.dK (putK kvs' (Sum.inl ((cl c j : Nat) : Int)) (.int ((nsV fd').length : Nat))))) F = some (.lst (nsV fd')) := by rw [upd_ne FN]; exact hF5
            have hN6 : (upd H5 N (.dK (putK kvs' (Sum.inl ((cl c j : Nat) : Int)) (.int ((nsV fd').length : Nat))))) N = some (.dK (putK kvs' (Sum.inl ((cl c j : Nat) : Int)) (.int ((nsV fd').length : Nat)))) := upd_same
            have s6 : Same H1 (upd H5 N (.dK (putK kvs' (Sum.inl ((cl c j : Nat) : Int)) (.int ((nsV fd').length : Nat))))) := s5.mut nN
            have hD6 : (upd H5 N (.dK (putK kvs' (Sum.inl ((cl c j : Nat) : Int)) (.int ((nsV fd').length : Nat))))) D2 = some (.lst (nsV (nds row))) := by rw [upd_ne D2N]; exact hD5
            have nk6 := nk5.snoc h
            rw [show (fd'.map (cl c)).length = (nsV fd').length by rw [List.length_map, List.length_map]] at nk6
            generalize (upd H5 N (.dK (putK kvs' (Sum.inl ((cl c j : Nat) : Int)) (.int ((nsV fd').length : Nat))))) = H6 at hF6 hN6 s6 hD6
            refine ⟨_, rfl, .inl ⟨rfl, _, .of hF6⟩, _, rfl, F, _, _, rfl, rfl, hF6, by rw [List.length_map]; omega, ?_⟩
            refine ⟨fd' ++ [j], _, _, rfl, by rw [upd_same, nsV_app]; rfl, by rw [upd_ne (Ne.symm FN)]; exact hN6, by rw [List.map_append]; exact nk6, fo6, ev2.symm, ⟨e5 ++ [j], by rw [pre5, List.append_assoc]⟩, fun j' hj' => ?_, s6.mut nF, by rw [upd_ne D2F]; exact hD6⟩
            rw [tk] at hj'
            rw [List.map_append]
            rcases List.mem_append.mp hj' with q | q
            · exact List.mem_append_left _ (mem5 j' q)
            · rw [List.mem_singleton.mp q]; exact List.mem_append_right _ (List.mem_singleton.mpr rfl)
        · rintro σ H5 ⟨fd', v8, kvs', rfl, hF5, hN5, nk5, fo5, ev, ⟨e5, pre5⟩, mem5, s5, hD5⟩
          rw [List.length_map, List.take_length] at ev mem5
          refine ⟨_, rfl, _, _, rfl, rfl, ⟨fd', n + 1, _, _, kvs', rfl, hF5, hN5, nk5, fo5, ?_, by rw [ev]; exact gr', fun p i hp hpi j hj => ?_, s5⟩, ?_⟩
          · rw [pre5, List.length_append]; omega
          · by_cases e : p = n
            · subst e
              have : fd'[p]? = some i0 := by rw [pre5, List.getElem?_append_left lt]; exact hi
              rw [this] at hpi
              cases hpi
              rw [rg] at hj
              exact mem5 j hj
            · have pl : p < fd.length := by omega
              have : fd'[p]? = fd[p]? := by rw [pre5, List.getElem?_append_left pl]
              rw [this] at hpi
              have q := clo p i (by omega) hpi j hj
              rw [pre5, List.map_append]
              exact List.mem_append_left _ q
          · show 100000 - ((n : Int) + 1).toNat < 100000 - (n : Int).toNat
            omega
      · rw [decide_eq_false (by omega : ¬ (n : Int) < (fd.length : Nat))]
        refine iteF ?_
        have efd : fd = foundN R c st := by
          rw [← gr, show R.length + 1 - n = R.length - n + 1 by omega, growN_succ, List.getElem?_eq_none (by omega)]
        have clos : ∀ i ∈ fd, ∀ j ∈ nds (R.getD i []), cl c j ∈ fd.map (cl c) := fun i hi j hj => by
          obtain ⟨p, hp⟩ := List.mem_iff_getElem?.mp hi
          have := (List.getElem?_eq_some_iff.mp hp).1
          exact clo p i (by omega) hp j hj
        have hC3 := s3 _ _ hC
        refine ⟨_, rfl, C, rfl, ⟨_, .of hC3⟩, fun G hG => ?_⟩
        refine lc_it walk_list (fun m H' => Same H3 H' ∧ H' G = some (.lst ((c.take m).map fun x => if x ∈ fd.map (cl c) then V.int (ixG x (fd.map (cl c)) : Nat) else .non))) ⟨Same.new hG, upd_same⟩ (fun m H' _ q => .of (q.1 _ _ hC3)) ?_ ?_
        · rintro m y _ H4 hm ⟨s4, h4⟩ ⟨rfl, hx⟩
          rw [List.getElem?_map] at hx
          obtain ⟨z, hz, rfl⟩ := Option.map_eq_some_iff.mp hx
          rw [List.length_map] at hm
          refine ⟨rfl, yes_then ?_⟩
          have hN4 := s4 _ _ hN3
          refine ⟨_, rfl, N, rfl, .inl ⟨_, .inl hN4⟩, _, rfl, _, .inl ⟨kvs, Sum.inl (z : Int), .inl hN4, rfl, rfl⟩, _, h4, by rw [List.length_map, List.length_take]; omega, s4.mut hG, ?_⟩
          rw [upd_same, List.take_add_one, hz, Option.toList_some, List.map_append, nk.2 z]
          by_cases q : z ∈ fd.map (cl c)
          · rw [if_pos q]
            simp only [List.map_cons, List.map_nil, if_pos q]
            rfl
          · rw [if_neg q]
            simp only [List.map_cons, List.map_nil, if_neg q]
            rfl
        rintro H4 ⟨s4, h4⟩
        rw [List.length_map, List.take_length] at h4
        have hF4 := s4 _ _ hF3
        have s34 := s3.trans s4
        have s04 := s1.trans s34
        have tg : ∀ j, j < R.length → cl c j ∈ fd.map (cl c) → atI (c.map fun x => if x ∈ fd.map (cl c) then V.int (ixG x (fd.map (cl c)) : Nat) else .non) (j : Nat) = some (.int (ixG (cl c j) (fd.map (cl c)) : Nat)) := fun j hj q => atI_nat (by
          have e : c[j]? = some (cl c j) := by unfold cl; rw [List.getD_eq_getElem?_getD, List.getElem?_eq_getElem (by omega)]; rfl
          rw [List.getElem?_map, e]
          show some (if cl c j ∈ fd.map (cl c) then _ else _) = _
          rw [if_pos q])
        refine ⟨_, rfl, F, rfl, ⟨_, .of hF4⟩, fun D hD => ?_⟩
        refine lc_it walk_list (fun m H' => Same H4 H' ∧ ∃ us : List Addr, H' D = some (.lst (us.map V.ref)) ∧ us.length = m ∧ (∀ u ∈ us, u ≠ D ∧ H u = none) ∧ Paired (fun u row => ∃ ts : List Addr, H' u = some (.lst (ts.map V.ref)) ∧ Paired (ItA K H') ts row) us ((fd.take m).map fun i => numRow c fd (R.getD i [])))
          ⟨Same.new hD, [], upd_same, rfl, by simp, .nil⟩ (fun m H' _ q => .of (q.1 _ _ hF4)) ?_ ?_
        · rintro m y _ H5 hm ⟨s5, us, h5, l5, ne5, p5⟩ ⟨rfl, hx⟩
          rw [List.getElem?_map] at hx
          obtain ⟨i, hi, rfl⟩ := Option.map_eq_some_iff.mp hx
          rw [List.length_map] at hm
          have im := List.mem_of_getElem? hi
          have il := fo.lt i im
          have hrow : R[i]? = some R[i] := List.getElem?_eq_getElem il
          have rg : R.getD i [] = R[i] := by rw [List.getD_eq_getElem?_getD, hrow]; rfl
          have cl_i := clos i im
          rw [rg] at cl_i
          generalize R[i] = row at hrow rg cl_i
          obtain ⟨x, hbx, rq⟩ := paired_at pr hrow
          have rm := List.mem_of_getElem? hrow
          have s05 := s04.trans s5
          refine ⟨rfl, yes_then ?_⟩
          refine ⟨_, rfl, _, rfl, ?_⟩
          refine rix_of (seq_same hq s05) (atI_nat hbx) ?_
          refine ⟨_, rfl, x, G, _, row, (fun j => ixG (cl c j) (fd.map (cl c))), rfl, rq.same s05, .of (s5 _ _ h4), ok.row row rm, fun j hj => tg j (ok.nd row rm j hj) (cl_i j (nds_mem.mpr hj)), fun L H6 ts nL hL pt s6 => ?_⟩
          have h6 := s6 _ _ h5
          have LD : L ≠ D := ne_none nL h5
          have pn : SameN H6 (upd H6 D (.lst (us.map V.ref ++ [.ref L]))) := SameN.refl.put h6
          refine ⟨_, h6, by rw [List.length_map, l5]; omega, (s5.trans s6).mut hD, us ++ [L], by rw [upd_same, List.map_append]; rfl, by rw [List.length_append, l5]; rfl, fun u hu => ?_, ?_⟩
          · rcases List.mem_append.mp hu with q | q
            · exact ne5 u q
            · rw [List.mem_singleton.mp q]; exact ⟨LD, s05.free nL⟩
          · rw [List.take_add_one, hi, Option.toList_some, List.map_append]
            refine paired_snoc ?_ ?_
            · have pm : Paired (fun u row => (∃ ts : List Addr, H5 u = some (.lst (ts.map V.ref)) ∧ Paired (ItA K H5) ts row) ∧ u ≠ D) us ((fd.take m).map fun i => numRow c fd (R.getD i [])) := by
                have gen : ∀ {xs : List Addr} {ys : List (List Itm)} {S : Addr → List Itm → Prop}, Paired S xs ys → (∀ u ∈ xs, u ≠ D) → Paired (fun u row => S u row ∧ u ≠ D) xs ys := by
                  intro xs ys S r
                  induction r with
                  | nil => intro _; exact .nil
                  | cons a _ ih => intro h; exact .cons ⟨a, h _ List.mem_cons_self⟩ (ih fun u hu => h u (List.mem_cons_of_mem _ hu))
                exact gen p5 fun u hu => (ne5 u hu).1
              exact paired_same pm fun u row ⟨⟨ts, a1, a2⟩, ne⟩ => ⟨ts, by rw [upd_ne ne]; exact s6 _ _ a1, paired_same a2 fun _ _ z => (z.same s6).sameN pn⟩
            · refine ⟨ts, by rw [upd_ne LD]; exact hL, ?_⟩
              show Paired _ ts (numRow c fd (R.getD i []))
              rw [rg]
              exact paired_same pt fun _ _ z => z.sameN pn
        · rintro H5 ⟨s5, us, h5, l5, ne5, p5⟩
          rw [List.length_map, List.take_length] at p5
          have nD : H D = none := s04.free hD
          refine k D H5 us nD h5 ?_ ne5 (s04.trans s5)
          unfold canonN
          rw [hcE, ← efd]
          exact p5
    · rintro σ H' Q Q' m ⟨x, e1, y, e2, a, ys, e3, h1, i, j, e4, e5, c, e6, q⟩
      exact ⟨x, e1, y, e2, a, ys, e3, h1, i, j, e4, e5, c, e6, m _ _ q⟩
end
end Mf
namespace Mf
open PySem L2
section
variable {P : Program} {w : World} {K : PySem.W.Frag} {mg : Str → Option Value} {base : Heap}
theorem tyx_tup {H : Hp} {t : Addr} {xs : List V} (h : SqT K H t xs) : TyX K H (.ref t) (.type "tuple") := by
  rcases h with (h | ⟨o, h⟩) | ⟨o, its, n, h, c, _⟩
  · exact .base (.tup h)
  · exact .fTuple h
  · exact .kTuple h c
/-! ### numbers, items, rows -/
def numB (n : Int) : Bool := decide (n.natAbs < 10 ^ 60)
def itB (c : Nat) : Itm → Bool
  | .num n => numB n
  | .wd z => nameB z
  | .gap => true
  | .nd i => decide (i < c)
def rowB (c : Nat) (row : List Itm) : Bool := decide (row.length ≤ 12) && row.all (itB c)
/-- the words are short -/
def WdS (it : Itm) : Prop := ∀ z, it = .wd z → z.length ≤ 1000
def spIsInt : Sp := fun vs H Q _ => ∃ n : Int, vs = [.int n] ∧ Q (.bl true) H
abbrev sIs_integer : Stmt := top 10
theorem scIs_integer : FnScope ["value"] ["value"] (defScope sIs_integer) := ⟨rfl, rfl, rfl, by decide +kernel, rfl, by decide +kernel, by decide +kernel⟩
theorem ok_is_integer {f : Addr} {fd : FuncData} (F : Fun K "is_integer" "is_integer" sIs_integer f fd) (mIsi : mg "isinstance" = none) (mInt : mg "int" = none) (mBool : mg "bool" = none) : FnOk P w K mg base CX0 1 f fd ["value"] spIsInt := by
  refine F.ok scIs_integer (fun vs H Q E h => ?_) (fun cdv A outer s H vs Q E hr h => ?_)
  · obtain ⟨n, rfl, _⟩ := h
    rfl
  · obtain ⟨n, rfl, k⟩ := h
    refine ⟨_, (pss_one (ps_ret (pe_and (pe_callB (k_isi K) (by rfl) mIsi (by decide +kernel) (pa_cons (pv 0) (pa_cons (pe_bltn (v := .ty "int") (by rfl) mInt (by decide +kernel) rfl) pa_nil))) (pe_one (pe_notT (pe_callB (k_isi K) (by rfl) mIsi (by decide +kernel) (pa_cons (pv 0) (pa_cons (pe_bltn (v := .ty "bool") (by rfl) mBool (by decide +kernel) rfl) pa_nil)))))))), ?_⟩
    refine ⟨_, rfl, _, _, _, _, true, rfl, .ty _, .base (.int _), kit_ty (by decide +kernel), _, rfl, iteT ?_⟩
    exact ⟨_, rfl, _, _, _, _, false, rfl, .ty _, .base (.int _), kit_ty (by decide +kernel), false, rfl, k⟩
def spIsNum : Sp := fun vs H Q _ => ∃ n : Int, vs = [.int n] ∧ Q (.bl (numB n)) H
abbrev sIs_number : Stmt := top 11
theorem scIs_number : FnScope ["value"] ["value"] (defScope sIs_number) := ⟨rfl, rfl, rfl, by decide +kernel, rfl, by decide +kernel, by decide +kernel⟩
theorem ok_is_number {f : Addr} {fd : FuncData} (F : Fun K "is_number" "is_number" sIs_number f fd) (mAbs : mg "abs" = none) (c_is_integer : Cal P w K mg base CX0 1 "is_integer" ["value"] spIsInt) : FnOk P w K mg base CX0 2 f fd ["value"] spIsNum := by
  refine F.ok scIs_number (fun vs H Q E h => ?_) (fun cdv A outer s H vs Q E hr h => ?_)
  · obtain ⟨n, rfl, _⟩ := h
    rfl
  · obtain ⟨n, rfl, k⟩ := h
    have hr_is_integer := hr
    refine ⟨_, (pss_one (ps_ret (pe_and (pe_cal c_is_integer hr_is_integer pass0 (pa_cons (pv 0) pa_nil)) (pe_one (pe_cmpR op_lt (pe_callB call_abs (by rfl) mAbs (by decide +kernel) (pa_cons (pv 0) pa_nil)) (pe_op op_pow pe_int pe_int) (nomark _)))))), ?_⟩
    refine ⟨_, rfl, n, rfl, _, rfl, iteT ⟨_, rfl, _, rfl, _, _, rfl, rfl, ⟨by decide, by decide, by decide⟩, _, _, rfl, rfl, ?_⟩⟩
    have e : numB n = decide ((if n < 0 then -n else n) < (10 : Int) ^ (60 : Int).toNat) := by
      unfold numB
      rw [show (60 : Int).toNat = 60 from rfl, show (10 : Int) ^ 60 = ((10 ^ 60 : Nat) : Int) by decide +kernel]
      generalize (10 ^ 60 : Nat) = M
      by_cases c : n < 0
      · rw [if_pos c]
        exact decide_eq_decide.mpr (by omega)
      · rw [if_neg c]
        exact decide_eq_decide.mpr (by omega)
    rw [e] at k
    exact k
def spIsItem (K : PySem.W.Frag) : Sp := fun vs H Q _ => ∃ (t : Addr) (it : Itm) (c : Nat), vs = [.ref t, .int c] ∧ ItA K H t it ∧ WdS it ∧ ∀ H', Same H H' → Q (.bl (itB c it)) H'
abbrev sIs_item : Stmt := top 20
theorem scIs_item : FnScope ["item", "count", "kind", "value"] ["item", "count"] (defScope sIs_item) := ⟨rfl, rfl, rfl, by decide +kernel, rfl, by decide +kernel, by decide +kernel⟩
theorem ok_is_item {f aG : Addr} {fd : FuncData} (F : Fun K "_is_item" "_is_item" sIs_item f fd) (mIsi : mg "isinstance" = none) (mTuple : mg "tuple" = none) (mLen : mg "len" = none) (mg_GAP : mg "GAP" = some (.ref aG)) (qG : ∀ H, SqT K H aG [.str "gap"])
    (c_is_name : Cal P w K mg base CX0 1 "is_name" ["value"] spIsName) (c_is_integer : Cal P w K mg base CX0 1 "is_integer" ["value"] spIsInt) (c_is_number : Cal P w K mg base CX0 2 "is_number" ["value"] spIsNum) : FnOk P w K mg base CX0 3 f fd ["item", "count"] (spIsItem K) := by
  refine F.ok scIs_item (fun vs H Q E h => ?_) (fun cdv A outer s H vs Q E hr h => ?_)
  · obtain ⟨t, it, c, rfl, _⟩ := h
    rfl
  · obtain ⟨t, it, c, rfl, ha, hw, k⟩ := h
    have hr_is_number := hr
    have hr_is_name : Room 1 _ := hr.mono (by decide : 1 ≤ 2)
    have hr_is_integer := hr_is_name
    refine ⟨_, (pss_cons (ps_if (pt_not (pt_val (pe_callB (k_isi K) (by rfl) mIsi (by decide +kernel) (pa_cons (pv 0) (pa_cons (pe_bltn (v := .ty "tuple") (by rfl) mTuple (by decide +kernel) rfl) pa_nil)))))
        (pss_one (ps_ret pe_bl)) pss_nil)
      (pss_cons (ps_if (pt_cmpR op_ne (pe_callB (k_len K) (by rfl) mLen (by decide +kernel) (pa_cons (pv 0) pa_nil)) pe_int (nomark _))
        (pss_one (ps_ret (pe_cmpR (eqD K hr) (pv 0) (pe_glob (v := .ref _) rfl mg_GAP rfl) (nomark _)))) pss_nil)
      (pss_cons (ps_asg (pv 0) (pg_tup rfl (pgs_cons (pg_name (i := 2) scIs_item.nd rfl (by first | exact Or.inl rfl | exact Or.inr rfl)) (pgs_cons (pg_name (i := 3) scIs_item.nd rfl (by first | exact Or.inl rfl | exact Or.inr rfl)) pgs_nil))))
      (pss_cons (ps_if (pt_cmpR op_eq (pv 2) pe_str (nomark _))
        (pss_one (ps_ret (pe_cal c_is_number hr_is_number pass0 (pa_cons (pv 3) pa_nil)))) pss_nil)
      (pss_cons (ps_if (pt_cmpR op_eq (pv 2) pe_str (nomark _))
        (pss_one (ps_ret (pe_cal c_is_name hr_is_name pass0 (pa_cons (pv 3) pa_nil)))) pss_nil)
      (pss_one (ps_ret (pe_and (pe_cmpR op_eq (pv 2) pe_str (nomark _)) (pe_and (pe_cal c_is_integer hr_is_integer pass0 (pa_cons (pv 3) pa_nil)) (pe_one (pe_chain op_le op_lt pe_int (pv 3) (pv 1)))))))))))), ?_⟩
    have sq : SqT K H t (itV it) := ha
    refine ⟨_, rfl, _, _, _, _, true, rfl, .ty _, tyx_tup sq, kit_ty (by decide +kernel), _, rfl, iteF ?_⟩
    cases it with
    | gap =>
      refine ⟨_, rfl, t, _, rfl, .inr sq, rfl, _, rfl, iteT ?_⟩
      refine ⟨_, rfl, itD .gap, itD .gap, dp_it ha, dp_it (it := .gap) (qG H), (sh_it (it := .gap) fun z e => nomatch e).sh, (sh_it (it := .gap) fun z e => nomatch e).sh, ?_⟩
      rw [eqv_it, decide_eq_true rfl]
      exact k H (Same.refl H)
    | num n =>
      refine ⟨_, rfl, t, _, rfl, .inr sq, rfl, _, rfl, iteF ?_⟩
      refine ⟨_, rfl, t, _, rfl, sq, rfl, _, _, rfl, _, _, rfl, rfl, ?_⟩
      refine ⟨_, rfl, rfl, _, rfl, ite2 (fun _ => ?_) fun e => absurd (decide_eq_true rfl) e⟩
      exact ⟨_, rfl, n, rfl, k H (Same.refl H)⟩
    | wd z =>
      refine ⟨_, rfl, t, _, rfl, .inr sq, rfl, _, rfl, iteF ?_⟩
      refine ⟨_, rfl, t, _, rfl, sq, rfl, _, _, rfl, _, _, rfl, rfl, ?_⟩
      refine ⟨_, rfl, rfl, _, rfl, ite2 (fun e => absurd (V.str.inj (of_decide_eq_true e)) (by decide)) fun _ => ?_⟩
      refine ⟨_, rfl, rfl, _, rfl, ite2 (fun _ => ?_) fun e => absurd (decide_eq_true rfl) e⟩
      exact ⟨_, rfl, z, rfl, Nat.le_trans (hw z rfl) (by decide), k⟩
    | nd i =>
      refine ⟨_, rfl, t, _, rfl, .inr sq, rfl, _, rfl, iteF ?_⟩
      refine ⟨_, rfl, t, _, rfl, sq, rfl, _, _, rfl, _, _, rfl, rfl, ?_⟩
      refine ⟨_, rfl, rfl, _, rfl, ite2 (fun e => absurd (V.str.inj (of_decide_eq_true e)) (by decide)) fun _ => ?_⟩
      refine ⟨_, rfl, rfl, _, rfl, ite2 (fun e => absurd (V.str.inj (of_decide_eq_true e)) (by decide)) fun _ => ?_⟩
      refine ⟨_, rfl, rfl, _, rfl, ite2 (fun _ => ?_) fun e => absurd (decide_eq_true rfl) e⟩
      refine ⟨_, rfl, _, rfl, _, rfl, iteT ?_⟩
      refine ⟨_, rfl, _, _, rfl, rfl, _, rfl, ?_⟩
      rw [decide_eq_true (show (0 : Int) ≤ (i : Nat) by omega)]
      refine iteT ⟨_, rfl, _, _, rfl, rfl, ?_⟩
      have z := k H (Same.refl H)
      rw [show itB c (.nd i) = decide ((i : Int) < (c : Nat)) from decide_eq_decide.mpr (by omega)] at z
      exact z
def spIsRow (K : PySem.W.Frag) : Sp := fun vs H Q _ => ∃ (v : V) (row : List Itm) (c : Nat), vs = [v, .int c] ∧ RowQ K H v row ∧ (∀ it ∈ row, WdS it) ∧ ∀ H', Same H H' → Q (.bl (rowB c row)) H'
abbrev sIs_row : Stmt := top 19
theorem scIs_row : FnScope ["row", "count", "item"] ["row", "count"] (defScope sIs_row) := ⟨rfl, rfl, rfl, by decide +kernel, rfl, by decide +kernel, by decide +kernel⟩
theorem ok_is_row {f : Addr} {fd : FuncData} {tk : Tok} (F : Fun K "_is_row" "_is_row" sIs_row f fd) (mLen : mg "len" = none) (mAll : mg "all" = none) (mg_MOST_ITEMS : mg "MOST_ITEMS" = some (.int 12 tk)) (c__is_item : Cal P w K mg base CX0 3 "_is_item" ["item", "count"] (spIsItem K)) : FnOk P w K mg base CX0 4 f fd ["row", "count"] (spIsRow K) := by
  refine F.ok scIs_row (fun vs H Q E h => ?_) (fun cdv A outer s H vs Q E hr h => ?_)
  · obtain ⟨v, row, c, rfl, _⟩ := h
    rfl
  · obtain ⟨v, row, c, rfl, ⟨a, us, rfl, hq, pr⟩, hw, k⟩ := h
    have hr__is_item := hr
    have ln := Paired.length pr
    refine ⟨_, (pss_one (ps_ret (pe_and (pe_cmpR op_le (pe_callB (k_len K) (by rfl) mLen (by decide +kernel) (pa_cons (pv 0) pa_nil)) (pe_glob (v := .int 12) rfl mg_MOST_ITEMS ⟨_, rfl⟩) (nomark _)) (pe_one (pe_callB (k_all K) (by rfl) mAll (by decide +kernel) (pa_cons (pe_lc (own := [("item", 2)]) (g := (gName 2)) (tt := tYes) rfl scIs_row.nd (piS K (pv 0)) (blkOk_by (own := [("item", 2)]) (N := ["row", "count", "item"]) (sc := defScope sIs_row) (by decide +kernel)) (fun _ _ _ _ _ => (pg_name (i := 2) scIs_row.nd rfl (by first | exact Or.inl rfl | exact Or.inr rfl))) (fun _ _ _ _ _ => pts_nil) (fun _ _ _ _ _ => (pe_cal c__is_item hr__is_item pass0 (pa_cons (pv 2) (pa_cons (pv 1) pa_nil))))) pa_nil)))))), ?_⟩
    refine ⟨_, rfl, a, _, rfl, hq, _, _, rfl, rfl, _, rfl, ite2 (fun q => ?_) fun q => ?_⟩
    · have f12 : row.length ≤ 12 := by
        have q := of_decide_eq_true q
        rw [List.length_map, ln] at q
        omega
      refine ⟨_, rfl, a, _, rfl, hq, fun J G wk hG D hD => ?_⟩
      refine lc_bools (fs := row.map (itB c)) wk (by rw [List.length_map, List.length_map, ln]) (by rw [List.length_map]; omega) hD hG (fun i x b H' Qe Pf hx hb s' kk => ?_) fun H1 s1 h1 => ?_
      · rw [List.getElem?_map] at hx hb
        obtain ⟨t, ht, rfl⟩ := Option.map_eq_some_iff.mp hx
        obtain ⟨it, hit, sq⟩ := paired_get pr ht
        rw [hit] at hb
        obtain rfl := Option.some.inj hb
        refine ⟨rfl, yes_then ?_⟩
        exact ⟨_, rfl, _, rfl, t, it, c, rfl, sq.same s', hw it (List.mem_of_getElem? hit), fun H3 s3 => kk H3 s3⟩
      · refine ⟨D, _, rfl, .of h1, ?_⟩
        have e : rowB c row = (row.map (itB c)).all id := by
          unfold rowB
          rw [decide_eq_true f12, Bool.true_and, List.all_map]; rfl
        rw [← e]
        exact k H1 s1
    · have few : decide (row.length ≤ 12) = false := by
        refine decide_eq_false fun h => q (decide_eq_true ?_)
        rw [List.length_map, ln]
        omega
      have e : rowB c row = false := by unfold rowB; rw [few, Bool.false_and]
      have z := k H (Same.refl H)
      rw [e] at z
      exact z
/-- rows that are right -/
structure RtR (R : List (List Itm)) : Prop where
  ne : R ≠ []
  few : R.length ≤ 40
  row : ∀ r ∈ R, rowB R.length r = true
theorem RtR.it {R : List (List Itm)} (x : RtR R) : ∀ r ∈ R, ∀ it ∈ r, itB R.length it = true := fun r hr it hi => List.all_eq_true.mp (Bool.and_eq_true_iff.mp (x.row r hr)).2 it hi
theorem RtR.len {R : List (List Itm)} (x : RtR R) : ∀ r ∈ R, r.length ≤ 12 := fun r hr => of_decide_eq_true (Bool.and_eq_true_iff.mp (x.row r hr)).1
theorem itB_wd {c : Nat} {it : Itm} (h : itB c it = true) : WdS it := fun z e => by
  subst e
  have := ((nameB_iff z).mp h).len
  omega
theorem RtR.ok {R : List (List Itm)} (x : RtR R) : RwOk R := ⟨Nat.le_trans x.few (by decide), fun r hr => Nat.le_trans (x.len r hr) (by decide), fun r hr i hi => of_decide_eq_true (x.it r hr _ hi)⟩
def spCheckR (K : PySem.W.Frag) : Sp := fun vs H Q _ => ∃ (v : V) (R : List (List Itm)), vs = [v] ∧ RowsQ K H v R ∧ RtR R ∧ ∀ H', Same H H' → Q .non H'
abbrev sCheck_rows : Stmt := top 18
theorem scCheck_rows : FnScope ["rows", "line", "row"] ["rows"] (defScope sCheck_rows) := ⟨rfl, rfl, rfl, by decide +kernel, rfl, by decide +kernel, by decide +kernel⟩
theorem ok_check_rows {f : Addr} {fd : FuncData} {tk : Tok} (F : Fun K "check_rows" "check_rows" sCheck_rows f fd) (mEnum : mg "enumerate" = none) (mLen : mg "len" = none) (mg_MOST_ROWS : mg "MOST_ROWS" = some (.int 40 tk)) (c__is_row : Cal P w K mg base CX0 4 "_is_row" ["row", "count"] (spIsRow K)) : FnOk P w K mg base CX0 5 f fd ["rows"] (spCheckR K) := by
  refine F.ok scCheck_rows (fun vs H Q E h => ?_) (fun cdv A outer s H vs Q E hr h => ?_)
  · obtain ⟨v, R, rfl, _⟩ := h
    rfl
  · obtain ⟨v, R, rfl, ⟨a, bs, rfl, hq, pr⟩, rt, k⟩ := h
    have hr__is_row := hr
    have ln := Paired.length pr
    have few := rt.few
    refine ⟨_, (pss_cons (ps_for PassesOwn.never rfl (pi_enumS (by rfl) mEnum (pa_cons (pv 0) pa_nil) (by decide) (by decide)) (pg_tup rfl (pgs_cons (pg_name (i := 1) scCheck_rows.nd rfl (by first | exact Or.inl rfl | exact Or.inr rfl)) (pgs_cons (pg_name (i := 2) scCheck_rows.nd rfl (by first | exact Or.inl rfl | exact Or.inr rfl)) pgs_nil)))
        (pss_one (ps_if (PW.pt (pw_or (pt_cmpR op_gt (pv 1) (pe_glob (v := .int 40) rfl mg_MOST_ROWS ⟨_, rfl⟩) (nomark _)) (pw_or1 (pt_not (pt_val (pe_cal c__is_row hr__is_row pass0 (pa_cons (pv 2) (pa_cons (pe_callB (k_len K) (by rfl) mLen (by decide +kernel) (pa_cons (pv 0) pa_nil)) pa_nil))))))))
          (pss_one ps_never) pss_nil)))
      (pss_one (ps_if (pt_cmpR op_eq (pe_callB (k_len K) (by rfl) mLen (by decide +kernel) (pa_cons (pv 0) pa_nil)) pe_int (nomark _))
        (pss_one ps_never) pss_nil))), ?_⟩
    refine ⟨_, rfl, a, bs, rfl, ?_⟩
    rcases hq with hq | hq
    · refine .inl ⟨hq, ?_⟩
      refine for_it walk_enumSL (fun i σ H' => ∃ (v1 v2 : Option V), σ = [some (.ref a), v1, v2] ∧ Same H H') ⟨none, none, rfl, Same.refl H⟩ (fun i σ H' _ q => SameL q.choose_spec.choose_spec.2 hq) ?_ ?_
      · rintro i x σ H1 H2 hi ⟨v1, v2, rfl, s1⟩ ⟨T, x1, y, rfl, hT, rfl, e1, e2⟩
        obtain rfl : x1 = .int (1 + (i : Nat)) := (Option.some.inj e1).symm
        have e2 : bs[i]? = some y := e2
        obtain ⟨row, hrow, rq⟩ := paired_get pr e2
        have rm := List.mem_of_getElem? hrow
        have s2 := s1.trans (Same.new (o := .tup [.int (1 + (i : Nat)), y]) hT)
        refine ⟨T, _, rfl, .of upd_same, rfl, _, _, rfl, _, _, rfl, rfl, ?_⟩
        refine ⟨_, rfl, _, _, rfl, rfl, _, rfl, ?_⟩
        rw [decide_eq_false (by omega : ¬ (40 : Int) < 1 + (i : Nat))]
        refine iteF ?_
        refine ⟨_, rfl, _, rfl, a, bs, rfl, seq_same (.inl hq) s2, ?_⟩
        refine ⟨y, row, bs.length, rfl, rq.same s2, fun it hi => itB_wd (rt.it row rm it hi), fun H3 s3 => ?_⟩
        rw [ln, rt.row row rm]
        exact ⟨_, rfl, iteF ⟨_, _, rfl, s2.trans s3⟩⟩
      · rintro σ H1 ⟨v1, v2, rfl, s1⟩
        refine ⟨_, rfl, a, bs, rfl, seq_same (.inl hq) s1, rfl, _, rfl, ite2 (fun e => ?_) fun _ => k H1 s1⟩
        have e := V.int.inj (of_decide_eq_true e)
        have := rt.ne
        exact absurd (List.length_eq_zero_iff.mp (by omega)) this
    · refine .inr ⟨hq, ?_⟩
      refine for_it walk_enumST (fun i σ H' => ∃ (v1 v2 : Option V), σ = [some (.ref a), v1, v2] ∧ Same H H') ⟨none, none, rfl, Same.refl H⟩ (fun i σ H' _ q => q.choose_spec.choose_spec.2.tup hq) ?_ ?_
      · rintro i x σ H1 H2 hi ⟨v1, v2, rfl, s1⟩ ⟨T, x1, y, rfl, hT, rfl, e1, e2⟩
        obtain rfl : x1 = .int (1 + (i : Nat)) := (Option.some.inj e1).symm
        have e2 : bs[i]? = some y := e2
        obtain ⟨row, hrow, rq⟩ := paired_get pr e2
        have rm := List.mem_of_getElem? hrow
        have s2 := s1.trans (Same.new (o := .tup [.int (1 + (i : Nat)), y]) hT)
        refine ⟨T, _, rfl, .of upd_same, rfl, _, _, rfl, _, _, rfl, rfl, ?_⟩
        refine ⟨_, rfl, _, _, rfl, rfl, _, rfl, ?_⟩
        rw [decide_eq_false (by omega : ¬ (40 : Int) < 1 + (i : Nat))]
        refine iteF ?_
        refine ⟨_, rfl, _, rfl, a, bs, rfl, seq_same (.inr hq) s2, ?_⟩
        refine ⟨y, row, bs.length, rfl, rq.same s2, fun it hi => itB_wd (rt.it row rm it hi), fun H3 s3 => ?_⟩
        rw [ln, rt.row row rm]
        exact ⟨_, rfl, iteF ⟨_, _, rfl, s2.trans s3⟩⟩
      · rintro σ H1 ⟨v1, v2, rfl, s1⟩
        refine ⟨_, rfl, a, bs, rfl, seq_same (.inr hq) s1, rfl, _, rfl, ite2 (fun e => ?_) fun _ => k H1 s1⟩
        have e := V.int.inj (of_decide_eq_true e)
        have := rt.ne
        exact absurd (List.length_eq_zero_iff.mp (by omega)) this
end
end Mf
namespace Mf
open PySem L2
/-! ### the class Result -/
def flR (d : Addr) : List (Str × V) := putF "_rows" (.ref d) []
theorem flR_get (d : Addr) : (flR d).lookup ("_rows" : Str) = some (.ref d) := by
  unfold flR
  rw [lookup_putF, if_pos rfl]
/-- a list of items -/
def RowL (K : PySem.W.Frag) (H : Hp) (u : Addr) (row : List Itm) : Prop := ∃ ts : List Addr, H u = some (.lst (ts.map V.ref)) ∧ Paired (ItA K H) ts row
/-- a list of lists of items -/
def LisR (K : PySem.W.Frag) (H : Hp) (a : Addr) (us : List Addr) (R : List (List Itm)) : Prop := H a = some (.lst (us.map V.ref)) ∧ Paired (RowL K H) us R
theorem RowL.same {K : PySem.W.Frag} {H H' : Hp} {u : Addr} {row : List Itm} (x : RowL K H u row) (s : Same H H') : RowL K H' u row := let ⟨ts, a, b⟩ := x; ⟨ts, s _ _ a, paired_same b fun _ _ q => q.same s⟩
theorem LisR.same {K : PySem.W.Frag} {H H' : Hp} {a : Addr} {us : List Addr} {R : List (List Itm)} (x : LisR K H a us R) (s : Same H H') : LisR K H' a us R := ⟨s _ _ x.1, paired_same x.2 fun _ _ q => q.same s⟩
theorem RowL.put {K : PySem.W.Frag} {H : Hp} {u q : Addr} {row : List Itm} {xs : List V} {o : HO} (x : RowL K H u row) (h : H q = some (.lst xs)) (n : u ≠ q) : RowL K (upd H q o) u row :=
  let ⟨ts, a, b⟩ := x
  ⟨ts, by rw [upd_ne n]; exact a, paired_same b fun _ _ z => z.sameN (SameN.refl.put h)⟩
theorem paired_mem {α β : Type} {S : α → β → Prop} : ∀ {xs : List α} {ys : List β}, Paired S xs ys → Paired (fun u y => S u y ∧ u ∈ xs) xs ys := by
  intro xs ys r
  induction r with
  | nil => exact .nil
  | cons a _ ih => exact .cons ⟨a, List.mem_cons_self⟩ (paired_same ih fun _ _ z => ⟨z.1, List.mem_cons_of_mem _ z.2⟩)
theorem LisR.put {K : PySem.W.Frag} {H : Hp} {a q : Addr} {us : List Addr} {R : List (List Itm)} {xs : List V} {o : HO} (x : LisR K H a us R) (h : H q = some (.lst xs)) (n : a ≠ q) (m : ∀ u ∈ us, u ≠ q) : LisR K (upd H q o) a us R :=
  ⟨by rw [upd_ne n]; exact x.1, paired_same (paired_mem x.2) fun u _ z => z.1.put h (m u z.2)⟩
theorem LisR.rows {K : PySem.W.Frag} {H : Hp} {a : Addr} {us : List Addr} {R : List (List Itm)} (x : LisR K H a us R) : RowsQ K H (.ref a) R := by
  obtain ⟨h0, p⟩ := x
  refine ⟨a, us.map V.ref, rfl, .inl (.of h0), ?_⟩
  clear h0
  induction p with
  | nil => exact .nil
  | @cons u r us R z _ ih =>
    obtain ⟨ts, h1, h2⟩ := z
    exact .cons ⟨u, ts, rfl, .inl (.of h1), h2⟩ ih
/-- a Result stands at p -/
structure RsA (K : PySem.W.Frag) (CR : Addr) (H : Hp) (p dx d : Addr) (us : List Addr) (R : List (List Itm)) : Prop where
  o : H p = some (.ins CR dx (flR d))
  l : LisR K H d us R
theorem RsA.same {K : PySem.W.Frag} {CR : Addr} {H H' : Hp} {p dx d : Addr} {us : List Addr} {R : List (List Itm)} (x : RsA K CR H p dx d us R) (s : Same H H') : RsA K CR H' p dx d us R := ⟨s _ _ x.o, x.l.same s⟩
theorem RsA.put {K : PySem.W.Frag} {CR : Addr} {H : Hp} {p dx d q : Addr} {us : List Addr} {R : List (List Itm)} {xs : List V} {o : HO} (x : RsA K CR H p dx d us R) (h : H q = some (.lst xs)) (n : d ≠ q) (m : ∀ u ∈ us, u ≠ q) : RsA K CR (upd H q o) p dx d us R :=
  ⟨by rw [upd_ne (ne_of x.o h (by intro z; cases z))]; exact x.o, x.l.put h n m⟩
structure RsC (K : PySem.W.Frag) (mg : Str → Option Value) (C : Addr) : Prop where
  ins : C8.InsC K C
  nR : NoAttr K C "_rows"
  mgC : mg "Result" = some (.ref C)
section
variable {P : Program} {w : World} {K : PySem.W.Frag} {mg : Str → Option Value} {base : Heap} {CR : Addr}
theorem canon_ne {R : List (List Itm)} {st : Nat} : canonN R st ≠ [] := by
  unfold canonN foundN
  intro e
  have e := List.map_eq_nil_iff.mp e
  have pre : ∀ n (fd : List Nat) at_, fd ≠ [] → growN R (clsE R) n at_ fd ≠ [] := by
    intro n
    induction n with
    | zero => intro fd _ h; exact h
    | succ n ih =>
      intro fd at_ h
      rw [growN_succ]
      cases fd[at_]? with
      | none => exact h
      | some i =>
        refine ih _ _ ?_
        intro z
        have vp : ∀ (is fd : List Nat), fd ≠ [] → visN (clsE R) fd is ≠ [] := by
          intro is
          induction is with
          | nil => intro fd h; exact h
          | cons i is ih2 =>
            intro fd h
            show visN _ (if _ then _ else _) is ≠ []
            refine ih2 _ ?_
            split
            · exact h
            · simp
        exact vp _ _ h z
  exact pre _ [st] 0 (by simp) e
def spRsInit (K : PySem.W.Frag) (CR : Addr) : Sp := fun vs H Q _ => ∃ (p dx : Addr) (v : V) (R : List (List Itm)), vs = [.ref p, v] ∧ H p = some (.ins CR dx []) ∧ RowsQ K H v R ∧ RtR R ∧
  ∀ d us H', RsA K CR H' p dx d us (canonN R 0) → H d = none → (∀ u ∈ us, u ≠ d ∧ H u = none) → (∀ b o, b ≠ p → H b = some o → H' b = some o) → Q .non H'
abbrev sResultInit : Stmt := inClass (top 31) 0
theorem scResultInit : FnScope ["self", "rows"] ["self", "rows"] (defScope sResultInit) := ⟨rfl, rfl, rfl, by decide +kernel, rfl, by decide +kernel, by decide +kernel⟩
theorem ok_rsInit {f : Addr} {fd : FuncData} (F : Fun K "__init__" "Result.__init__" sResultInit f fd) (T : RsC K mg CR) (c_check_rows : Cal P w K mg base CX0 5 "check_rows" ["rows"] (spCheckR K)) (c_numbered_rows : Cal P w K mg base CX0 4 "numbered_rows" ["rows", "start"] (spNumbered K)) : FnOk P w K mg base CX0 6 f fd ["self", "rows"] (spRsInit K CR) := by
  refine F.ok scResultInit (fun vs H Q E h => ?_) (fun cdv A outer s H vs Q E hr h => ?_)
  · obtain ⟨p, dx, v, R, rfl, _⟩ := h
    rfl
  · obtain ⟨p, dx, v, R, rfl, hp, hR, rt, k⟩ := h
    have hr_check_rows := hr
    have hr_numbered_rows : Room 4 _ := hr.mono (by decide : 4 ≤ 5)
    refine ⟨_, (pss_cons (ps_expr (pe_cal c_check_rows hr_check_rows pass0 (pa_cons (pv 1) pa_nil)))
      (pss_one (ps_fld (pv 0) (pe_cal c_numbered_rows hr_numbered_rows pass0 (pa_cons (pv 1) (pa_cons pe_int pa_nil))) rfl))), ?_⟩
    refine ⟨_, rfl, v, R, rfl, hR, rt, fun H1 s1 => ?_⟩
    refine ⟨_, rfl, v, R, 0, rfl, hR.same s1, rt.ok, List.length_pos_iff.mpr rt.ne, fun D H2 us nD hD pr fr s2 => ?_⟩
    refine ⟨_, rfl, p, CR, dx, [], rfl, s2 _ _ (s1 _ _ hp), T.ins.cl, T.nR, (by show 0 < 1000; decide), ?_⟩
    have hp2 := s2 _ _ (s1 _ _ hp)
    have fr0 : ∀ u ∈ us, u ≠ D ∧ H u = none := fun u hu => ⟨(fr u hu).1, s1.free (fr u hu).2⟩
    refine k D us _ ⟨upd_same, ?_, ?_⟩ (s1.free nD) fr0 fun b o nb e => ?_
    · rw [upd_ne (ne_of hD hp2 (by intro z; cases z))]; exact hD
    · refine paired_same (paired_mem pr) fun u row ⟨⟨ts, h1, h2⟩, um⟩ => ⟨ts, ?_, paired_same h2 fun t it z => ?_⟩
      · rw [upd_ne (ne_of h1 hp2 (by intro z; cases z))]; exact h1
      · rcases z with (z | ⟨o, z⟩) | z
        · exact .inl (.inl (by rw [upd_ne (ne_of z hp2 (by intro z; cases z))]; exact z))
        · exact .inl (.inr ⟨o, by rw [upd_ne (ne_of z hp2 (by intro z; cases z))]; exact z⟩)
        · exact .inr z
    · rw [upd_ne nb]
      exact s2 _ _ (s1 _ _ e)
/-- Result(v): a new one -/
theorem make_rs {H : Hp} {v : V} {R : List (List Itm)} {Q : Hp → Prop} {E : XK} {p dx : Addr} (hp : H p = none) (hd : H dx = none) (_ : dx ≠ p) (hR : RowsQ K H v R) (rt : RtR R)
    (k : ∀ d us H', RsA K CR H' p dx d us (canonN R 0) → H d = none → (∀ u ∈ us, u ≠ d ∧ H u = none) → Same H H' → Q H') :
    spRsInit K CR [.ref p, v] (upd (upd H dx (.own p)) p (.ins CR dx [])) (fun x H2 => x = .non ∧ Q H2) E := by
  have s1 : Same H (upd (upd H dx (.own p)) p (.ins CR dx [])) := Same.mut (Same.new hd) hp
  exact ⟨p, dx, v, R, rfl, upd_same, hR.same s1, rt, fun d us H' x nd nu kp => ⟨rfl, k d us H' x (s1.free nd) (fun u hu => ⟨(nu u hu).1, s1.free (nu u hu).2⟩) fun b o e => kp b o (ne_of_none e hp) (s1 _ _ e)⟩⟩
def spRsRows (K : PySem.W.Frag) (CR : Addr) : Sp := fun vs H Q _ => ∃ (p dx d : Addr) (us : List Addr) (R : List (List Itm)), vs = [.ref p] ∧ RsA K CR H p dx d us R ∧ R.length ≤ 4000 ∧
  ∀ D ws H', H D = none → LisR K H' D ws R → (∀ u ∈ ws, u ≠ D ∧ H u = none) → Same H H' → Q (.ref D) H'
abbrev sResultRows : Stmt := inClass (top 31) 3
theorem scResultRows : FnScope ["self", "row"] ["self"] (defScope sResultRows) := ⟨rfl, rfl, rfl, by decide +kernel, rfl, by decide +kernel, by decide +kernel⟩
theorem ok_rsRows {f : Addr} {fd : FuncData} (F : Fun K "rows" "Result.rows" sResultRows f fd) (T : RsC K mg CR) (mList : mg "list" = none) : FnOk P w K mg base CX0 1 f fd ["self"] (spRsRows K CR) := by
  refine F.ok scResultRows (fun vs H Q E h => ?_) (fun cdv A outer s H vs Q E hr h => ?_)
  · obtain ⟨p, dx, d, us, R, rfl, _⟩ := h
    rfl
  · obtain ⟨p, dx, d, us, R, rfl, x, few, k⟩ := h
    refine ⟨_, (pss_one (ps_ret (pe_lc (own := [("row", 1)]) (g := (gName 1)) (tt := tYes) rfl scResultRows.nd (pi_list (fldK K (pv 0))) (blkOk_by (own := [("row", 1)]) (N := ["self", "row"]) (sc := defScope sResultRows) (by decide +kernel)) (fun _ _ _ _ _ => (pg_name (i := 1) scResultRows.nd rfl (by first | exact Or.inl rfl | exact Or.inr rfl))) (fun _ _ _ _ _ => pts_nil) (fun _ _ _ _ _ => (pe_callTy (k_list K) (by rfl) mList (by decide +kernel) (pa_cons (pv 1) pa_nil)))))), ?_⟩
    obtain ⟨hd, pr⟩ := x.l
    have ln := Paired.length pr
    have sz : (5000 : Nat) < sizeLine := by decide
    refine ⟨_, rfl, p, CR, dx, _, _, rfl, x.o, T.ins.cl, T.nR, flR_get d, d, rfl, ⟨_, .of hd⟩, fun D hD => ?_⟩
    refine lc_it walk_list (fun i H' => Same H H' ∧ ∃ ws : List Addr, H' D = some (.lst (ws.map V.ref)) ∧ ws.length = i ∧ (∀ u ∈ ws, u ≠ D ∧ H u = none) ∧ Paired (RowL K H') ws (R.take i)) ⟨Same.new hD, [], upd_same, rfl, by simp, .nil⟩ (fun i H' _ q => .of (q.1 _ _ hd)) ?_ ?_
    · rintro i y _ H1 hi ⟨s1, ws, h1, l1, f1, p1⟩ ⟨rfl, hx⟩
      rw [List.getElem?_map] at hx
      obtain ⟨u, hu, rfl⟩ := Option.map_eq_some_iff.mp hx
      obtain ⟨row, hrow, ts, q1, q2⟩ := paired_get pr hu
      rw [List.length_map] at hi
      refine ⟨rfl, yes_then ?_⟩
      refine ⟨_, rfl, u, _, rfl, .inl (.of (s1 _ _ q1)), fun l nl => ?_⟩
      have s2 := Same.new (o := .lst (ts.map V.ref)) nl
      have h2 := s2 _ _ h1
      have nl0 := s1.free nl
      have lD : l ≠ D := ne_none nl h1
      refine ⟨_, h2, by rw [List.length_map, l1]; omega, (s1.trans s2).mut hD, ws ++ [l], by rw [upd_same, List.map_append]; rfl, by rw [List.length_append, l1]; rfl, fun z hz => ?_, ?_⟩
      · rcases List.mem_append.mp hz with q | q
        · exact f1 z q
        · rw [List.mem_singleton.mp q]; exact ⟨lD, nl0⟩
      · rw [List.take_add_one, hrow]
        refine paired_snoc (paired_same (paired_mem p1) fun z row z' => (z'.1.same s2).put h2 (f1 z z'.2).1) ⟨ts, by rw [upd_ne lD]; exact upd_same, paired_same q2 fun _ _ z => ((z.same s1).same s2).sameN (SameN.refl.put h2)⟩
    · rintro H1 ⟨s1, ws, h1, l1, f1, p1⟩
      rw [List.length_map, ln, List.take_length] at p1
      exact k D ws H1 hD ⟨h1, p1⟩ f1 s1
def spRsLen (K : PySem.W.Frag) (CR : Addr) : Sp := fun vs H Q _ => ∃ (p dx d : Addr) (us : List Addr) (R : List (List Itm)) (row : List Itm), vs = [.ref p] ∧ RsA K CR H p dx d us R ∧ R[0]? = some row ∧ Q (.int (row.length : Nat)) H
abbrev sResultLen : Stmt := inClass (top 31) 8
theorem scResultLen : FnScope ["self"] ["self"] (defScope sResultLen) := ⟨rfl, rfl, rfl, by decide +kernel, rfl, by decide +kernel, by decide +kernel⟩
theorem ok_rsLen {f : Addr} {fd : FuncData} (F : Fun K "__len__" "Result.__len__" sResultLen f fd) (T : RsC K mg CR) (mLen : mg "len" = none) : FnOk P w K mg base CX0 1 f fd ["self"] (spRsLen K CR) := by
  refine F.ok scResultLen (fun vs H Q E h => ?_) (fun cdv A outer s H vs Q E hr h => ?_)
  · obtain ⟨p, dx, d, us, R, row, rfl, _⟩ := h
    rfl
  · obtain ⟨p, dx, d, us, R, row, rfl, x, e0, k⟩ := h
    refine ⟨_, (pss_one (ps_ret (pe_callB (k_len K) (by rfl) mLen (by decide +kernel) (pa_cons (pe_ix (ixl K) (fldK K (pv 0)) pe_int (fun _ _ => rfl)) pa_nil)))), ?_⟩
    obtain ⟨hd, pr⟩ := x.l
    obtain ⟨u, hu, ts, q1, q2⟩ := paired_at pr e0
    have l := Paired.length q2
    refine ⟨_, rfl, p, CR, dx, _, _, rfl, x.o, T.ins.cl, T.nR, flR_get d, d, _, (0 : Nat), _, rfl, rfl, .of hd, atI_nat (by rw [List.getElem?_map, hu]; rfl), u, _, rfl, .inl (.of q1), ?_⟩
    rw [List.length_map, l]
    exact k
end
end Mf
namespace Mf
open PySem PySem.Spec PyProof.Rows L2
/-! ### rows as data -/
def rwD (r : List Itm) : PyData := .list (r.map itD)
def rsD (R : List (List Itm)) : PyData := .list (R.map rwD)
theorem eqv_rw (a b : List Itm) : PyData.eqv (rwD a) (rwD b) = decide (a = b) := eqvMap eqv_it a b
theorem eqv_rs (a b : List (List Itm)) : PyData.eqv (rsD a) (rsD b) = decide (a = b) := eqvMap eqv_rw a b
def WdI (it : Itm) : Prop := ∀ z, it = .wd z → PyData.strOk z = true
def WdR (R : List (List Itm)) : Prop := ∀ r ∈ R, ∀ it ∈ r, WdI it
theorem sh_rw {r : List Itm} (h : ∀ it ∈ r, WdI it) : Sh 2 (rwD r) := .listM fun it hi => sh_it (h it hi)
theorem sh_rs {R : List (List Itm)} (h : WdR R) : Sh 3 (rsD R) := .listM fun r hr => sh_rw (h r hr)
theorem dp_rw {K : PySem.W.Frag} {H : Hp} {u : Addr} {row : List Itm} (h : RowL K H u row) : Dp K H (.ref u) (rwD row) := let ⟨_, a, b⟩ := h; .lst (.of a) (dpPair b fun _ _ q => dp_it q)
theorem dp_rs {K : PySem.W.Frag} {H : Hp} {a : Addr} {us : List Addr} {R : List (List Itm)} (h : LisR K H a us R) : Dp K H (.ref a) (rsD R) := .lst (.of h.1) (dpPair h.2 fun _ _ q => dp_rw q)
theorem ixG_first {α : Type} [DecidableEq α] {k : α} : ∀ {ds : List α} {m : Nat} {z : α}, m < ixG k ds → ds[m]? = some z → z ≠ k
  | [], _, _, h, _ => absurd h (Nat.not_lt_zero _)
  | d :: ds, m, z, h, e => by
    unfold ixG at h
    by_cases c : d = k
    · rw [if_pos c] at h; exact absurd h (Nat.not_lt_zero _)
    · rw [if_neg c] at h
      cases m with
      | zero => cases e; exact c
      | succ m => exact ixG_first (ds := ds) (m := m) (by omega) (by simpa using e)
theorem any_rw {D : List (List Itm)} {r : List Itm} : ((D.map rwD).any fun z => PyData.eqv z (rwD r)) = decide (r ∈ D) := by
  induction D with
  | nil => simp
  | cons d D ih =>
    rw [List.map_cons, List.any_cons, ih, eqv_rw]
    by_cases e : d = r
    · subst e; simp
    · have : ¬ r = d := fun q => e q.symm
      simp [e, this]
theorem ptI_wd {f : Nat → Nat} {it : Itm} (h : WdI it) : WdI (ptI f it) := fun z e => by
  cases it with
  | nd j => cases e
  | num n => cases e
  | gap => cases e
  | wd y => exact h z e
theorem pt_wd {R : List (List Itm)} (h : WdR R) (c : List Nat) : WdR (R.map (ptRow c)) := fun r hr it hi => by
  obtain ⟨r0, h0, rfl⟩ := List.mem_map.mp hr
  obtain ⟨i0, h1, rfl⟩ := List.mem_map.mp hi
  exact ptI_wd (h r0 h0 i0 h1)
theorem dd_wd {R : List (List Itm)} (h : WdR R) : WdR (dd [] R) := fun r hr => h r ((dd_sub hr).elim (fun z => nomatch z) id)
theorem take_wd {R : List (List Itm)} (h : WdR R) (n : Nat) : WdR (R.take n) := fun r hr => h r (List.mem_of_mem_take hr)
section
variable {P : Program} {w : World} {K : PySem.W.Frag} {mg : Str → Option Value} {base : Heap}
theorem ninD {X : Cx} (K : PySem.W.Frag) {k : Nat} (hr : Room (k + 1) X.A) (h : X.K = K := by rfl) : OpR X (compareOp .NotIn) (rNotInD K) := h ▸ op_notInD (Room.in1 hr).units
theorem ixD {X : Cx} (K : PySem.W.Frag) {k : Nat} (hr : Room (k + 1) X.A) (h : X.K = K := by rfl) : MtR X "list.index" (rIndexD K) := h ▸ mt_indexD (Room.in1 hr).units
/-- pe_bm for a comprehension's block -/
theorem bmK (K : PySem.W.Frag) {X : Cx} {T : String} {o e : Expr} {es : List Expr} {to : TE} {t : TA} {name : Str} {apos cpos : Pos} {id : String} {r : V → List V → Hp → VK → Prop}
    (pa : PlainAttrs T) (slot : Slot T name id) (hty : typeOf (.builtin id) = pure (.type "method_descriptor")) (hm : MtR X id r) (ho : PE X o to) (ha : PA X (e :: es) t)
    (hbase : attributeBase o name X.env (eval o X.env) = eval o X.env := by rfl)
    (hfew : ((backTo cpos (starEach (e :: es) X.env)).all (fun x => !x.1) && (backToKw cpos (keywordEach [] X.env)).all (fun x => x.1.isSome)
      && decide ((e :: es).length + ([] : List Keyword).length + (if ([] : List Keyword).isEmpty then 0 else 1) < 30)) = true := by rfl)
    (hline : (apos.endLine == cpos.line) = true := by rfl) (hs : starEach (e :: es) X.env = (false, eval e X.env) :: starEach es X.env := by rfl) (hplain : (backTo cpos (starEach es X.env)).any (·.1) = false := by rfl) (h : X.K = K := by rfl) :
    PE X (.Call (.Attribute o name apos) (e :: es) [] cpos) (tBM K T r to t) := h ▸ pe_bm pa slot hty hm ho ha hbase hfew hline hs hplain
/-! ### _law_classes -/
def spLClasses (K : PySem.W.Frag) : Sp := fun vs H Q _ => ∃ (a : Addr) (us : List Addr) (R : List (List Itm)), vs = [.ref a] ∧ LisR K H a us R ∧ RwOk R ∧ WdR R ∧ ∀ D H', H' D = some (.lst (nsV (clsE R))) → Same H H' → Q (.ref D) H'
abbrev sLClasses : Stmt := top 37
theorem scLClasses : FnScope ["_law_rows", "_law_classes_here", "_law_turn", "_law_signs", "_law_row", "_law_kinds", "_law_sign", "_law_finer", "_law_item_here"] ["_law_rows"] (defScope sLClasses) := ⟨rfl, rfl, rfl, by decide +kernel, rfl, by decide +kernel, by decide +kernel⟩
set_option maxHeartbeats 2000000 in
theorem ok_lclasses {f : Addr} {fd : FuncData} (F : Fun K "_law_classes" "_law_classes" sLClasses f fd) : FnOk P w K mg base CX0 2 f fd ["_law_rows"] (spLClasses K) := by
  refine F.ok scLClasses (fun vs H Q E h => ?_) (fun cdv A outer s H vs Q E hr h => ?_)
  · obtain ⟨a, us, R, rfl, _⟩ := h
    rfl
  · obtain ⟨a, us, R, rfl, hR, ok, wd, k⟩ := h
    refine ⟨_, (pss_cons (ps_set (i := 1) scLClasses.nd rfl (by first | exact Or.inl rfl | exact Or.inr rfl) (pe_lc (own := [("_law_row", 4)]) (g := (gName 4)) (tt := tYes) rfl scLClasses.nd (pi_list (pv 0)) (blkOk_by (own := [("_law_row", 4)]) (N := ["_law_rows", "_law_classes_here", "_law_turn", "_law_signs", "_law_row", "_law_kinds", "_law_sign", "_law_finer", "_law_item_here"]) (sc := defScope sLClasses) (by decide +kernel)) (fun _ _ _ _ _ => (pg_name (i := 4) scLClasses.nd rfl (by first | exact Or.inl rfl | exact Or.inr rfl))) (fun _ _ _ _ _ => pts_nil) (fun _ _ _ _ _ => pe_int)))
      (pss_cons (ps_for PassesOwn.never rfl (pi_list (pv 0)) (pg_name (i := 2) scLClasses.nd rfl (by first | exact Or.inl rfl | exact Or.inr rfl))
        (pss_cons (ps_set (i := 3) scLClasses.nd rfl (by first | exact Or.inl rfl | exact Or.inr rfl) (pe_lst pa_nil))
        (pss_cons (ps_for PassesOwn.never rfl (pi_list (pv 0)) (pg_name (i := 4) scLClasses.nd rfl (by first | exact Or.inl rfl | exact Or.inr rfl))
          (pss_one (ps_expr (pe_bm PySem.F.plainAttrs_list PySem.F.slot_list_append PySem.F.type_list_append mt_append (pv 3) (pa_cons (pe_lc (own := [("_law_item_here", 8)]) (g := (gName 8)) (tt := tYes) rfl scLClasses.nd (pi_list (pv 4)) (blkOk_by (own := [("_law_item_here", 8)]) (N := ["_law_rows", "_law_classes_here", "_law_turn", "_law_signs", "_law_row", "_law_kinds", "_law_sign", "_law_finer", "_law_item_here"]) (sc := defScope sLClasses) (by decide +kernel)) (fun _ _ _ _ _ => (pg_name (i := 8) scLClasses.nd rfl (by first | exact Or.inl rfl | exact Or.inr rfl))) (fun _ _ _ _ _ => pts_nil) (fun _ _ _ _ _ => (pe_ifExp (pt_cmpR op_eq (pe_ix (ixt K) (pv 8) pe_int (fun _ _ => rfl)) pe_str (nomark _)) (pe_tup (pa_cons pe_str (pa_cons (pe_ix (ixl K) (pv 1) (pe_ix (ixt K) (pv 8) pe_int (fun _ _ => rfl)) (fun _ _ => rfl)) pa_nil))) (pv 8)))) pa_nil)))))
        (pss_cons (ps_set (i := 5) scLClasses.nd rfl (by first | exact Or.inl rfl | exact Or.inr rfl) (pe_lst pa_nil))
        (pss_cons (ps_for PassesOwn.never rfl (pi_list (pv 3)) (pg_name (i := 6) scLClasses.nd rfl (by first | exact Or.inl rfl | exact Or.inr rfl))
          (pss_one (ps_if (pt_cmpR (ninD K hr) (pv 6) (pv 5) (by rfl))
            (pss_one (ps_expr (pe_bm PySem.F.plainAttrs_list PySem.F.slot_list_append PySem.F.type_list_append mt_append (pv 5) (pa_cons (pv 6) pa_nil)))) pss_nil)))
        (pss_cons (ps_setLc (i := 7) (own := [("_law_sign", 6)]) (g := (gName 6)) (tt := tYes) rfl scLClasses.nd rfl rfl (sw_true rfl rfl rfl (by decide +kernel)) (pi_list (pv 3)) (blkOk_by (own := [("_law_sign", 6)]) (N := ["_law_rows", "_law_classes_here", "_law_turn", "_law_signs", "_law_row", "_law_kinds", "_law_sign", "_law_finer", "_law_item_here"]) (sc := defScope sLClasses) (by decide +kernel)) (fun _ _ _ _ _ => (pg_name (i := 6) scLClasses.nd rfl (by first | exact Or.inl rfl | exact Or.inr rfl))) (fun _ _ _ _ _ => pts_nil) (fun _ _ _ _ _ => (bmK K PySem.F.plainAttrs_list PySem.F.slot_list_index PySem.F.type_list_index (ixD K hr) (pv 5) (pa_cons (pv 6) pa_nil))))
        (pss_cons (ps_if (pt_cmpR (eqD K hr) (pv 7) (pv 1) (nomark _))
          (pss_one ps_break) pss_nil)
        (pss_one (ps_set (i := 1) scLClasses.nd rfl (by first | exact Or.inl rfl | exact Or.inr rfl) (pv 7))))))))))
      (pss_one (ps_ret (pv 1))))), ?_⟩
    obtain ⟨ha, pr⟩ := id hR
    have lu := Paired.length pr
    have few := ok.few
    have sz : (5000 : Nat) < sizeLine := by decide
    refine ⟨_, rfl, a, rfl, ⟨_, .of ha⟩, fun D0 hD0 => ?_⟩
    refine lc_it walk_list (fun i H' => Same H H' ∧ H' D0 = some (.lst (nsV (List.replicate i 0)))) ⟨Same.new hD0, upd_same⟩ (fun i H' _ q => .of (q.1 _ _ ha)) ?_ ?_
    · rintro i x _ H1 hi ⟨s1, h1⟩ ⟨rfl, hx⟩
      rw [List.length_map] at hi
      refine ⟨rfl, yes_then ?_⟩
      exact ⟨_, h1, by rw [List.length_map, List.length_replicate]; omega, s1.mut hD0, by rw [upd_same, List.replicate_succ', nsV_app]; rfl⟩
    rintro H0 ⟨s0, h0⟩
    rw [List.length_map, lu] at h0
    refine ⟨_, rfl, a, rfl, ⟨_, .of (s0 _ _ ha)⟩, ?_⟩
    refine for_it walk_list (fun i σ H' => ∃ (c : Addr) (v2 v3 v4 v5 v6 v7 : Option V), σ = [some (.ref a), some (.ref c), v2, v3, v4, v5, v6, v7, none] ∧ H' c = some (.lst (nsV (clsN R i))) ∧ Same H H') ⟨D0, none, none, none, none, none, none, rfl, h0, s0⟩ (fun i σ H' _ q => by
      obtain ⟨_, _, _, _, _, _, _, _, _, s⟩ := q
      exact .of (s _ _ ha)) ?_ ?_
    · rintro i x σ _ H1 hi ⟨c, v2, v3, v4, v5, v6, v7, rfl, hc, s1⟩ ⟨rfl, hx⟩
      have lc : (clsN R i).length = R.length := clsN_len R i
      have hstep : clsN R (i + 1) = fin R (clsN R i) := rfl
      generalize hcl : clsN R i = cls at hc lc hstep
      refine ⟨(by show 0 ≤ sizeLine; decide), fun sg nsg => ?_⟩
      have s2 : Same H1 (upd H1 sg (.lst [])) := Same.new nsg
      have nsg0 : H sg = none := s1.free nsg
      have wk : WdR (R.map (ptRow cls)) := pt_wd wd cls
      have lk : (R.map (ptRow cls)).length = R.length := List.length_map ..
      refine ⟨_, rfl, a, rfl, ⟨_, .of (s2 _ _ (s1 _ _ ha))⟩, ?_⟩
      refine for_it walk_list (fun j σ H' => ∃ (v4 : Option V) (ws : List Addr), σ = [some (.ref a), some (.ref c), some x, some (.ref sg), v4, v5, v6, v7, none] ∧ Same H1 H' ∧ H' sg = some (.lst (ws.map V.ref)) ∧ ws.length = j ∧ (∀ u ∈ ws, u ≠ sg) ∧ Paired (RowL K H') ws ((R.map (ptRow cls)).take j)) ⟨v4, [], rfl, s2, upd_same, rfl, by simp, .nil⟩ (fun j σ H' _ q => by
        obtain ⟨_, _, _, s, _⟩ := q
        exact .of (s _ _ (s1 _ _ ha))) ?_ ?_
      · rintro j y σ _ H2 hj ⟨v4, ws, rfl, s3, h3, l3, n3, p3⟩ ⟨rfl, hy⟩
        rw [List.getElem?_map] at hy
        obtain ⟨u, hu, rfl⟩ := Option.map_eq_some_iff.mp hy
        obtain ⟨row, hrow, ts, q1, q2⟩ := paired_get pr hu
        rw [List.length_map] at hj
        have rm := List.mem_of_getElem? hrow
        have rl := ok.row row rm
        have s13 := s1.trans s3
        have q1' := s13 _ _ q1
        have lt := Paired.length q2
        refine ⟨_, rfl, .inl ⟨rfl, _, .of h3⟩, _, rfl, u, rfl, ⟨_, .of q1'⟩, fun D nD => ?_⟩
        refine lc_it walk_list (fun m H' => Same H2 H' ∧ ∃ us : List Addr, H' D = some (.lst (us.map V.ref)) ∧ us.length = m ∧ Paired (ItA K H') us ((row.take m).map (ptI fun i => cls.getD i 0))) ⟨Same.new nD, [], upd_same, rfl, .nil⟩ (fun m H' _ q => .of (q.1 _ _ q1')) ?_ ?_
        · rintro m z _ H3 hm ⟨s4, us4, h4, l4, p4⟩ ⟨rfl, hz⟩
          rw [List.getElem?_map] at hz
          obtain ⟨t, ht0, rfl⟩ := Option.map_eq_some_iff.mp hz
          obtain ⟨it, hit, sq⟩ := paired_get q2 ht0
          rw [List.length_map, lt] at hm
          have tk : row.take (m + 1) = row.take m ++ [it] := by rw [List.take_add_one, hit]; rfl
          have sq1 : SqT K H3 t (itV it) := s4.tup (s13.tup sq)
          refine ⟨rfl, yes_then ?_⟩
          have fnn : ∀ t2 H4, Same H3 H4 → ItA K H4 t2 (ptI (fun i => cls.getD i 0) it) → ∃ acc, H4 D = some (.lst acc) ∧ acc.length < sizeLine ∧ (Same H2 (upd H4 D (.lst (acc ++ [.ref t2]))) ∧ ∃ us : List Addr, (upd H4 D (.lst (acc ++ [.ref t2]))) D = some (.lst (us.map V.ref)) ∧ us.length = m + 1 ∧ Paired (ItA K (upd H4 D (.lst (acc ++ [.ref t2])))) us ((row.take (m + 1)).map (ptI fun i => cls.getD i 0))) := fun t2 H4 s5 it2 => by
            have h5 := s5 _ _ h4
            have pn : SameN H4 (upd H4 D (.lst (us4.map V.ref ++ [.ref t2]))) := SameN.refl.put h5
            refine ⟨_, h5, by rw [List.length_map, l4]; omega, (s4.trans s5).mut nD, us4 ++ [t2], by rw [upd_same, List.map_append]; rfl, by rw [List.length_append, l4]; rfl, ?_⟩
            rw [tk, List.map_append]
            exact paired_snoc (paired_same p4 fun _ _ q => (q.same s5).sameN pn) (it2.sameN pn)
          by_cases isn : ∃ j, it = .nd j
          · obtain ⟨j2, rfl⟩ := isn
            refine ⟨_, rfl, t, _, (0 : Nat), _, rfl, rfl, sq1, rfl, rfl, _, rfl, ite2 (fun _ => ?_) fun e => absurd (decide_eq_true rfl) e⟩
            refine ⟨_, rfl, _, rfl, t, _, (1 : Nat), _, rfl, rfl, sq1, rfl, c, _, (j2 : Nat), _, rfl, rfl, .of (s4 _ _ (s3 _ _ hc)), nsV_at (by rw [lc]; exact ok.nd row rm j2 (List.mem_of_getElem? hit)), (by show 2 ≤ sizeLine; decide), fun t2 nt2 => ?_⟩
            exact fnn t2 _ (Same.new nt2) (.of upd_same)
          · obtain ⟨tg, rest, e1, e2⟩ := it_tag it
            have sq2 := sq1
            rw [e1] at sq2
            refine ⟨_, rfl, t, _, (0 : Nat), _, rfl, rfl, sq2, atI_nat rfl, rfl, _, rfl, ite2 (fun e => absurd (e2.mp (V.str.inj (of_decide_eq_true e))) isn) fun _ => ?_⟩
            refine ⟨_, rfl, ?_⟩
            have ep : ptI (fun i => cls.getD i 0) it = it := by
              cases it with
              | nd j => exact absurd ⟨j, rfl⟩ isn
              | _ => rfl
            exact fnn t H3 (Same.refl _) (by rw [ep]; exact sq1)
        · rintro H3 ⟨s4, us4, h4, l4, p4⟩
          rw [List.length_map, lt, List.take_length] at p4
          have h5 := s4 _ _ h3
          have Dsg : D ≠ sg := ne_none nD h3
          have nD0 : H1 D = none := s3.free nD
          refine ⟨sg, _, _, rfl, rfl, h5, by rw [List.length_map]; omega, ?_⟩
          refine ⟨_, ws ++ [D], rfl, (s3.trans s4).mut nsg, by rw [upd_same, List.map_append]; rfl, by rw [List.length_append, l3]; rfl, fun z hz => ?_, ?_⟩
          · rcases List.mem_append.mp hz with q | q
            · exact n3 z q
            · rw [List.mem_singleton.mp q]; exact Dsg
          · have hk : (R.map (ptRow cls))[j]? = some (ptRow cls row) := by rw [List.getElem?_map, hrow]; rfl
            rw [List.take_add_one, hk]
            exact paired_snoc (paired_same (paired_mem p3) fun z _ zz => (zz.1.same s4).put h5 (n3 z zz.2)) (RowL.put (u := D) (row := ptRow cls row) ⟨us4, h4, p4⟩ h5 Dsg)
      · rintro σ H2 ⟨v4, ws, rfl, s3, h3, l3, n3, p3⟩
        rw [List.length_map, lu, ← lk, List.take_length] at p3
        rw [List.length_map, lu] at l3
        have hfin : numK (R.map (ptRow cls)) = fin R cls := rfl
        have lkk := lk
        generalize hkeys : R.map (ptRow cls) = keys at p3 wk hfin lkk
        have s13 := s1.trans s3
        refine ⟨(by show 0 ≤ sizeLine; decide), fun kd nkd => ?_⟩
        have s4 : Same H2 (upd H2 kd (.lst [])) := Same.new nkd
        refine ⟨_, rfl, sg, rfl, ⟨_, .of (s4 _ _ h3)⟩, ?_⟩
        refine for_it walk_list (fun j σ H' => ∃ (v6 : Option V) (ks : List Addr), σ = [some (.ref a), some (.ref c), some x, some (.ref sg), v4, some (.ref kd), v6, v7, none] ∧ Same H2 H' ∧ H' kd = some (.lst (ks.map V.ref)) ∧ Paired (RowL K H2) ks (dd [] (keys.take j))) ⟨v6, [], rfl, s4, upd_same, .nil⟩ (fun j σ H' _ q => by
          obtain ⟨_, _, _, s, _⟩ := q
          exact .of (s _ _ h3)) ?_ ?_
        · rintro j y σ _ H3 hj ⟨v6, ks, rfl, s5, h5, p5⟩ ⟨rfl, hy⟩
          rw [List.getElem?_map] at hy
          obtain ⟨u, hu, rfl⟩ := Option.map_eq_some_iff.mp hy
          obtain ⟨r, hrow, ru⟩ := paired_get p3 hu
          rw [List.length_map] at hj
          have tk : keys.take (j + 1) = keys.take j ++ [r] := by rw [List.take_add_one, hrow]; rfl
          have lk5 := Paired.length p5
          have ld : (dd [] (keys.take j)).length ≤ 1000 := by
            have q := nodup_le (dd_nd (keys.take j) [] List.nodup_nil) (m := keys) fun k hk => (dd_sub hk).elim (fun h => nomatch h) fun m => List.mem_of_mem_take m
            omega
          refine ⟨_, rfl, _, rfl, _, _, dp_rw (ru.same s5), .lst (.of h5) (dpPair p5 fun _ _ q => dp_rw (q.same s5)), (sh_rw (wk r (List.mem_of_getElem? hrow))).sh, (sh_rs (dd_wd (take_wd wk j))).sh, _, rfl, ?_⟩
          rw [any_rw]
          by_cases cm : r ∈ dd [] (keys.take j)
          · rw [decide_eq_true cm]
            refine iteF ⟨_, ks, rfl, s5, h5, ?_⟩
            rw [tk, dd_snoc, if_pos cm]; exact p5
          · rw [decide_eq_false cm]
            refine iteT ⟨_, rfl, .inl ⟨rfl, _, .of h5⟩, _, rfl, kd, _, _, rfl, rfl, h5, by rw [List.length_map]; omega, ?_⟩
            refine ⟨_, ks ++ [u], rfl, s5.mut nkd, by rw [upd_same, List.map_append]; rfl, ?_⟩
            rw [tk, dd_snoc, if_neg cm]
            exact paired_snoc p5 ru
        · rintro σ H3 ⟨v6, ks, rfl, s5, h5, p5⟩
          rw [List.length_map, l3, ← lkk, List.take_length] at p5
          have h3' := s5 _ _ h3
          refine ⟨_, rfl, sg, rfl, ⟨_, .of h3'⟩, fun D nD => ?_⟩
          refine lc_it walk_list (fun j H' => Same H3 H' ∧ H' D = some (.lst (nsV ((keys.take j).map fun r => ixG r (dd [] keys))))) ⟨Same.new nD, upd_same⟩ (fun j H' _ q => .of (q.1 _ _ h3')) ?_ ?_
          · rintro j y _ H4 hj ⟨s6, h6⟩ ⟨rfl, hy⟩
            rw [List.getElem?_map] at hy
            obtain ⟨u, hu, rfl⟩ := Option.map_eq_some_iff.mp hy
            obtain ⟨r, hrow, ru⟩ := paired_get p3 hu
            rw [List.length_map] at hj
            have rm := List.mem_of_getElem? hrow
            have tk : keys.take (j + 1) = keys.take j ++ [r] := by rw [List.take_add_one, hrow]; rfl
            have s56 := s5.trans s6
            have rd : r ∈ dd [] keys := dd_mem rm
            refine ⟨rfl, yes_then ?_⟩
            refine ⟨_, rfl, .inl ⟨rfl, _, .of (s6 _ _ h5)⟩, _, rfl, kd, _, _, _, ixG r (dd [] keys), rwD r, rfl, rfl, .lst (.of (s6 _ _ h5)) (dpPair p5 fun _ _ q => dp_rw (q.same s56)), dp_rw (ru.same s56), (sh_rs (dd_wd wk)).sh, (sh_rw (wk r rm)).sh, ?_, ?_, ?_, ?_⟩
            · rw [List.getElem?_map, ixG_at rd]; rfl
            · rw [eqv_rw]; exact decide_eq_true rfl
            · intro m z' hm hz
              rw [List.getElem?_map] at hz
              obtain ⟨z0, hz0, rfl⟩ := Option.map_eq_some_iff.mp hz
              rw [eqv_rw]
              exact decide_eq_false (ixG_first hm hz0)
            · refine ⟨_, h6, by rw [List.length_map, List.length_map, List.length_take]; omega, s6.mut nD, ?_⟩
              rw [upd_same, tk, List.map_append, nsV_app]; rfl
          · rintro H4 ⟨s6, h6⟩
            rw [List.length_map, l3, ← lkk, List.take_length] at h6
            have h6 : H4 D = some (.lst (nsV (fin R cls))) := by rw [← hfin]; exact h6
            have s16 := s13.trans (s5.trans s6)
            have hc6 := s6 _ _ (s5 _ _ (s3 _ _ hc))
            refine ⟨_, rfl, _, rfl, _, _, dp_nsV h6, dp_nsV hc6, sh_nsV _, sh_nsV _, _, rfl, ?_⟩
            rw [eqv_nsV]
            by_cases e : fin R cls = cls
            · rw [decide_eq_true e]
              refine iteT ⟨_, rfl, k c H4 ?_ s16⟩
              rw [hc6, ← hcl]
              rw [← cls_fix ok.nd (k := i) (by rw [hstep, hcl]; exact e)]
            · rw [decide_eq_false e]
              refine iteF ⟨_, rfl, D, _, _, _, _, _, _, rfl, ?_, s16⟩
              rw [hstep]; exact h6
    · rintro σ H1 ⟨c, v2, v3, v4, v5, v6, v7, rfl, hc, s1⟩
      rw [List.length_map, lu] at hc
      exact ⟨_, rfl, k c H1 hc s1⟩
end
end Mf
namespace Mf
open PySem L2
theorem visN_app (c : List Nat) : ∀ (as bs fd : List Nat), visN c fd (as ++ bs) = visN c (visN c fd as) bs
  | [], _, _ => rfl
  | a :: as, bs, fd => visN_app c as bs _
theorem visN_pre (c : List Nat) : ∀ (is fd : List Nat), ∃ e, visN c fd is = fd ++ e
  | [], fd => ⟨[], (List.append_nil _).symm⟩
  | i :: is, fd => by
    obtain ⟨e1, h1⟩ := put_pre c fd i
    obtain ⟨e2, h2⟩ := visN_pre c is (if cl c i ∈ fd.map (cl c) then fd else fd ++ [i])
    exact ⟨e1 ++ e2, by show visN c _ is = _; rw [h2, h1, List.append_assoc]⟩
theorem growN_pre (R : List (List Itm)) (c : List Nat) : ∀ (n at_ : Nat) (fd : List Nat), ∃ e, growN R c n at_ fd = fd ++ e
  | 0, _, fd => ⟨[], (List.append_nil _).symm⟩
  | n + 1, at_, fd => by
    rw [growN_succ]
    cases fd[at_]? with
    | none => exact ⟨[], (List.append_nil _).symm⟩
    | some i =>
      obtain ⟨e1, h1⟩ := visN_pre c (nds (R.getD i [])) fd
      obtain ⟨e2, h2⟩ := growN_pre R c n (at_ + 1) (visN c fd (nds (R.getD i [])))
      exact ⟨e1 ++ e2, by
        show growN R c n (at_ + 1) _ = _
        rw [h2, h1, List.append_assoc]⟩
theorem visN_ok {n : Nat} {c : List Nat} : ∀ {is fd : List Nat}, FdOk n c fd → (∀ i ∈ is, i < n) → FdOk n c (visN c fd is)
  | [], _, h, _ => h
  | x :: is, fd, h, l => by
    show FdOk n c (visN c (if cl c x ∈ fd.map (cl c) then fd else fd ++ [x]) is)
    exact visN_ok (h.put (l _ List.mem_cons_self)) fun i hi => l i (List.mem_cons_of_mem _ hi)
theorem nds_app (a b : List Itm) : nds (a ++ b) = nds a ++ nds b := by unfold nds; rw [List.filterMap_append]
theorem inV_nat {x : Nat} {cs : List Nat} : inV (.int (x : Nat)) (nsV cs) = decide (x ∈ cs) := by
  unfold inV
  induction cs with
  | nil => rfl
  | cons y ys ih =>
    unfold nsV at ih ⊢
    rw [List.map_cons, List.any_cons, ih]
    show (((y : Int) == (x : Int)) || _) = _
    by_cases h : y = x
    · subst h; simp
    · have h' : ¬ x = y := fun e => h e.symm
      have h2 : ((y : Int) == (x : Int)) = false := beq_false_of_ne fun q => h (Int.ofNat.inj q)
      rw [h2]
      simp [h']
theorem flat_ns (cs : List Nat) : (nsV cs).all flatV = true := List.all_eq_true.mpr fun v hv => by
  obtain ⟨i, _, rfl⟩ := List.mem_map.mp hv
  rfl
def muR : L2.St → Hp → Nat := fun σ H => match σ[3]? with
  | some (some (V.ref a)) => match H a with
    | some (.lst vs) => 100000 - vs.length
    | _ => 0
  | _ => 0
theorem muR_at {σ : L2.St} {H : Hp} {a : Addr} {vs : List V} (h1 : σ[3]? = some (some (V.ref a))) (h2 : H a = some (.lst vs)) : muR σ H = 100000 - vs.length := by
  unfold muR
  rw [h1]
  simp only
  rw [h2]
section
variable {P : Program} {w : World} {K : PySem.W.Frag} {mg : Str → Option Value} {base : Heap}
/-! ### _law_canonical -/
def spLCanon (K : PySem.W.Frag) : Sp := fun vs H Q _ => ∃ (a : Addr) (us : List Addr) (R : List (List Itm)), vs = [.ref a] ∧ LisR K H a us R ∧ RwOk R ∧ WdR R ∧ R ≠ [] ∧ ∀ D ws H', H D = none → LisR K H' D ws (canonN R 0) → (∀ u ∈ ws, u ≠ D ∧ H u = none) → Same H H' → Q (.ref D) H'
abbrev sCanonical : Stmt := top 38
theorem scCanonical : FnScope ["_law_rows", "_law_classes_here", "_law_order", "_law_result", "_law_row", "_law_item_here", "_law_seen", "_law_each"] ["_law_rows"] (defScope sCanonical) := ⟨rfl, rfl, rfl, by decide +kernel, rfl, by decide +kernel, by decide +kernel⟩
set_option maxHeartbeats 2000000 in
theorem ok_lcanon {f : Addr} {fd : FuncData} (F : Fun K "_law_canonical" "_law_canonical" sCanonical f fd) (mLen : mg "len" = none) (c_classes : Cal P w K mg base CX0 2 "_law_classes" ["_law_rows"] (spLClasses K)) : FnOk P w K mg base CX0 3 f fd ["_law_rows"] (spLCanon K) := by
  refine F.ok scCanonical (fun vs H Q E h => ?_) (fun cdv A outer s H vs Q E hr h => ?_)
  · obtain ⟨a, us, R, rfl, _⟩ := h
    rfl
  · obtain ⟨a, us, R, rfl, hR, ok, wd, ne, k⟩ := h
    have hr_classes := hr
    refine ⟨_, (pss_cons (ps_set (i := 1) scCanonical.nd rfl (by first | exact Or.inl rfl | exact Or.inr rfl) (pe_cal c_classes hr_classes pass0 (pa_cons (pv 0) pa_nil)))
      (pss_cons (ps_set (i := 2) scCanonical.nd rfl (by first | exact Or.inl rfl | exact Or.inr rfl) (pe_lst (pa_cons pe_int pa_nil)))
      (pss_cons (ps_set (i := 3) scCanonical.nd rfl (by first | exact Or.inl rfl | exact Or.inr rfl) (pe_lst pa_nil))
      (pss_cons (ps_while PassesOwn.never (pt_cmpR op_lt (pe_callB (k_len K) (by rfl) mLen (by decide +kernel) (pa_cons (pv 3) pa_nil)) (pe_callB (k_len K) (by rfl) mLen (by decide +kernel) (pa_cons (pv 2) pa_nil)) (nomark _))
        (pss_cons (ps_set (i := 4) scCanonical.nd rfl (by first | exact Or.inl rfl | exact Or.inr rfl) (pe_lst pa_nil))
        (pss_cons (ps_for PassesOwn.never rfl (pi_list (pe_ix (ixl K) (pv 0) (pe_ix (ixl K) (pv 2) (pe_callB (k_len K) (by rfl) mLen (by decide +kernel) (pa_cons (pv 3) pa_nil)) (fun _ _ => rfl)) (fun _ _ => rfl))) (pg_name (i := 5) scCanonical.nd rfl (by first | exact Or.inl rfl | exact Or.inr rfl))
          (pss_one (ps_if (pt_cmpR op_ne (pe_ix (ixt K) (pv 5) pe_int (fun _ _ => rfl)) pe_str (nomark _))
            (pss_one (ps_expr (pe_bm PySem.F.plainAttrs_list PySem.F.slot_list_append PySem.F.type_list_append mt_append (pv 4) (pa_cons (pv 5) pa_nil)))) (pss_cons (ps_setLc (i := 6) (own := [("_law_each", 7)]) (g := (gName 7)) (tt := tYes) rfl scCanonical.nd rfl rfl (sw_true rfl rfl rfl (by decide +kernel)) (pi_list (pv 2)) (blkOk_by (own := [("_law_each", 7)]) (N := ["_law_rows", "_law_classes_here", "_law_order", "_law_result", "_law_row", "_law_item_here", "_law_seen", "_law_each"]) (sc := defScope sCanonical) (by decide +kernel)) (fun _ _ _ _ _ => (pg_name (i := 7) scCanonical.nd rfl (by first | exact Or.inl rfl | exact Or.inr rfl))) (fun _ _ _ _ _ => pts_nil) (fun _ _ _ _ _ => (pe_ix (ixl K) (pv 1) (pv 7) (fun _ _ => rfl))))
            (C8.pss_cut (ps_if (pt_cmpR (nin K) (pe_ix (ixl K) (pv 1) (pe_ix (ixt K) (pv 5) pe_int (fun _ _ => rfl)) (fun _ _ => rfl)) (pv 6) (by rfl))
              (pss_cons (ps_expr (pe_bm PySem.F.plainAttrs_list PySem.F.slot_list_append PySem.F.type_list_append mt_append (pv 2) (pa_cons (pe_ix (ixt K) (pv 5) pe_int (fun _ _ => rfl)) pa_nil)))
              (pss_one (ps_expr (pe_bm PySem.F.plainAttrs_list PySem.F.slot_list_append PySem.F.type_list_append mt_append (pv 6) (pa_cons (pe_ix (ixl K) (pv 1) (pe_ix (ixt K) (pv 5) pe_int (fun _ _ => rfl)) (fun _ _ => rfl)) pa_nil))))) pss_nil)
            (pss_one (ps_expr (pe_bm PySem.F.plainAttrs_list PySem.F.slot_list_append PySem.F.type_list_append mt_append (pv 4) (pa_cons (pe_tup (pa_cons pe_str (pa_cons (pe_bm PySem.F.plainAttrs_list PySem.F.slot_list_index PySem.F.type_list_index mt_index (pv 6) (pa_cons (pe_ix (ixl K) (pv 1) (pe_ix (ixt K) (pv 5) pe_int (fun _ _ => rfl)) (fun _ _ => rfl)) pa_nil)) pa_nil))) pa_nil)))))))))
        (pss_one (ps_expr (pe_bm PySem.F.plainAttrs_list PySem.F.slot_list_append PySem.F.type_list_append mt_append (pv 3) (pa_cons (pv 4) pa_nil)))))))
      (pss_one (ps_ret (pv 3))))))), ?_⟩
    obtain ⟨ha, pr⟩ := id hR
    have lu := Paired.length pr
    have few := ok.few
    have sz : (5000 : Nat) < sizeLine := by decide
    have R0 : 0 < R.length := List.length_pos_iff.mpr ne
    refine ⟨_, rfl, a, us, R, rfl, hR, ok, wd, fun C H1 hC s1 => ?_⟩
    have lE : (clsE R).length = R.length := clsN_len R _
    have ecan : canonN R 0 = (foundN R (clsE R) 0).map fun i => numRow (clsE R) (foundN R (clsE R) 0) (R.getD i []) := rfl
    generalize hcE : clsE R = c at hC lE ecan
    generalize hF : foundN R c 0 = fin at ecan
    refine ⟨(by show 1 ≤ sizeLine; decide), fun O hO => ?_⟩
    refine ⟨(by show 0 ≤ sizeLine; decide), fun D hD => ?_⟩
    have hO2 : (upd (upd H1 O (.lst [.int 0])) D (.lst [])) O = some (.lst (nsV [0])) := (Same.new hD) _ _ upd_same
    have DO : D ≠ O := ne_none hD upd_same
    have nO : H1 O = none := hO
    have nD : H1 D = none := (Same.new (o := .lst [.int 0]) hO).free hD
    have s2 : Same H1 (upd (upd H1 O (.lst [.int 0])) D (.lst [])) := (Same.new hO).trans (Same.new hD)
    have fd0 : FdOk R.length c [0] := ⟨List.nodup_cons.mpr ⟨by simp, List.nodup_nil⟩, fun i hi => by rw [List.mem_singleton.mp hi]; exact R0⟩
    refine while_by (fun σ H' => ∃ (fd : List Nat) (n : Nat) (ws : List Addr) (v4 v5 v6 : Option V), σ = [some (.ref a), some (.ref C), some (.ref O), some (.ref D), v4, v5, v6, none] ∧ H' O = some (.lst (nsV fd)) ∧ H' D = some (.lst (ws.map V.ref)) ∧ ws.length = n ∧ (∀ u ∈ ws, u ≠ D ∧ u ≠ O ∧ H1 u = none) ∧
        FdOk R.length c fd ∧ n ≤ fd.length ∧ growN R c (R.length + 1 - n) n fd = fin ∧ Paired (RowL K H') ws ((fd.take n).map fun i => numRow c fin (R.getD i [])) ∧ Same H1 H') muR
      ⟨[0], 0, [], none, none, none, rfl, hO2, upd_same, rfl, by simp, fd0, Nat.zero_le _, hF, .nil, s2⟩ ?_ ?_
    · rintro σ H3 ⟨fd, n, ws, v4, v5, v6, rfl, hO3, hD3, l3, f3, fo, ln, gr, p3, s3⟩
      have fl := fo.few
      refine ⟨_, rfl, D, _, rfl, .inl (.of hD3), _, rfl, O, _, rfl, .inl (.of hO3), _, _, rfl, rfl, _, rfl, ?_⟩
      rw [List.length_map, List.length_map, l3]
      by_cases lt : n < fd.length
      · rw [decide_eq_true (by omega : ((n : Nat) : Int) < (fd.length : Nat))]
        refine iteT ?_
        have hi := List.getElem?_eq_getElem lt
        generalize fd[n] = i0 at hi
        have i0l := fo.lt i0 (List.mem_of_getElem? hi)
        have hrow : R[i0]? = some R[i0] := List.getElem?_eq_getElem i0l
        have rg : R.getD i0 [] = R[i0] := by rw [List.getD_eq_getElem?_getD, hrow]; rfl
        generalize R[i0] = row at hrow rg
        obtain ⟨b, hb, ts, q1, q2⟩ := paired_at pr hrow
        have rm := List.mem_of_getElem? hrow
        have rl := ok.row row rm
        have lt2 := Paired.length q2
        have s03 := s1.trans s3
        have fm : (nsV fd)[n]? = some (.int (i0 : Nat)) := by rw [List.getElem?_map, hi]; rfl
        have gr' : growN R c (R.length + 1 - (n + 1)) (n + 1) (visN c fd (nds row)) = fin := by
          rw [show R.length + 1 - n = R.length + 1 - (n + 1) + 1 by omega, growN_succ, hi] at gr
          rw [← rg]; exact gr
        have ndlt : ∀ j ∈ nds row, j < R.length := fun j hj => ok.nd row rm j (nds_mem.mp hj)
        refine ⟨(by show 0 ≤ sizeLine; decide), fun W hW => ?_⟩
        have s4 : Same H3 (upd H3 W (.lst [])) := Same.new hW
        have WD : W ≠ D := ne_none hW hD3
        have WO : W ≠ O := ne_none hW hO3
        have nW : H1 W = none := s3.free hW
        refine ⟨_, rfl, _, rfl, _, rfl, D, _, rfl, .inl (.of (s4 _ _ hD3)), ?_⟩
        rw [List.length_map, l3]
        refine ⟨O, _, (n : Nat), _, rfl, rfl, .of (s4 _ _ hO3), atI_nat fm, ?_⟩
        refine ⟨a, _, (i0 : Nat), _, rfl, rfl, .of (s4 _ _ (s03 _ _ ha)), atI_nat (by rw [List.getElem?_map, hb]; rfl), ?_⟩
        refine ⟨b, rfl, ⟨_, .of (s4 _ _ (s03 _ _ q1))⟩, ?_⟩
        refine for_it walk_list (fun m σ H' => ∃ (v5 v6 : Option V) (xs : List Addr), σ = [some (.ref a), some (.ref C), some (.ref O), some (.ref D), some (.ref W), v5, v6, none] ∧ H' O = some (.lst (nsV (visN c fd (nds (row.take m))))) ∧ H' D = some (.lst (ws.map V.ref)) ∧ Paired (RowL K H') ws ((fd.take n).map fun i => numRow c fin (R.getD i [])) ∧
            H' W = some (.lst (xs.map V.ref)) ∧ xs.length = m ∧ Paired (ItA K H') xs ((numRow c fin row).take m) ∧ Same H1 H') ⟨v5, v6, [], rfl, s4 _ _ hO3, s4 _ _ hD3, paired_same p3 fun _ _ z => z.same s4, upd_same, rfl, .nil, s3.trans s4⟩ (fun m σ H' _ q => by
            obtain ⟨_, _, _, _, _, _, _, _, _, _, s⟩ := q
            exact .of (s _ _ (s1 _ _ q1))) ?_ ?_
        · rintro m y σ _ H5 hm ⟨v5, v6, xs, rfl, hO5, hD5, p5, hW5, lx, px, s5⟩ ⟨rfl, hy⟩
          rw [List.getElem?_map] at hy
          obtain ⟨t, ht, rfl⟩ := Option.map_eq_some_iff.mp hy
          obtain ⟨it, hit, sq⟩ := paired_get q2 ht
          rw [List.length_map, lt2] at hm
          have s05 := s1.trans s5
          have sq5 : SqT K H5 t (itV it) := s05.tup sq
          have tk : row.take (m + 1) = row.take m ++ [it] := by rw [List.take_add_one, hit]; rfl
          have hnk : (numRow c fin row)[m]? = some (ptI (fun j => ixG (cl c j) (fin.map (cl c))) it) := by unfold numRow; rw [List.getElem?_map, hit]; rfl
          have tkn : (numRow c fin row).take (m + 1) = (numRow c fin row).take m ++ [ptI (fun j => ixG (cl c j) (fin.map (cl c))) it] := by rw [List.take_add_one, hnk]; rfl
          -- the row's new item
          have app : ∀ t2 H6 (fd6 : List Nat) (v6 : Option V), visN c fd (nds (row.take (m + 1))) = fd6 → H6 O = some (.lst (nsV fd6)) → H6 D = some (.lst (ws.map V.ref)) → Paired (RowL K H6) ws ((fd.take n).map fun i => numRow c fin (R.getD i [])) → H6 W = some (.lst (xs.map V.ref)) → Paired (ItA K H6) xs ((numRow c fin row).take m) → Same H1 H6 →
              ItA K H6 t2 (ptI (fun j => ixG (cl c j) (fin.map (cl c))) it) → xs.length < sizeLine ∧ ∃ (v5' v6' : Option V) (xs' : List Addr), [some (.ref a), some (.ref C), some (.ref O), some (.ref D), some (.ref W), some (V.ref t), v6, none] = [some (.ref a), some (.ref C), some (.ref O), some (.ref D), some (.ref W), v5', v6', none] ∧ (upd H6 W (.lst (xs.map V.ref ++ [.ref t2]))) O = some (.lst (nsV (visN c fd (nds (row.take (m + 1)))))) ∧ (upd H6 W (.lst (xs.map V.ref ++ [.ref t2]))) D = some (.lst (ws.map V.ref)) ∧ Paired (RowL K (upd H6 W (.lst (xs.map V.ref ++ [.ref t2])))) ws ((fd.take n).map fun i => numRow c fin (R.getD i [])) ∧
              (upd H6 W (.lst (xs.map V.ref ++ [.ref t2]))) W = some (.lst (xs'.map V.ref)) ∧ xs'.length = m + 1 ∧ Paired (ItA K (upd H6 W (.lst (xs.map V.ref ++ [.ref t2])))) xs' ((numRow c fin row).take (m + 1)) ∧ Same H1 (upd H6 W (.lst (xs.map V.ref ++ [.ref t2]))) := by
            intro t2 H6 fd6 v6 e6 hO6 hD6 p6 hW6 px6 s6 it2
            have pn : SameN H6 (upd H6 W (.lst (xs.map V.ref ++ [.ref t2]))) := SameN.refl.put hW6
            refine ⟨by omega, _, _, xs ++ [t2], rfl, by rw [upd_ne (Ne.symm WO), e6]; exact hO6, by rw [upd_ne (Ne.symm WD)]; exact hD6, ?_, by rw [upd_same, List.map_append]; rfl, by rw [List.length_append, lx]; rfl, ?_, s6.mut nW⟩
            · refine paired_same (paired_mem p6) fun u r z => z.1.put hW6 fun e => ?_
              -- u is one of ws: it was there when W was new
              subst e
              obtain ⟨i, hi⟩ := List.mem_iff_getElem?.mp z.2
              obtain ⟨r3, _, ts3, z3, _⟩ := paired_get p3 hi
              rw [z3] at hW; cases hW
            · rw [tkn]
              exact paired_snoc (paired_same px6 fun _ _ z => z.sameN pn) (it2.sameN pn)
          by_cases isn : ∃ j, it = .nd j
          · obtain ⟨j, rfl⟩ := isn
            have jl := ok.nd row rm j (List.mem_of_getElem? hit)
            refine ⟨_, rfl, t, _, (0 : Nat), _, rfl, rfl, sq5, rfl, rfl, _, rfl, iteF ?_⟩
            refine ⟨_, rfl, O, rfl, ⟨_, .of hO5⟩, fun G nG => ?_⟩
            generalize hfd5 : visN c fd (nds (row.take m)) = fd5 at hO5
            have fo5 : FdOk R.length c fd5 := hfd5 ▸ visN_ok fo fun i hi => ndlt i (by
              rw [nds_mem] at hi ⊢
              exact List.mem_of_mem_take hi)
            have fl5 := fo5.few
            have hC5 := s5 _ _ hC
            refine lc_it walk_list (fun p H' => Same H5 H' ∧ H' G = some (.lst (nsV ((fd5.take p).map (cl c))))) ⟨Same.new nG, upd_same⟩ (fun p H' _ q => .of (q.1 _ _ hO5)) ?_ ?_
            · rintro p z _ H6 hp ⟨s6, h6⟩ ⟨rfl, hz⟩
              rw [List.getElem?_map] at hz
              obtain ⟨i, hi5, rfl⟩ := Option.map_eq_some_iff.mp hz
              refine ⟨rfl, yes_then ?_⟩
              refine ⟨_, rfl, _, rfl, C, _, (i : Nat), _, rfl, rfl, .of (s6 _ _ hC5), nsV_at (by rw [lE]; exact fo5.lt i (List.mem_of_getElem? hi5)), ?_⟩
              refine ⟨_, h6, by rw [List.length_map, List.length_map, List.length_take]; omega, s6.mut nG, ?_⟩
              rw [upd_same, List.take_add_one, hi5, Option.toList_some, List.map_append, nsV_app]; rfl
            · rintro H6 ⟨s6, h6⟩
              rw [List.length_map, List.take_length] at h6
              have hC6 := s6 _ _ hC5
              have hO6 := s6 _ _ hO5
              have cj : atI (nsV c) (j : Nat) = some (.int (cl c j : Nat)) := nsV_at (by rw [lE]; exact jl)
              have sq6 : SqT K H6 t (itV (.nd j)) := s6.tup sq5
              have GO : G ≠ O := ne_none nG hO5
              have GD : G ≠ D := ne_none nG hD5
              have GW : G ≠ W := ne_none nG hW5
              have OW : O ≠ W := Ne.symm WO
              have OD : O ≠ D := Ne.symm DO
              have ev : visN c fd (nds (row.take (m + 1))) = if cl c j ∈ fd5.map (cl c) then fd5 else fd5 ++ [j] := by rw [tk, nds_snoc_nd, visN_snoc, hfd5]
              have nG1 : H1 G = none := s5.free nG
              -- what is found later stands behind
              have pre : ∃ e, fin.map (cl c) = (visN c fd (nds (row.take (m + 1)))).map (cl c) ++ e := by
                obtain ⟨e1, h1⟩ := growN_pre R c (R.length + 1 - (n + 1)) (n + 1) (visN c fd (nds row))
                have split : nds row = nds (row.take (m + 1)) ++ nds (row.drop (m + 1)) := by rw [← nds_app, List.take_append_drop]
                rw [split, visN_app] at h1
                obtain ⟨e2, h2⟩ := visN_pre c (nds (row.drop (m + 1))) (visN c fd (nds (row.take (m + 1))))
                rw [h2] at h1
                refine ⟨e2.map (cl c) ++ e1.map (cl c), ?_⟩
                rw [← gr', split, visN_app, h2, h1, List.map_append, List.map_append, List.append_assoc]
              obtain ⟨pe, hpre⟩ := pre
              refine ⟨fun σ' H' => σ' = [some (.ref a), some (.ref C), some (.ref O), some (.ref D), some (.ref W), some (V.ref t), some (.ref G), none] ∧ H' G = some (.lst (nsV ((visN c fd (nds (row.take (m + 1)))).map (cl c)))) ∧ H' O = some (.lst (nsV (visN c fd (nds (row.take (m + 1)))))) ∧ H' C = some (.lst (nsV c)) ∧ SqT K H' t (itV (.nd j)) ∧ H' D = some (.lst (ws.map V.ref)) ∧ Paired (RowL K H') ws ((fd.take n).map fun i => numRow c fin (R.getD i [])) ∧ H' W = some (.lst (xs.map V.ref)) ∧ Paired (ItA K H') xs ((numRow c fin row).take m) ∧ Same H1 H', ?_, ?_⟩
              · refine ⟨_, rfl, _, rfl, t, _, (1 : Nat), _, rfl, rfl, sq6, rfl, C, _, (j : Nat), _, rfl, rfl, .of hC6, cj, _, rfl, G, _, rfl, .inl (.of h6), rfl, flat_ns _, _, rfl, ?_⟩
                show if (!inV (.int (cl c j : Nat)) (nsV (fd5.map (cl c)))) = true then _ else _
                rw [inV_nat]
                by_cases h : cl c j ∈ fd5.map (cl c)
                · rw [decide_eq_true h]
                  rw [if_pos h] at ev
                  rw [ev]
                  exact iteF ⟨rfl, h6, hO6, hC6, sq6, s6 _ _ hD5, paired_same p5 fun _ _ z => z.same s6, s6 _ _ hW5, paired_same px fun _ _ z => z.same s6, s5.trans s6⟩
                · rw [decide_eq_false h]
                  rw [if_neg h] at ev
                  rw [ev]
                  refine iteT ⟨_, rfl, .inl ⟨rfl, _, .of hO6⟩, _, rfl, t, _, (1 : Nat), _, rfl, rfl, sq6, rfl, O, _, _, rfl, rfl, hO6, by rw [List.length_map]; omega, ?_⟩
                  have OC : O ≠ C := ne_none nO hC
                  have GC : G ≠ C := ne_none nG hC5
                  have h7 : (upd H6 O (.lst (nsV fd5 ++ [.int (j : Nat)]))) G = some (.lst (nsV (fd5.map (cl c)))) := by rw [upd_ne GO]; exact h6
                  have hO7 : (upd H6 O (.lst (nsV fd5 ++ [.int (j : Nat)]))) O = some (.lst (nsV (fd5 ++ [j]))) := by rw [upd_same, nsV_app]; rfl
                  have n7 : SameN H6 (upd H6 O (.lst (nsV fd5 ++ [.int (j : Nat)]))) := SameN.refl.put hO6
                  have hC7 : (upd H6 O (.lst (nsV fd5 ++ [.int (j : Nat)]))) C = some (.lst (nsV c)) := by rw [upd_ne (Ne.symm OC)]; exact hC6
                  have hD7 : (upd H6 O (.lst (nsV fd5 ++ [.int (j : Nat)]))) D = some (.lst (ws.map V.ref)) := by rw [upd_ne DO]; exact s6 _ _ hD5
                  have hW7 : (upd H6 O (.lst (nsV fd5 ++ [.int (j : Nat)]))) W = some (.lst (xs.map V.ref)) := by rw [upd_ne WO]; exact s6 _ _ hW5
                  have p7 : Paired (RowL K (upd H6 O (.lst (nsV fd5 ++ [.int (j : Nat)])))) ws ((fd.take n).map fun i => numRow c fin (R.getD i [])) := paired_same (paired_mem p5) fun u _ z => (z.1.same s6).put hO6 (f3 u z.2).2.1
                  have px7 : Paired (ItA K (upd H6 O (.lst (nsV fd5 ++ [.int (j : Nat)])))) xs ((numRow c fin row).take m) := paired_same px fun _ _ z => (z.same s6).sameN n7
                  have sq7 := n7.tup sq6
                  have s17 : Same H1 (upd H6 O (.lst (nsV fd5 ++ [.int (j : Nat)]))) := (s5.trans s6).mut nO
                  generalize upd H6 O (.lst (nsV fd5 ++ [.int (j : Nat)])) = H7 at *
                  have n8 : SameN H7 (upd H7 G (.lst (nsV (fd5.map (cl c)) ++ [.int (cl c j : Nat)]))) := SameN.refl.put h7
                  refine ⟨_, rfl, .inl ⟨rfl, _, .of h7⟩, _, rfl, _, rfl, t, _, (1 : Nat), _, rfl, rfl, sq7, rfl, C, _, (j : Nat), _, rfl, rfl, .of hC7, cj, G, _, _, rfl, rfl, h7, by rw [List.length_map, List.length_map]; omega, rfl, ?_, by rw [upd_ne (Ne.symm GO)]; exact hO7, by rw [upd_ne (Ne.symm GC)]; exact hC7, n8.tup sq7, by rw [upd_ne (Ne.symm GD)]; exact hD7, ?_, by rw [upd_ne (Ne.symm GW)]; exact hW7, paired_same px7 fun _ _ z => z.sameN n8, s17.mut nG1⟩
                  · rw [upd_same, List.map_append, nsV_app]; rfl
                  · refine paired_same (paired_mem p7) fun u _ z => z.1.put h7 fun e => ?_
                    subst e
                    obtain ⟨i, hi⟩ := List.mem_iff_getElem?.mp z.2
                    obtain ⟨r3, _, ts3, z3, _⟩ := paired_get p5 hi
                    rw [z3] at nG; cases nG
              · rintro σ' H7 ⟨rfl, hG7, hO7, hC7, sq7, hD7, p7, hW7, px7, s7⟩
                have cm : cl c j ∈ (visN c fd (nds (row.take (m + 1)))).map (cl c) := by
                  rw [ev]
                  exact put_mem c fd5 j
                have fo7 : FdOk R.length c (visN c fd (nds (row.take (m + 1)))) := visN_ok fo fun i hi => ndlt i (by
                  rw [nds_mem] at hi ⊢
                  exact List.mem_of_mem_take hi)
                have fl7 := fo7.few
                have ixe : ixG (cl c j) (fin.map (cl c)) = ixG (cl c j) ((visN c fd (nds (row.take (m + 1)))).map (cl c)) := by rw [hpre, ixG_app _ cm]
                generalize hcs : (visN c fd (nds (row.take (m + 1)))).map (cl c) = cs at hG7 cm ixe
                refine ⟨_, rfl, .inl ⟨rfl, _, .of hW7⟩, _, rfl, .inl ⟨rfl, _, .of hG7⟩, _, rfl, _, rfl, t, _, (1 : Nat), _, rfl, rfl, sq7, rfl, C, _, (j : Nat), _, rfl, rfl, .of hC7, cj, ?_⟩
                refine ⟨G, _, _, ixG (cl c j) cs, .int (cl c j : Nat), rfl, rfl, .of hG7, rfl, flat_ns _, by rw [List.getElem?_map, ixG_at cm]; rfl, beq_self_eq_true _, fun p z' hp hz => ?_, (by show 2 ≤ sizeLine; decide), fun t2 nt2 => ?_⟩
                · rw [List.getElem?_map] at hz
                  obtain ⟨q, hq, rfl⟩ := Option.map_eq_some_iff.mp hz
                  exact beq_false_of_ne fun e => ixG_first hp hq (Int.ofNat.inj e)
                · have s8 := Same.new (o := .tup [.str "node", .int (ixG (cl c j) cs : Nat)]) nt2
                  obtain ⟨l, r⟩ := app t2 _ _ (some (.ref G)) rfl (s8 _ _ hO7) (s8 _ _ hD7) (paired_same p7 fun _ _ z => z.same s8) (s8 _ _ hW7) (paired_same px7 fun _ _ z => z.same s8) (s7.trans s8) (by
                    show ItA K _ t2 (.nd (ixG (cl c j) (fin.map (cl c))))
                    rw [ixe]
                    exact .of upd_same)
                  exact ⟨W, _, _, rfl, rfl, s8 _ _ hW7, by rw [List.length_map]; exact l, r⟩
          · obtain ⟨tg, rest, e1, e2⟩ := it_tag it
            have sq2 := sq5
            rw [e1] at sq2
            refine ⟨_, rfl, t, _, (0 : Nat), _, rfl, rfl, sq2, atI_nat rfl, rfl, _, rfl, ite2 (fun e => ?_) fun e => ?_⟩
            · have ep : ptI (fun j => ixG (cl c j) (fin.map (cl c))) it = it := by
                cases it with
                | nd j => exact absurd ⟨j, rfl⟩ isn
                | _ => rfl
              have e6 : visN c fd (nds (row.take (m + 1))) = visN c fd (nds (row.take m)) := by rw [tk, nds_snoc_no _ isn]
              obtain ⟨l, r⟩ := app t H5 _ v6 e6 hO5 hD5 p5 hW5 px s5 (by rw [ep]; exact sq5)
              exact ⟨_, rfl, .inl ⟨rfl, _, .of hW5⟩, _, rfl, W, _, _, rfl, rfl, hW5, by rw [List.length_map]; exact l, r⟩
            · exfalso
              exact e (by rw [decide_eq_false (fun q => isn (e2.mp (V.str.inj q)))]; rfl)
        · rintro σ H5 ⟨v5b, v6b, xs, rfl, hO5, hD5, p5, hW5, lx, px, s5⟩
          have ln2 : (numRow c fin row).length = row.length := by unfold numRow; rw [List.length_map]
          rw [List.length_map, lt2] at hO5 lx px
          rw [List.take_length] at hO5
          rw [← ln2, List.take_length] at px
          obtain ⟨e5, pre5⟩ := visN_pre c (nds row) fd
          have fo5 : FdOk R.length c (visN c fd (nds row)) := visN_ok fo ndlt
          refine ⟨_, rfl, .inl ⟨rfl, _, .of hD5⟩, _, rfl, D, _, _, rfl, rfl, hD5, by rw [List.length_map, l3]; omega, ⟨visN c fd (nds row), n + 1, ws ++ [W], _, _, _, rfl, by rw [upd_ne (Ne.symm DO)]; exact hO5, by rw [upd_same, List.map_append]; rfl, by rw [List.length_append, l3]; rfl, fun u hu => ?_, fo5, ?_, gr', ?_, s5.mut nD⟩, ?_⟩
          · rcases List.mem_append.mp hu with q | q
            · exact f3 u q
            · rw [List.mem_singleton.mp q]; exact ⟨WD, WO, nW⟩
          · rw [pre5, List.length_append]; omega
          · have t1 : (visN c fd (nds row)).take (n + 1) = fd.take n ++ [i0] := by
              rw [pre5, List.take_append_of_le_length (by omega), List.take_add_one, hi]; rfl
            rw [t1, List.map_append]
            refine paired_snoc (paired_same (paired_mem p5) fun u _ z => z.1.put hD5 (f3 u z.2).1) ?_
            show RowL K _ W (numRow c fin (R.getD i0 []))
            rw [rg]
            exact RowL.put (u := W) (row := numRow c fin row) ⟨xs, hW5, px⟩ hD5 WD
          · have m1 := muR_at (σ := [some (V.ref a), some (V.ref C), some (V.ref O), some (V.ref D), some (V.ref W), v5b, v6b, none]) (H := upd H5 D (.lst (ws.map V.ref ++ [.ref W]))) (a := D) (vs := ws.map V.ref ++ [.ref W]) rfl upd_same
            have m2 := muR_at (σ := [some (V.ref a), some (V.ref C), some (V.ref O), some (V.ref D), v4, v5, v6, none]) (H := H3) (a := D) rfl hD3
            rw [m1, m2, List.length_append, List.length_map, l3]
            show 100000 - (n + 1) < 100000 - n
            omega
      · rw [decide_eq_false (by omega : ¬ ((n : Nat) : Int) < (fd.length : Nat))]
        refine iteF ?_
        have efd : fd = fin := by
          rw [← gr, show R.length + 1 - n = R.length - n + 1 by omega, growN_succ, List.getElem?_eq_none (by omega)]
        refine ⟨_, rfl, k D ws H3 (s1.free nD) ⟨hD3, ?_⟩ (fun u hu => ⟨(f3 u hu).1, s1.free (f3 u hu).2.2⟩) (s1.trans s3)⟩
        rw [ecan, ← efd]
        rw [List.take_of_length_le (by omega), ← efd] at p3
        exact p3
    · rintro σ H' Q Q' m ⟨x, e1, a', xs, e2, h1, y, e3, b', ys, e4, h2, i, j, e5, e6, c', e7, q⟩
      exact ⟨x, e1, a', xs, e2, h1, y, e3, b', ys, e4, h2, i, j, e5, e6, c', e7, m _ _ q⟩
end
end Mf
namespace Mf
open PySem L2
theorem ItA.kp {K : PySem.W.Frag} {H H' : Hp} {a t : Addr} {it : Itm} {n : Nat} (x : ItA K H t it) (k : Kp a H H') (S : Src H a n) : ItA K H' t it := by
  obtain ⟨_, _, _, e, _⟩ := S
  rcases x with (h | ⟨o, h⟩) | h
  · exact .inl (.inl (k _ _ (ne_of h e (by intro z; cases z)) h))
  · exact .inl (.inr ⟨o, k _ _ (ne_of h e (by intro z; cases z)) h⟩)
  · exact .inr h
theorem RowL.kp {K : PySem.W.Frag} {H H' : Hp} {a u : Addr} {row : List Itm} {n : Nat} (x : RowL K H u row) (k : Kp a H H') (S : Src H a n) : RowL K H' u row := let ⟨ts, h1, h2⟩ := x; ⟨ts, k _ _ (refs_ne S h1) h1, paired_same h2 fun _ _ z => z.kp k S⟩
theorem LisR.kp {K : PySem.W.Frag} {H H' : Hp} {a p : Addr} {us : List Addr} {R : List (List Itm)} {n : Nat} (x : LisR K H p us R) (k : Kp a H H') (S : Src H a n) : LisR K H' p us R := ⟨k _ _ (refs_ne S x.1) x.1, paired_same x.2 fun _ _ z => z.kp k S⟩
theorem Kp.free' {a t : Addr} {H H' : Hp} {m : Nat} (x : Kp a H H') (h : H' t = none) (S' : Src H' a m) : H t = none := by
  cases e : H t with
  | none => rfl
  | some o =>
    have q := x t o (S'.ne h) e
    rw [h] at q; cases q
theorem numB_of {n : Int} (h : n.natAbs < 10 ^ 60) : numB n = true := decide_eq_true h
theorem p59 : ∃ M : Nat, (10 ^ 60 : Nat) = 10 * M ∧ (10 : Int) ^ (59 : Int).toNat = M ∧ (10 : Int) ^ (60 : Int).toNat = 10 * (M : Int) ∧ 1000000 < M ∧ (2 * M).log2 < 200 ∧ 2 * M < 2 ^ 200 := ⟨10 ^ 59, by decide +kernel, by decide +kernel, by decide +kernel, by decide +kernel, by decide +kernel, by decide +kernel⟩
theorem num3 {v : Int} (h0 : 0 ≤ v) (h : v < 3) : ∃ n : Int, atI [V.int 0, V.int 1, V.int 7] v = some (.int n) ∧ numB n = true := by
  have c : v = 0 ∨ v = 1 ∨ v = 2 := by omega
  rcases c with rfl | rfl | rfl
  · exact ⟨0, rfl, by decide +kernel⟩
  · exact ⟨1, rfl, by decide +kernel⟩
  · exact ⟨7, rfl, by decide +kernel⟩
theorem atI_strs {zs : List Str} {v : Int} (h0 : 0 ≤ v) (h : v < zs.length) : ∃ z ∈ zs, atI (zs.map V.str) v = some (.str z) := by
  obtain ⟨x, hx, e⟩ := atI_mem (xs := zs.map V.str) h0 (by rw [List.length_map]; exact h)
  obtain ⟨z, hz, rfl⟩ := List.mem_map.mp hx
  exact ⟨z, hz, e⟩
theorem itB_mono {c c' : Nat} (h : c ≤ c') {it : Itm} (b : itB c it = true) : itB c' it = true := by
  cases it with
  | nd i => exact decide_eq_true (Nat.lt_of_lt_of_le (of_decide_eq_true b) h)
  | _ => exact b
section
variable {P : Program} {w : World} {K : PySem.W.Frag} {mg : Str → Option Value} {base : Heap}
abbrev psD' : List Str := ["_law_source_here", "_law_many"]
/-! ### _law_number -/
def spLNum : Sp := fun vs H Q _ => ∃ (a : Addr) (m : Nat), vs = [.ref a] ∧ Src H a (m + 2) ∧ ∀ n H', numB n = true → Kp a H H' → Src H' a m → Q (.int n) H'
abbrev sNumber : Stmt := top 39
theorem scNumber : FnScope ["_law_source_here", "_law_digit"] ["_law_source_here"] (defScope sNumber) := ⟨rfl, rfl, rfl, by decide +kernel, rfl, by decide +kernel, by decide +kernel⟩
theorem ok_lnum {f : Addr} {fd : FuncData} (F : Fun K "_law_number" "_law_number" sNumber f fd) (c_draw : Cal P w K mg base CX0 1 "_law_draw" ["_law_source_here", "_law_many"] spDraw) : FnOk P w K mg base CX0 2 f fd ["_law_source_here"] spLNum := by
  refine F.ok scNumber (fun vs H Q E h => ?_) (fun cdv A outer s H vs Q E hr h => ?_)
  · obtain ⟨a, m, rfl, _⟩ := h
    rfl
  · obtain ⟨a, m, rfl, S, k⟩ := h
    have hr_draw := hr
    refine ⟨_, (pss_cons (ps_set (i := 1) scNumber.nd rfl (by first | exact Or.inl rfl | exact Or.inr rfl) (pe_cal c_draw hr_draw pass0 (pa_cons (pv 0) (pa_cons pe_int pa_nil))))
      (pss_cons (ps_if (pt_cmpR op_lt (pv 1) pe_int (nomark _))
        (pss_one (ps_ret (pe_ix (ixl K) (pe_lst (pa_cons pe_int (pa_cons pe_int (pa_cons pe_int pa_nil)))) (pv 1) (fun _ _ => rfl)))) pss_nil)
      (pss_cons (ps_if (pt_cmpR op_eq (pv 1) pe_int (nomark _))
        (pss_one (ps_ret (pe_op op_sub (pe_cal c_draw hr_draw pass0 (pa_cons (pv 0) (pa_cons (pe_op op_mul pe_int (pe_op op_pow pe_int pe_int)) pa_nil))) (pe_op op_pow pe_int pe_int)))) pss_nil)
      (pss_cons (ps_if (pt_cmpR op_eq (pv 1) pe_int (nomark _))
        (pss_one (ps_ret (pe_op op_sub (pe_op op_sub (pe_op op_pow pe_int pe_int) pe_int) (pe_cal c_draw hr_draw pass0 (pa_cons (pv 0) (pa_cons pe_int pa_nil)))))) pss_nil)
      (pss_one (ps_ret (pe_op op_sub (pe_op op_add (pe_cal c_draw hr_draw pass0 (pa_cons (pv 0) (pa_cons pe_int pa_nil))) pe_int) (pe_op op_pow pe_int pe_int)))))))), ?_⟩
    obtain ⟨M, e60, e59i, e60i, bM, _, b2⟩ := p59
    refine ⟨_, rfl, a, 6, m + 1, rfl, by decide, by decide, S, fun v H1 v0 v1 k1 S1 => ?_⟩
    refine ⟨_, rfl, _, _, rfl, rfl, _, rfl, ite2 (fun q => ?_) fun q => ?_⟩
    · have v3 := of_decide_eq_true q
      obtain ⟨n, e, b⟩ := num3 v0 v3
      refine ⟨(by show 3 ≤ sizeLine; decide), fun l hl => ⟨_, rfl, l, _, v, _, rfl, rfl, .of upd_same, e, k n _ b (k1.trans (Kp.new hl)) ((S1.mono (by omega)).new hl)⟩⟩
    · refine ⟨_, rfl, rfl, _, rfl, ite2 (fun q => ?_) fun q => ?_⟩
      · refine ⟨_, rfl, _, _, rfl, rfl, ⟨by decide, by decide, by decide⟩, _, _, rfl, rfl, .inl ⟨by decide, by decide⟩, ?_⟩
        rw [e59i]
        refine ⟨a, 2 * (M : Int), m, rfl, by omega, ?_, S1, fun u H2 u0 u1 k2 S2 => ?_⟩
        · rw [show (2 * (M : Int)).natAbs = 2 * M by omega]; exact b2
        · refine ⟨_, _, rfl, rfl, ⟨by decide, by decide, by decide⟩, _, _, rfl, rfl, ?_⟩
          rw [e59i]
          exact k _ H2 (numB_of (by rw [e60]; omega)) (k1.trans k2) S2
      · refine ⟨_, rfl, rfl, _, rfl, ite2 (fun q => ?_) fun q => ?_⟩
        · refine ⟨_, _, rfl, rfl, ⟨by decide, by decide, by decide⟩, _, _, rfl, rfl, _, rfl, a, 3, m, rfl, by decide, by decide, S1, fun u H2 u0 u1 k2 S2 => ⟨_, _, rfl, rfl, ?_⟩⟩
          rw [e60i]
          exact k _ H2 (numB_of (by rw [e60]; omega)) (k1.trans k2) S2
        · refine ⟨_, rfl, a, 3, m, rfl, by decide, by decide, S1, fun u H2 u0 u1 k2 S2 => ⟨_, _, rfl, rfl, _, _, rfl, rfl, ⟨by decide, by decide, by decide⟩, _, _, rfl, rfl, ?_⟩⟩
          rw [e60i]
          exact k _ H2 (numB_of (by rw [e60]; omega)) (k1.trans k2) S2
/-! ### _law_item -/
structure WdsOk (ws : List Str) : Prop where
  ne : ws ≠ []
  few : ws.length ≤ 30
  nm : ∀ z ∈ ws, IsName z
  ok : ∀ z ∈ ws, PyData.strOk z = true
def spLItem : Sp := fun vs H Q _ => ∃ (a wl : Addr) (many : Nat) (ws : List Str) (m : Nat), vs = [.ref a, .int many, .ref wl] ∧ Src H a (m + 3) ∧ 0 < many ∧ many ≤ 1000 ∧ H wl = some (.lst (ws.map V.str)) ∧ WdsOk ws ∧
  ∀ t it H', itB many it = true → WdI it → H t = none → H' t = some (.tup (itV it)) → Kp a H H' → Src H' a m → Q (.ref t) H'
abbrev sLItem : Stmt := top 40
theorem scLItem : FnScope ["_law_source_here", "_law_many", "_law_words", "_law_digit"] ["_law_source_here", "_law_many", "_law_words"] (defScope sLItem) := ⟨rfl, rfl, rfl, by decide +kernel, rfl, by decide +kernel, by decide +kernel⟩
theorem ok_litem {f : Addr} {fd : FuncData} (F : Fun K "_law_item" "_law_item" sLItem f fd) (mLen : mg "len" = none) (c_draw : Cal P w K mg base CX0 1 "_law_draw" ["_law_source_here", "_law_many"] spDraw) (c_number : Cal P w K mg base CX0 2 "_law_number" ["_law_source_here"] spLNum) : FnOk P w K mg base CX0 3 f fd ["_law_source_here", "_law_many", "_law_words"] spLItem := by
  refine F.ok scLItem (fun vs H Q E h => ?_) (fun cdv A outer s H vs Q E hr h => ?_)
  · obtain ⟨a, wl, many, ws, m, rfl, _⟩ := h
    rfl
  · obtain ⟨a, wl, many, ws, m, rfl, S, m0, m1, hw, wo, k⟩ := h
    have hr_number := hr
    have hr_draw : Room 1 _ := hr.mono (by decide : 1 ≤ 2)
    refine ⟨_, (pss_cons (ps_set (i := 3) scLItem.nd rfl (by first | exact Or.inl rfl | exact Or.inr rfl) (pe_cal c_draw hr_draw pass0 (pa_cons (pv 0) (pa_cons pe_int pa_nil))))
      (pss_cons (ps_if (pt_cmpR op_eq (pv 3) pe_int (nomark _))
        (pss_one (ps_ret (pe_tup (pa_cons pe_str pa_nil)))) pss_nil)
      (pss_cons (ps_if (pt_cmpR op_eq (pv 3) pe_int (nomark _))
        (pss_one (ps_ret (pe_tup (pa_cons pe_str (pa_cons (pe_ix (ixl K) (pv 2) (pe_cal c_draw hr_draw pass0 (pa_cons (pv 0) (pa_cons (pe_callB (k_len K) (by rfl) mLen (by decide +kernel) (pa_cons (pv 2) pa_nil)) pa_nil))) (fun _ _ => rfl)) pa_nil))))) pss_nil)
      (pss_cons (ps_if (pt_cmpR op_eq (pv 3) pe_int (nomark _))
        (pss_one (ps_ret (pe_tup (pa_cons pe_str (pa_cons (pe_cal c_number hr_number pass0 (pa_cons (pv 0) pa_nil)) pa_nil))))) pss_nil)
      (pss_one (ps_ret (pe_tup (pa_cons pe_str (pa_cons (pe_cal c_draw hr_draw pass0 (pa_cons (pv 0) (pa_cons (pv 1) pa_nil))) pa_nil))))))))), ?_⟩
    refine ⟨_, rfl, a, 7, m + 2, rfl, by decide, by decide, S, fun v H1 v0 v1 k1 S1 => ?_⟩
    have hw1 := k1 _ _ (strs_ne S hw) hw
    have wl0 : 0 < ws.length := List.length_pos_iff.mpr wo.ne
    have fin : ∀ (it : Itm) H2, itB many it = true → WdI it → Kp a H H2 → Src H2 a m → ∀ t, H2 t = none → Q (.ref t) (upd H2 t (.tup (itV it))) := fun it H2 b wi kk S2 t ht => k t it _ b wi (kk.free' ht S2) upd_same (kk.trans (Kp.new ht)) (S2.new ht)
    refine ⟨_, rfl, rfl, _, rfl, ite2 (fun _ => ?_) fun _ => ?_⟩
    · exact ⟨(by show 1 ≤ sizeLine; decide), fin .gap H1 rfl (fun z e => nomatch e) k1 (S1.mono (by omega))⟩
    · refine ⟨_, rfl, rfl, _, rfl, ite2 (fun _ => ?_) fun _ => ?_⟩
      · refine ⟨_, rfl, _, rfl, _, rfl, wl, _, rfl, .inl (.of hw1), a, _, m + 1, rfl, ?_, ?_, S1, fun u H2 u0 u1 k2 S2 => ?_⟩
        · rw [List.length_map]; omega
        · rw [List.length_map]
          have := wo.few
          exact Nat.lt_trans (by omega : _ < 31) (by decide)
        · rw [List.length_map] at u1
          obtain ⟨z, hz, e⟩ := atI_strs u0 u1
          exact ⟨wl, _, u, _, rfl, rfl, .of (k2 _ _ (strs_ne S1 hw1) hw1), e, (by show 2 ≤ sizeLine; decide), fin (.wd z) H2 ((nameB_iff z).mpr (wo.nm z hz)) (fun y e => by cases e; exact wo.ok _ hz) (k1.trans k2) (S2.mono (by omega))⟩
      · refine ⟨_, rfl, rfl, _, rfl, ite2 (fun _ => ?_) fun _ => ?_⟩
        · refine ⟨_, rfl, a, m, rfl, S1, fun n H2 b k2 S2 => ⟨(by show 2 ≤ sizeLine; decide), fin (.num n) H2 b (fun z e => nomatch e) (k1.trans k2) S2⟩⟩
        · refine ⟨_, rfl, _, rfl, a, (many : Int), m + 1, rfl, by omega, ?_, S1, fun u H2 u0 u1 k2 S2 => ?_⟩
          · exact Nat.lt_trans (by omega : _ < 1001) (by decide)
          · obtain ⟨i, rfl⟩ := Int.eq_ofNat_of_zero_le u0
            exact ⟨(by show 2 ≤ sizeLine; decide), fin (.nd i) H2 (decide_eq_true (by omega)) (fun z e => nomatch e) (k1.trans k2) (S2.mono (by omega))⟩
/-! ### _law_raw_rows -/
theorem sizesR_at {v : Int} (h0 : 0 ≤ v) (h : v < 8) : ∃ n : Nat, n ≤ 12 ∧ atI [V.int 1, V.int 2, V.int 0, V.int 3, V.int 1, V.int 2, V.int 4, V.int 12] v = some (.int n) := by
  have c : v = 0 ∨ v = 1 ∨ v = 2 ∨ v = 3 ∨ v = 4 ∨ v = 5 ∨ v = 6 ∨ v = 7 := by omega
  rcases c with rfl | rfl | rfl | rfl | rfl | rfl | rfl | rfl
  · exact ⟨1, by decide, rfl⟩
  · exact ⟨2, by decide, rfl⟩
  · exact ⟨0, by decide, rfl⟩
  · exact ⟨3, by decide, rfl⟩
  · exact ⟨1, by decide, rfl⟩
  · exact ⟨2, by decide, rfl⟩
  · exact ⟨4, by decide, rfl⟩
  · exact ⟨12, by decide, rfl⟩
def spRaw (K : PySem.W.Frag) : Sp := fun vs H Q _ => ∃ (a : Addr) (most : Nat) (n : Nat), vs = [.ref a, .int most] ∧ 1 ≤ most ∧ most ≤ 40 ∧ Src H a (n + 1600) ∧
  ∀ p us R H', LisR K H' p us R → RtR R → WdR R → R.length ≤ most → H p = none → (∀ u ∈ us, u ≠ p ∧ H u = none) → us.Nodup → Kp a H H' → Src H' a n → Q (.ref p) H'
abbrev sRaw_rows : Stmt := top 41
theorem scRaw_rows : FnScope ["_law_source_here", "_law_most", "_law_many", "_law_words", "_law_rows", "_law_k", "_law_size", "_law_step"] ["_law_source_here", "_law_most"] (defScope sRaw_rows) := ⟨rfl, rfl, rfl, by decide +kernel, rfl, by decide +kernel, by decide +kernel⟩
set_option maxHeartbeats 1000000 in
theorem ok_raw {f : Addr} {fd : FuncData} (F : Fun K "_law_raw_rows" "_law_raw_rows" sRaw_rows f fd) (mRange : mg "range" = none) (c_draw : Cal P w K mg base CX0 1 "_law_draw" ["_law_source_here", "_law_many"] spDraw) (c_names : Cal P w K mg base CX0 3 "_law_names" ["_law_source_here", "_law_many"] spNames)
    (c_item : Cal P w K mg base CX0 3 "_law_item" ["_law_source_here", "_law_many", "_law_words"] spLItem) : FnOk P w K mg base CX0 4 f fd ["_law_source_here", "_law_most"] (spRaw K) := by
  refine F.ok scRaw_rows (fun vs H Q E h => ?_) (fun cdv A outer s H vs Q E hr h => ?_)
  · obtain ⟨a, most, n, rfl, _⟩ := h
    rfl
  · obtain ⟨a, most, n, rfl, m1, m40, S, k⟩ := h
    have hr_names := hr
    have hr_item := hr
    have hr_draw : Room 1 _ := hr.mono (by decide : 1 ≤ 3)
    refine ⟨_, (pss_cons (ps_set (i := 2) scRaw_rows.nd rfl (by first | exact Or.inl rfl | exact Or.inr rfl) (pe_op op_add pe_int (pe_cal c_draw hr_draw pass0 (pa_cons (pv 0) (pa_cons (pv 1) pa_nil)))))
      (pss_cons (ps_set (i := 3) scRaw_rows.nd rfl (by first | exact Or.inl rfl | exact Or.inr rfl) (pe_op op_cat (pe_lst (pa_cons pe_str (pa_cons pe_str pa_nil))) (pe_cal c_names hr_names pass0 (pa_cons (pv 0) (pa_cons (pe_op op_add pe_int (pe_cal c_draw hr_draw pass0 (pa_cons (pv 0) (pa_cons pe_int pa_nil)))) pa_nil)))))
      (pss_cons (ps_set (i := 4) scRaw_rows.nd rfl (by first | exact Or.inl rfl | exact Or.inr rfl) (pe_lst pa_nil))
      (pss_cons (ps_for PassesOwn.never rfl (pi_range1 (by rfl) mRange (pa_cons (pv 2) pa_nil)) (pg_name (i := 5) scRaw_rows.nd rfl (by first | exact Or.inl rfl | exact Or.inr rfl))
        (pss_cons (ps_set (i := 6) scRaw_rows.nd rfl (by first | exact Or.inl rfl | exact Or.inr rfl) (pe_ix (ixl K) (pe_lst (pa_cons pe_int (pa_cons pe_int (pa_cons pe_int (pa_cons pe_int (pa_cons pe_int (pa_cons pe_int (pa_cons pe_int (pa_cons pe_int pa_nil))))))))) (pe_cal c_draw hr_draw pass0 (pa_cons (pv 0) (pa_cons pe_int pa_nil))) (fun _ _ => rfl)))
        (pss_one (ps_expr (pe_bm PySem.F.plainAttrs_list PySem.F.slot_list_append PySem.F.type_list_append mt_append (pv 4) (pa_cons (pe_lc (own := [("_law_step", 7)]) (g := (gName 7)) (tt := tYes) rfl scRaw_rows.nd (pi_range1 (by rfl) mRange (pa_cons (pv 6) pa_nil)) (blkOk_by (own := [("_law_step", 7)]) (N := ["_law_source_here", "_law_most", "_law_many", "_law_words", "_law_rows", "_law_k", "_law_size", "_law_step"]) (sc := defScope sRaw_rows) (by decide +kernel)) (fun _ _ _ _ _ => (pg_name (i := 7) scRaw_rows.nd rfl (by first | exact Or.inl rfl | exact Or.inr rfl))) (fun _ _ _ _ _ => pts_nil) (fun _ _ _ _ _ => (pe_cal c_item hr_item pass0 (pa_cons (pv 0) (pa_cons (pv 2) (pa_cons (pv 3) pa_nil)))))) pa_nil))))))
      (pss_one (ps_ret (pv 4))))))), ?_⟩
    have sz : (5000 : Nat) < sizeLine := by decide
    refine ⟨_, rfl, _, rfl, a, (most : Int), n + 1599, rfl, by omega, Nat.lt_trans (by omega : _ < 41) (by decide), S, fun v H1 v0 v1 k1 S1 => ⟨_, _, rfl, rfl, ?_⟩⟩
    obtain ⟨v, rfl⟩ := Int.eq_ofNat_of_zero_le v0
    refine ⟨(by show 2 ≤ sizeLine; decide), fun l0 hl0 => ?_⟩
    refine ⟨_, rfl, _, rfl, a, 3, n + 1598, rfl, by decide, by decide, S1.new hl0, fun u H2 u0 u1 k2 S2 => ⟨_, _, rfl, rfl, ?_⟩⟩
    obtain ⟨u, rfl⟩ := Int.eq_ofNat_of_zero_le u0
    have e1 : (1 : Int) + (u : Nat) = ((1 + u : Nat) : Int) := by omega
    refine ⟨a, 1 + u, n + 1560, congrArg (fun z => [V.ref a, V.int z]) e1, by omega, S2.mono (by omega), fun p0 zs H3 lz nz dz np0 hp0 k3 S3 => ?_⟩
    have hl1 : (upd H1 l0 (.lst [.str "a", .str "b"])) l0 = some (.lst ([("a" : Str), "b"].map V.str)) := upd_same
    have hl2 := k2 _ _ (strs_ne (S1.new hl0) hl1) hl1
    have hl3 := k3 _ _ (strs_ne S2 hl2) hl2
    refine ⟨l0, p0, _, _, rfl, rfl, hl3, hp0, ?_, fun wl nwl => ?_⟩
    · rw [List.length_map, List.length_map, lz]
      show 2 + _ ≤ _
      omega
    have k13 : Kp a H H3 := ((k1.trans (Kp.new hl0)).trans k2).trans k3
    have k14 : Kp a H (upd H3 wl (.lst ([("a" : Str), "b"].map V.str ++ zs.map V.str))) := k13.trans (Kp.new nwl)
    have S4 : Src (upd H3 wl (.lst ([("a" : Str), "b"].map V.str ++ zs.map V.str))) a (n + 1560) := S3.new nwl
    have hwl : (upd H3 wl (.lst ([("a" : Str), "b"].map V.str ++ zs.map V.str))) wl = some (.lst (([("a" : Str), "b"] ++ zs).map V.str)) := by rw [upd_same, List.map_append]
    have ab : ∀ z ∈ [("a" : Str), "b"], IsName z := by decide +kernel
    have wo : WdsOk (([("a" : Str), "b"] : List Str) ++ zs) := ⟨by simp, by rw [List.length_append, lz]; show 2 + _ ≤ 30; omega, fun z hz => by
      rcases List.mem_append.mp hz with q | q
      · exact ab z q
      · exact (dz z q).1, fun z hz => by
      rcases List.mem_append.mp hz with q | q
      · exact (ab z q).ok
      · exact (dz z q).1.ok⟩
    have nwl0 : H wl = none := k13.free' nwl S3
    generalize upd H3 wl (.lst ([("a" : Str), "b"].map V.str ++ zs.map V.str)) = H4 at k14 S4 hwl
    generalize hws : ([("a" : Str), "b"] : List Str) ++ zs = words at hwl wo
    refine ⟨(by show 0 ≤ sizeLine; decide), fun D nD => ?_⟩
    have WD : wl ≠ D := Ne.symm (ne_none nD hwl)
    have nD0 : H D = none := k14.free' nD S4
    have Da : D ≠ a := S4.ne nD
    refine ⟨_, rfl, _, rfl, by omega, by omega, ?_⟩
    have e2 : ((1 : Int) + (v : Nat)).toNat = 1 + v := by omega
    have e3 : (1 : Int) + (v : Nat) = ((1 + v : Nat) : Int) := by omega
    refine for_range (lo := 0) (n := ((1 : Int) + (v : Nat)).toNat) (fun i σ H' => ∃ (v5 v6 : Option V) (us : List Addr) (R : List (List Itm)), σ = [some (.ref a), some (.int most), some (.int (1 + (v : Nat))), some (.ref wl), some (.ref D), v5, v6, none] ∧ LisR K H' D us R ∧ R.length = i ∧ (∀ r ∈ R, rowB (1 + v) r = true) ∧ WdR R ∧ (∀ u ∈ us, u ≠ D ∧ H u = none) ∧ us.Nodup ∧ H' wl = some (.lst (words.map V.str)) ∧ Kp a H H' ∧ Src H' a (n + 1560 - 38 * i))
      ⟨none, none, [], [], rfl, ⟨upd_same, .nil⟩, rfl, by simp, (fun r hr => nomatch hr), by simp, List.nodup_nil, by rw [upd_ne WD]; exact hwl, k14.trans (Kp.new nD), S4.new nD⟩ ?_ ?_
    · rintro i σ H5 hi ⟨v5, v6, us, R, rfl, hR, lR, rb, wd, fu, nu, hw5, k5, S5⟩
      rw [e2] at hi
      obtain ⟨hD5, p5⟩ := hR
      have lu := Paired.length p5
      refine ⟨(by show 8 ≤ sizeLine; decide), fun l nl => ?_⟩
      refine ⟨_, rfl, a, 8, n + 1560 - 38 * i - 1, rfl, by decide, by decide, (S5.new nl).mono (by omega), fun z H6 z0 z1 k6 S6 => ?_⟩
      obtain ⟨sz1, s12, e⟩ := sizesR_at z0 z1
      have hl : (upd H5 l (.lst [.int 1, .int 2, .int 0, .int 3, .int 1, .int 2, .int 4, .int 12])) l = some (.lst [.int 1, .int 2, .int 0, .int 3, .int 1, .int 2, .int 4, .int 12]) := upd_same
      refine ⟨l, _, z, _, rfl, rfl, .of (k6 _ _ (S5.ne nl) hl), e, ?_⟩
      have sl : Same H5 (upd H5 l (.lst [.int 1, .int 2, .int 0, .int 3, .int 1, .int 2, .int 4, .int 12])) := Same.new nl
      have k56 : Kp a H5 H6 := (Kp.same sl).trans k6
      have k06 := k5.trans k56
      have hD6 := k56 _ _ Da hD5
      have hw6 := k56 _ _ (strs_ne S5 hw5) hw5
      have p6 : Paired (RowL K H6) us R := paired_same p5 fun _ _ z => z.kp k56 S5
      refine ⟨_, rfl, .inl ⟨rfl, _, .of hD6⟩, _, rfl, _, rfl, by omega, by omega, fun C nC => ?_⟩
      have CD : C ≠ D := ne_none nC hD6
      have nC0 : H C = none := k06.free' nC S6
      have Ca := S6.ne nC
      refine lc_range (lo := 0) (n := ((sz1 : Nat) : Int).toNat) (fun m H' => ∃ (ts : List Addr) (row : List Itm), H' C = some (.lst (ts.map V.ref)) ∧ Paired (ItA K H') ts row ∧ row.length = m ∧ (∀ it ∈ row, itB (1 + v) it = true) ∧ (∀ it ∈ row, WdI it) ∧ Kp a H6 H' ∧ Src H' a (n + 1560 - 38 * i - 1 - 3 * m))
        ⟨[], [], upd_same, .nil, rfl, by simp, (fun it hi => nomatch hi), Kp.new nC, S6.new nC⟩ ?_ ?_
      · rintro m H7 hm ⟨ts, row, hC7, p7, l7, b7, w7, k7, S7⟩
        rw [Int.toNat_natCast] at hm
        have lt7 := Paired.length p7
        refine ⟨rfl, yes_then ?_⟩
        refine ⟨_, rfl, _, rfl, _, rfl, a, wl, 1 + v, words, n + 1560 - 38 * i - 1 - 3 * (m + 1), congrArg (fun z => [V.ref a, V.int z, V.ref wl]) e3, S7.mono (by omega), by omega, by omega, k7 _ _ (strs_ne S6 hw6) hw6, wo, fun t it H8 b wi nt ht k8 S8 => ?_⟩
        have hC8 := k8 _ _ Ca hC7
        have pn : SameN H8 (upd H8 C (.lst (ts.map V.ref ++ [.ref t]))) := SameN.refl.put hC8
        refine ⟨_, hC8, by rw [List.length_map]; omega, ts ++ [t], row ++ [it], by rw [upd_same, List.map_append]; rfl, paired_snoc (paired_same p7 fun _ _ z => (z.kp k8 S7).sameN pn) ((ItA.sameN (K := K) (.of ht)) pn), by rw [List.length_append, l7]; rfl, fun x hx => ?_, fun x hx => ?_, (k7.trans k8).mut nC, S8.put Ca⟩
        · rcases List.mem_append.mp hx with q | q
          · exact b7 x q
          · rw [List.mem_singleton.mp q]; exact b
        · rcases List.mem_append.mp hx with q | q
          · exact w7 x q
          · rw [List.mem_singleton.mp q]; exact wi
      · rintro H7 ⟨ts, row, hC7, p7, l7, b7, w7, k7, S7⟩
        rw [Int.toNat_natCast] at l7
        have hD7 := k7 _ _ Da hD6
        refine ⟨D, _, _, rfl, rfl, hD7, by rw [List.length_map]; omega, ?_⟩
        refine ⟨_, _, us ++ [C], R ++ [row], rfl, ⟨by rw [upd_same, List.map_append]; rfl, paired_snoc (paired_same (paired_mem p6) fun u _ z => (z.1.kp k7 S6).put hD7 (fu u z.2).1) (RowL.put (u := C) (row := row) ⟨ts, hC7, p7⟩ hD7 CD)⟩, by rw [List.length_append, lR]; rfl, fun r hr => ?_, fun r hr => ?_, fun u hu => ?_, ?_, by rw [upd_ne WD]; exact k7 _ _ (strs_ne S6 hw6) hw6, (k06.trans k7).mut nD0, (S7.mono (by omega)).put Da⟩
        · rcases List.mem_append.mp hr with q | q
          · exact rb r q
          · rw [List.mem_singleton.mp q]
            exact Bool.and_eq_true_iff.mpr ⟨decide_eq_true (by omega), List.all_eq_true.mpr b7⟩
        · rcases List.mem_append.mp hr with q | q
          · exact wd r q
          · rw [List.mem_singleton.mp q]; exact w7
        · rcases List.mem_append.mp hu with q | q
          · exact fu u q
          · rw [List.mem_singleton.mp q]; exact ⟨CD, nC0⟩
        · refine List.nodup_append.mpr ⟨nu, List.nodup_cons.mpr ⟨by simp, List.nodup_nil⟩, fun y hy z hz e => ?_⟩
          rw [List.mem_singleton.mp hz] at e
          subst e
          obtain ⟨q, hq⟩ := List.mem_iff_getElem?.mp hy
          obtain ⟨_, _, ts6, z6, _⟩ := paired_get p6 hq
          rw [z6] at nC; cases nC
    · rintro σ H5 ⟨v5, v6, us, R, rfl, hR, lR, rb, wd, fu, nu, hw5, k5, S5⟩
      rw [e2] at lR S5
      exact ⟨_, rfl, k D us R H5 hR ⟨fun e => by rw [e] at lR; simp at lR; omega, by omega, by rw [lR]; exact rb⟩ wd (by omega) nD0 fu nu k5 (S5.mono (by omega))⟩
end
end Mf
namespace Mf
open PySem L2
/-- the dict of the twins: ints below M -/
def TwOk (kvs : List (Key × V)) (M : Nat) : Prop := ∀ k v, valV kvs k = some v → ∃ j : Nat, j < M ∧ v = .int (j : Nat)
theorem TwOk.mono {kvs : List (Key × V)} {M N : Nat} (h : TwOk kvs M) (l : M ≤ N) : TwOk kvs N := fun k v e => let ⟨j, a, b⟩ := h k v e; ⟨j, Nat.lt_of_lt_of_le a l, b⟩
section
variable {P : Program} {w : World} {K : PySem.W.Frag} {mg : Str → Option Value} {base : Heap}
/-- [list(row) for row in rows] -/
theorem lc_rows {J : It} {G : Hp → Prop} {us : List Addr} {R : List (List Itm)} {p : Addr} {H0 : Hp} (hR : LisR K H0 p us R) (w : Walk J (us.map V.ref).length G (YAt (us.map V.ref))) {g : TG} {tt : TT} {te : TE} {vs : List Nat} {σ : L2.St} {D : Addr} {Qd : Hp → Prop} (few : us.length ≤ 4000) (hD : H0 D = none) (hG : ∀ H, Same H0 H → G H)
    (hs : ∀ (u : Addr) (ts : List Addr) (H' : Hp) (Qe : VK) (Pf : Hp → Prop), Same H0 H' → H' u = some (.lst (ts.map V.ref)) → (∀ l, H' l = none → Qe (.ref l) (upd H' l (.lst (ts.map V.ref)))) → g (.ref u) (wipe σ vs) H' fun σ2 H2 => wipe σ2 vs = wipe σ vs ∧ tt σ2 H2 fun c H3 => if c = true then te σ2 H3 Qe else Pf H3)
    (hd : ∀ (H : Hp) (fs : List Addr), Same H0 H → LisR K H D fs R → (∀ u ∈ fs, u ≠ D ∧ H0 u = none) → fs.Nodup → Qd H) :
    ∃ W : Nat → Nat → Hp → Prop, (∃ m, W 0 m (upd H0 D (.lst []))) ∧ ∀ i m H, W i m H →
      (J.stop i H ∧ Qd H) ∨ (J.go i H ∧ ∃ Nx : Hp → Prop, (∀ H', Nx H' → ∃ m', m' < m ∧ W (i + 1) m' H') ∧ ∀ x H', J.yld i H x H' → g x (wipe σ vs) H' fun σ2 H2 => wipe σ2 vs = wipe σ vs ∧ tt σ2 H2 fun b H3 =>
        if b = true then te σ2 H3 fun y H4 => ∃ acc, H4 D = some (.lst acc) ∧ acc.length < sizeLine ∧ Nx (upd H4 D (.lst (acc ++ [y]))) else Nx H3) := by
  obtain ⟨hp, pr⟩ := hR
  have lu := Paired.length pr
  refine lc_it w (fun i H' => Same H0 H' ∧ ∃ fs : List Addr, LisR K H' D fs (R.take i) ∧ fs.length = i ∧ (∀ u ∈ fs, u ≠ D ∧ H0 u = none) ∧ fs.Nodup) ⟨Same.new hD, [], ⟨upd_same, .nil⟩, rfl, by simp, List.nodup_nil⟩ (fun i H' _ q => hG _ q.1) ?_ ?_
  · rintro i x _ H1 hi ⟨s1, fs, ⟨h1, p1⟩, l1, f1, n1⟩ ⟨rfl, hx⟩
    rw [List.getElem?_map] at hx
    obtain ⟨u, hu1, rfl⟩ := Option.map_eq_some_iff.mp hx
    obtain ⟨row, hrow, ts, q1, q2⟩ := paired_get pr hu1
    rw [List.length_map] at hi
    refine hs u ts H1 _ _ s1 (s1 _ _ q1) fun l nl => ?_
    have s2 := Same.new (o := .lst (ts.map V.ref)) nl
    have h2 := s2 _ _ h1
    have lF : l ≠ D := ne_none nl h1
    refine ⟨_, h2, by rw [List.length_map]; exact Nat.lt_of_lt_of_le (by omega : fs.length < 4001) (by decide), (s1.trans s2).mut hD, fs ++ [l], ⟨by rw [upd_same, List.map_append]; rfl, ?_⟩, by rw [List.length_append, l1]; rfl, fun z hz => ?_, ?_⟩
    · rw [List.take_add_one, hrow]
      exact paired_snoc (paired_same (paired_mem p1) fun z row z' => (z'.1.same s2).put h2 (f1 z z'.2).1) (RowL.put (u := l) (row := row) ⟨ts, upd_same, paired_same q2 fun _ _ z => (z.same s1).same s2⟩ h2 lF)
    · rcases List.mem_append.mp hz with q | q
      · exact f1 z q
      · rw [List.mem_singleton.mp q]; exact ⟨lF, s1.free nl⟩
    · refine List.nodup_append.mpr ⟨n1, List.nodup_cons.mpr ⟨by simp, List.nodup_nil⟩, fun y hy z hz e => ?_⟩
      rw [List.mem_singleton.mp hz] at e
      subst e
      obtain ⟨q, hq⟩ := List.mem_iff_getElem?.mp hy
      obtain ⟨_, _, ts6, z6, _⟩ := paired_get p1 hq
      rw [z6] at nl; cases nl
  · rintro H1 ⟨s1, fs, hF, l1, f1, n1⟩
    rw [List.length_map, lu, List.take_length] at hF
    exact hd H1 fs s1 hF f1 n1
end
end Mf
/-! The text of a program. -/
namespace Mf
open PySem L2
/-- an f-string's reading, under a name -/
def tJoin (ts : List TE) : TE := fun σ H Q => tJs ts Str.empty σ H fun out H1 => Q (.str out) H1
theorem pe_jn {X : Cx} {v1 v2 : Expr} {rest : List Expr} {ts : List TE} {pos : Pos} (h : PJ X (v1 :: v2 :: rest) ts) : PE X (.JoinedStr (v1 :: v2 :: rest) pos) (tJoin ts) := pe_joined h
def stepT (s : Step) : Str := ((((Str.empty ++ (" " : Str)) ++ s.1) ++ (" " : Str)) ++ s.2)
def lineT (n : Str) (ss : List Step) : Str := (n ++ (":" : Str)) ++ Txt.join ("," : Str) (ss.map stepT)
def textT (x : List Pc) : Str := Txt.join ("\n" : Str) (x.map fun y => lineT y.1 y.2)
theorem tl_sp : TL.tl (" " : Str) = [32] := by decide +kernel
theorem tl_co : TL.tl (":" : Str) = [58] := by decide +kernel
theorem tl_cm : TL.tl ("," : Str) = [44] := by decide +kernel
theorem tl_nl : TL.tl ("\n" : Str) = [10] := by decide +kernel
theorem tl_cs : TL.tl (", " : Str) = [44, 32] := by decide +kernel
theorem tl_c2 : TL.tl (": " : Str) = [58, 32] := by decide +kernel
theorem tl_em : TL.tl Str.empty = [] := rfl
theorem tl_step (s : Step) : TL.tl (stepT s) = 32 :: (TL.tl s.1 ++ 32 :: TL.tl s.2) := by
  unfold stepT
  rw [TL.tl_append, TL.tl_append, TL.tl_append, TL.tl_append, tl_sp, tl_em]
  simp
theorem tl_joinT (y : Str) (ps : List Str) : TL.tl (Txt.join y ps) = TL.joinL (TL.tl y) (ps.map TL.tl) := by rw [TL.join_eq, TL.tl_join]
theorem tl_line (n : Str) (ss : List Step) : TL.tl (lineT n ss) = TL.tl n ++ 58 :: TL.joinL [44] ((ss.map stepT).map TL.tl) := by
  unfold lineT
  rw [TL.tl_append, TL.tl_append, tl_co, tl_joinT, tl_cm]
  simp
/-- the blank in front of each piece goes into what stands between them -/
theorem join_blank (ps : List (List Nat)) (ne : ps ≠ []) : TL.joinL [44] (ps.map fun p => 32 :: p) = 32 :: TL.joinL [44, 32] ps := by
  induction ps with
  | nil => exact absurd rfl ne
  | cons p r ih =>
    cases r with
    | nil => rfl
    | cons q r =>
      show (32 :: p) ++ ([44] ++ TL.joinL [44] ((q :: r).map fun p => 32 :: p)) = 32 :: (p ++ ([44, 32] ++ TL.joinL [44, 32] (q :: r)))
      rw [ih (by simp)]
      simp
/-- the law's own writing of a line -/
def lawLine (n : Str) (ss : List Step) : Str := if ss.length = 0 then n ++ (":" : Str) else (n ++ (": " : Str)) ++ Txt.join (", " : Str) (ss.map fun s => (s.1 ++ (" " : Str)) ++ s.2)
theorem lawLine_eq (n : Str) (ss : List Step) : lawLine n ss = lineT n ss := by
  refine TL.ext_tl ?_
  rw [tl_line]
  unfold lawLine
  by_cases e : ss.length = 0
  · rw [if_pos e]
    obtain rfl := List.eq_nil_of_length_eq_zero e
    rw [TL.tl_append, tl_co]; rfl
  · rw [if_neg e, TL.tl_append, TL.tl_append, tl_c2, tl_joinT, tl_cs]
    have e1 : (ss.map stepT).map TL.tl = ((ss.map fun s => (s.1 ++ (" " : Str)) ++ s.2).map TL.tl).map fun p => 32 :: p := by
      rw [List.map_map, List.map_map, List.map_map]
      refine List.map_congr_left fun s _ => ?_
      show TL.tl (stepT s) = 32 :: TL.tl ((s.1 ++ (" " : Str)) ++ s.2)
      rw [tl_step, TL.tl_append, TL.tl_append, tl_sp]
      simp
    rw [e1, join_blank _ (fun h => e (by rw [← List.length_map (f := fun s : Step => (s.1 ++ (" " : Str)) ++ s.2), ← List.length_map (f := TL.tl), h]; rfl))]
    simp
/-- no sign of a name or of a kind stands between the parts -/
def Plain (z : Str) : Prop := ∀ c ∈ TL.tl z, 97 ≤ c ∧ c ≤ 122
theorem IsName.plain {z : Str} (h : IsName z) : Plain z := h.2.2
theorem Plain.not {z : Str} (h : Plain z) {c : Nat} (l : c < 97) : ¬ c ∈ TL.tl z := fun m => by have := (h c m).1; omega
theorem step_no {s : Step} (h1 : Plain s.1) (h2 : Plain s.2) {c : Nat} (l : c < 97) (n : c ≠ 32) : ¬ c ∈ TL.tl (stepT s) := fun m => by
  rw [tl_step] at m
  simp only [List.mem_cons, List.mem_append] at m
  rcases m with m | m | m | m
  · exact n m
  · exact h1.not l m
  · exact n m
  · exact h2.not l m
theorem joinL_no {S : List Nat} {c : Nat} (hS : ¬ c ∈ S) : ∀ {ps : List (List Nat)}, (∀ p ∈ ps, ¬ c ∈ p) → ¬ c ∈ TL.joinL S ps
  | [], _ => by show ¬ c ∈ []; simp
  | [p], h => h p List.mem_cons_self
  | p :: q :: r, h => by
    show ¬ c ∈ p ++ (S ++ TL.joinL S (q :: r))
    rw [List.mem_append, List.mem_append]
    rintro (m | m | m)
    · exact h p List.mem_cons_self m
    · exact hS m
    · exact joinL_no hS (fun x hx => h x (List.mem_cons_of_mem _ hx)) m
theorem line_no {n : Str} {ss : List Step} (hn : Plain n) (h : ∀ s ∈ ss, Plain s.1 ∧ Plain s.2) : ¬ 10 ∈ TL.tl (lineT n ss) := fun m => by
  rw [tl_line, List.mem_append, List.mem_cons] at m
  rcases m with m | m | m
  · exact hn.not (by decide) m
  · exact absurd m (by decide)
  · refine joinL_no (S := [44]) (by decide) (fun p hp => ?_) m
    obtain ⟨z, hz, rfl⟩ := List.mem_map.mp hp
    obtain ⟨s, hs, rfl⟩ := List.mem_map.mp hz
    exact step_no (h s hs).1 (h s hs).2 (by decide) (by decide)
theorem split_text {x : List Pc} (ne : x ≠ []) (h : ∀ y ∈ x, Plain y.1 ∧ ∀ s ∈ y.2, Plain s.1 ∧ Plain s.2) : Txt.split (textT x) ("\n" : Str) = x.map fun y => lineT y.1 y.2 := by
  unfold textT
  refine TL.split_join tl_nl (by decide +kernel) (fun e => ne (List.map_eq_nil_iff.mp e)) fun p hp => ?_
  obtain ⟨y, hy, rfl⟩ := List.mem_map.mp hp
  exact line_no (h y hy).1 (h y hy).2
theorem part_line {n : Str} {ss : List Step} (hn : Plain n) : Txt.partition (lineT n ss) (":" : Str) = (n, (":" : Str), Txt.join ("," : Str) (ss.map stepT)) :=
  TL.partition_app tl_co (hn.not (by decide))
theorem split_steps {ss : List Step} (ne : ss ≠ []) (h : ∀ s ∈ ss, Plain s.1 ∧ Plain s.2) : Txt.split (Txt.join ("," : Str) (ss.map stepT)) ("," : Str) = ss.map stepT := by
  refine TL.split_join tl_cm (by decide +kernel) (fun e => ne (List.map_eq_nil_iff.mp e)) fun p hp => ?_
  obtain ⟨s, hs, rfl⟩ := List.mem_map.mp hp
  exact step_no (h s hs).1 (h s hs).2 (by decide) (by decide)
theorem steps_empty {ss : List Step} : Txt.join ("," : Str) (ss.map stepT) = Str.empty ↔ ss = [] := by
  constructor
  · intro e
    cases ss with
    | nil => rfl
    | cons s r =>
      have q := congrArg TL.tl e
      rw [tl_joinT, List.map_cons, List.map_cons, tl_step] at q
      cases r with
      | nil => cases q
      | cons t r => cases q
  · rintro rfl
    refine TL.ext_tl ?_
    rw [tl_joinT]; rfl
theorem cut_one {z : Str} {c : Nat} {r : List Nat} (h : TL.tl z = c :: r) : TL.tl (cutS z (some 1) none) = r := by
  have hl : z.length = r.length + 1 := by rw [len_tl, show z.cps.toList = TL.tl z from rfl, h]; rfl
  have h1 : HT.sIx z.length 0 (some 1) = 1 := by unfold HT.sIx; simp; omega
  have h2 : HT.sIx z.length z.length none = z.length := rfl
  unfold cutS
  rw [h1, h2]
  show ((TL.tl z).drop 1).take (z.length - 1) = r
  rw [h, hl]
  simp
theorem cut_step (s : Step) : cutS (stepT s) (some 1) none = (s.1 ++ (" " : Str)) ++ s.2 := by
  refine TL.ext_tl ?_
  rw [TL.tl_append, TL.tl_append, tl_sp, cut_one (tl_step s)]
  simp
/-! ### lengths -/
theorem joinL_len {S : List Nat} {k : Nat} : ∀ {ps : List (List Nat)}, (∀ p ∈ ps, p.length ≤ k) → (TL.joinL S ps).length ≤ ps.length * (k + S.length)
  | [], _ => Nat.zero_le _
  | [p], h => by
    show p.length ≤ 1 * (k + S.length)
    have := h p List.mem_cons_self
    omega
  | p :: q :: r, h => by
    show (p ++ (S ++ TL.joinL S (q :: r))).length ≤ _
    have a := joinL_len (S := S) (ps := q :: r) fun x hx => h x (List.mem_cons_of_mem _ hx)
    have b := h p List.mem_cons_self
    rw [List.length_append, List.length_append, List.length_cons, Nat.add_mul]
    omega
def Short (s : Step) : Prop := s.1.length ≤ 8 ∧ s.2.length ≤ 8
theorem len_of (z : Str) : z.length = (TL.tl z).length := len_tl z
theorem app_len (x y : Str) : (x ++ y).length = x.length + y.length := by rw [len_of, len_of x, len_of y, TL.tl_append, List.length_append]
theorem sp_len : (" " : Str).length = 1 := by decide +kernel
theorem co_len : (":" : Str).length = 1 := by decide +kernel
theorem em_len : Str.empty.length = 0 := rfl
theorem step_len {s : Step} (h : Short s) : (stepT s).length ≤ 18 := by
  have a := h.1; have b := h.2
  rw [len_of] at a b ⊢
  rw [tl_step, List.length_cons, List.length_append, List.length_cons]
  omega
theorem line_len {n : Str} {ss : List Step} (hn : n.length ≤ 8) (l : ss.length ≤ 12) (h : ∀ s ∈ ss, Short s) : (lineT n ss).length ≤ 240 := by
  rw [len_of] at hn ⊢
  rw [tl_line, List.length_append, List.length_cons]
  have a := joinL_len (S := [44]) (k := 18) (ps := (ss.map stepT).map TL.tl) fun p hp => by
    obtain ⟨z, hz, rfl⟩ := List.mem_map.mp hp
    obtain ⟨s, hs, rfl⟩ := List.mem_map.mp hz
    have := step_len (h s hs)
    rw [len_of] at this
    exact this
  rw [List.length_map, List.length_map, List.length_singleton] at a
  omega
theorem text_len {x : List Pc} (l : x.length ≤ 16) (h : ∀ y ∈ x, y.1.length ≤ 8 ∧ y.2.length ≤ 12 ∧ ∀ s ∈ y.2, Short s) : (textT x).length ≤ 4000 := by
  rw [len_of]
  unfold textT
  rw [tl_joinT, tl_nl]
  have a := joinL_len (S := [10]) (k := 240) (ps := (x.map fun y => lineT y.1 y.2).map TL.tl) fun p hp => by
    obtain ⟨z, hz, rfl⟩ := List.mem_map.mp hp
    obtain ⟨y, hy, rfl⟩ := List.mem_map.mp hz
    have := line_len (h y hy).1 (h y hy).2.1 (h y hy).2.2
    rw [len_of] at this
    exact this
  rw [List.length_map, List.length_map, List.length_singleton] at a
  omega
theorem sum_le {k : Nat} : ∀ {ys : List Str}, (∀ y ∈ ys, y.length ≤ k) → (ys.map (·.length)).sum ≤ ys.length * k
  | [], _ => Nat.zero_le _
  | y :: r, h => by
    rw [List.map_cons, List.sum_cons, List.length_cons, Nat.add_mul]
    have a := sum_le fun x hx => h x (List.mem_cons_of_mem _ hx)
    have b := h y List.mem_cons_self
    omega
theorem part_step {s : Step} (h : Plain s.1) : Txt.partition ((s.1 ++ (" " : Str)) ++ s.2) (" " : Str) = (s.1, (" " : Str), s.2) := TL.partition_app tl_sp (h.not (by decide))
end Mf
/-! for i, x in enumerate(xs), xs a list or a tuple -/
namespace Mf
open PySem PySem.Spec PyProof.Rows L2
set_option maxHeartbeats 1000000 in
theorem meets_enum1 {v : Value} {o : Obj} {Hh : Heap → Prop} (B : Begins v o Hh) : Meets (Builtin.«enumerate.__new__» ⟨[.type "enumerate", v], []⟩) (fun _ R s => Hh s.heap ∧
    R (.ok (.ret (.ref (s.heap.push o).objs.size))) { s with heap := (s.heap.push o).push { cls := .type "enumerate", data := .fields #[.none, .bool false, .ref s.heap.objs.size, rawInt 0, .none, .none] } }) := by
  refine .of_wp fun prog w A R s => ?_
  rcases s with ⟨hp, g, d, tk, os⟩
  rintro ⟨h1, h⟩
  have sub := sub_enumerate
  have begun : ∀ {A' : Around} {E : Value → Shared → Prop} {Q : Value → Shared → Prop}, Q (.ref hp.objs.size) ⟨hp.push o, g, d, tk, os⟩ → wpAny (model prog w) A' (pyIter v) Q E ⟨hp, g, d, tk, os⟩ := fun k => B.iter prog w _ _ ⟨hp, g, d, tk, os⟩ _ h1 k
  wp_walk using begun
  refine wpAny_stack_any fun st => wpAny_pure ?_
  split
  · rename_i c _ _ _ _ _
    cases c == Value.type "enumerate" <;> (wp_walk using begun; exact ⟨_, rfl, h⟩)
  · wp_walk using begun; exact ⟨_, rfl, h⟩
theorem enum1_begins {prog : Program} {w : World} {A : Around} {E : Value → Shared → Prop} {s : Shared} {v : Value} {o : Obj} {Hh : Heap → Prop} {Q : Value → Shared → Prop} (B : Begins v o Hh) (h1 : Hh s.heap)
    (h : ∀ h', IsEnum h' (s.heap.objs.size + 1) s.heap.objs.size 0 .none → h'.get? s.heap.objs.size = some o → (∀ b q, s.heap.get? b = some q → h'.get? b = some q) → Q (.ref (s.heap.objs.size + 1)) { s with heap := h' }) :
    wpAny (model prog w) A (call (.type "enumerate") [v]) Q E s := by
  have sz : (s.heap.push o).objs.size = s.heap.objs.size + 1 := Heap.size_push ..
  have en : IsEnum ((s.heap.push o).push { cls := .type "enumerate", data := .fields #[.none, .bool false, .ref s.heap.objs.size, rawInt 0, .none, .none] }) (s.heap.push o).objs.size s.heap.objs.size 0 .none := Heap.get?_push_size _ rfl
  refine callType_new F.called_enumerate (by decide) (F.typeCall_enumerate_1 _) (F.newCall_enumerate_1 _) (fun obj => F.args_object_init_2 obj _) F.entry_enumerate_new (meets_enum1 B) ⟨h1, ?_⟩
  rw [sz] at en
  show _ ∧ _
  rw [sz]
  exact ⟨⟨_, en, rfl⟩, h _ en (Heap.get?_push_of_some _ (Heap.get?_push_size _ B.free)) fun b q e => Heap.get?_push_of_some _ (Heap.get?_push_of_some _ e)⟩
theorem pi_enumA {X : Cx} {e : Expr} {ta : TA} {p pos tpos : Pos} {elts : List Expr} {kk : Nat} (hg : Gl X "enumerate") (hm : X.mg "enumerate" = none) (ha : PA X [e] ta)
    (hs : starEach [e] X.env = [(false, eval e X.env)] := by rfl) : PI X (.Tuple elts kk tpos) (.Call (.Name "enumerate" p) [e] [] pos) (iEnumS X.K 0 ta) := by
  refine ⟨fun pins s σ H R I h => Call_ (ld_blt I hg hm PyProof.Rows.boot_enumerate (PyProof.Rows.callWith_type1 (thn (ha.run pos pins s σ H _ I h) ?_) hs rfl))⟩
  rintro us s1 ⟨vs, H1, I1, r1, a, xs, rfl, q1⟩
  rw [Vals.ref1 r1]
  have fresh : ∀ b ∈ [s1.heap.objs.size + 1, s1.heap.objs.size], FpOk X pins H1 b := fun b hb => by
    simp only [List.mem_cons, List.not_mem_nil, or_false] at hb
    rcases hb with rfl | rfl
    · exact I1.fpOk (Nat.le_succ _) (I1.hok.fresh (Nat.le_succ _))
    · exact I1.fpOk (Nat.le_refl _) (I1.hok.fresh (Nat.le_refl _))
  rcases q1 with ⟨hq, q⟩ | ⟨hq, q⟩
  · obtain ⟨its, rv, p', hz⟩ := I1.list hq
    refine enum1_begins (begins_list a its.toArray) p'.isList fun h' he ho hk => wpAny_pyIter_enum he ?_
    exact ⟨_, [s1.heap.objs.size + 1, s1.heap.objs.size], _, _, H1, rfl, I1.kept (t' := s1.toks) hk, turn_fromL 0 _ _ a, ⟨⟨_, by simpa using he⟩, ⟨_, ho, rfl, rfl⟩, Nat.succ_ne_self _⟩, fresh, q⟩
  · obtain ⟨its, rv, p', hz⟩ := I1.tuple hq
    refine enum1_begins (begins_tuple a its.toArray) (isTuple_of p') fun h' he ho hk => wpAny_pyIter_enum he ?_
    exact ⟨_, [s1.heap.objs.size + 1, s1.heap.objs.size], _, _, H1, rfl, I1.kept (t' := s1.toks) hk, turn_fromT 0 _ _ a, ⟨⟨_, by simpa using he⟩, ⟨_, ho, rfl, rfl⟩, Nat.succ_ne_self _⟩, fresh, q⟩
end Mf
namespace Mf
open PySem L2
/-! ### the canonical rows -/
theorem flR_no {d : Addr} {m : Str} (h : m ≠ "_rows") : (flR d).lookup m = none := by
  unfold flR
  rw [lookup_putF, if_neg h]; rfl
theorem canon_hd {R : List (List Itm)} {st : Nat} : ∃ row, (canonN R st)[0]? = some row ∧ row.length = (R.getD st []).length := by
  obtain ⟨e, he⟩ := growN_pre R (clsE R) (R.length + 1) 0 [st]
  refine ⟨numRow (clsE R) (foundN R (clsE R) st) (R.getD st []), ?_, by unfold numRow; rw [List.length_map]⟩
  unfold canonN
  have hf : foundN R (clsE R) st = [st] ++ e := he
  rw [List.getElem?_map, hf]; rfl
theorem found_ok {R : List (List Itm)} (ok : NdOk R) : ∀ (n at_ : Nat) (fd : List Nat) (c : List Nat), FdOk R.length c fd → FdOk R.length c (growN R c n at_ fd)
  | 0, _, _, _, h => h
  | n + 1, at_, fd, c, h => by
    rw [growN_succ]
    cases e : fd[at_]? with
    | none => exact h
    | some i =>
      refine found_ok ok n _ _ c (visN_ok h fun j hj => ?_)
      have il := h.lt i (List.mem_of_getElem? e)
      rw [List.getD_eq_getElem?_getD, List.getElem?_eq_getElem il] at hj
      exact ok _ (List.getElem_mem il) j (nds_mem.mp hj)
theorem found_fd {R : List (List Itm)} (ok : NdOk R) {st : Nat} (h : st < R.length) : FdOk R.length (clsE R) (foundN R (clsE R) st) := found_ok ok (R.length + 1) 0 [st] (clsE R) ⟨List.nodup_cons.mpr ⟨by simp, List.nodup_nil⟩, fun i hi => by rw [List.mem_singleton.mp hi]; exact h⟩
theorem canon_len {R : List (List Itm)} (ok : NdOk R) {st : Nat} (h : st < R.length) : (canonN R st).length ≤ R.length := by
  unfold canonN
  rw [List.length_map]
  exact (found_fd ok h).few
theorem ixG_le {α : Type} [DecidableEq α] {k : α} : ∀ ds : List α, ixG k ds ≤ ds.length
  | [] => Nat.le_refl _
  | d :: ds => by
    unfold ixG
    by_cases e : d = k
    · rw [if_pos e]; exact Nat.zero_le _
    · rw [if_neg e, List.length_cons]
      have := ixG_le (k := k) ds
      omega
/-- items whose text is short -/
def TxI : Itm → Prop
  | .num n => numB n = true
  | .wd z => IsName z
  | .gap => True
  | .nd i => i ≤ 1000000
theorem itB_tx {c : Nat} (h : c ≤ 1000000) {it : Itm} (b : itB c it = true) : TxI it := by
  cases it with
  | num n => exact b
  | wd z => exact (nameB_iff z).mp b
  | gap => exact True.intro
  | nd i => exact Nat.le_trans (Nat.le_of_lt (of_decide_eq_true b)) h
theorem TxI.wd {it : Itm} (h : TxI it) : WdI it := fun z e => by subst e; exact IsName.ok h
structure TxRs (R : List (List Itm)) : Prop where
  few : R.length ≤ 1000
  row : ∀ r ∈ R, r.length ≤ 12
  it : ∀ r ∈ R, ∀ it ∈ r, TxI it
theorem RtR.tx {R : List (List Itm)} (x : RtR R) : TxRs R := ⟨Nat.le_trans x.few (by decide), x.len, fun r hr it hi => itB_tx (Nat.le_trans x.few (by decide)) (x.it r hr it hi)⟩
theorem TxRs.wd {R : List (List Itm)} (x : TxRs R) : WdR R := fun r hr it hi => (x.it r hr it hi).wd
theorem getD_mem {R : List (List Itm)} {i : Nat} {it : Itm} (h : it ∈ R.getD i []) : R.getD i [] ∈ R := by
  by_cases c : i < R.length
  · rw [List.getD_eq_getElem?_getD, List.getElem?_eq_getElem c]
    exact List.getElem_mem c
  · rw [List.getD_eq_getElem?_getD, List.getElem?_eq_none (by omega)] at h
    exact nomatch h
theorem TxRs.canon {R : List (List Itm)} (x : TxRs R) (ok : NdOk R) {st : Nat} (h : st < R.length) : TxRs (canonN R st) := by
  have fd := found_fd ok h
  have few := fd.few
  refine ⟨Nat.le_trans (canon_len ok h) x.few, fun r hr => ?_, fun r hr it hi => ?_⟩
  · obtain ⟨i, im, rfl⟩ := List.mem_map.mp hr
    unfold numRow
    rw [List.length_map, List.getD_eq_getElem?_getD, List.getElem?_eq_getElem (fd.lt i im)]
    exact x.row _ (List.getElem_mem _)
  · obtain ⟨i, im, rfl⟩ := List.mem_map.mp hr
    obtain ⟨i0, h1, rfl⟩ := List.mem_map.mp hi
    have q := x.it _ (getD_mem h1) i0 h1
    cases i0 with
    | nd j =>
      show ixG _ _ ≤ 1000000
      have a := ixG_le (k := cl (clsE R) j) ((foundN R (clsE R) st).map (cl (clsE R)))
      rw [List.length_map] at a
      have b := x.few
      omega
    | num n => exact q
    | wd z => exact q
    | gap => exact True.intro
/-! ### the text of rows -/
def decS (n : Int) : Str := Str.ofString (toString n)
def itemT : Itm → Str
  | .num n => decS n
  | .wd z => z
  | .gap => "-"
  | .nd i => (Str.empty ++ ("@" : Str)) ++ decS (i : Nat)
def rowT (n : Int) (row : List Itm) : Str := Txt.join (" " : Str) (((Str.empty ++ decS n) ++ (":" : Str)) :: row.map itemT)
def rowsT (R : List (List Itm)) : Str := Txt.join ("\n" : Str) ((List.range R.length).map fun i => rowT ((0 : Int) + (i : Nat)) (R.getD i []))
theorem decS_len {n : Int} {k : Nat} (hk : 0 < k) (h : n.natAbs < 10 ^ k) : (decS n).length ≤ k + 1 := by
  have z := PySem.int_text_length_le10 hk h
  unfold decS
  rw [PySem.ofString_length]
  exact z
theorem len1 : ("-" : Str).length = 1 := by decide +kernel
theorem lenAt : ("@" : Str).length = 1 := by decide +kernel
theorem itemT_len {it : Itm} (h : TxI it) : (itemT it).length ≤ 61 := by
  cases it with
  | num n => exact decS_len (by decide) (of_decide_eq_true h)
  | wd z => exact Nat.le_trans (IsName.len h) (by decide)
  | gap => exact Nat.le_trans (Nat.le_of_eq len1) (by decide)
  | nd i =>
    have q := decS_len (n := (i : Nat)) (k := 8) (by decide) (Nat.lt_of_le_of_lt (show ((i : Nat) : Int).natAbs ≤ 1000000 from h) (by decide))
    show ((Str.empty ++ ("@" : Str)) ++ decS (i : Nat)).length ≤ 61
    rw [app_len, app_len, em_len, lenAt]
    omega
theorem joinT_len {y : Str} {k : Nat} {ps : List Str} (h : ∀ p ∈ ps, p.length ≤ k) : (Txt.join y ps).length ≤ ps.length * (k + y.length) := by
  rw [len_of, tl_joinT]
  have q := joinL_len (S := TL.tl y) (k := k) (ps := ps.map TL.tl) fun p hp => by
    obtain ⟨z, hz, rfl⟩ := List.mem_map.mp hp
    rw [← len_of]; exact h z hz
  rw [List.length_map, ← len_of] at q
  exact q
theorem rowT_parts {n : Int} {row : List Itm} (hn : n.natAbs < 10 ^ 7) (h : ∀ it ∈ row, TxI it) : ∀ p ∈ ((Str.empty ++ decS n) ++ (":" : Str)) :: row.map itemT, p.length ≤ 61 := fun p hp => by
  rcases List.mem_cons.mp hp with rfl | hp
  · have q := decS_len (n := n) (k := 7) (by decide) hn
    rw [app_len, app_len, em_len, co_len]
    omega
  · obtain ⟨it, hi, rfl⟩ := List.mem_map.mp hp
    exact itemT_len (h it hi)
theorem rowT_len {n : Int} {row : List Itm} (hn : n.natAbs < 10 ^ 7) (l : row.length ≤ 12) (h : ∀ it ∈ row, TxI it) : (rowT n row).length ≤ 820 := by
  have q := joinT_len (y := (" " : Str)) (rowT_parts hn h)
  rw [sp_len, List.length_cons, List.length_map] at q
  show (Txt.join _ _).length ≤ _
  have := Nat.mul_le_mul_right 62 (show row.length + 1 ≤ 13 by omega)
  omega
theorem log2_of {n : Int} {k : Nat} (h : n.natAbs < 2 ^ k) (hk : k ≤ 1920) (h0 : 0 < k) : n.natAbs.log2 < 1920 := by
  by_cases e : n.natAbs = 0
  · rw [e]; decide
  · exact Nat.lt_of_lt_of_le ((Nat.log2_lt e).mpr h) hk
section
variable {P : Program} {w : World} {K : PySem.W.Frag} {mg : Str → Option Value} {base : Heap} {CR : Addr}
/-! ### _item_text -/
def spItemT (K : PySem.W.Frag) : Sp := fun vs H Q _ => ∃ (t : Addr) (it : Itm), vs = [.ref t] ∧ ItA K H t it ∧ TxI it ∧ Q (.str (itemT it)) H
abbrev sItem_text : Stmt := top 27
theorem scItem_text : FnScope ["item", "kind", "value"] ["item"] (defScope sItem_text) := ⟨rfl, rfl, rfl, by decide +kernel, rfl, by decide +kernel, by decide +kernel⟩
theorem ok_itemT {f aG : Addr} {fd : FuncData} (F : Fun K "_item_text" "_item_text" sItem_text f fd) (mg_GAP : mg "GAP" = some (.ref aG)) (qG : ∀ H, SqT K H aG [.str "gap"]) : FnOk P w K mg base CX0 1 f fd ["item"] (spItemT K) := by
  refine F.ok scItem_text (fun vs H Q E h => ?_) (fun cdv A outer s H vs Q E hr h => ?_)
  · obtain ⟨t, it, rfl, _⟩ := h
    rfl
  · obtain ⟨t, it, rfl, ha, tx, k⟩ := h
    refine ⟨_, (pss_cons (ps_if (pt_cmpR (eqD K hr) (pv 0) (pe_glob (v := .ref _) rfl mg_GAP rfl) (nomark _))
        (pss_one (ps_ret pe_str)) pss_nil)
      (pss_cons (ps_asg (pv 0) (pg_tup rfl (pgs_cons (pg_name (i := 1) scItem_text.nd rfl (by first | exact Or.inl rfl | exact Or.inr rfl)) (pgs_cons (pg_name (i := 2) scItem_text.nd rfl (by first | exact Or.inl rfl | exact Or.inr rfl)) pgs_nil))))
      (pss_one (ps_ret (pe_ifExp (pt_cmpR op_eq (pv 1) pe_str (nomark _)) (pe_jn (.cons pe_str (.cons (pe_fmt (pv 2)) .nil))) (pe_joined1 (pe_fmt (pv 2)))))))), ?_⟩
    have sq : SqT K H t (itV it) := ha
    refine ⟨_, rfl, itD it, itD .gap, dp_it ha, dp_it (it := .gap) (qG H), (sh_it tx.wd).sh, (sh_it (it := .gap) fun z e => nomatch e).sh, _, rfl, ?_⟩
    rw [eqv_it]
    cases it with
    | gap =>
      rw [decide_eq_true rfl]
      exact iteT k
    | num n =>
      rw [decide_eq_false (by simp)]
      refine iteF ⟨_, rfl, t, _, rfl, sq, rfl, _, _, rfl, _, _, rfl, rfl, ?_⟩
      refine ⟨_, rfl, rfl, _, rfl, ite2 (fun e => absurd (V.str.inj (of_decide_eq_true e)) (by decide)) fun _ => ?_⟩
      refine ⟨_, rfl, .inr ⟨n, rfl, log2_of (k := 200) (Nat.lt_trans (of_decide_eq_true tx) (by decide +kernel)) (by decide) (by decide), k⟩⟩
    | wd z =>
      rw [decide_eq_false (by simp)]
      refine iteF ⟨_, rfl, t, _, rfl, sq, rfl, _, _, rfl, _, _, rfl, rfl, ?_⟩
      refine ⟨_, rfl, rfl, _, rfl, ite2 (fun e => absurd (V.str.inj (of_decide_eq_true e)) (by decide)) fun _ => ?_⟩
      exact ⟨_, rfl, .inl ⟨z, rfl, Nat.le_trans (IsName.len tx) (by decide), k⟩⟩
    | nd i =>
      rw [decide_eq_false (by simp)]
      refine iteF ⟨_, rfl, t, _, rfl, sq, rfl, _, _, rfl, _, _, rfl, rfl, ?_⟩
      refine ⟨_, rfl, rfl, _, rfl, ite2 (fun _ => ?_) fun e => absurd (decide_eq_true rfl) e⟩
      refine ⟨_, rfl, by decide +kernel, _, rfl, .inr ⟨(i : Nat), rfl, log2_of (k := 200) (Nat.lt_of_le_of_lt (show ((i : Nat) : Int).natAbs ≤ 1000000 from tx) (by decide +kernel)) (by decide) (by decide), _, rfl, ?_, k⟩⟩
      exact Nat.le_trans (itemT_len (it := .nd i) tx) (by decide)
/-! ### row_text -/
def spRowT (K : PySem.W.Frag) : Sp := fun vs H Q _ => ∃ (n : Int) (u : Addr) (row : List Itm), vs = [.int n, .ref u] ∧ RowL K H u row ∧ n.natAbs < 10 ^ 7 ∧ row.length ≤ 12 ∧ (∀ it ∈ row, TxI it) ∧ ∀ H', Same H H' → Q (.str (rowT n row)) H'
abbrev sRow_text : Stmt := top 26
theorem scRow_text : FnScope ["index", "row", "item"] ["index", "row"] (defScope sRow_text) := ⟨rfl, rfl, rfl, by decide +kernel, rfl, by decide +kernel, by decide +kernel⟩
theorem ok_rowT {f : Addr} {fd : FuncData} (F : Fun K "row_text" "row_text" sRow_text f fd) (c__item_text : Cal P w K mg base CX0 1 "_item_text" ["item"] (spItemT K)) : FnOk P w K mg base CX0 2 f fd ["index", "row"] (spRowT K) := by
  refine F.ok scRow_text (fun vs H Q E h => ?_) (fun cdv A outer s H vs Q E hr h => ?_)
  · obtain ⟨n, u, row, rfl, _⟩ := h
    rfl
  · obtain ⟨n, u, row, rfl, ⟨ts, hu, pr⟩, hn, l12, tx, k⟩ := h
    have hr__item_text := hr
    refine ⟨_, (pss_one (ps_ret (pe_join pe_str (pe_op op_cat (pe_lst (pa_cons (pe_jn (.cons (pe_fmt (pv 0)) (.cons pe_str .nil))) pa_nil)) (pe_lc (own := [("item", 2)]) (g := (gName 2)) (tt := tYes) rfl scRow_text.nd (pi_list (pv 1)) (blkOk_by (own := [("item", 2)]) (N := ["index", "row", "item"]) (sc := defScope sRow_text) (by decide +kernel)) (fun _ _ _ _ _ => (pg_name (i := 2) scRow_text.nd rfl (by first | exact Or.inl rfl | exact Or.inr rfl))) (fun _ _ _ _ _ => pts_nil) (fun _ _ _ _ _ => (pe_cal c__item_text hr__item_text pass0 (pa_cons (pv 2) pa_nil)))))))), ?_⟩
    have lt := Paired.length pr
    have q1 := rowT_parts hn tx
    have q0 := q1 _ List.mem_cons_self
    have ld := decS_len (n := n) (k := 7) (by decide) hn
    have sz : (5000 : Nat) < sizeLine := by decide
    refine ⟨⟨_, rfl⟩, ?_⟩
    refine ⟨_, rfl, .inr ⟨n, rfl, log2_of (k := 200) (Nat.lt_trans hn (by decide +kernel)) (by decide) (by decide), _, rfl, ?_, _, rfl, ?_, (by show 1 ≤ sizeLine; decide), fun l nl => ?_⟩⟩
    · show (Str.empty ++ decS n).length ≤ _
      rw [app_len, em_len]; omega
    · show ((Str.empty ++ decS n) ++ (":" : Str)).length ≤ _
      omega
    refine ⟨_, rfl, u, rfl, ⟨_, .of ((Same.new nl) _ _ hu)⟩, fun D nD => ?_⟩
    refine lc_it walk_list (fun i H' => Same H H' ∧ H' l = some (.lst [.str ((Str.empty ++ decS n) ++ (":" : Str))]) ∧ H' D = some (.lst (((row.take i).map itemT).map V.str))) ⟨(Same.new nl).trans (Same.new nD), (Same.new nD) _ _ upd_same, upd_same⟩ (fun i H' _ q => .of (q.1 _ _ hu)) ?_ ?_
    · rintro i x _ H1 hi ⟨s1, hl1, h1⟩ ⟨rfl, hx⟩
      rw [List.getElem?_map] at hx
      obtain ⟨t, ht, rfl⟩ := Option.map_eq_some_iff.mp hx
      obtain ⟨it, hit, sq⟩ := paired_get pr ht
      rw [List.length_map] at hi
      have nD0 : H D = none := (Same.new nl).free nD
      have lD : l ≠ D := Ne.symm (ne_none nD upd_same)
      refine ⟨rfl, yes_then ?_⟩
      refine ⟨_, rfl, t, it, rfl, sq.same s1, tx it (List.mem_of_getElem? hit), ?_⟩
      refine ⟨_, h1, by rw [List.length_map, List.length_map, List.length_take]; omega, s1.mut nD0, by rw [upd_ne lD]; exact hl1, ?_⟩
      rw [upd_same, List.take_add_one, hit, Option.toList_some, List.map_append, List.map_append]; rfl
    · rintro H1 ⟨s1, hl1, h1⟩
      rw [List.length_map, lt, List.take_length] at h1
      refine ⟨l, D, _, _, rfl, rfl, hl1, h1, by rw [List.length_map, List.length_map]; show 1 + _ ≤ _; omega, fun p np => ?_⟩
      have hp : (upd H1 p (.lst ([.str ((Str.empty ++ decS n) ++ (":" : Str))] ++ (row.map itemT).map V.str))) p = some (.lst ((((Str.empty ++ decS n) ++ (":" : Str)) :: row.map itemT).map V.str)) := upd_same
      refine ⟨_, p, _, rfl, rfl, .inl (.of hp), ?_, k _ (s1.trans (Same.new np))⟩
      have a := sum_le q1
      rw [List.length_cons, List.length_map] at a
      rw [List.length_cons, List.length_map, sp_len]
      have b := Nat.mul_le_mul_right 61 (show row.length + 1 ≤ 13 by omega)
      omega
/-! ### Result.text -/
def spRsText (K : PySem.W.Frag) (CR : Addr) : Sp := fun vs H Q _ => ∃ (p dx d : Addr) (us : List Addr) (R : List (List Itm)), vs = [.ref p] ∧ RsA K CR H p dx d us R ∧ TxRs R ∧ ∀ H', Same H H' → Q (.str (rowsT R)) H'
abbrev sResultText : Stmt := inClass (top 31) 4
theorem scResultText : FnScope ["self", "index", "row"] ["self"] (defScope sResultText) := ⟨rfl, rfl, rfl, by decide +kernel, rfl, by decide +kernel, by decide +kernel⟩
theorem ok_rsText {f : Addr} {fd : FuncData} (F : Fun K "text" "Result.text" sResultText f fd) (T : RsC K mg CR) (mEnum : mg "enumerate" = none) (c_row_text : Cal P w K mg base CX0 2 "row_text" ["index", "row"] (spRowT K)) : FnOk P w K mg base CX0 3 f fd ["self"] (spRsText K CR) := by
  refine F.ok scResultText (fun vs H Q E h => ?_) (fun cdv A outer s H vs Q E hr h => ?_)
  · obtain ⟨p, dx, d, us, R, rfl, _⟩ := h
    rfl
  · obtain ⟨p, dx, d, us, R, rfl, x, tx, k⟩ := h
    have hr_row_text := hr
    refine ⟨_, (pss_one (ps_ret (pe_join pe_str (pe_lc (own := [("index", 1), ("row", 2)]) (g := (gTup K 2 (gCons (gName 1) (gCons (gName 2) gNil)))) (tt := tYes) rfl scResultText.nd (pi_enumA (by rfl) mEnum (pa_cons (fldK K (pv 0)) pa_nil)) (blkOk_by (own := [("index", 1), ("row", 2)]) (N := ["self", "index", "row"]) (sc := defScope sResultText) (by decide +kernel)) (fun _ _ _ _ _ => (pg_tup rfl (pgs_cons (pg_name (i := 1) scResultText.nd rfl (by first | exact Or.inl rfl | exact Or.inr rfl)) (pgs_cons (pg_name (i := 2) scResultText.nd rfl (by first | exact Or.inl rfl | exact Or.inr rfl)) pgs_nil)))) (fun _ _ _ _ _ => pts_nil) (fun _ _ _ _ _ => (pe_cal c_row_text hr_row_text pass0 (pa_cons (pv 1) (pa_cons (pv 2) pa_nil)))))))), ?_⟩
    obtain ⟨hd, pr⟩ := x.l
    have lu := Paired.length pr
    have few := tx.few
    have sz : (5000 : Nat) < sizeLine := by decide
    refine ⟨⟨_, rfl⟩, _, rfl, p, CR, dx, _, _, rfl, x.o, T.ins.cl, T.nR, flR_get d, d, _, rfl, .inl ⟨.of hd, fun D nD => ?_⟩⟩
    refine lc_it walk_enumSL (fun i H' => Same H H' ∧ H' D = some (.lst (((List.range i).map fun i => rowT ((0 : Int) + (i : Nat)) (R.getD i [])).map V.str))) ⟨Same.new nD, upd_same⟩ (fun i H' _ q => .of (q.1 _ _ hd)) ?_ ?_
    · rintro i x H1 H2 hi ⟨s1, h1⟩ ⟨T, x1, y, rfl, hT, rfl, e1, e2⟩
      obtain rfl : x1 = .int ((0 : Int) + (i : Nat)) := (Option.some.inj e1).symm
      have e2 : (us.map V.ref)[i]? = some y := e2
      rw [List.getElem?_map] at e2
      obtain ⟨u, hu, rfl⟩ := Option.map_eq_some_iff.mp e2
      obtain ⟨row, hrow, ru⟩ := paired_get pr hu
      rw [List.length_map] at hi
      have rm := List.mem_of_getElem? hrow
      have rg : R.getD i [] = row := by rw [List.getD_eq_getElem?_getD, hrow]; rfl
      have s2 := Same.new (o := .tup [.int ((0 : Int) + (i : Nat)), .ref u]) hT
      have h2 := s2 _ _ h1
      refine ⟨T, _, rfl, .of upd_same, rfl, _, _, rfl, _, _, rfl, rfl, rfl, yes_then ?_⟩
      refine ⟨_, rfl, _, rfl, (0 : Int) + (i : Nat), u, row, rfl, (ru.same s1).same s2, Nat.lt_of_le_of_lt (by omega : _ ≤ 1000) (by decide), tx.row row rm, tx.it row rm, fun H3 s3 => ?_⟩
      have h3 := s3 _ _ h2
      refine ⟨_, h3, by rw [List.length_map, List.length_map, List.length_range]; omega, ((s1.trans s2).trans s3).mut nD, ?_⟩
      rw [upd_same, List.range_succ, List.map_append, List.map_append, List.map_cons, List.map_nil, rg]; rfl
    · rintro H1 ⟨s1, h1⟩
      rw [List.length_map, lu] at h1
      refine ⟨_, D, _, rfl, rfl, .inl (.of h1), ?_, k H1 s1⟩
      have parts : ∀ z ∈ (List.range R.length).map fun i => rowT ((0 : Int) + (i : Nat)) (R.getD i []), z.length ≤ 820 := fun z hz => by
        obtain ⟨i, hi, rfl⟩ := List.mem_map.mp hz
        have il := List.mem_range.mp hi
        have rm : R.getD i [] ∈ R := by rw [List.getD_eq_getElem?_getD, List.getElem?_eq_getElem il]; exact List.getElem_mem il
        exact rowT_len (Nat.lt_of_le_of_lt (by omega : _ ≤ 1000) (by decide)) (tx.row _ rm) (tx.it _ rm)
      have a := sum_le parts
      rw [List.length_map, List.length_range] at a
      rw [List.length_map, List.length_range]
      have e1 : ("\n" : Str).length = 1 := by decide +kernel
      rw [e1]
      have b := Nat.mul_le_mul_right 820 few
      omega
end
end Mf
namespace Mf
open PySem L2
/-! ### is_numeral -/
def digs (z : Str) : Str := Txt.removeprefix z "-"
def digB (z : Str) : Bool := z.cps.toList.all fun c => decide (48 ≤ c) && decide (c ≤ 57)
def numT (z : Str) : Bool := decide (1 ≤ (digs z).length) && decide ((digs z).length ≤ 60) && digB (digs z) && (!decide ((digs z).cps[0]? = some 48) || decide (z = "0"))
def spIsNumeral : Sp := fun vs H Q _ => ∃ z : Str, vs = [.str z] ∧ z.length ≤ 1000000 ∧ ∀ H', Same H H' → Q (.bl (numT z)) H'
theorem le_of_sign0 {c : Nat} (q : (!decide ([c] < [48])) = true) : 48 ≤ c := by
  rw [sign_le] at q; exact of_decide_eq_true q
theorem le_sign0 {c : Nat} (q : 48 ≤ c) : (!decide ([c] < [48])) = true := by
  rw [sign_le]; exact decide_eq_true q
theorem rem_len (a b : Str) : (Txt.removeprefix a b).length ≤ a.length := by
  unfold Txt.removeprefix Txt.affix
  split
  · rename_i lo hi e
    split
    · exact Nat.le_refl _
    · unfold Builtin.Str.strSub
      show (a.cps.extract _ _).size ≤ a.cps.size
      rw [Array.size_extract]
      omega
  · exact Nat.le_refl _
section
variable {P : Program} {w : World} {K : PySem.W.Frag} {mg : Str → Option Value} {base : Heap}
abbrev sIs_numeral : Stmt := top 12
theorem scIs_numeral : FnScope ["text", "digits", "letter"] ["text"] (defScope sIs_numeral) := ⟨rfl, rfl, rfl, by decide +kernel, rfl, by decide +kernel, by decide +kernel⟩
theorem ok_is_numeral {f : Addr} {fd : FuncData} {t : Tok} (F : Fun K "is_numeral" "is_numeral" sIs_numeral f fd) (mLen : mg "len" = none) (mAll : mg "all" = none) (mg_MOST_DIGITS : mg "MOST_DIGITS" = some (.int 60 t)) : FnOk P w K mg base CX0 1 f fd ["text"] spIsNumeral := by
  refine F.ok scIs_numeral (fun vs H Q E h => ?_) (fun cdv A outer s H vs Q E hr h => ?_)
  · obtain ⟨z, rfl, _⟩ := h
    rfl
  · obtain ⟨z, rfl, hz, k⟩ := h
    refine ⟨_, (pss_cons (ps_set (i := 1) scIs_numeral.nd rfl (by first | exact Or.inl rfl | exact Or.inr rfl) (pe_m1 PySem.F.slot_str_removeprefix PySem.F.type_str_removeprefix mt_removeprefix (pv 0) pe_str))
      (pss_cons (ps_if (pt_not (pt_chain op_le op_le pe_int (pe_callB call_len_str (by rfl) mLen (by decide +kernel) (pa_cons (pv 1) pa_nil)) (pe_glob (v := .int 60) rfl mg_MOST_DIGITS ⟨_, rfl⟩)))
        (pss_one (ps_ret pe_bl)) pss_nil)
      (pss_cons (ps_if (pt_not (pt_val (pe_callB (k_all K) (by rfl) mAll (by decide +kernel) (pa_cons (pe_lc (own := [("letter", 2)]) (g := (gName 2)) (tt := tYes) rfl scIs_numeral.nd (pi_str (pv 1)) (blkOk_by (own := [("letter", 2)]) (N := ["text", "digits", "letter"]) (sc := defScope sIs_numeral) (by decide +kernel)) (fun _ _ _ _ _ => (pg_name (i := 2) scIs_numeral.nd rfl (by first | exact Or.inl rfl | exact Or.inr rfl))) (fun _ _ _ _ _ => pts_nil) (fun _ _ _ _ _ => (pe_chain op_le_str op_le_str pe_str (pv 2) pe_str))) pa_nil))))
        (pss_one (ps_ret pe_bl)) pss_nil)
      (pss_one (ps_ret (pe_or (pe_cmpR op_ne (pe_ix ix_str (pv 1) pe_int (fun _ _ => rfl)) pe_str (nomark _)) (pe_one (pe_cmpR op_eq (pv 0) pe_str (nomark _))))))))), ?_⟩
    have zs : z.length ≤ sizeLine := Nat.le_trans hz (by decide)
    refine ⟨_, rfl, ⟨_, rfl⟩, _, _, rfl, rfl, zs, ?_⟩
    have dl : (digs z).length ≤ 1000000 := Nat.le_trans (rem_len z "-") hz
    have ez : Txt.removeprefix z "-" = digs z := rfl
    rw [ez]
    have zd : (digs z).length ≤ sizeLine := Nat.le_trans dl (by decide)
    refine ⟨_, rfl, _, rfl, zd, _, _, rfl, rfl, _, rfl, ?_⟩
    by_cases b1 : 1 ≤ (digs z).length
    · rw [decide_eq_true (by omega : (1 : Int) ≤ ((digs z).length : Nat))]
      refine iteT ⟨_, _, rfl, rfl, ?_⟩
      by_cases b2 : (digs z).length ≤ 60
      · refine ⟨true, congrArg V.bl (decide_eq_true (by omega)), iteF ?_⟩
        refine ⟨_, rfl, _, rfl, fun D hD => ?_⟩
        refine lc_it walk_str (fun i H' => H' D = some (.lst ((((digs z).cps.toList.take i).map fun c => decide (48 ≤ c) && decide (c ≤ 57)).map V.bl)) ∧ Same H H') ⟨upd_same, Same.new hD⟩ (fun _ _ _ _ => trivial) ?_ ?_
        · rintro i x H4 H5 hi ⟨h4, s4⟩ ⟨rfl, c, hc, rfl⟩
          refine ⟨rfl, yes_then ?_⟩
          have hc' : (digs z).cps.toList[i]? = some c := by rw [Array.getElem?_toList]; exact hc
          have hlen : i < (digs z).length := hi
          have fin : ∀ b : Bool, b = (decide (48 ≤ c) && decide (c ≤ 57)) → ∃ acc, H5 D = some (.lst acc) ∧ acc.length < sizeLine ∧
              upd H5 D (.lst (acc ++ [.bl b])) D = some (.lst ((((digs z).cps.toList.take (i + 1)).map fun c => decide (48 ≤ c) && decide (c ≤ 57)).map V.bl)) ∧ Same H (upd H5 D (.lst (acc ++ [.bl b]))) := by
            rintro b rfl
            refine ⟨_, h4, ?_, ?_, s4.mut hD⟩
            · rw [List.length_map, List.length_map]
              exact Nat.lt_of_le_of_lt (List.length_take_le _ _) (Nat.lt_of_lt_of_le (by omega : i < 61) (by decide))
            · rw [upd_same, List.take_add_one, hc', List.map_append, List.map_append]; rfl
          refine ⟨_, rfl, _, _, rfl, rfl, _, rfl, ite2 (fun q => ?_) fun q => ?_⟩
          · refine ⟨_, _, rfl, rfl, ?_⟩
            refine fin _ ?_
            have e1 : 48 ≤ c := le_of_sign0 q
            rw [decide_eq_true e1, Bool.true_and]
            exact sign_le c 57
          · refine fin false ?_
            have e1 : ¬ 48 ≤ c := fun h => q (le_sign0 h)
            rw [decide_eq_false e1, Bool.false_and]
        · rintro H4 ⟨h4, s4⟩
          refine ⟨D, _, rfl, .of h4, ?_⟩
          have e : digB (digs z) = ((((digs z).cps.toList.take (digs z).cps.size).map fun c => decide (48 ≤ c) && decide (c ≤ 57)).all id) := by
            unfold digB
            rw [List.take_of_length_le (by rw [Array.length_toList]; exact Nat.le_refl _), List.all_map]
            rfl
          rw [← e]
          refine ⟨_, rfl, ?_⟩
          have q := k H4 s4
          unfold numT at q
          rw [decide_eq_true b1, decide_eq_true b2, Bool.true_and, Bool.true_and] at q
          cases hb : digB (digs z) with
          | false =>
            rw [hb, Bool.false_and] at q
            exact iteT q
          | true =>
            rw [hb, Bool.true_and] at q
            refine iteF ?_
            have h0 : 0 < (digs z).cps.toList.length := by rw [Array.length_toList]; exact b1
            have hc : (digs z).cps.toList[0]? = some (digs z).cps.toList[0] := List.getElem?_eq_getElem h0
            have hc2 : (digs z).cps[0]? = some (digs z).cps.toList[0] := by rw [← Array.getElem?_toList]; exact hc
            generalize (digs z).cps.toList[0] = c0 at hc hc2
            rw [hc2] at q
            have ex : decide (V.str ⟨#[c0]⟩ = V.str "0") = decide (some c0 = some 48) := decide_eq_decide.mpr ⟨fun e => by
              have e := V.str.inj e
              have e2 : (⟨#[c0]⟩ : Str).cps.toList = ("0" : Str).cps.toList := by rw [e]
              have e3 : ("0" : Str).cps.toList = [48] := by decide +kernel
              rw [e3] at e2
              have e4 : [c0] = [48] := e2
              cases e4; rfl, fun e => by cases e; exact congrArg V.str (by decide +kernel)⟩
            refine ⟨_, rfl, _, (0 : Nat), c0, rfl, rfl, zd, atI_nat hc, rfl, _, rfl, ?_⟩
            rw [ex]
            by_cases e0 : some c0 = some 48
            · rw [decide_eq_true e0] at q ⊢
              refine iteF ⟨_, rfl, rfl, ?_⟩
              have ez2 : decide (V.str z = V.str "0") = decide (z = "0") := decide_eq_decide.mpr ⟨fun e => V.str.inj e, fun e => by rw [e]⟩
              rw [ez2]
              exact q
            · rw [decide_eq_false e0] at q ⊢
              exact iteT q
      · refine ⟨false, congrArg V.bl (decide_eq_false (by omega)), iteT ?_⟩
        have q := k H (Same.refl H)
        unfold numT at q
        rw [decide_eq_false b2, Bool.and_false, Bool.false_and, Bool.false_and] at q
        exact q
    · rw [decide_eq_false (by omega : ¬ (1 : Int) ≤ ((digs z).length : Nat))]
      refine iteF ⟨false, rfl, iteT ?_⟩
      have q := k H (Same.refl H)
      unfold numT at q
      rw [decide_eq_false b1, Bool.false_and, Bool.false_and, Bool.false_and] at q
      exact q
end
end Mf
namespace Mf
open PySem L2
/-! ### the decimal text of a number -/
theorem numL_head : ∀ (n : Nat), 1 ≤ n → ∃ d r, TL.numL n = d :: r ∧ d ≠ 48 := by
  intro n
  induction n using Nat.strongRecOn with
  | ind n ih =>
    intro h
    by_cases l : n < 10
    · exact ⟨48 + n, [], TL.numL_lt l, by omega⟩
    · obtain ⟨d, r, e, nz⟩ := ih (n / 10) (by omega) (by omega)
      exact ⟨d, r ++ [48 + n % 10], by rw [TL.numL_step (by omega), e]; rfl, nz⟩
theorem tl_nat (n : Nat) : TL.tl (decS (n : Nat)) = TL.numL n := TL.tl_num n
theorem tl_neg (m : Nat) : TL.tl (decS (Int.negSucc m)) = 45 :: TL.numL (m + 1) := by
  have e : decS (Int.negSucc m) = Str.ofString ("-" ++ toString ((m + 1 : Nat))) := rfl
  have e2 : TL.tl (Str.ofString (toString ((m + 1 : Nat) : Int))) = TL.numL (m + 1) := TL.tl_num (m + 1)
  rw [e, TL.tl_ofString, String.toList_append, List.map_append]
  rw [TL.tl_ofString] at e2
  have e3 : (toString ((m + 1 : Nat) : Int)) = toString (m + 1) := rfl
  rw [e3] at e2
  rw [e2]
  rfl
theorem sub_minus (z : Str) : Builtin.Str.subAt z ("-" : Str) 0 = decide ((TL.tl z).head? = some 45) := by
  have e2 : ("-" : Str).cps.toList = [45] := by decide +kernel
  have e3 : ("-" : Str).length = 1 := by decide +kernel
  have tk : (z.cps.extract 0 (0 + ("-" : Str).length)).toList = (TL.tl z).take 1 := by
    rw [e3, Array.toList_extract]
    simp [List.extract]
  unfold Builtin.Str.subAt
  by_cases h : (TL.tl z).head? = some 45
  · rw [decide_eq_true h]
    refine beq_iff_eq.mpr (Array.toList_inj.mp ?_)
    rw [tk, e2]
    cases e : TL.tl z with
    | nil => rw [e] at h; cases h
    | cons a r => rw [e] at h; cases h; rfl
  · rw [decide_eq_false h]
    refine beq_eq_false_iff_ne.mpr fun e => h ?_
    have e1 : (z.cps.extract 0 (0 + ("-" : Str).length)).toList = ("-" : Str).cps.toList := by rw [e]
    rw [tk, e2] at e1
    cases e4 : TL.tl z with
    | nil => rw [e4] at e1; cases e1
    | cons a r => rw [e4] at e1; cases e1; rfl
theorem rem_no {z : Str} (h : (TL.tl z).head? ≠ some 45) : digs z = z := by
  unfold digs Txt.removeprefix
  rw [sub_minus, decide_eq_false h]
  rfl
theorem rem_yes {z : Str} {r : List Nat} (h : TL.tl z = 45 :: r) : TL.tl (digs z) = r := by
  unfold digs Txt.removeprefix
  rw [sub_minus, decide_eq_true (by rw [h]; rfl)]
  have e3 : ("-" : Str).length = 1 := by decide +kernel
  have zl : z.length = r.length + 1 := by rw [TL.len_tl, h]; rfl
  show TL.tl (if (z.length - ("-" : Str).length == z.length) = true then z else Builtin.Str.strSub z ("-" : Str).length z.length) = r
  rw [e3, if_neg (by simp; omega), TL.tl_strSub, h]
  simp [zl]
theorem allD (z : Str) (h : NumText.AllDigits (TL.tl z)) : digB z = true := List.all_eq_true.mpr fun c hc => by
  obtain ⟨a, b⟩ := h c hc
  rw [decide_eq_true a, decide_eq_true b]; rfl
theorem head_get {z : Str} {d : Nat} {r : List Nat} (h : TL.tl z = d :: r) : z.cps[0]? = some d := by
  rw [← Array.getElem?_toList]
  show (TL.tl z)[0]? = _
  rw [h]; rfl
theorem decS_zero : decS 0 = "0" := rfl
theorem numT_nat {m : Nat} (h : m < 10 ^ 60) : numT (decS (m : Nat)) = true := by
  have e := tl_nat m
  have hd : (TL.tl (decS (m : Nat))).head? ≠ some 45 := by
    rw [e]
    intro q
    cases hL : TL.numL m with
    | nil => exact TL.numL_ne m hL
    | cons a r =>
      rw [hL] at q
      cases q
      have := TL.numL_digits m 45 (by rw [hL]; exact List.mem_cons_self)
      omega
  have l1 : 1 ≤ (decS (m : Nat)).length := by
    rw [TL.len_tl, e]
    cases hL : TL.numL m with
    | nil => exact absurd hL (TL.numL_ne m)
    | cons a r => simp
  have l2 : (decS (m : Nat)).length ≤ 60 := by
    rw [TL.len_tl, e]
    exact TL.numL_len (by decide) h
  have dg := allD (decS (m : Nat)) (by rw [e]; exact TL.numL_digits m)
  have zr : m = 0 → decS (m : Nat) = "0" := fun z => by rw [z]; rfl
  have nz : m ≠ 0 → (decS (m : Nat)).cps[0]? ≠ some 48 := fun z => by
    obtain ⟨d, r, er, nz⟩ := numL_head m (by omega)
    rw [head_get (e.trans er)]
    exact fun q => nz (Option.some.inj q)
  generalize decS (m : Nat) = x at *
  unfold numT
  rw [rem_no hd, decide_eq_true l1, decide_eq_true l2, dg, Bool.true_and, Bool.true_and]
  by_cases m0 : m = 0
  · rw [decide_eq_true (zr m0), Bool.or_true]; rfl
  · rw [decide_eq_false (nz m0)]; rfl
/-- the decimal text of a number is a numeral -/
theorem numT_dec {n : Int} (h : n.natAbs < 10 ^ 60) : numT (decS n) = true := by
  cases n with
  | ofNat m => exact numT_nat h
  | negSucc m =>
    unfold numT
    have e := tl_neg m
    have ed := rem_yes e
    have l1 : 1 ≤ (digs (decS (Int.negSucc m))).length := by
      rw [TL.len_tl, ed]
      cases hL : TL.numL (m + 1) with
      | nil => exact absurd hL (TL.numL_ne _)
      | cons a r => simp
    have l2 : (digs (decS (Int.negSucc m))).length ≤ 60 := by
      rw [TL.len_tl, ed]
      exact TL.numL_len (by decide) h
    rw [decide_eq_true l1, decide_eq_true l2, allD _ (by rw [ed]; exact TL.numL_digits _), Bool.true_and, Bool.true_and]
    obtain ⟨d, r, er, nz⟩ := numL_head (m + 1) (by omega)
    rw [head_get (ed.trans er), decide_eq_false (fun q => nz (Option.some.inj q))]; rfl
theorem int_dec {n : Int} (h : n.natAbs < 10 ^ 60) : PySem.intText? (decS n) = some n := by
  cases n with
  | ofNat m => exact TL.int_num (Nat.le_trans (TL.numL_len (k := 60) (by decide) h) (by decide))
  | negSucc m =>
    have e := tl_neg m
    have z := intText_neg (x := decS (Int.negSucc m)) e (TL.numL_digits _) (TL.numL_ne _) (by
      rw [TL.len_tl, e, List.length_cons]
      have := TL.numL_len (n := m + 1) (k := 60) (by decide) h
      omega)
    rw [TL.numL_val] at z
    exact z
/-- a text with another sign ahead is none -/
theorem numT_no {z : Str} {c : Nat} {r : List Nat} (h : TL.tl z = c :: r) (n1 : c ≠ 45) (n2 : ¬ (48 ≤ c ∧ c ≤ 57)) : numT z = false := by
  have hd : (TL.tl z).head? ≠ some 45 := by rw [h]; exact fun q => n1 (Option.some.inj q)
  unfold numT
  rw [rem_no hd]
  have b : digB z = false := by
    unfold digB
    show (TL.tl z).all _ = false
    rw [h, List.all_cons]
    by_cases a : 48 ≤ c
    · rw [decide_eq_false (show ¬ c ≤ 57 from fun q => n2 ⟨a, q⟩)]; simp
    · rw [decide_eq_false a]; rfl
  rw [b, Bool.and_false, Bool.false_and]
end Mf


namespace Mf
open PySem L2

/-- the rule for making an error, also with keywords: the check of its maker -/
theorem eck {M : Model} {A : Around} {E : Value → Shared → Prop} {h : Heap} {g : Array GenState}
    {d : Drawn} {t : Nat} {os : OsState} {nm q : Str} {C N : Addr} {bs bm bmB : List Value} {hdct : Bool} {sn : List Str}
    {sub : List Value} {ab : Bool} {col : Option Bool} {dd : Option Addr} {k0 k1 k2 k3 k5 : Option Value}
    {B newId initId : String} (F : ExcBaseFacts B newId initId bmB)
    (hb : ∀ X : String, bm.contains (Value.type X) = bmB.contains (Value.type X))
    {rest : List Value} {kw : List (Str × Value)} {Q : Unit → Shared → Prop}
    (hC : h.get? C = some (excClassObj nm q C N bs bm hdct sn sub ab col dd k0 k1 k2 k3 k5 newId))
    (hQ : Q () ⟨h, g, d, t, os⟩) :
    wpAny M A (checkBuiltinCall newId ⟨.ref C :: rest, kw⟩) Q E ⟨h, g, d, t, os⟩ := by
  have hB : List.contains (Value.ref C :: bm) (Value.type B) = true := by
    rw [List.contains_cons, hb, F.hasB, Bool.or_true]
  unfold checkBuiltinCall
  simp only [F.newKind, F.newSplit, F.newRow]
  rw [if_pos (by decide)]
  refine wpAny_bind (wpAny_bind (wpAny_loadPart_at hC ?_))
  refine wpAny_pure ?_
  refine wpAny_ite_false (by rfl) ?_
  refine wpAny_bind (wpAny_isSubtype_exc hC ?_)
  rw [hB]
  refine wpAny_ite_false (by rfl) ?_
  refine wpAny_bind (wpAny_staticBase_exc hC ?_)
  refine wpAny_bind (wpAny_madeBy_exc hC ?_)
  simp only [bne_self_eq_false, Bool.false_eq_true, if_false]
  have nst : (B == "*") = false := by have := F.noStar; simpa using this
  unfold Bind.checkArgs
  simp only [Bind.printed, F.noStar, nst, Bool.false_and, if_false, if_true, Bool.false_eq_true, pure_bind, Bind.check]
  exact wpAny_onRaise (wpAny_pure hQ)

theorem enew {prog : Program} {w : World} {A : Around} {R : Result → Shared → Prop} {h : Heap} {g : Array GenState}
    {d : Drawn} {t : Nat} {os : OsState} {nm q : Str} {C N : Addr} {bs bm bmB : List Value} {hdct : Bool} {sn : List Str}
    {sub : List Value} {ab : Bool} {col : Option Bool} {dd : Option Addr} {k0 k1 k2 k3 k5 : Option Value}
    {B newId initId : String} (F : ExcBaseFacts B newId initId bmB)
    (hb : ∀ X : String, bm.contains (Value.type X) = bmB.contains (Value.type X))
    {rest : List Value} {kw : List (Str × Value)}
    (hC : h.get? C = some (excClassObj nm q C N bs bm hdct sn sub ab col dd k0 k1 k2 k3 k5 newId))
    (hR : R (.ok (.ret (.ref (h.objs.size + 1))))
      ⟨(h.push (W.kdv_tup rest)).push (HandSPX.excO C h.objs.size), g, d, t, os⟩)
    (hl : rest.length ≤ sizeLine) :
    codeAny (model prog w) A (.builtin newId ⟨.ref C :: rest, kw⟩) R ⟨h, g, d, t, os⟩ := by
  have hB : List.contains (Value.ref C :: bm) (Value.type B) = true := by
    rw [List.contains_cons, hb, F.hasB, Bool.or_true]
  have hA : List.contains (Value.ref C :: bm) (Value.type "AttributeError") = false := by
    rw [List.contains_cons, hb, F.noAttr]; rfl
  have hN : List.contains (Value.ref C :: bm) (Value.type "NameError") = false := by
    rw [List.contains_cons, hb, F.noName]; rfl
  refine codeAny_builtinAt F.entry ?_
  unfold Builtin.«BaseException.__new__»
  refine wpAt_bind ?_
  refine wpAt_bind (wpAt_stack fun p below => ?_)
  refine wpAt_of_wpAny ?_
  refine wpAny_ite_true (by rw [F.ends]; rfl) ?_
  refine wpAny_pure ?_
  rw [F.owner]
  refine wpAt_of_wpAny ?_
  refine wpAny_bind (wpAny_bind (wpAny_loadPart_at hC (wpAny_pure ?_)))
  refine wpAny_ite_false (by rfl) ?_
  refine wpAny_bind (wpAny_isSubtype_exc hC ?_)
  rw [hB]
  refine wpAny_ite_false (by rfl) ?_
  refine wpAny_bind (wpAny_madeHere_exc F.canon hC ?_)
  refine wpAny_bind (wpAny_bind (wpAny_isSubtype_exc hC ?_))
  rw [hA]
  refine wpAny_ite_false (by rfl) ?_
  refine wpAny_bind (wpAny_isSubtype_exc hC ?_)
  rw [hN]
  refine wpAny_ite_false (by rfl) ?_
  refine wpAny_pure ?_
  unfold newTuple newObj
  refine wpAny_bind (wpAny_ite_false (by
    rw [List.size_toArray]; exact decide_eq_false (Nat.not_lt.mpr hl)) ?_)
  unfold newObjAsIs
  refine wpAny_bind (wpAny_alloc' ?_)
  refine wpAny_pure ?_
  refine wpAny_bind (wpAny_ite_false (by
    show decide (6 > sizeLine + 2) = false
    rw [sizeLine_eq]; rfl) ?_)
  refine wpAny_bind (wpAny_alloc' ?_)
  refine wpAny_bind (wpAny_bind (wpAny_load' (Heap.get?_push_of_some _ (Heap.get?_push_of_some _ hC)) (wpAny_pure ?_)))
  refine wpAny_ite_false (by rfl) ?_
  refine wpAny_pure ?_
  refine wpAny_pure ?_
  rw [Heap.size_push]
  exact hR

theorem etype {prog : Program} {w : World} {A A' : Around} {R : Result → Shared → Prop} {h : Heap} {g : Array GenState}
    {d : Drawn} {t : Nat} {os : OsState} {nm q : Str} {C N : Addr} {bs bm bmB : List Value} {hdct : Bool} {sn : List Str}
    {sub : List Value} {ab : Bool} {col : Option Bool} {dd : Option Addr} {k0 k1 k2 k3 k5 : Option Value}
    {B newId initId : String} (F : ExcBaseFacts B newId initId bmB)
    (hb : ∀ X : String, bm.contains (Value.type X) = bmB.contains (Value.type X))
    {rest : List Value} {kw : List (Str × Value)} {fI : Addr}
    (hC : h.get? C = some (excClassObj nm q C N bs bm hdct sn sub ab col dd k0 k1 k2 k3 k5 newId))
    (hi : W.Looks (model prog w) h (typeLookup (.ref C) (Str.ofString "__init__")) (some (.ref fI)))
    (hs : ∀ self : Value, W.Looks (model prog w) h (bindSpecial (.ref fI) self) (.ref fI, [self]))
    (hl : rest.length ≤ sizeLine)
    (hR : codeAny (model prog w) A
      (.call (.ref fI) ⟨.ref (h.objs.size + 1) :: rest, kw⟩) (W.InitBack (h.objs.size + 1) R)
      ⟨(h.push (W.kdv_tup rest)).push (HandSPX.excO C h.objs.size), g, d, t, os⟩) :
    wpAny (model prog w) A (Builtin.«type.__call__» ⟨.ref C :: rest, kw⟩)
      (fun fin s' => match fin with
        | Fin.done f => R (.ok f) s'
        | Fin.again c' => c'.quiet = true ∧ codeAny (model prog w) A' c' R s')
      (fun e s' => R (.error e) s') ⟨h, g, d, t, os⟩ := by
  unfold Builtin.«type.__call__»
  refine wpAny_ite_false (by rfl) ?_
  dsimp only
  refine wpAny_bind ?_
  unfold mroOf classData
  refine wpAny_bind (wpAny_bind (wpAny_load' hC (wpAny_pure (wpAny_pure ?_))))
  refine wpAny_ite_false (by rfl) ?_
  refine wpAny_bind (wpAny_madeBy_exc hC ?_)
  dsimp only
  refine wpAny_bind (wpAny_pure ?_)
  refine wpAny_bind (wpAny_holding (wpAny_call ?_))
  refine codeAny_call_builtin_code (Code.quiet_builtin _ F.quiet) (eck F hb hC ?_)
  refine enew F hb hC ?_ hl
  have keep : ∀ (b : Addr) (o : Obj), h.get? b = some o →
      ((h.push (W.kdv_tup rest)).push (HandSPX.excO C h.objs.size)).get? b = some o :=
    fun b o hbo => Heap.get?_push_of_some _ (Heap.get?_push_of_some _ hbo)
  have atE : ((h.push (W.kdv_tup rest)).push (HandSPX.excO C h.objs.size)).get? (h.objs.size + 1)
      = some (HandSPX.excO C h.objs.size) :=
    Heap.get?_push_at (by rw [Heap.size_push]) rfl
  have hC2 := keep _ _ hC
  dsimp only
  unfold isInstance
  refine wpAny_bind (wpAny_bind ?_)
  unfold typeOf
  refine wpAny_bind (wpAny_loadPart_at atE (wpAny_pure ?_))
  refine wpAny_isSubtype_exc hC2 ?_
  have cC : List.contains (Value.ref C :: bm) (Value.ref C) = true := by
    rw [List.contains_cons, beq_self_eq_true, Bool.true_or]
  rw [cC]
  refine wpAny_ite_false (by rfl) ?_
  unfold callSpecial? specialOf typeOf
  refine wpAny_bind (wpAny_holding (wpAny_bind (wpAny_bind (wpAny_bind (wpAny_loadPart_at atE (wpAny_pure ?_))))))
  refine hi _ _ _ _ keep ?_
  refine wpAny_holding (wpAny_bind (hs _ _ _ _ _ keep ?_))
  refine wpAny_bind (wpAny_call (codeAny_mono hR ?_))
  intro r s' hr
  unfold W.InitBack at hr
  match r, hr with
  | .ok (.ret v), hr =>
    obtain ⟨rfl, hr⟩ := hr
    refine wpAny_pure ?_
    refine wpAny_ite_false (by rfl) ?_
    exact wpAny_pure hr
  | .error e, hr => exact hr

theorem qTC : ("type.__call__" : String).startsWith "lifetime." = false := by decide +kernel

theorem ecall {prog : Program} {w : World} {A : Around} {R : Result → Shared → Prop} {h : Heap} {g : Array GenState}
    {d : Drawn} {t : Nat} {os : OsState} {nm q : Str} {C N : Addr} {bs bm bmB : List Value} {hdct : Bool} {sn : List Str}
    {sub : List Value} {ab : Bool} {col : Option Bool} {dd : Option Addr} {k0 k1 k2 k3 k5 : Option Value}
    {B newId initId : String} (F : ExcBaseFacts B newId initId bmB)
    (hb : ∀ X : String, bm.contains (Value.type X) = bmB.contains (Value.type X))
    {rest : List Value} {kw : List (Str × Value)} {fI : Addr}
    (hC : h.get? C = some (excClassObj nm q C N bs bm hdct sn sub ab col dd k0 k1 k2 k3 k5 newId))
    (hi : W.Looks (model prog w) h (typeLookup (.ref C) (Str.ofString "__init__")) (some (.ref fI)))
    (hs : ∀ self : Value, W.Looks (model prog w) h (bindSpecial (.ref fI) self) (.ref fI, [self]))
    (hl : rest.length ≤ sizeLine)
    (hR : codeAny (model prog w) (A.under (.builtin "type.__call__" ⟨.ref C :: rest, kw⟩))
      (.call (.ref fI) ⟨.ref (h.objs.size + 1) :: rest, kw⟩) (W.InitBack (h.objs.size + 1) R)
      ⟨(h.push (W.kdv_tup rest)).push (HandSPX.excO C h.objs.size), g, d, t, os⟩) :
    codeAny (model prog w) A (.call (.ref C) ⟨rest, kw⟩) R ⟨h, g, d, t, os⟩ := by
  have hB : List.contains (Value.ref C :: bm) (Value.type B) = true := by
    rw [List.contains_cons, hb, F.hasB, Bool.or_true]
  refine codeAny_of_tree ?_
  show wpAny (model prog w) _ (callAny (.ref C) ⟨rest, kw⟩) _ _ _
  unfold callAny
  refine wpAny_bind (wpAny_load' hC ?_)
  show wpAny (model prog w) _ (callAny.viaDunder (.ref C) ⟨rest, kw⟩) _ _ _
  unfold callAny.viaDunder
  refine wpAny_bind (wpAny_specialOf (T := "type") ⟨_, hC, rfl⟩ tc_lookup ?_)
  refine wpAny_bind (wpAny_of_eq (tc_bind _) ?_)
  have pc : callAny.plainCallee (.builtin "type.__call__") = pure true := by
    unfold callAny.plainCallee
    rfl
  refine wpAny_bind (wpAny_of_eq pc ?_)
  refine wpAny_ite_true rfl ?_
  refine wpAny_pure ?_
  refine ⟨rfl, ?_⟩
  refine codeAny_call_builtin_at (Code.quiet_builtin _ qTC) entry_typeCall ?_
  have ck : ∀ (A' : Around) (E : Value → Shared → Prop) (Q : Unit → Shared → Prop), Q () ⟨h, g, d, t, os⟩ →
      wpAny (model prog w) A' (checkBuiltinCall "type.__call__" ⟨.ref C :: rest, kw⟩) Q E ⟨h, g, d, t, os⟩ := by
    intro A' E Q hQ
    have lk : W.Looks (model prog w) h (isInstance (.ref C) (.type "type")) true := by
      intro A Q E s hk hq
      obtain ⟨h2, g2, d2, t2, os2⟩ := s
      exact wpAny_isInstance (T := "type") (U := "type") (b := true) ⟨_, hk _ _ hC, rfl⟩ tc_sub hq
    have := @W.check_slot (model prog w) A' E ⟨h, g, d, t, os⟩ "type.__call__" "type" "__call__" (.ref C) rest kw Q
    exact this tc_kind tc_split lk (W.tc_args _ _ _) hQ
  have go := etype (A' := A) F hb hC hi hs hl hR
  exact ck _ _ _ go
end Mf
namespace Mf
open PySem L2
theorem kBG : builtinKind "BaseException.__getattribute__" = some Manifest.AttrKind.slot := by decide +kernel
theorem sBG : splitId "BaseException.__getattribute__" = some ("BaseException", "__getattribute__") := by decide +kernel
theorem kin_cls {prog : Program} {w : World} {A : Around} {E : Value → Shared → Prop} {s : Shared}
    {K : W.Frag} {x D : Addr} {ox od : Obj} {Q : Option Value → Shared → Prop} (C : ExcC K D)
    (X : K.In s.heap) (I : W.InstAt s.heap x ox D (some od))
    (h : Q (some (.ref D)) { heap := s.heap, gens := s.gens, drawn := s.drawn, toks := s.toks + 1, os := s.os }) :
    wpAny (model prog w) A (getAttr? (.ref x) (Str.ofString "__class__")) Q E s := by
  have hc : (W.clsIn K D).isSome = true := by
    obtain ⟨cd, hc, -⟩ := W.any_some C.hd
    rw [hc]; rfl
  have hf := W.findObj_data (od := od) hc C.ha C.hn C.ht
  obtain ⟨hp, g, d, t, os⟩ := s
  have L0 := W.InstAt.type I (M := model prog w)
  have L1 := W.looks_findIn X C.hg (M := model prog w)
  have L2 := W.looks_findIn X C.hk (M := model prog w)
  have L3 := W.looks_find X I hf (M := model prog w)
  have sub : W.Looks (model prog w) hp (isInstance (.ref x) (.type "BaseException")) true :=
    W.Looks.andThen L0 (W.looks_subIn X C.hs)
  unfold getAttr?
  refine wpAny_bind (wpAny_mkText ?_)
  unfold getAttrBy?
  refine wpAny_bind (wpAny_attempt (wpAny_holding ?_))
  refine wpAny_bind (L0.at (wpAny_bind (L1.at ?_)))
  dsimp only
  have e1 : (onTheHeap (.ref D) && (Value.builtin "BaseException.__getattribute__" == Value.builtin "object.__getattribute__")) = false := by
    rw [Bool.and_eq_false_iff]; exact .inr (by decide)
  rw [e1, if_neg Bool.false_ne_true]
  unfold getAttrByItsOwn hookBefore
  refine wpAny_bind ?_
  rw [if_pos (show onTheHeap (.ref D) = true from rfl)]
  refine L2.at ?_
  refine wpAny_bind (wpAny_attempt (wpAny_holding ?_))
  unfold callGetattribute
  rw [Bool.false_and, if_neg Bool.false_ne_true]
  unfold boundAndCalled
  refine wpAny_bind (wpAny_of_eq (F.excAttr_ValueError.ga.bind (.ref x)) ?_)
  refine wpAny_call ?_
  refine codeAny_call_builtin F.excAttr_ValueError.ga.plain F.entry_bexc_ga ?_
  have ck : ∀ (A' : Around) (E' : Value → Shared → Prop) (Q' : Unit → Shared → Prop) (s' : Shared), s'.heap = hp → Q' () s' →
      wpAny (model prog w) A' (checkBuiltinCall "BaseException.__getattribute__" ⟨[.ref x, .str (Str.ofString "__class__") t], []⟩) Q' E' s' := by
    intro A' E' Q' s' hh hq
    subst hh
    have := @W.check_slot (model prog w) A' E' s' "BaseException.__getattribute__" "BaseException" "__getattribute__" (.ref x) [.str (Str.ofString "__class__") t] [] Q'
    exact this kBG sBG sub (F.args_bexc_ga _ _) hq
  refine ck _ _ _ _ rfl ?_
  unfold Builtin.«object.__getattribute__»
  refine wpAny_bind (wpAny_of_eq rfl ?_)
  show wpAny (model prog w) _ (do
      let name ← Builtin.ObjectAttr.attrName (.str (Str.ofString "__class__") t)
      _) _ _ _
  refine wpAny_bind (wpAny_pure ?_)
  refine wpAny_bind (L0.at ?_)
  refine wpAny_bind (L3.at ?_)
  dsimp only
  unfold Builtin.ObjectAttr.bindTo
  refine wpAny_bind (wpAny_holding (wpAny_call (W.class_get X I C.hm ?_)))
  refine wpAny_pure ?_
  dsimp only
  rw [W.handedOut_of rfl]
  exact wpAny_pure (wpAny_pure h)
end Mf
namespace Mf
open PySem L2

theorem cls_look {K : W.Frag} {D : Addr} (h : W.hasDictIn K D = true) :
    ∃ c d cd sl, K.lookup D = some ⟨c, d, .cls cd, sl⟩ := by
  obtain ⟨cd, hc, -⟩ := W.any_some h
  unfold W.clsIn at hc
  split at hc
  · rename_i c d cd sl e; exact ⟨_, _, _, _, e⟩
  · exact absurd hc (by simp)

theorem kit_exo {K : W.Frag} {x D : Addr} {ox od : Obj} (C : ExcC K D) :
    W.KitX K (.ref x) (.ref D) fun h => W.InstAt h x ox D (some od) where
  ty := fun _ _ _ I => W.InstAt.type I
  it := by
    intro M h X _ A Q E s k q
    obtain ⟨c, d, cd, sl, e⟩ := cls_look C.hd
    exact wpAny_bind (wpAny_loadPart (k D _ (X D _ e)) (wpAny_pure q))
  ne := by
    intro h tp dd its n sl X ht
    obtain ⟨c, d, cd, sl', e⟩ := cls_look C.hd
    refine Bool.eq_false_iff.mpr fun q => ?_
    have e2 := Value.ref.inj (beq_iff_eq.mp q)
    subst e2
    have := (X D _ e).symm.trans ht
    simp at this
  ca := fun X I k => kin_cls C X I k

theorem inst_exo {P : Program} {w : World} {H : Hp} {h : Heap} {a D dx : Addr} {fs : List (Str × V)} (O : HOk P w H h)
    (ha : H a = some (exo a D (some dx))) (hd : H dx = some (exd dx fs)) :
    ∃ ox od, W.InstAt h a ox D (some od) ∧ ∀ f v, fs.lookup f = some v → ∃ u, W.lookIn f od = some (some u) ∧ RelV v u := by
  obtain ⟨⟨t1, e1⟩, -⟩ := O a _ ha
  obtain ⟨⟨mA, n1, r1⟩, -⟩ := O dx _ hd
  obtain ⟨od, ho, hl⟩ := lookIn_ns n1
  refine ⟨_, od, ⟨e1, rfl, rfl, ho⟩, fun f v hf => ?_⟩
  have r := r1 f
  rw [hf] at r
  obtain ⟨u, hu, ru⟩ := RelO.some_of r
  exact ⟨u, by rw [hl, hu], ru⟩

/-- an attribute of an error that lies in a variable -/
def tXa (K : W.Frag) (n : Str) (te : TE) : TE := fun σ H Q => te σ H fun x H1 =>
  ∃ (a D dx : Addr) (fs : List (Str × V)) (v : V), x = .ref a ∧ H1 a = some (exo a D (some dx)) ∧ H1 dx = some (exd dx fs) ∧
    XfC K D ∧ W.findIn K (.ref D) n = some none ∧ fs.lookup n = some v ∧ Q v H1

theorem pe_xa {X : Cx} {e : PySem.Expr} {te : TE} {pos : Pos} {n : Str} (he : PE X e te)
    (hb : attributeBase e n X.env (eval e X.env) = eval e X.env := by rfl) : PE X (.Attribute e n pos) (tXa X.K n te) := by
  refine ⟨fun pins s σ H Q I h => attr_of hb (thn (he.run pins s σ H _ I h) ?_)⟩
  rintro u s1 ⟨x, H1, I1, rx, a, D, dx, fs, v, rfl, ha, hd, T, hno, hf, q⟩
  obtain ⟨ox, od, J, hl⟩ := inst_exo I1.hok ha hd
  obtain ⟨u', hu, ru⟩ := hl _ _ hf
  have ex : u = .ref a := rx
  subst ex
  exact HandSPX.exc_get I1.kIn J T.ga T.gg T.exC (W.findObj_own T.hdC hno rfl hu) (handed_of ru) ⟨v, H1, I1.tok _, ru, q⟩

/-- isinstance of such an error -/
def rIsO (K : W.Frag) (xs : List V) (H : Hp) (Q : VK) : Prop :=
  ∃ (a D dx : Addr) (fs : List (Str × V)) (c : V) (cv : Value) (b : Bool), xs = [.ref a, c] ∧ H a = some (exo a D (some dx)) ∧
    H dx = some (exd dx fs) ∧ ExcC K D ∧ (∀ u, RelV c u → u = cv) ∧ W.kitOne K (.ref D) cv = some b ∧ Q (.bl b) H

theorem call_isO {X : Cx} : CallR X (.builtin "isinstance") (rIsO X.K) := by
  rintro pins s σ H xs us Q I r ⟨a, D, dx, fs, c, cv, b, rfl, ha, hd, C, hcv, hk, q⟩
  match us, r with
  | [_, _], .cons rx (.cons rc .nil) =>
    obtain ⟨ox, od, J, -⟩ := inst_exo I.hok ha hd
    have ex : _ = Value.ref a := rx
    subst ex
    rw [hcv _ rc]
    exact W.kia_one (kit_exo C) I.kIn J hk (by simp) fun tk => ⟨.bl b, H, I.tok _, rfl, q⟩
end Mf
/-! x[y] by an own __getitem__ that may raise, within a try; own errors raised. -/
namespace Mf
open PySem PySem.Spec PyProof.Rows L2
section
variable {X : Cx} {CX : CXT} {k : Nat} {f C a dx : Addr} {fd : FuncData} {ps : List Str} {sp : Sp} {E : L2.St → XK} {ds : List Value} {dvs : List V} {pins : List (Addr × Obj)} {σ : L2.St} {H : Hp} {s : Shared} {fs : List (Str × V)}
theorem run_inS {A : Around} {Q : VK} {us : List Value} {vs : List V} (F : FnOk X.prog X.w X.K X.mg X.base CX k f fd ps sp) (hr : Room k A) (hb : Binds X.K fd ps ds) (hd : Vals dvs ds) (hx : PassesAt CX X σ (E σ))
    (e0 : Env0 X.prog X.w X.K X.mg X.base A X.stack s H) (I : Inv X pins σ H s) (r : Vals vs us) (h : sp (vs ++ dvs) H Q (E σ)) : wpAny (model X.prog X.w) A (call (.ref f) us) (EP X pins σ Q) X.xe s := by
  have r2 : Vals (vs ++ dvs) (us ++ ds) := r.append hd
  have hl : (us ++ ds).length = ps.length := by rw [← r2.length]; exact F.len _ _ _ _ h
  refine wpAny_call (codeAny_mono (F.run A X.stack s H ⟨us, []⟩ (us ++ ds) (vs ++ dvs) Q (E σ) hr e0 (hb s us I.kIn hl) r2 h) fun r s' hq => ?_)
  rcases r with e | fl
  · exact hx pins H s e s' I hq
  · rcases fl with _ | _ | _ | u
    all_goals first | exact False.elim hq | exact I.after hq
/-- x[y], the def may raise -/
def tGetS (C : Addr) (sp : Sp) (E : L2.St → XK) (to ti : TE) : TE := fun σ H Q => to σ H fun x H1 => ti σ H1 fun y H2 => ∃ a dx fs, x = .ref a ∧ H2 a = some (.ins C dx fs) ∧ sp [x, y] H2 Q (E σ)
theorem pe_getS {o i : Expr} {to ti : TE} {pos : Pos} (m : Meth X.K C "__getitem__" f) (fn : PySem.W.fnIn X.K f = true) (F : FnOk X.prog X.w X.K X.mg X.base CX k f fd ps sp) (hr : Room (k + 1) X.A) (hb : Binds X.K fd ps []) (hx : ∀ σ, PassesAt CX X σ (E σ)) (ho : PE X o to) (hi : PE X i ti)
    (hsl : ∀ x y, subscripted i true x y = runValue (.builtin "lifetime.subscript" ⟨[x, y], []⟩) := by intro _ _; with_unfolding_all rfl) : PE X (.Subscript o i pos) (tGetS C sp E to ti) := by
  refine ⟨fun pins s σ H Q I h => ?_⟩
  refine Subscript_ (binT ho hi I h fun v u s2 x y H2 I2 rx ry q => ?_)
  obtain ⟨a, dx, fs, rfl, ha, q⟩ := q
  cases (show v = Value.ref a from rx)
  obtain ⟨od, J⟩ := Inv.inst I2 ha
  obtain ⟨mm, hF⟩ := I2.fr
  refine PySem.W.sub_K hF I2.ok.mod.kin J m.at_ fn m.fn ?_ (hsl _ _)
  exact run_inS (us := [.ref a, u]) (vs := [.ref a, y]) F hr.in1 hb .nil (hx σ) I2.env0.in1 I2 (.cons rfl (.cons ry .nil)) (by rw [List.append_nil]; exact q)
theorem om_getS {o i : Expr} {to ti : TE} {pos : Pos} (c : CalM X.prog X.w X.K X.mg X.base CX k C "__getitem__" ps sp) (hr : Room (k + 1) X.A) (hx : ∀ σ, PassesAt CX X σ (E σ)) (ho : PE X o to) (hi : PE X i ti)
    (hsl : ∀ x y, subscripted i true x y = runValue (.builtin "lifetime.subscript" ⟨[x, y], []⟩) := by intro _ _; with_unfolding_all rfl) : PE X (.Subscript o i pos) (tGetS C sp E to ti) := by
  obtain ⟨f, fd, M, fn, F, b⟩ := c.ex
  exact pe_getS M fn F hr b hx ho hi hsl
/-- f(..), f may raise -/
theorem pe_calS {x : Str} {p pos : Pos} {e : Expr} {es : List Expr} {t : TA} (c : Cal X.prog X.w X.K X.mg X.base CX k x ps sp) (hr : Room k X.A) (hx : ∀ σ, PassesAt CX X σ (E σ)) (ha : PA X (e :: es) t) (hg : Gl X x := by rfl)
    (hdb : (x == ("__debug__" : Str)) = false := by decide) (he : starEach (e :: es) X.env = (false, eval e X.env) :: starEach es X.env := by rfl) (hpl : (backTo pos (starEach es X.env)).any (·.1) = false := by rfl) :
    PE X (.Call (.Name x p) (e :: es) [] pos) (tCallS sp E t) := by
  obtain ⟨f, fd, F, m, kp, b⟩ := c.ex
  exact pe_callS F hr hg m kp b hx ha hdb he hpl
end
/-- an own error with one field: the class at C, its __init__ -/
structure ErC (P : Program) (w : World) (K : PySem.W.Frag) (mg : Str → Option Value) (base : Heap) (x : Str) (C : Addr) (ps : List Str) (sp : Sp) : Prop where
  ex : ∃ (f : Addr) (fd : FuncData), PySem.W.findIn K (.ref C) "__init__" = some (some (.ref f)) ∧ PySem.W.typeIn K (.ref f) = some (.type "function") ∧ FnOk P w K mg base CX0 1 f fd ps sp ∧ Binds K fd ps []
  oex : OexC K C
  xf : XfC K C
  mgC : mg x = some (.ref C)
  exm : PySem.W.exmOne K (.ref C) (.ref C) = some true
theorem pmk_er {X : Cx} {x : Str} {C : Addr} {ps : List Str} {sp : Sp} {e : Expr} {es : List Expr} {ta : TA} {p pos : Pos} (c : ErC X.prog X.w X.K X.mg X.base x C ps sp) (hr : Room 2 X.A) (hx : Passes CX0 X (fun _ _ _ => False)) (ha : PA X (e :: es) ta) (hg : Gl X x := by rfl)
    (hdb : (x == ("__debug__" : Str)) = false := by decide) (he : starEach (e :: es) X.env = (false, eval e X.env) :: starEach es X.env := by rfl) (hpl : (backTo pos (starEach es X.env)).any (·.1) = false := by rfl) :
    PMk X (.Call (.Name x p) (e :: es) [] pos) (tMkO C sp [] ta) := by
  obtain ⟨f, fd, i, t, F, b⟩ := c.ex
  exact pmk_oex c.oex i t F hr b .nil hx hg c.mgC ha hdb he hpl
end Mf
/-! Calls with keywords, or with defaults, of a def that may raise: within try, or at a frame that lets nothing out. -/
namespace Mf
open PySem PySem.Spec PyProof.Rows L2
/-- what a def may raise is nothing here -/
theorem passF {X : Cx} : Passes (L2.CX X.prog X.w) X (fun _ _ _ => False) := fun _ _ _ _ _ _ _ h => by
  obtain ⟨_, _, _, _, _, _, _, _, _, _, _, _, q⟩ := h
  exact q.elim
def tCallNS (n m : Nat) (sp : Sp) (gV : List V → List V → List V) (E : L2.St → XK) (t tk : TA) : TE := fun σ H Q => t σ H fun vs H1 => tk σ H1 fun zs H2 => vs.length = n ∧ zs.length = m ∧ sp (gV vs zs) H2 Q (E σ)
section
variable {X : Cx} {CX : CXT} {k n : Nat} {f : Addr} {fd : FuncData} {ps ks : List Str} {sp : Sp} {E : L2.St → XK} {x : Str} {p pos : Pos} {e : Expr} {es : List Expr} {kws : List Keyword} {t tk : TA} {g : List Value → List Value → List Value} {gV : List V → List V → List V}
theorem run_fnNS {pins : List (Addr × Obj)} {σ : L2.St} {H : Hp} {s : Shared} {Q : VK} {us ws : List Value} {vs zs : List V} (F : FnOk X.prog X.w X.K X.mg X.base CX k f fd ps sp) (hr : Room k X.A) (hb : KBn X.K fd ps n ks g gV) (hx : PassesAt CX X σ (E σ))
    (I : Inv X pins σ H s) (r : Vals vs us) (rz : Vals zs ws) (l1 : vs.length = n) (l2 : zs.length = ks.length) (h : sp (gV vs zs) H Q (E σ)) : wpAny (model X.prog X.w) X.A (call (.ref f) us (ks.zip ws)) (EP X pins σ Q) X.xe s := by
  have r2 := hb.rel r rz
  refine wpAny_call (codeAny_mono (F.run X.A X.stack s H ⟨us, ks.zip ws⟩ (g us ws) (gV vs zs) Q (E σ) hr I.env0 (hb.to s us ws I.kIn (r.length.symm.trans l1) (rz.length.symm.trans l2)) r2 h) fun r s' hq => ?_)
  cases r with
  | error e => exact hx pins H s e s' I hq
  | ok fl =>
    cases fl with
    | ret u => exact I.after hq
    | next => exact False.elim hq
    | brk => exact False.elim hq
    | cont => exact False.elim hq
theorem pe_callNS (F : FnOk X.prog X.w X.K X.mg X.base CX k f fd ps sp) (hr : Room k X.A) (hg : Gl X x) (hm : X.mg x = some (.ref f)) (hk : PySem.W.keepIn X.K (.ref f) = true) (hb : KBn X.K fd ps n ks g gV) (hx : ∀ σ, PassesAt CX X σ (E σ))
    (ha : PA X (e :: es) t) (hkw : PK X kws tk) (hall : (backToKw pos (keywordEach kws X.env)).all (·.1.isSome) = true := by rfl) (hks : (backToKw pos (keywordEach kws X.env)).filterMap (·.1) = ks := by rfl)
    (hdb : (x == ("__debug__" : Str)) = false := by decide) (he : starEach (e :: es) X.env = (false, eval e X.env) :: starEach es X.env := by rfl)
    (hpl : ((backTo pos (starEach (e :: es) X.env)).any (·.1) || (backToKw pos (keywordEach kws X.env)).any (·.1.isNone)) = false := by rfl) :
    PE X (.Call (.Name x p) (e :: es) kws pos) (tCallNS n ks.length sp gV E t tk) := by
  refine ⟨fun pins s σ H Q I h => ?_⟩
  refine wpAny_Call_Name_kw (ld_glob I hg hm ?_ hdb)
  refine PySem.W.callWith_KW (h₀ := X.base) I.ok.mod.kin hk hall (thn (ha.run pos pins s σ H _ I h) fun us s1 ⟨vs, H1, I1, r, q⟩ => ?_) hpl he
  refine thn (hkw.run pos pins s1 σ H1 _ I1 q) fun ws s2 ⟨zs, H2, I2, rz, l1, l2, q2⟩ => ⟨I2.kIn, ?_⟩
  rw [hks]
  exact run_fnNS F hr hb (hx σ) I2 r rz l1 l2 q2
/-- f(.., k = v) of a def with keyword-only parameters that may raise -/
theorem pe_calkS (c : CalK X.prog X.w X.K X.mg X.base CX k x ps sp n ks gV) (hr : Room k X.A) (hx : ∀ σ, PassesAt CX X σ (E σ)) (ha : PA X (e :: es) t) (hkw : PK X kws tk) (hg : Gl X x := by rfl)
    (hall : (backToKw pos (keywordEach kws X.env)).all (·.1.isSome) = true := by rfl) (hks : (backToKw pos (keywordEach kws X.env)).filterMap (·.1) = ks := by rfl)
    (hdb : (x == ("__debug__" : Str)) = false := by decide) (he : starEach (e :: es) X.env = (false, eval e X.env) :: starEach es X.env := by rfl)
    (hpl : ((backTo pos (starEach (e :: es) X.env)).any (·.1) || (backToKw pos (keywordEach kws X.env)).any (·.1.isNone)) = false := by rfl) :
    PE X (.Call (.Name x p) (e :: es) kws pos) (tCallNS n ks.length sp gV E t tk) := by
  obtain ⟨f, fd, g, F, m, kp, b⟩ := c.ex
  exact pe_callNS F hr hg m kp b hx ha hkw hall hks hdb he hpl
end
end Mf
namespace Mf
open PySem L2
/-! ### items of any kind -/
/-- what stands in a tuple -/
inductive Sc where
  | s (z : Str)
  | i (n : Int)
  | b (x : Bool)
def Sc.v : Sc → V
  | .s z => .str z
  | .i n => .int n
  | .b x => .bl x
def Sc.d : Sc → PyData
  | .s z => .str z
  | .i n => .int n
  | .b x => .bool x
/-- a tuple, a list of one text, a text, None, an integer -/
inductive Oi where
  | tp (xs : List Sc)
  | ls (z : Str)
  | tx (z : Str)
  | no
  | nt (m : Int)
def Oi.d : Oi → PyData
  | .tp xs => .tuple (xs.map Sc.d)
  | .ls z => .list [.str z]
  | .tx z => .str z
  | .no => .none
  | .nt m => .int m
def ItG (K : PySem.W.Frag) (H : Hp) (v : V) : Oi → Prop
  | .tp xs => ∃ t, v = .ref t ∧ SqT K H t (xs.map Sc.v)
  | .ls z => ∃ l, v = .ref l ∧ H l = some (.lst [.str z])
  | .tx z => v = .str z
  | .no => v = .non
  | .nt m => v = .int m
theorem ItG.same {K : PySem.W.Frag} {H H' : Hp} {v : V} {o : Oi} (x : ItG K H v o) (s : Same H H') : ItG K H' v o := by
  cases o with
  | tp xs => obtain ⟨t, e, h⟩ := x; exact ⟨t, e, s.tup h⟩
  | ls z => obtain ⟨l, e, h⟩ := x; exact ⟨l, e, s _ _ h⟩
  | _ => exact x
theorem dpSc {K : PySem.W.Frag} {H : Hp} : ∀ xs : List Sc, DpAll K H (xs.map Sc.v) (xs.map Sc.d)
  | [] => .nil
  | x :: xs => .cons (by cases x <;> first | exact .str _ | exact .int _ | exact .bl _) (dpSc xs)
theorem ItG.dp {K : PySem.W.Frag} {H : Hp} {v : V} {o : Oi} (x : ItG K H v o) : Dp K H v o.d := by
  cases o with
  | tp xs => obtain ⟨t, rfl, h⟩ := x; exact Dp.tup h (dpSc xs)
  | ls z => obtain ⟨l, rfl, h⟩ := x; exact Dp.lst (.of h) (.cons (.str _) .nil)
  | tx z => obtain rfl : v = .str z := x; exact Dp.str _
  | no => obtain rfl : v = .non := x; exact Dp.non
  | nt m => obtain rfl : v = .int m := x; exact Dp.int _
def ScOk : Sc → Prop
  | .s z => z.length ≤ 1000000
  | _ => True
def ScT : Sc → Prop
  | .s z => PyData.strOk z = true
  | _ => True
/-- texts are short; a pair begins with a text -/
def OiOk : Oi → Prop
  | .tp xs => (∀ x ∈ xs, ScOk x) ∧ xs.length ≤ 3 ∧ (∀ x y, xs = [x, y] → ∃ z, x = .s z) ∧ (xs.length ≠ 2 → ∀ x ∈ xs, ScT x)
  | .ls z => PyData.strOk z = true
  | .tx z => PyData.strOk z = true
  | _ => True
theorem sh_sc {x : Sc} (h : ScT x) : Sh 0 x.d := by
  cases x with
  | s z => exact .str h
  | i n => exact .int _
  | b x => exact ⟨rfl, Nat.le_refl _⟩
theorem sh_oi {o : Oi} (h : OiOk o) (np : ∀ x y, o ≠ .tp [x, y]) : Sh 1 o.d := by
  cases o with
  | tp xs =>
    refine Sh.tuple fun d hd => ?_
    obtain ⟨x, hx, rfl⟩ := List.mem_map.mp hd
    refine sh_sc (h.2.2.2 (fun e => ?_) x hx)
    match xs, e with
    | [a, b], _ => exact np a b rfl
  | ls z => exact Sh.list fun d hd => by rw [List.mem_singleton.mp hd]; exact .str h
  | tx z => exact Sh.up (.str h) (by decide)
  | no => exact Sh.up (k := 0) ⟨rfl, Nat.le_refl _⟩ (by decide)
  | nt m => exact Sh.up (.int _) (by decide)
/-! ### what is right -/
def intO : Sc → Bool
  | .i _ => true
  | _ => false
def numO : Sc → Bool
  | .i n => numB n
  | _ => false
def nameO : Sc → Bool
  | .s z => nameB z
  | _ => false
def ndO (c : Nat) : Sc → Bool
  | .i n => decide (0 ≤ n) && decide (n < c)
  | _ => false
def itO (c : Nat) : Oi → Bool
  | .tp [.s z] => decide (z = ("gap" : Str))
  | .tp [.s k, x] => if k = ("number" : Str) then numO x else if k = ("word" : Str) then nameO x else decide (k = ("node" : Str)) && ndO c x
  | _ => false
def rowO (c : Nat) (os : List Oi) : Bool := decide (os.length ≤ 12) && os.all (itO c)
/-- the number of the first row from the k-th on that is not right, or 0 -/
def badFrom (c : Nat) : Nat → List (List Oi) → Nat
  | _, [] => 0
  | k, r :: rs => if k = 40 ∨ rowO c r = false then k + 1 else badFrom c (k + 1) rs
def badO (R : List (List Oi)) : Nat := if R = [] then 1 else badFrom R.length 0 R
theorem few3 {α : Type} {xs : List α} (h : xs.length ≤ 3) : xs = [] ∨ (∃ x, xs = [x]) ∨ (∃ x y z, xs = [x, y, z]) ∨ ∃ x y, xs = [x, y] := by
  match xs, h with
  | [], _ => exact .inl rfl
  | [x], _ => exact .inr (.inl ⟨x, rfl⟩)
  | [x, y], _ => exact .inr (.inr (.inr ⟨x, y, rfl⟩))
  | [x, y, z], _ => exact .inr (.inr (.inl ⟨x, y, z, rfl⟩))
  | _ :: _ :: _ :: _ :: _, l => exact absurd l (by simp)
def gapO : Oi := .tp [.s "gap"]
theorem sh_gap : Sh 1 gapO.d := Sh.tuple fun d hd => by rw [List.mem_singleton.mp hd]; exact .str (by decide +kernel)
theorem eqv_gap (c : Nat) {o : Oi} (h : ∀ x y, o ≠ .tp [x, y]) : PyData.eqv o.d gapO.d = itO c o := by
  cases o with
  | tp xs =>
    match xs with
    | [] => rfl
    | [x] =>
      cases x with
      | s z =>
        show (PyData.eqv (.str z) (.str "gap") && true) = decide (z = "gap")
        rw [eqv_str, Bool.and_true]
      | i n => rfl
      | b x => rfl
    | [x, y] => exact absurd rfl (h x y)
    | x :: y :: w :: r =>
      have e : itO c (.tp (x :: y :: w :: r)) = false := by cases x <;> rfl
      rw [e]
      show (PyData.eqv x.d (.str "gap") && false) = false
      rw [Bool.and_false]
  | _ => rfl
section
variable {P : Program} {w : World} {K : PySem.W.Frag} {mg : Str → Option Value} {base : Heap} {CR CI : Addr}
def spIsIntG : Sp := fun vs H Q _ => ∃ x : Sc, vs = [x.v] ∧ Q (.bl (intO x)) H
theorem ok_is_integerG {f : Addr} {fd : FuncData} (F : Fun K "is_integer" "is_integer" sIs_integer f fd) (mIsi : mg "isinstance" = none) (mInt : mg "int" = none) (mBool : mg "bool" = none) : FnOk P w K mg base CX0 1 f fd ["value"] spIsIntG := by
  refine F.ok scIs_integer (fun vs H Q E h => ?_) (fun cdv A outer s H vs Q E hr h => ?_)
  · obtain ⟨n, rfl, _⟩ := h
    rfl
  · obtain ⟨x, rfl, k⟩ := h
    refine ⟨_, (pss_one (ps_ret (pe_and (pe_callB (k_isi K) (by rfl) mIsi (by decide +kernel) (pa_cons (pv 0) (pa_cons (pe_bltn (v := .ty "int") (by rfl) mInt (by decide +kernel) rfl) pa_nil))) (pe_one (pe_notT (pe_callB (k_isi K) (by rfl) mIsi (by decide +kernel) (pa_cons (pv 0) (pa_cons (pe_bltn (v := .ty "bool") (by rfl) mBool (by decide +kernel) rfl) pa_nil)))))))), ?_⟩
    cases x with
    | s z => exact ⟨_, rfl, _, _, _, _, false, rfl, .ty _, .base (.str _), kit_ty (by decide +kernel), _, rfl, iteF k⟩
    | i n =>
      refine ⟨_, rfl, _, _, _, _, true, rfl, .ty _, .base (.int _), kit_ty (by decide +kernel), _, rfl, iteT ?_⟩
      exact ⟨_, rfl, _, _, _, _, false, rfl, .ty _, .base (.int _), kit_ty (by decide +kernel), false, rfl, k⟩
    | b x =>
      refine ⟨_, rfl, _, _, _, _, true, rfl, .ty _, .base (.bl _), kit_ty (by decide +kernel), _, rfl, iteT ?_⟩
      exact ⟨_, rfl, _, _, _, _, true, rfl, .ty _, .base (.bl _), kit_ty (by decide +kernel), true, rfl, k⟩
def spIsNumG : Sp := fun vs H Q _ => ∃ x : Sc, vs = [x.v] ∧ Q (.bl (numO x)) H
theorem ok_is_numberG {f : Addr} {fd : FuncData} (F : Fun K "is_number" "is_number" sIs_number f fd) (mAbs : mg "abs" = none) (c_is_integer : Cal P w K mg base CX0 1 "is_integer" ["value"] spIsIntG) : FnOk P w K mg base CX0 2 f fd ["value"] spIsNumG := by
  refine F.ok scIs_number (fun vs H Q E h => ?_) (fun cdv A outer s H vs Q E hr h => ?_)
  · obtain ⟨n, rfl, _⟩ := h
    rfl
  · obtain ⟨x, rfl, k⟩ := h
    have hr_is_integer := hr
    refine ⟨_, (pss_one (ps_ret (pe_and (pe_cal c_is_integer hr_is_integer pass0 (pa_cons (pv 0) pa_nil)) (pe_one (pe_cmpR op_lt (pe_callB call_abs (by rfl) mAbs (by decide +kernel) (pa_cons (pv 0) pa_nil)) (pe_op op_pow pe_int pe_int) (nomark _)))))), ?_⟩
    cases x with
    | s z => exact ⟨_, rfl, .s z, rfl, _, rfl, iteF k⟩
    | b x => exact ⟨_, rfl, .b x, rfl, _, rfl, iteF k⟩
    | i n =>
      have k : _ := k
      refine ⟨_, rfl, .i n, rfl, _, rfl, iteT ⟨_, rfl, _, rfl, _, _, rfl, rfl, ⟨by decide, by decide, by decide⟩, _, _, rfl, rfl, ?_⟩⟩
      have e : numB n = decide ((if n < 0 then -n else n) < (10 : Int) ^ (60 : Int).toNat) := by
        unfold numB
        rw [show (60 : Int).toNat = 60 from rfl, show (10 : Int) ^ 60 = ((10 ^ 60 : Nat) : Int) by decide +kernel]
        generalize (10 ^ 60 : Nat) = M
        by_cases c : n < 0
        · rw [if_pos c]
          exact decide_eq_decide.mpr (by omega)
        · rw [if_neg c]
          exact decide_eq_decide.mpr (by omega)
      have k : Q (.bl (numB n)) H := k
      rw [e] at k
      exact k
def spIsNameG : Sp := fun vs H Q _ => ∃ x : Sc, vs = [x.v] ∧ ScOk x ∧ ∀ H', Same H H' → Q (.bl (nameO x)) H'
theorem ok_is_nameO {f : Addr} {fd : FuncData} {t : Tok} (F : Fun K "is_name" "is_name" sIs_name f fd) (mIsi : mg "isinstance" = none) (mStr : mg "str" = none) (mLen : mg "len" = none) (mAll : mg "all" = none) (mg_LONGEST_NAME : mg "LONGEST_NAME" = some (.int 8 t)) : FnOk P w K mg base CX0 1 f fd ["value"] (fun vs H Q _ => ∃ x : Sc, vs = [x.v] ∧ (∀ z, x ≠ .s z) ∧ ∀ H', Same H H' → Q (.bl false) H') := by
  refine F.ok scIs_name (fun vs H Q E h => ?_) (fun cdv A outer s H vs Q E hr h => ?_)
  · obtain ⟨z, rfl, _⟩ := h
    rfl
  · obtain ⟨x, rfl, nx, k⟩ := h
    refine ⟨_, (pss_cons (ps_if (PW.pt (pw_or (pt_not (pt_val (pe_callB (k_isi K) (by rfl) mIsi (by decide +kernel) (pa_cons (pv 0) (pa_cons (pe_bltn (v := .ty "str") (by rfl) mStr (by decide +kernel) rfl) pa_nil))))) (pw_or1 (pt_not (pt_chain op_le op_le pe_int (pe_callB call_len_str (by rfl) mLen (by decide +kernel) (pa_cons (pv 0) pa_nil)) (pe_glob (v := .int 8) rfl mg_LONGEST_NAME ⟨_, rfl⟩))))))
        (pss_one (ps_ret pe_bl)) pss_nil)
      (pss_one (ps_ret (pe_callB (k_all K) (by rfl) mAll (by decide +kernel) (pa_cons (pe_lc (own := [("letter", 1)]) (g := (gName 1)) (tt := tYes) rfl scIs_name.nd (pi_str (pv 0)) (blkOk_by (own := [("letter", 1)]) (N := ["value", "letter"]) (sc := defScope sIs_name) (by decide +kernel)) (fun _ _ _ _ _ => (pg_name (i := 1) scIs_name.nd rfl (by first | exact Or.inl rfl | exact Or.inr rfl))) (fun _ _ _ _ _ => pts_nil) (fun _ _ _ _ _ => (pe_chain op_le_str op_le_str pe_str (pv 1) pe_str))) pa_nil))))), ?_⟩
    cases x with
    | s z => exact absurd rfl (nx z)
    | i n => exact ⟨_, rfl, _, _, _, _, false, rfl, .ty _, .base (.int _), kit_ty (by decide +kernel), _, rfl, iteT (k H (Same.refl H))⟩
    | b x => exact ⟨_, rfl, _, _, _, _, false, rfl, .ty _, .base (.bl _), kit_ty (by decide +kernel), _, rfl, iteT (k H (Same.refl H))⟩
theorem fnOk_or {P : Program} {w : World} {K : PySem.W.Frag} {mg : Str → Option Value} {base : Heap} {CX : CXT} {k : Nat} {f : Addr} {fd : FuncData} {ps : List Str} {sp sp' : Sp} (F : FnOk P w K mg base CX k f fd ps sp) (G : FnOk P w K mg base CX k f fd ps sp') :
    FnOk P w K mg base CX k f fd ps (fun vs H Q E => sp vs H Q E ∨ sp' vs H Q E) :=
  ⟨fun vs H Q E h => h.elim (F.len vs H Q E) (G.len vs H Q E), fun A outer s H args us vs Q E hr e0 b r h => h.elim (F.run A outer s H args us vs Q E hr e0 b r) (G.run A outer s H args us vs Q E hr e0 b r)⟩
theorem ok_is_nameG {f : Addr} {fd : FuncData} {t : Tok} (F : Fun K "is_name" "is_name" sIs_name f fd) (mIsi : mg "isinstance" = none) (mStr : mg "str" = none) (mLen : mg "len" = none) (mAll : mg "all" = none) (mg_LONGEST_NAME : mg "LONGEST_NAME" = some (.int 8 t)) : FnOk P w K mg base CX0 1 f fd ["value"] spIsNameG :=
  (fnOk_or (ok_is_name F mIsi mStr mLen mAll mg_LONGEST_NAME) (ok_is_nameO F mIsi mStr mLen mAll mg_LONGEST_NAME)).imp fun vs H Q E ⟨x, e, o, k⟩ => by
    cases x with
    | s z => exact .inl ⟨z, e, Nat.le_trans o (by decide), k⟩
    | i n => exact .inr ⟨_, e, (fun _ q => by cases q), k⟩
    | b x => exact .inr ⟨_, e, (fun _ q => by cases q), k⟩
def spIsItemG (K : PySem.W.Frag) : Sp := fun vs H Q _ => ∃ (v : V) (o : Oi) (c : Nat), vs = [v, .int c] ∧ ItG K H v o ∧ OiOk o ∧ ∀ H', Same H H' → Q (.bl (itO c o)) H'
set_option maxHeartbeats 1000000 in
theorem ok_is_itemG {f aG : Addr} {fd : FuncData} (F : Fun K "_is_item" "_is_item" sIs_item f fd) (mIsi : mg "isinstance" = none) (mTuple : mg "tuple" = none) (mLen : mg "len" = none) (mg_GAP : mg "GAP" = some (.ref aG)) (qG : ∀ H, SqT K H aG [.str "gap"])
    (c_is_name : Cal P w K mg base CX0 1 "is_name" ["value"] spIsNameG) (c_is_integer : Cal P w K mg base CX0 1 "is_integer" ["value"] spIsIntG) (c_is_number : Cal P w K mg base CX0 2 "is_number" ["value"] spIsNumG) : FnOk P w K mg base CX0 3 f fd ["item", "count"] (spIsItemG K) := by
  refine F.ok scIs_item (fun vs H Q E h => ?_) (fun cdv A outer s H vs Q E hr h => ?_)
  · obtain ⟨t, it, c, rfl, _⟩ := h
    rfl
  · obtain ⟨v, o, c, rfl, ho, ok, k⟩ := h
    have hr_is_number := hr
    have hr_is_name : Room 1 _ := hr.mono (by decide : 1 ≤ 2)
    have hr_is_integer := hr_is_name
    refine ⟨_, (pss_cons (ps_if (pt_not (pt_val (pe_callB (k_isi K) (by rfl) mIsi (by decide +kernel) (pa_cons (pv 0) (pa_cons (pe_bltn (v := .ty "tuple") (by rfl) mTuple (by decide +kernel) rfl) pa_nil)))))
        (pss_one (ps_ret pe_bl)) pss_nil)
      (pss_cons (ps_if (pt_cmpR op_ne (pe_callB (k_len K) (by rfl) mLen (by decide +kernel) (pa_cons (pv 0) pa_nil)) pe_int (nomark _))
        (pss_one (ps_ret (pe_cmpR (eqD K hr) (pv 0) (pe_glob (v := .ref _) rfl mg_GAP rfl) (nomark _)))) pss_nil)
      (pss_cons (ps_asg (pv 0) (pg_tup rfl (pgs_cons (pg_name (i := 2) scIs_item.nd rfl (by first | exact Or.inl rfl | exact Or.inr rfl)) (pgs_cons (pg_name (i := 3) scIs_item.nd rfl (by first | exact Or.inl rfl | exact Or.inr rfl)) pgs_nil))))
      (pss_cons (ps_if (pt_cmpR op_eq (pv 2) pe_str (nomark _))
        (pss_one (ps_ret (pe_cal c_is_number hr_is_number pass0 (pa_cons (pv 3) pa_nil)))) pss_nil)
      (pss_cons (ps_if (pt_cmpR op_eq (pv 2) pe_str (nomark _))
        (pss_one (ps_ret (pe_cal c_is_name hr_is_name pass0 (pa_cons (pv 3) pa_nil)))) pss_nil)
      (pss_one (ps_ret (pe_and (pe_cmpR op_eq (pv 2) pe_str (nomark _)) (pe_and (pe_cal c_is_integer hr_is_integer pass0 (pa_cons (pv 3) pa_nil)) (pe_one (pe_chain op_le op_lt pe_int (pv 3) (pv 1)))))))))))), ?_⟩
    cases o with
    | ls z =>
      obtain ⟨l, rfl, hl⟩ := ho
      exact ⟨_, rfl, _, _, _, _, false, rfl, .ty _, .base (.lst hl), kit_ty (by decide +kernel), _, rfl, iteT (k H (Same.refl H))⟩
    | tx z =>
      obtain rfl : v = .str z := ho
      exact ⟨_, rfl, _, _, _, _, false, rfl, .ty _, .base (.str _), kit_ty (by decide +kernel), _, rfl, iteT (k H (Same.refl H))⟩
    | no =>
      obtain rfl : v = .non := ho
      exact ⟨_, rfl, _, _, _, _, false, rfl, .ty _, .base .non, kit_ty (by decide +kernel), _, rfl, iteT (k H (Same.refl H))⟩
    | nt m =>
      obtain rfl : v = .int m := ho
      exact ⟨_, rfl, _, _, _, _, false, rfl, .ty _, .base (.int _), kit_ty (by decide +kernel), _, rfl, iteT (k H (Same.refl H))⟩
    | tp xs =>
      obtain ⟨t, rfl, sq⟩ := ho
      refine ⟨_, rfl, _, _, _, _, true, rfl, .ty _, tyx_tup sq, kit_ty (by decide +kernel), _, rfl, iteF ?_⟩
      have dG : Dp K H (.ref aG) gapO.d := .tup (qG H) (.cons (.str _) .nil)
      have dX : Dp K H (.ref t) (Oi.tp xs).d := .tup sq (dpSc xs)
      have shG : SeqAt.shaped gapO.d = true := (sh_gap).sh
      have shX : (∀ x y, Oi.tp xs ≠ .tp [x, y]) → SeqAt.shaped (Oi.tp xs).d = true := fun np => (sh_oi (o := .tp xs) ok np).sh
      have few := few3 ok.2.1
      rcases few with rfl | ⟨x, rfl⟩ | ⟨x, y, z, rfl⟩ | ⟨x, y, rfl⟩
      ·
        refine ⟨_, rfl, t, _, rfl, .inr sq, rfl, _, rfl, iteT ⟨_, rfl, _, _, dX, dG, shX (fun _ _ e => by cases e), shG, ?_⟩⟩
        rw [eqv_gap c (fun _ _ e => by cases e)]
        exact k H (Same.refl H)
      ·
        refine ⟨_, rfl, t, _, rfl, .inr sq, rfl, _, rfl, iteT ⟨_, rfl, _, _, dX, dG, shX (fun _ _ e => by cases e), shG, ?_⟩⟩
        rw [eqv_gap c (fun _ _ e => by cases e)]
        exact k H (Same.refl H)
      ·
        refine ⟨_, rfl, t, _, rfl, .inr sq, rfl, _, rfl, iteT ⟨_, rfl, _, _, dX, dG, shX (fun _ _ e => by cases e), shG, ?_⟩⟩
        rw [eqv_gap c (fun _ _ e => by cases e)]
        exact k H (Same.refl H)
      ·
        obtain ⟨z, rfl⟩ := ok.2.2.1 x y rfl
        have oy := ok.1 y (by simp)
        refine ⟨_, rfl, t, _, rfl, .inr sq, rfl, _, rfl, iteF ?_⟩
        refine ⟨_, rfl, t, _, rfl, sq, rfl, _, _, rfl, _, _, rfl, rfl, ?_⟩
        have k : ∀ H', Same H H' → Q (.bl (if z = ("number" : Str) then numO y else if z = ("word" : Str) then nameO y else decide (z = ("node" : Str)) && ndO c y)) H' := k
        refine ⟨_, rfl, rfl, _, rfl, ite2 (fun e => ?_) fun e => ?_⟩
        · have e : z = ("number" : Str) := V.str.inj (of_decide_eq_true e)
          have kk := k H (Same.refl H)
          rw [if_pos e] at kk
          exact ⟨_, rfl, y, rfl, kk⟩
        have n1 : ¬ z = ("number" : Str) := fun q => e (decide_eq_true (by rw [q]; rfl))
        refine ⟨_, rfl, rfl, _, rfl, ite2 (fun e => ?_) fun e => ?_⟩
        · have e : z = ("word" : Str) := V.str.inj (of_decide_eq_true e)
          exact ⟨_, rfl, y, rfl, oy, fun H1 s1 => by have kk := k H1 s1; rw [if_neg n1, if_pos e] at kk; exact kk⟩
        have n2 : ¬ z = ("word" : Str) := fun q => e (decide_eq_true (by rw [q]; rfl))
        have kk := k H (Same.refl H)
        rw [if_neg n1, if_neg n2] at kk
        refine ⟨_, rfl, rfl, _, rfl, ite2 (fun e => ?_) fun e => ?_⟩
        · have e : z = ("node" : Str) := V.str.inj (of_decide_eq_true e)
          rw [decide_eq_true e, Bool.true_and] at kk
          refine ⟨_, rfl, y, rfl, _, rfl, ?_⟩
          cases y with
          | s z => exact iteF kk
          | b x => exact iteF kk
          | i n =>
            have kk : Q (.bl (decide (0 ≤ n) && decide (n < c))) H := kk
            refine iteT ⟨_, rfl, _, _, rfl, rfl, _, rfl, ite2 (fun e => ?_) fun e => ?_⟩
            · rw [e, Bool.true_and] at kk
              exact ⟨_, rfl, _, _, rfl, rfl, kk⟩
            · rw [Bool.eq_false_iff.mpr e, Bool.false_and] at kk
              exact Bool.eq_false_iff.mpr e ▸ kk
        · have n3 : ¬ z = ("node" : Str) := fun q => e (decide_eq_true (by rw [q]; rfl))
          rw [decide_eq_false n3, Bool.false_and] at kk
          exact Bool.eq_false_iff.mpr e ▸ kk
end
end Mf
namespace Mf
open PySem L2
/-! ### rows of any items -/
def RowG (K : PySem.W.Frag) (H : Hp) (u : Addr) (os : List Oi) : Prop := ∃ vs : List V, H u = some (.lst vs) ∧ Paired (ItG K H) vs os
def LisG (K : PySem.W.Frag) (H : Hp) (a : Addr) (us : List Addr) (R : List (List Oi)) : Prop := H a = some (.lst (us.map V.ref)) ∧ Paired (RowG K H) us R
def AllOk (R : List (List Oi)) : Prop := ∀ r ∈ R, ∀ o ∈ r, OiOk o
theorem RowG.same {K : PySem.W.Frag} {H H' : Hp} {u : Addr} {os : List Oi} (x : RowG K H u os) (s : Same H H') : RowG K H' u os := let ⟨vs, a, b⟩ := x; ⟨vs, s _ _ a, paired_same b fun _ _ q => q.same s⟩
theorem LisG.same {K : PySem.W.Frag} {H H' : Hp} {a : Addr} {us : List Addr} {R : List (List Oi)} (x : LisG K H a us R) (s : Same H H') : LisG K H' a us R := ⟨s _ _ x.1, paired_same x.2 fun _ _ q => q.same s⟩
def toO : Itm → Oi
  | .num n => .tp [.s "number", .i n]
  | .wd w => .tp [.s "word", .s w]
  | .gap => .tp [.s "gap"]
  | .nd i => .tp [.s "node", .i i]
theorem toO_d (it : Itm) : (toO it).d = itD it := by cases it <;> rfl
theorem itg_of {K : PySem.W.Frag} {H : Hp} {v : V} {it : Itm} (x : ItG K H v (toO it)) : ∃ t, v = .ref t ∧ ItA K H t it := by
  cases it <;> (obtain ⟨t, e, h⟩ := x; exact ⟨t, e, h⟩)
theorem itg_to {K : PySem.W.Frag} {H : Hp} {t : Addr} {it : Itm} (x : ItA K H t it) : ItG K H (.ref t) (toO it) := by
  cases it <;> exact ⟨t, rfl, x⟩
theorem itO_of {c : Nat} {o : Oi} (h : itO c o = true) : ∃ it, o = toO it ∧ itB c it = true := by
  cases o with
  | tp xs =>
    match xs with
    | [] => cases h
    | [.s z] =>
      have h : decide (z = ("gap" : Str)) = true := h
      obtain rfl := of_decide_eq_true h
      exact ⟨.gap, rfl, rfl⟩
    | [.i n] => cases h
    | [.b x] => cases h
    | [.i n, x] => cases h
    | [.b y, x] => cases h
    | .i n :: _ :: _ :: _ => cases h
    | .b n :: _ :: _ :: _ => cases h
    | .s n :: _ :: _ :: _ => cases h
    | [.s k, x] =>
      have h : (if k = ("number" : Str) then numO x else if k = ("word" : Str) then nameO x else decide (k = ("node" : Str)) && ndO c x) = true := h
      by_cases e1 : k = ("number" : Str)
      · rw [if_pos e1] at h
        subst e1
        cases x with
        | i n => exact ⟨.num n, rfl, h⟩
        | s z => cases h
        | b y => cases h
      rw [if_neg e1] at h
      by_cases e2 : k = ("word" : Str)
      · rw [if_pos e2] at h
        subst e2
        cases x with
        | s z => exact ⟨.wd z, rfl, h⟩
        | i n => cases h
        | b y => cases h
      rw [if_neg e2] at h
      obtain ⟨e3, h⟩ := Bool.and_eq_true_iff.mp h
      obtain rfl := of_decide_eq_true e3
      cases x with
      | s z => cases h
      | b y => cases h
      | i n =>
        obtain ⟨h1, h2⟩ := Bool.and_eq_true_iff.mp (show (decide (0 ≤ n) && decide (n < (c : Nat))) = true from h)
        have h1 := of_decide_eq_true h1
        have h2 := of_decide_eq_true h2
        obtain ⟨m, rfl⟩ := Int.eq_ofNat_of_zero_le h1
        exact ⟨.nd m, rfl, decide_eq_true (by omega)⟩
  | ls z => cases h
  | tx z => cases h
  | no => cases h
  | nt m => cases h
theorem itO_toO {c : Nat} (it : Itm) : itO c (toO it) = itB c it := by
  cases it with
  | num n => rfl
  | wd w => rfl
  | gap => rfl
  | nd i =>
    show (decide (("node" : Str) = ("node" : Str)) && (decide ((0 : Int) ≤ (i : Nat)) && decide (((i : Nat) : Int) < (c : Nat)))) = decide (i < c)
    rw [decide_eq_true rfl, decide_eq_true (by omega : (0 : Int) ≤ (i : Nat)), Bool.true_and, Bool.true_and]
    exact decide_eq_decide.mpr (by omega)
theorem rowO_of {c : Nat} {os : List Oi} (h : rowO c os = true) : ∃ row : List Itm, os = row.map toO ∧ rowB c row = true := by
  obtain ⟨h1, h2⟩ := Bool.and_eq_true_iff.mp h
  have h2 := List.all_eq_true.mp h2
  have go : ∀ os : List Oi, (∀ o ∈ os, itO c o = true) → ∃ row : List Itm, os = row.map toO ∧ ∀ it ∈ row, itB c it = true := by
    intro os
    induction os with
    | nil => exact fun _ => ⟨[], rfl, by simp⟩
    | cons o os ih =>
      intro h
      obtain ⟨it, e1, b1⟩ := itO_of (h o List.mem_cons_self)
      obtain ⟨row, e2, b2⟩ := ih fun o' ho => h o' (List.mem_cons_of_mem _ ho)
      exact ⟨it :: row, by rw [e1, e2]; rfl, fun x hx => (List.mem_cons.mp hx).elim (fun e => e ▸ b1) (b2 x)⟩
  obtain ⟨row, e, b⟩ := go os h2
  refine ⟨row, e, ?_⟩
  unfold rowB
  rw [e, List.length_map] at h1
  rw [h1, Bool.true_and]
  exact List.all_eq_true.mpr b
theorem badFrom_cons {c k : Nat} {r : List Oi} {rs : List (List Oi)} : badFrom c k (r :: rs) = if k = 40 ∨ rowO c r = false then k + 1 else badFrom c (k + 1) rs := rfl
theorem badFrom_zero {c : Nat} : ∀ {R : List (List Oi)} {k : Nat}, k ≤ 40 → badFrom c k R = 0 → k + R.length ≤ 40 ∧ ∀ r ∈ R, rowO c r = true
  | [], k, hk, _ => ⟨by simpa using hk, by simp⟩
  | r :: rs, k, hk, h => by
    unfold badFrom at h
    by_cases e : k = 40 ∨ rowO c r = false
    · rw [if_pos e] at h; cases h
    · rw [if_neg e] at h
      have h1 : k ≠ 40 := fun q => e (.inl q)
      have h2 : rowO c r = true := by
        cases q : rowO c r with
        | true => rfl
        | false => exact absurd (.inr q) e
      obtain ⟨a, b⟩ := badFrom_zero (k := k + 1) (by omega) h
      refine ⟨by rw [List.length_cons]; omega, fun x hx => (List.mem_cons.mp hx).elim (fun q => q ▸ h2) (b x)⟩
/-- rows without a fault are right -/
theorem right_of {R : List (List Oi)} (h : badO R = 0) : ∃ R' : List (List Itm), R = R'.map (·.map toO) ∧ RtR R' := by
  unfold badO at h
  by_cases e : R = []
  · rw [if_pos e] at h; cases h
  rw [if_neg e] at h
  obtain ⟨h1, h2⟩ := badFrom_zero (Nat.zero_le _) h
  have go : ∀ (c : Nat) (R : List (List Oi)), (∀ r ∈ R, rowO c r = true) → ∃ R' : List (List Itm), R = R'.map (·.map toO) ∧ ∀ r ∈ R', rowB c r = true := by
    intro c R
    induction R with
    | nil => exact fun _ => ⟨[], rfl, by simp⟩
    | cons r rs ih =>
      intro h
      obtain ⟨row, e1, b1⟩ := rowO_of (h r List.mem_cons_self)
      obtain ⟨R', e2, b2⟩ := ih fun r' hr => h r' (List.mem_cons_of_mem _ hr)
      exact ⟨row :: R', by rw [e1, e2]; rfl, fun x hx => (List.mem_cons.mp hx).elim (fun q => q ▸ b1) (b2 x)⟩
  obtain ⟨R', e2, b2⟩ := go R.length R h2
  have l : R'.length = R.length := by rw [e2, List.length_map]
  refine ⟨R', e2, ⟨fun q => e (by rw [e2, q]; rfl), by omega, by rw [l]; exact b2⟩⟩
theorem rowg_of {K : PySem.W.Frag} {H : Hp} {u : Addr} {row : List Itm} (x : RowG K H u (row.map toO)) : RowL K H u row := by
  obtain ⟨vs, h, p⟩ := x
  have go : ∀ (row : List Itm) (vs : List V), Paired (ItG K H) vs (row.map toO) → ∃ ts : List Addr, vs = ts.map V.ref ∧ Paired (ItA K H) ts row := by
    intro row
    induction row with
    | nil =>
      intro vs p
      cases p
      exact ⟨[], rfl, .nil⟩
    | cons it row ih =>
      intro vs p
      cases p with
      | cons a b =>
        obtain ⟨t, rfl, ha⟩ := itg_of a
        obtain ⟨ts, rfl, hb⟩ := ih _ b
        exact ⟨t :: ts, rfl, .cons ha hb⟩
  obtain ⟨ts, rfl, q⟩ := go row vs p
  exact ⟨ts, h, q⟩
theorem rowg_to {K : PySem.W.Frag} {H : Hp} {u : Addr} {row : List Itm} (x : RowL K H u row) : RowG K H u (row.map toO) := by
  obtain ⟨ts, h, p⟩ := x
  refine ⟨_, h, ?_⟩
  clear h
  induction p with
  | nil => exact .nil
  | cons a _ ih => exact .cons (itg_to a) ih
theorem lisg_of {K : PySem.W.Frag} {H : Hp} {a : Addr} {us : List Addr} {R : List (List Itm)} (x : LisG K H a us (R.map (·.map toO))) : LisR K H a us R := by
  obtain ⟨h, p⟩ := x
  refine ⟨h, ?_⟩
  clear h
  induction R generalizing us with
  | nil =>
    cases p
    exact .nil
  | cons r R ih =>
    cases p with
    | cons a b => exact .cons (rowg_of a) (ih b)
theorem lisg_to {K : PySem.W.Frag} {H : Hp} {a : Addr} {us : List Addr} {R : List (List Itm)} (x : LisR K H a us R) : LisG K H a us (R.map (·.map toO)) := by
  obtain ⟨h, p⟩ := x
  refine ⟨h, ?_⟩
  clear h
  induction p with
  | nil => exact .nil
  | cons a _ ih => exact .cons (rowg_to a) ih
section
variable {P : Program} {w : World} {K : PySem.W.Frag} {mg : Str → Option Value} {base : Heap} {C CR CI : Addr}
/-! ### InvalidResult -/
def spIni1 (C : Addr) (n : Str) : Sp := fun vs H Q _ => ∃ (a : Addr) (v : V), vs = [.ref a, v] ∧ H a = some (exo a C none) ∧
  ∀ dx, H dx = none → dx ≠ a → Q .non (upd (upd H dx (exd dx [(n, v)])) a (exo a C (some dx)))
abbrev sInvalidResultInit : Stmt := inClass (top 3) 0
theorem scInvalidResultInit : FnScope ["self", "line"] ["self", "line"] (defScope sInvalidResultInit) := ⟨rfl, rfl, rfl, by decide +kernel, rfl, by decide +kernel, by decide +kernel⟩
theorem ok_InvalidResult {f : Addr} {fd : FuncData} (F : Fun K "__init__" "InvalidResult.__init__" sInvalidResultInit f fd) (T : OexC K C) (N : PySem.W.findIn K (.ref C) "line" = some none) : FnOk P w K mg base CX0 1 f fd ["self", "line"] (spIni1 C "line") := by
  refine F.ok scInvalidResultInit (fun vs H Q E h => ?_) (fun cdv A outer s H vs Q E hr h => ?_)
  · obtain ⟨a, v, rfl, _⟩ := h
    rfl
  · obtain ⟨a, v, rfl, ha, k⟩ := h
    refine ⟨_, pss_one (ps_ost (pv 0) (pv 1)), ?_⟩
    exact ⟨_, rfl, _, rfl, a, C, rfl, T, N, .inl ⟨ha, fun dx hd na => k dx hd na⟩⟩
/-- what tMkO asks of such an error -/
theorem mk_ini1 {H1 : Hp} {n : Str} {v : V} {Q : XK} (k : ∀ d H', H1 d = none → Same H1 H' → H' d = some (.xd [(n, v)]) → Q (.ref C) (some d) H') :
    ([v] : List V).length ≤ 1000 ∧ ∀ a, H1 a = none → spIni1 C n (.ref a :: ([v] ++ [])) (upd H1 a (exo a C none)) (fun x H2 => x = .non ∧ ∃ (d : Addr) (fs : List (Str × V)), H2 a = some (exo a C (some d)) ∧ H2 d = some (exd d fs) ∧ H1 d = none ∧ Q (.ref C) (some d) (upd (del H2 a) d (.xd fs))) (fun _ _ _ => False) := by
  refine ⟨(by show 1 ≤ 1000; decide), fun a ha => ⟨a, v, rfl, upd_same, fun dx hdx ne => ⟨rfl, dx, [(n, v)], upd_same, by rw [upd_ne ne]; exact upd_same, ?_, ?_⟩⟩⟩
  · rw [upd_ne ne] at hdx; exact hdx
  · have hdx0 : H1 dx = none := by rw [upd_ne ne] at hdx; exact hdx
    refine k dx _ hdx0 (fun b o hb => ?_) upd_same
    have b1 : b ≠ dx := ne_of_none hb hdx0
    have b2 : b ≠ a := ne_of_none hb ha
    rw [upd_ne b1, del_ne b2, upd_ne b2, upd_ne b1, upd_ne b2]
    exact hb
abbrev ErI (P : Program) (w : World) (K : PySem.W.Frag) (mg : Str → Option Value) (base : Heap) (CI : Addr) : Prop := ErC P w K mg base "InvalidResult" CI ["self", "line"] (spIni1 CI "line")
abbrev LineE (CI : Addr) (E : XK) (H : Hp) (n : Nat) : Prop := ∀ dd H', H dd = none → Same H H' → H' dd = some (.xd [("line", .int (n : Nat))]) → E (.ref CI) (some dd) H'
/-! ### _is_row, check_rows -/
def spIsRowG (K : PySem.W.Frag) : Sp := fun vs H Q _ => ∃ (u : Addr) (os : List Oi) (c : Nat), vs = [.ref u, .int c] ∧ RowG K H u os ∧ (∀ o ∈ os, OiOk o) ∧ ∀ H', Same H H' → Q (.bl (rowO c os)) H'
theorem ok_is_rowG {f : Addr} {fd : FuncData} {tk : Tok} (F : Fun K "_is_row" "_is_row" sIs_row f fd) (mLen : mg "len" = none) (mAll : mg "all" = none) (mg_MOST_ITEMS : mg "MOST_ITEMS" = some (.int 12 tk)) (c__is_item : Cal P w K mg base CX0 3 "_is_item" ["item", "count"] (spIsItemG K)) : FnOk P w K mg base CX0 4 f fd ["row", "count"] (spIsRowG K) := by
  refine F.ok scIs_row (fun vs H Q E h => ?_) (fun cdv A outer s H vs Q E hr h => ?_)
  · obtain ⟨u, os, c, rfl, _⟩ := h
    rfl
  · obtain ⟨u, os, c, rfl, ⟨xs, hq, pr⟩, hw, k⟩ := h
    have hr__is_item := hr
    have ln := Paired.length pr
    refine ⟨_, (pss_one (ps_ret (pe_and (pe_cmpR op_le (pe_callB (k_len K) (by rfl) mLen (by decide +kernel) (pa_cons (pv 0) pa_nil)) (pe_glob (v := .int 12) rfl mg_MOST_ITEMS ⟨_, rfl⟩) (nomark _)) (pe_one (pe_callB (k_all K) (by rfl) mAll (by decide +kernel) (pa_cons (pe_lc (own := [("item", 2)]) (g := (gName 2)) (tt := tYes) rfl scIs_row.nd (pi_list (pv 0)) (blkOk_by (own := [("item", 2)]) (N := ["row", "count", "item"]) (sc := defScope sIs_row) (by decide +kernel)) (fun _ _ _ _ _ => (pg_name (i := 2) scIs_row.nd rfl (by first | exact Or.inl rfl | exact Or.inr rfl))) (fun _ _ _ _ _ => pts_nil) (fun _ _ _ _ _ => (pe_cal c__is_item hr__is_item pass0 (pa_cons (pv 2) (pa_cons (pv 1) pa_nil))))) pa_nil)))))), ?_⟩
    refine ⟨_, rfl, u, _, rfl, .inl (.of hq), _, _, rfl, rfl, _, rfl, ite2 (fun q => ?_) fun q => ?_⟩
    · have f12 : os.length ≤ 12 := by
        have q := of_decide_eq_true q
        rw [ln] at q
        omega
      refine ⟨_, rfl, u, rfl, ⟨_, .of hq⟩, fun D hD => ?_⟩
      refine lc_bools (fs := os.map (itO c)) walk_list (by rw [List.length_map, ln]) (by rw [List.length_map]; omega) hD (fun H' s => .of (s _ _ hq)) (fun i x b H' Qe Pf hx hb s' kk => ?_) fun H1 s1 h1 => ?_
      · rw [List.getElem?_map] at hb
        obtain ⟨o, ho, it⟩ := paired_get pr hx
        rw [ho] at hb
        obtain rfl := Option.some.inj hb
        refine ⟨rfl, yes_then ?_⟩
        exact ⟨_, rfl, _, rfl, x, o, c, rfl, it.same s', hw o (List.mem_of_getElem? ho), fun H3 s3 => kk H3 s3⟩
      · refine ⟨D, _, rfl, .of h1, ?_⟩
        have e : rowO c os = (os.map (itO c)).all id := by
          unfold rowO
          rw [decide_eq_true f12, Bool.true_and, List.all_map]; rfl
        rw [← e]
        exact k H1 s1
    · have few : decide (os.length ≤ 12) = false := by
        refine decide_eq_false fun h => q (decide_eq_true ?_)
        rw [ln]
        omega
      have e : rowO c os = false := by unfold rowO; rw [few, Bool.false_and]
      have z := k H (Same.refl H)
      rw [e] at z
      exact z
def spCheckG (K : PySem.W.Frag) (CI : Addr) : Sp := fun vs H Q E => ∃ (a : Addr) (us : List Addr) (R : List (List Oi)), vs = [.ref a] ∧ LisG K H a us R ∧ AllOk R ∧ R.length ≤ 4000000 ∧ (badO R = 0 → ∀ H', Same H H' → Q .non H') ∧ (badO R ≠ 0 → LineE CI E H (badO R))
set_option maxHeartbeats 1000000 in
theorem ok_check_rowsG {f : Addr} {fd : FuncData} {tk : Tok} (F : Fun K "check_rows" "check_rows" sCheck_rows f fd) (U : ErI P w K mg base CI) (mEnum : mg "enumerate" = none) (mLen : mg "len" = none) (mg_MOST_ROWS : mg "MOST_ROWS" = some (.int 40 tk)) (c__is_row : Cal P w K mg base CX0 4 "_is_row" ["row", "count"] (spIsRowG K)) : FnOk P w K mg base (L2.CX P w) 5 f fd ["rows"] (spCheckG K CI) := by
  refine F.okX scCheck_rows (fun vs H Q E h => ?_) (fun cdv A outer s H vs Q E hr h => ?_)
  · obtain ⟨a, us, R, rfl, _⟩ := h
    rfl
  · obtain ⟨a, us, R, rfl, ⟨ha, pr⟩, ok, few, k, kE⟩ := h
    have hr__is_row := hr
    have hr2 : Room 2 _ := hr.mono (by decide : 2 ≤ 4)
    have ln := Paired.length pr
    refine ⟨_, (pss_cons (ps_for (passes_of rfl) rfl (pi_enumS (by rfl) mEnum (pa_cons (pv 0) pa_nil) (by decide) (by decide)) (pg_tup rfl (pgs_cons (pg_name (i := 1) scCheck_rows.nd rfl (by first | exact Or.inl rfl | exact Or.inr rfl)) (pgs_cons (pg_name (i := 2) scCheck_rows.nd rfl (by first | exact Or.inl rfl | exact Or.inr rfl)) pgs_nil)))
        (pss_one (ps_if (PW.pt (pw_or (pt_cmpR op_gt (pv 1) (pe_glob (v := .int 40) rfl mg_MOST_ROWS ⟨_, rfl⟩) (nomark _)) (pw_or1 (pt_not (pt_val (pe_cal c__is_row hr__is_row pass0 (pa_cons (pv 2) (pa_cons (pe_callB (k_len K) (by rfl) mLen (by decide +kernel) (pa_cons (pv 0) pa_nil)) pa_nil))))))))
          (pss_one (ps_raise rfl (takes_of rfl rfl rfl rfl) (pmk_er U hr2 pass0 (pa_cons (pv 1) pa_nil)))) pss_nil)))
      (pss_one (ps_if (pt_cmpR op_eq (pe_callB (k_len K) (by rfl) mLen (by decide +kernel) (pa_cons (pv 0) pa_nil)) pe_int (nomark _))
        (pss_one (ps_raise rfl (takes_of rfl rfl rfl rfl) (pmk_er U hr2 pass0 (pa_cons pe_int pa_nil)))) pss_nil))), ?_⟩
    refine ⟨_, rfl, a, us.map V.ref, rfl, .inl ⟨.of ha, ?_⟩⟩
    refine for_it walk_enumSL (fun i σ H' => ∃ (v1 v2 : Option V), σ = [some (.ref a), v1, v2] ∧ Same H H' ∧ i ≤ 40 ∧ badFrom R.length i (R.drop i) = badFrom R.length 0 R) ⟨none, none, rfl, Same.refl H, by decide, rfl⟩ (fun i σ H' _ q => .of (q.choose_spec.choose_spec.2.1 _ _ ha)) ?_ ?_
    · rintro i x σ H1 H2 hi ⟨v1, v2, rfl, s1, l40, bf⟩ ⟨T, x1, y, rfl, hT, rfl, e1, e2⟩
      obtain rfl : x1 = .int (1 + (i : Nat)) := (Option.some.inj e1).symm
      have e2 : (us.map V.ref)[i]? = some y := e2
      rw [List.getElem?_map] at e2
      obtain ⟨u, hu, rfl⟩ := Option.map_eq_some_iff.mp e2
      obtain ⟨os, hos, rq⟩ := paired_get pr hu
      have rm := List.mem_of_getElem? hos
      have il := (List.getElem?_eq_some_iff.mp hos).1
      have dr : R.drop i = os :: R.drop (i + 1) := by rw [List.drop_eq_getElem_cons il, (List.getElem?_eq_some_iff.mp hos).2]
      rw [dr, badFrom_cons] at bf
      have ne : R ≠ [] := fun e => by rw [e] at il; simp at il
      have eb : badO R = badFrom R.length 0 R := by unfold badO; rw [if_neg ne]
      have s2 := s1.trans (Same.new (o := .tup [.int (1 + (i : Nat)), .ref u]) hT)
      refine ⟨T, _, rfl, .of upd_same, rfl, _, _, rfl, _, _, rfl, rfl, ?_⟩
      refine ⟨_, rfl, _, _, rfl, rfl, _, rfl, ite2 (fun q => ?_) fun q => ?_⟩
      · have q := of_decide_eq_true q
        have i40 : i = 40 := by omega
        rw [if_pos (.inl i40)] at bf
        refine iteT ⟨_, rfl, ?_⟩
        have en : (1 + (i : Nat) : Int) = ((badO R : Nat) : Int) := by rw [eb, ← bf]; omega
        exact mk_ini1 fun dd H3 nd s3 hd => kE (by rw [eb, ← bf]; omega) dd H3 (s2.free nd) (s2.trans s3) (by rw [← en]; exact hd)
      have n40 : i ≠ 40 := fun e => q (decide_eq_true (by omega))
      refine ⟨_, rfl, _, rfl, a, _, rfl, .inl (.of (s2 _ _ ha)), ?_⟩
      rw [List.length_map, ln]
      refine ⟨u, os, R.length, rfl, rq.same s2, ok os rm, fun H3 s3 => ?_⟩
      cases rr : rowO R.length os with
      | true =>
        rw [if_neg (fun h => h.elim n40 fun z => by rw [rr] at z; cases z)] at bf
        exact ⟨_, rfl, iteF ⟨_, _, rfl, s2.trans s3, by omega, bf⟩⟩
      | false =>
        rw [if_pos (.inr rr)] at bf
        refine ⟨_, rfl, iteT ⟨_, rfl, ?_⟩⟩
        have en : (1 + (i : Nat) : Int) = ((badO R : Nat) : Int) := by rw [eb, ← bf]; omega
        exact mk_ini1 fun dd H4 nd s4 hd => kE (by rw [eb, ← bf]; omega) dd H4 ((s2.trans s3).free nd) ((s2.trans s3).trans s4) (by rw [← en]; exact hd)
    · rintro σ H1 ⟨v1, v2, rfl, s1, _, bf⟩
      rw [List.length_map, ln, List.drop_length] at bf
      refine ⟨_, rfl, a, _, rfl, .inl (.of (s1 _ _ ha)), rfl, _, rfl, ?_⟩
      rw [List.length_map, ln]
      refine ite2 (fun e => ?_) fun e => ?_
      · have e := V.int.inj (of_decide_eq_true e)
        have e0 : R = [] := List.length_eq_zero_iff.mp (by omega)
        have b1 : badO R = 1 := by unfold badO; rw [if_pos e0]
        exact mk_ini1 fun dd H3 nd s3 hd => kE (by rw [b1]; decide) dd H3 (s1.free nd) (s1.trans s3) (by rw [b1]; exact hd)
      · have e0 : R ≠ [] := fun q => e (decide_eq_true (by rw [q]; rfl))
        refine k ?_ H1 s1
        unfold badO
        rw [if_neg e0, ← bf]; rfl
/-! ### Result.__init__ that may raise -/
def spRsInitG (K : PySem.W.Frag) (CR CI : Addr) : Sp := fun vs H Q E => ∃ (p dx a : Addr) (us : List Addr) (R : List (List Oi)), vs = [.ref p, .ref a] ∧ H p = some (.ins CR dx []) ∧ LisG K H a us R ∧ AllOk R ∧ R.length ≤ 4000000 ∧ (badO R ≠ 0 → LineE CI E H (badO R)) ∧
  (∀ R' : List (List Itm), R = R'.map (·.map toO) → RtR R' → ∀ d us H', RsA K CR H' p dx d us (canonN R' 0) → H d = none → (∀ u ∈ us, u ≠ d ∧ H u = none) → (∀ b o, b ≠ p → H b = some o → H' b = some o) → Q .non H')
theorem ok_rsInitG {f : Addr} {fd : FuncData} (F : Fun K "__init__" "Result.__init__" sResultInit f fd) (T : RsC K mg CR) (c_check_rows : Cal P w K mg base (L2.CX P w) 5 "check_rows" ["rows"] (spCheckG K CI)) (c_numbered_rows : Cal P w K mg base CX0 4 "numbered_rows" ["rows", "start"] (spNumbered K)) : FnOk P w K mg base (L2.CX P w) 6 f fd ["self", "rows"] (spRsInitG K CR CI) := by
  refine F.okX scResultInit (fun vs H Q E h => ?_) (fun cdv A outer s H vs Q E hr h => ?_)
  · obtain ⟨p, dx, a, us, R, rfl, _⟩ := h
    rfl
  · obtain ⟨p, dx, a, us0, R, rfl, hp, hR, ok, few, kE, k⟩ := h
    have hr_numbered_rows : Room 4 _ := hr.mono (by decide : 4 ≤ 5)
    refine ⟨_, (pss_cons (ps_expr (pe_calS c_check_rows hr (fun σ => passAt (takes_of rfl rfl rfl rfl) σ) (pa_cons (pv 1) pa_nil)))
      (pss_one (ps_fld (pv 0) (pe_cal c_numbered_rows hr_numbered_rows pass0 (pa_cons (pv 1) (pa_cons pe_int pa_nil))) rfl))), ?_⟩
    refine ⟨_, rfl, a, us0, R, rfl, hR, ok, few, fun b0 H1 s1 => ?_, kE⟩
    obtain ⟨R', e, rt⟩ := right_of b0
    have kQ := k R' e rt
    clear k
    subst e
    have hR1 := (lisg_of (hR.same s1)).rows
    refine ⟨_, rfl, _, R', 0, rfl, hR1, rt.ok, List.length_pos_iff.mpr rt.ne, fun D H2 us nD hD pr fr s2 => ?_⟩
    refine ⟨_, rfl, p, CR, dx, [], rfl, s2 _ _ (s1 _ _ hp), T.ins.cl, T.nR, (by show 0 < 1000; decide), ?_⟩
    have hp2 := s2 _ _ (s1 _ _ hp)
    have fr0 : ∀ u ∈ us, u ≠ D ∧ H u = none := fun u hu => ⟨(fr u hu).1, s1.free (fr u hu).2⟩
    refine kQ D us _ ⟨upd_same, ?_, ?_⟩ (s1.free nD) fr0 fun b o nb e => ?_
    · rw [upd_ne (ne_of hD hp2 (by intro z; cases z))]; exact hD
    · refine paired_same (paired_mem pr) fun u row ⟨⟨ts, h1, h2⟩, um⟩ => ⟨ts, ?_, paired_same h2 fun t it z => ?_⟩
      · rw [upd_ne (ne_of h1 hp2 (by intro z; cases z))]; exact h1
      · rcases z with (z | ⟨o, z⟩) | z
        · exact .inl (.inl (by rw [upd_ne (ne_of z hp2 (by intro z; cases z))]; exact z))
        · exact .inl (.inr ⟨o, by rw [upd_ne (ne_of z hp2 (by intro z; cases z))]; exact z⟩)
        · exact .inr z
    · rw [upd_ne nb]
      exact s2 _ _ (s1 _ _ e)
end
end Mf
namespace Mf
open PySem L2
theorem ItG.kp {K : PySem.W.Frag} {H H' : Hp} {a : Addr} {v : V} {o : Oi} {n : Nat} (x : ItG K H v o) (k : Kp a H H') (S : Src H a n) : ItG K H' v o := by
  cases o with
  | tp xs => obtain ⟨t, e, h⟩ := x; exact ⟨t, e, (k.noL S).tup h⟩
  | ls z => obtain ⟨l, e, h⟩ := x; exact ⟨l, e, k _ _ (strs_ne S (zs := [z]) h) h⟩
  | _ => exact x
def scB : Sc → Bool
  | .s z => decide (z.length ≤ 1000000) && PyData.strOk z
  | _ => true
def oiB : Oi → Bool
  | .tp xs => xs.all scB && decide (xs.length ≤ 3) && (match xs with
    | [.s _, _] => true
    | [_, _] => false
    | _ => true)
  | .ls z => PyData.strOk z
  | .tx z => PyData.strOk z
  | _ => true
theorem oiB_ok {o : Oi} (h : oiB o = true) : OiOk o := by
  cases o with
  | tp xs =>
    obtain ⟨h, h3⟩ := Bool.and_eq_true_iff.mp h
    obtain ⟨h1, h2⟩ := Bool.and_eq_true_iff.mp h
    refine ⟨fun x hx => ?_, of_decide_eq_true h2, fun x y e => ?_, fun _ x hx => ?_⟩
    · have := List.all_eq_true.mp h1 x hx
      cases x with
      | s z =>
        have q : decide (z.length ≤ 1000000) = true := (Bool.and_eq_true_iff.mp this).1
        have q2 : z.length ≤ 1000000 := of_decide_eq_true q
        exact q2
      | i n => trivial
      | b y => trivial
    rotate_left
    · have := List.all_eq_true.mp h1 x hx
      cases x with
      | s z => exact (Bool.and_eq_true_iff.mp this).2
      | i n => trivial
      | b y => trivial
    · subst e
      cases x with
      | s z => exact ⟨z, rfl⟩
      | i n => cases h3
      | b y => cases h3
  | ls z => exact h
  | tx z => exact h
  | no => trivial
  | nt m => trivial
section
variable {P : Program} {w : World} {K : PySem.W.Frag} {mg : Str → Option Value} {base : Heap} {C CR CI : Addr}
/-! ### _law_is_name -/
abbrev sLIsName : Stmt := top 42
theorem scLIsName : FnScope ["_law_thing", "_law_letters", "_law_sign"] ["_law_thing"] (defScope sLIsName) := ⟨rfl, rfl, rfl, by decide +kernel, rfl, by decide +kernel, by decide +kernel⟩
theorem ok_lis_nameO {f : Addr} {fd : FuncData} (F : Fun K "_law_is_name" "_law_is_name" sLIsName f fd) (mIsi : mg "isinstance" = none) (mStr : mg "str" = none) (mLen : mg "len" = none) (mAll : mg "all" = none) : FnOk P w K mg base CX0 1 f fd ["_law_thing"] (fun vs H Q _ => ∃ x : Sc, vs = [x.v] ∧ (∀ z, x ≠ .s z) ∧ ∀ H', Same H H' → Q (.bl false) H') := by
  refine F.ok scLIsName (fun vs H Q E h => ?_) (fun cdv A outer s H vs Q E hr h => ?_)
  · obtain ⟨z, rfl, _⟩ := h
    rfl
  · obtain ⟨x, rfl, nx, k⟩ := h
    refine ⟨_, (pss_cons (ps_set (i := 1) scLIsName.nd rfl (by first | exact Or.inl rfl | exact Or.inr rfl) pe_str)
      (pss_one (ps_ret (pe_and (pe_callB (k_isi K) (by rfl) mIsi (by decide +kernel) (pa_cons (pv 0) (pa_cons (pe_bltn (v := .ty "str") (by rfl) mStr (by decide +kernel) rfl) pa_nil))) (pe_and (pe_chain op_lt op_lt pe_int (pe_callB call_len_str (by rfl) mLen (by decide +kernel) (pa_cons (pv 0) pa_nil)) pe_int) (pe_one (pe_callB (k_all K) (by rfl) mAll (by decide +kernel) (pa_cons (pe_lc (own := [("_law_sign", 2)]) (g := (gName 2)) (tt := tYes) rfl scLIsName.nd (pi_str (pv 0)) (blkOk_by (own := [("_law_sign", 2)]) (N := ["_law_thing", "_law_letters", "_law_sign"]) (sc := defScope sLIsName) (by decide +kernel)) (fun _ _ _ _ _ => (pg_name (i := 2) scLIsName.nd rfl (by first | exact Or.inl rfl | exact Or.inr rfl))) (fun _ _ _ _ _ => pts_nil) (fun _ _ _ _ _ => (pe_cmpR op_in_sign (pv 2) (pv 1) (by rfl)))) pa_nil)))))))), ?_⟩
    cases x with
    | s z => exact absurd rfl (nx z)
    | i n => exact ⟨_, rfl, _, _, _, _, false, rfl, .ty _, .base (.int _), kit_ty (by decide +kernel), _, rfl, iteF (k H (Same.refl H))⟩
    | b x => exact ⟨_, rfl, _, _, _, _, false, rfl, .ty _, .base (.bl _), kit_ty (by decide +kernel), _, rfl, iteF (k H (Same.refl H))⟩
theorem low_mem (c : Nat) : decide (c ∈ ("abcdefghijklmnopqrstuvwxyz" : Str).cps.toList) = (decide (97 ≤ c) && decide (c ≤ 122)) := by
  have e : ("abcdefghijklmnopqrstuvwxyz" : Str).cps.toList = [97, 98, 99, 100, 101, 102, 103, 104, 105, 106, 107, 108, 109, 110, 111, 112, 113, 114, 115, 116, 117, 118, 119, 120, 121, 122] := by decide +kernel
  rw [e, ← Bool.decide_and]
  refine decide_eq_decide.mpr ?_
  simp only [List.mem_cons, List.not_mem_nil, or_false]
  omega
theorem ok_lis_nameS {f : Addr} {fd : FuncData} (F : Fun K "_law_is_name" "_law_is_name" sLIsName f fd) (mIsi : mg "isinstance" = none) (mStr : mg "str" = none) (mLen : mg "len" = none) (mAll : mg "all" = none) : FnOk P w K mg base CX0 1 f fd ["_law_thing"] spIsName := by
  refine F.ok scLIsName (fun vs H Q E h => ?_) (fun cdv A outer s H vs Q E hr h => ?_)
  · obtain ⟨z, rfl, _⟩ := h
    rfl
  · obtain ⟨z, rfl, hz, k⟩ := h
    refine ⟨_, (pss_cons (ps_set (i := 1) scLIsName.nd rfl (by first | exact Or.inl rfl | exact Or.inr rfl) pe_str)
      (pss_one (ps_ret (pe_and (pe_callB (k_isi K) (by rfl) mIsi (by decide +kernel) (pa_cons (pv 0) (pa_cons (pe_bltn (v := .ty "str") (by rfl) mStr (by decide +kernel) rfl) pa_nil))) (pe_and (pe_chain op_lt op_lt pe_int (pe_callB call_len_str (by rfl) mLen (by decide +kernel) (pa_cons (pv 0) pa_nil)) pe_int) (pe_one (pe_callB (k_all K) (by rfl) mAll (by decide +kernel) (pa_cons (pe_lc (own := [("_law_sign", 2)]) (g := (gName 2)) (tt := tYes) rfl scLIsName.nd (pi_str (pv 0)) (blkOk_by (own := [("_law_sign", 2)]) (N := ["_law_thing", "_law_letters", "_law_sign"]) (sc := defScope sLIsName) (by decide +kernel)) (fun _ _ _ _ _ => (pg_name (i := 2) scLIsName.nd rfl (by first | exact Or.inl rfl | exact Or.inr rfl))) (fun _ _ _ _ _ => pts_nil) (fun _ _ _ _ _ => (pe_cmpR op_in_sign (pv 2) (pv 1) (by rfl)))) pa_nil)))))))), ?_⟩
    refine ⟨_, rfl, _, _, _, _, true, rfl, .ty _, .base (.str _), kit_ty (by decide +kernel), _, rfl, iteT ?_⟩
    refine ⟨_, rfl, z, rfl, hz, _, _, rfl, rfl, _, rfl, ite2 (fun a1 => ?_) fun a1 => ?_⟩
    · have b1 : 1 ≤ z.length := by have := of_decide_eq_true a1; omega
      refine ⟨_, _, rfl, rfl, _, rfl, ite2 (fun a2 => ?_) fun a2 => ?_⟩
      · have b2 : z.length ≤ 8 := by have := of_decide_eq_true a2; omega
        refine ⟨_, rfl, _, rfl, fun D hD => ?_⟩
        refine lc_it walk_str (fun i H' => H' D = some (.lst (((z.cps.toList.take i).map fun c => decide (97 ≤ c) && decide (c ≤ 122)).map V.bl)) ∧ Same H H') ⟨upd_same, Same.new hD⟩ (fun _ _ _ _ => trivial) ?_ ?_
        · rintro i x H4 H5 hi ⟨h4, s4⟩ ⟨rfl, c, hc, rfl⟩
          refine ⟨rfl, yes_then ?_⟩
          have hc' : z.cps.toList[i]? = some c := by rw [Array.getElem?_toList]; exact hc
          have hlen : i < z.length := hi
          refine ⟨_, rfl, _, rfl, c, _, rfl, rfl, _, h4, ?_, ?_, s4.mut hD⟩
          · rw [List.length_map, List.length_map]
            exact Nat.lt_of_le_of_lt (List.length_take_le _ _) (Nat.lt_of_lt_of_le (by omega : i < 9) (by decide))
          · rw [upd_same, List.take_add_one, hc', List.map_append, List.map_append, low_mem]; rfl
        · rintro H4 ⟨h4, s4⟩
          refine ⟨D, _, rfl, .of h4, ?_⟩
          have e : nameB z = (((z.cps.toList.take z.cps.size).map fun c => decide (97 ≤ c) && decide (c ≤ 122)).all id) := by
            unfold nameB
            rw [decide_eq_true b1, decide_eq_true b2, List.take_of_length_le (by rw [Array.length_toList]; exact Nat.le_refl _), List.all_map]
            rfl
          have q := k H4 s4
          rw [e] at q
          exact q
      · have b2 : ¬ z.length ≤ 8 := fun q => a2 (decide_eq_true (by omega))
        have e : nameB z = false := by unfold nameB; rw [decide_eq_false b2, Bool.and_false, Bool.false_and]
        have q := k H (Same.refl H)
        rw [e] at q; exact q
    · have b1 : ¬ 1 ≤ z.length := fun q => a1 (decide_eq_true (by omega))
      have e : nameB z = false := by unfold nameB; rw [decide_eq_false b1, Bool.false_and, Bool.false_and]
      have q := k H (Same.refl H)
      rw [e] at q; exact ⟨_, rfl, iteF q⟩
theorem ok_lis_nameG {f : Addr} {fd : FuncData} (F : Fun K "_law_is_name" "_law_is_name" sLIsName f fd) (mIsi : mg "isinstance" = none) (mStr : mg "str" = none) (mLen : mg "len" = none) (mAll : mg "all" = none) : FnOk P w K mg base CX0 1 f fd ["_law_thing"] spIsNameG :=
  (fnOk_or (ok_lis_nameS F mIsi mStr mLen mAll) (ok_lis_nameO F mIsi mStr mLen mAll)).imp fun vs H Q E ⟨x, e, o, k⟩ => by
    cases x with
    | s z => exact .inl ⟨z, e, Nat.le_trans o (by decide), k⟩
    | i n => exact .inr ⟨_, e, (fun _ q => by cases q), k⟩
    | b x => exact .inr ⟨_, e, (fun _ q => by cases q), k⟩
/-! ### _law_is_item -/
abbrev sLIsItem : Stmt := top 43
theorem scLIsItem : FnScope ["_law_item_here", "_law_many", "_law_whole"] ["_law_item_here", "_law_many"] (defScope sLIsItem) := ⟨rfl, rfl, rfl, by decide +kernel, rfl, by decide +kernel, by decide +kernel⟩
set_option maxHeartbeats 2000000 in
theorem ok_lis_item {f : Addr} {fd : FuncData} (F : Fun K "_law_is_item" "_law_is_item" sLIsItem f fd) (mIsi : mg "isinstance" = none) (mTuple : mg "tuple" = none) (mLen : mg "len" = none) (mInt : mg "int" = none) (mBool : mg "bool" = none)
    (c_is_name : Cal P w K mg base CX0 1 "_law_is_name" ["_law_thing"] spIsNameG) : FnOk P w K mg base CX0 2 f fd ["_law_item_here", "_law_many"] (spIsItemG K) := by
  refine F.ok scLIsItem (fun vs H Q E h => ?_) (fun cdv A outer s H vs Q E hr h => ?_)
  · obtain ⟨t, it, c, rfl, _⟩ := h
    rfl
  · obtain ⟨v, o, c, rfl, ho, ok, k⟩ := h
    have hr_is_name := hr
    refine ⟨_, (pss_cons (ps_if (PW.pt (pw_or (pt_not (pt_val (pe_callB (k_isi K) (by rfl) mIsi (by decide +kernel) (pa_cons (pv 0) (pa_cons (pe_bltn (v := .ty "tuple") (by rfl) mTuple (by decide +kernel) rfl) pa_nil))))) (pw_or1 (pt_cmpR op_ne (pe_callB (k_len K) (by rfl) mLen (by decide +kernel) (pa_cons (pv 0) pa_nil)) pe_int (nomark _)))))
        (pss_one (ps_ret (pe_cmpR (eqD K hr) (pv 0) (pe_tup (pa_cons pe_str pa_nil)) (nomark _)))) pss_nil)
      (pss_cons (ps_if (pt_cmpR op_eq (pe_ix (ixt K) (pv 0) pe_int (fun _ _ => rfl)) pe_str (nomark _))
        (pss_one (ps_ret (pe_and (pe_callB (k_isi K) (by rfl) mIsi (by decide +kernel) (pa_cons (pe_ix (ixt K) (pv 0) pe_int (fun _ _ => rfl)) (pa_cons (pe_bltn (v := .ty "int") (by rfl) mInt (by decide +kernel) rfl) pa_nil))) (pe_and (pe_notT (pe_callB (k_isi K) (by rfl) mIsi (by decide +kernel) (pa_cons (pe_ix (ixt K) (pv 0) pe_int (fun _ _ => rfl)) (pa_cons (pe_bltn (v := .ty "bool") (by rfl) mBool (by decide +kernel) rfl) pa_nil)))) (pe_one (pe_chain op_lt op_lt (pe_op op_sub pe_int (pe_op op_pow pe_int pe_int)) (pe_ix (ixt K) (pv 0) pe_int (fun _ _ => rfl)) (pe_op op_pow pe_int pe_int))))))) pss_nil)
      (pss_cons (ps_if (pt_cmpR op_eq (pe_ix (ixt K) (pv 0) pe_int (fun _ _ => rfl)) pe_str (nomark _))
        (pss_one (ps_ret (pe_cal c_is_name hr_is_name pass0 (pa_cons (pe_ix (ixt K) (pv 0) pe_int (fun _ _ => rfl)) pa_nil)))) pss_nil)
      (pss_cons (ps_set (i := 2) scLIsItem.nd rfl (by first | exact Or.inl rfl | exact Or.inr rfl) (pe_and (pe_callB (k_isi K) (by rfl) mIsi (by decide +kernel) (pa_cons (pe_ix (ixt K) (pv 0) pe_int (fun _ _ => rfl)) (pa_cons (pe_bltn (v := .ty "int") (by rfl) mInt (by decide +kernel) rfl) pa_nil))) (pe_one (pe_notT (pe_callB (k_isi K) (by rfl) mIsi (by decide +kernel) (pa_cons (pe_ix (ixt K) (pv 0) pe_int (fun _ _ => rfl)) (pa_cons (pe_bltn (v := .ty "bool") (by rfl) mBool (by decide +kernel) rfl) pa_nil)))))))
      (pss_one (ps_ret (pe_and (pe_cmpR op_eq (pe_ix (ixt K) (pv 0) pe_int (fun _ _ => rfl)) pe_str (nomark _)) (pe_and (pv 2) (pe_one (pe_chain op_le op_lt pe_int (pe_ix (ixt K) (pv 0) pe_int (fun _ _ => rfl)) (pv 1))))))))))), ?_⟩
    have nh : (A.deeper (PyProof.Rows.envOfC "_law_is_item" (defScope sLIsItem) s.heap.objs.size f cdv)).units + 64 < cLine := hr.units
    have gp : ∀ {v : V} {o : Oi}, ItG K H v o → OiOk o → (∀ x y, o ≠ .tp [x, y]) → ∀ t, H t = none → ∃ d e, Dp K (upd H t (.tup [.str "gap"])) v d ∧ Dp K (upd H t (.tup [.str "gap"])) (.ref t) e ∧ SeqAt.shaped d = true ∧ SeqAt.shaped e = true ∧ PyData.eqv d e = itO c o := fun {v o} ho ok np t nt =>
      ⟨o.d, gapO.d, (ho.same (Same.new nt)).dp, .tup (.of upd_same) (.cons (.str _) .nil), (sh_oi ok np).sh, (sh_gap).sh, eqv_gap c np⟩
    have odd : ∀ {v : V} {o : Oi}, ItG K H v o → OiOk o → (∀ x y, o ≠ .tp [x, y]) → (∀ H', Same H H' → Q (.bl (itO c o)) H') → tRet (tOp (rEqD K) (tVar 0) (tTup (tCons (tC (V.str "gap")) tNil))) { nx := fun _ _ => False, rt := Q } (L2.start ["_law_item_here", "_law_many", "_law_whole"] [v, V.int c]) H := fun {v o} ho ok np k => by
      refine ⟨_, rfl, (by show 1 ≤ sizeLine; decide), fun t nt => ?_⟩
      obtain ⟨d, e, h1, h2, h3, h4, ev⟩ := gp ho ok np t nt
      refine ⟨d, e, h1, h2, h3, h4, ?_⟩
      rw [ev]
      exact k _ (Same.new nt)
    cases o with
    | ls z =>
      have ho' := ho
      obtain ⟨l, rfl, hl⟩ := ho
      exact ⟨_, rfl, _, _, _, _, false, rfl, .ty _, .base (.lst hl), kit_ty (by decide +kernel), _, rfl, iteT (iteT (odd ho' ok (fun _ _ e => by cases e) k))⟩
    | tx z =>
      have ho' := ho
      obtain rfl : v = .str z := ho
      exact ⟨_, rfl, _, _, _, _, false, rfl, .ty _, .base (.str _), kit_ty (by decide +kernel), _, rfl, iteT (iteT (odd ho' ok (fun _ _ e => by cases e) k))⟩
    | no =>
      have ho' := ho
      obtain rfl : v = .non := ho
      exact ⟨_, rfl, _, _, _, _, false, rfl, .ty _, .base .non, kit_ty (by decide +kernel), _, rfl, iteT (iteT (odd ho' ok (fun _ _ e => by cases e) k))⟩
    | nt m =>
      have ho' := ho
      obtain rfl : v = .int m := ho
      exact ⟨_, rfl, _, _, _, _, false, rfl, .ty _, .base (.int _), kit_ty (by decide +kernel), _, rfl, iteT (iteT (odd ho' ok (fun _ _ e => by cases e) k))⟩
    | tp xs =>
      have ho' := ho
      obtain ⟨t, rfl, sq⟩ := ho
      refine ⟨_, rfl, _, _, _, _, true, rfl, .ty _, tyx_tup sq, kit_ty (by decide +kernel), _, rfl, iteF ?_⟩
      rcases few3 ok.2.1 with rfl | ⟨x, rfl⟩ | ⟨x, y, z, rfl⟩ | ⟨x, y, rfl⟩
      · exact ⟨_, rfl, t, _, rfl, .inr sq, rfl, _, rfl, iteT (odd ho' ok (fun _ _ e => by cases e) k)⟩
      · exact ⟨_, rfl, t, _, rfl, .inr sq, rfl, _, rfl, iteT (odd ho' ok (fun _ _ e => by cases e) k)⟩
      · exact ⟨_, rfl, t, _, rfl, .inr sq, rfl, _, rfl, iteT (odd ho' ok (fun _ _ e => by cases e) k)⟩
      obtain ⟨z, rfl⟩ := ok.2.2.1 x y rfl
      have oy := ok.1 y (by simp)
      have sq : SqT K H t [.str z, y.v] := sq
      refine ⟨_, rfl, t, _, rfl, .inr sq, rfl, _, rfl, iteF ?_⟩
      have k : ∀ H', Same H H' → Q (.bl (if z = ("number" : Str) then numO y else if z = ("word" : Str) then nameO y else decide (z = ("node" : Str)) && ndO c y)) H' := k
      refine ⟨_, rfl, t, _, (0 : Nat), _, rfl, rfl, sq, rfl, rfl, _, rfl, ite2 (fun e => ?_) fun e => ?_⟩
      · have e : z = ("number" : Str) := V.str.inj (of_decide_eq_true e)
        have kk := k H (Same.refl H)
        rw [if_pos e] at kk
        cases y with
        | s x => exact ⟨_, rfl, t, _, (1 : Nat), _, rfl, rfl, sq, rfl, _, _, _, _, false, rfl, .ty _, .base (.str _), kit_ty (by decide +kernel), _, rfl, iteF kk⟩
        | b x =>
          refine ⟨_, rfl, t, _, (1 : Nat), _, rfl, rfl, sq, rfl, _, _, _, _, true, rfl, .ty _, .base (.bl _), kit_ty (by decide +kernel), _, rfl, iteT ?_⟩
          exact ⟨_, rfl, t, _, (1 : Nat), _, rfl, rfl, sq, rfl, _, _, _, _, true, rfl, .ty _, .base (.bl _), kit_ty (by decide +kernel), true, rfl, _, rfl, iteF kk⟩
        | i n =>
          refine ⟨_, rfl, t, _, (1 : Nat), _, rfl, rfl, sq, rfl, _, _, _, _, true, rfl, .ty _, .base (.int _), kit_ty (by decide +kernel), _, rfl, iteT ?_⟩
          refine ⟨_, rfl, t, _, (1 : Nat), _, rfl, rfl, sq, rfl, _, _, _, _, false, rfl, .ty _, .base (.int _), kit_ty (by decide +kernel), false, rfl, _, rfl, iteT ?_⟩
          have kk : Q (.bl (numB n)) H := kk
          have e1 : numB n = (decide ((0 : Int) - 10 ^ (60 : Int).toNat < n) && decide (n < (10 : Int) ^ (60 : Int).toNat)) := by
            unfold numB
            rw [show (60 : Int).toNat = 60 from rfl, show (10 : Int) ^ 60 = ((10 ^ 60 : Nat) : Int) by decide +kernel, ← Bool.decide_and]
            generalize (10 ^ 60 : Nat) = M
            exact decide_eq_decide.mpr (by omega)
          rw [e1] at kk
          refine ⟨_, _, rfl, rfl, ⟨by decide, by decide, by decide⟩, _, _, rfl, rfl, _, rfl, t, _, (1 : Nat), _, rfl, rfl, sq, rfl, _, _, rfl, rfl, _, rfl, ite2 (fun e => ?_) fun e => ?_⟩
          · rw [e, Bool.true_and] at kk
            exact ⟨_, _, rfl, rfl, ⟨by decide, by decide, by decide⟩, _, _, rfl, rfl, kk⟩
          · have e := Bool.eq_false_iff.mpr e
            rw [e, Bool.false_and] at kk
            exact kk
      have n1 : ¬ z = ("number" : Str) := fun q => e (decide_eq_true (by rw [q]))
      refine ⟨_, rfl, t, _, (0 : Nat), _, rfl, rfl, sq, rfl, rfl, _, rfl, ite2 (fun e => ?_) fun e => ?_⟩
      · have e : z = ("word" : Str) := V.str.inj (of_decide_eq_true e)
        exact ⟨_, rfl, t, _, (1 : Nat), _, rfl, rfl, sq, rfl, y, rfl, oy, fun H1 s1 => by have kk := k H1 s1; rw [if_neg n1, if_pos e] at kk; exact kk⟩
      have n2 : ¬ z = ("word" : Str) := fun q => e (decide_eq_true (by rw [q]))
      have kk := k H (Same.refl H)
      rw [if_neg n1, if_neg n2] at kk
      have whole : ∀ (b : Bool), b = intO y → tRet (tAndV (tOp rEq (tOp (rIxT K) (tVar 0) (tC (V.int 0))) (tC (V.str "node"))) (tAndV (tVar 2) (tChain (rI0 fun i j => V.bl (decide (i ≤ j))) (rI0 fun i j => V.bl (decide (i < j))) (tC (V.int 0)) (tOp (rIxT K) (tVar 0) (tC (V.int 1))) (tVar 1)))) { nx := fun _ _ => False, rt := Q } [some (.ref t), some (.int c), some (.bl b)] H := by
        rintro b rfl
        refine ⟨_, rfl, t, _, (0 : Nat), _, rfl, rfl, sq, rfl, rfl, _, rfl, ite2 (fun e => ?_) fun e => ?_⟩
        · have e : z = ("node" : Str) := V.str.inj (of_decide_eq_true e)
          rw [decide_eq_true e, Bool.true_and] at kk
          cases y with
          | s x => exact ⟨_, rfl, _, rfl, iteF kk⟩
          | b x => exact ⟨_, rfl, _, rfl, iteF kk⟩
          | i n =>
            have kk : Q (.bl (decide (0 ≤ n) && decide (n < c))) H := kk
            refine ⟨_, rfl, _, rfl, iteT ⟨_, rfl, t, _, (1 : Nat), _, rfl, rfl, sq, rfl, _, _, rfl, rfl, _, rfl, ite2 (fun e => ?_) fun e => ?_⟩⟩
            · rw [e, Bool.true_and] at kk
              exact ⟨_, rfl, _, _, rfl, rfl, kk⟩
            · have e := Bool.eq_false_iff.mpr e
              rw [e, Bool.false_and] at kk
              exact kk
        · have n3 : ¬ z = ("node" : Str) := fun q => e (decide_eq_true (by rw [q]))
          rw [decide_eq_false n3, Bool.false_and] at kk
          exact kk
      cases y with
      | s x => exact ⟨_, rfl, t, _, (1 : Nat), _, rfl, rfl, sq, rfl, _, _, _, _, false, rfl, .ty _, .base (.str _), kit_ty (by decide +kernel), _, rfl, iteF (whole false rfl)⟩
      | b x =>
        refine ⟨_, rfl, t, _, (1 : Nat), _, rfl, rfl, sq, rfl, _, _, _, _, true, rfl, .ty _, .base (.bl _), kit_ty (by decide +kernel), _, rfl, iteT ?_⟩
        exact ⟨_, rfl, t, _, (1 : Nat), _, rfl, rfl, sq, rfl, _, _, _, _, true, rfl, .ty _, .base (.bl _), kit_ty (by decide +kernel), true, rfl, whole false rfl⟩
      | i n =>
        refine ⟨_, rfl, t, _, (1 : Nat), _, rfl, rfl, sq, rfl, _, _, _, _, true, rfl, .ty _, .base (.int _), kit_ty (by decide +kernel), _, rfl, iteT ?_⟩
        exact ⟨_, rfl, t, _, (1 : Nat), _, rfl, rfl, sq, rfl, _, _, _, _, false, rfl, .ty _, .base (.int _), kit_ty (by decide +kernel), false, rfl, whole true rfl⟩
end
end Mf
namespace Mf
open PySem L2
section
variable {P : Program} {w : World} {K : PySem.W.Frag} {mg : Str → Option Value} {base : Heap} {C CR CI : Addr}
/-! ### _law_bad_row -/
def spBadRow (K : PySem.W.Frag) : Sp := fun vs H Q _ => ∃ (a : Addr) (us : List Addr) (R : List (List Oi)), vs = [.ref a] ∧ LisG K H a us R ∧ AllOk R ∧ R.length ≤ 4000000 ∧ ∀ H', Same H H' → Q (.int (badO R : Nat)) H'
abbrev sBad_row : Stmt := top 44
theorem scBad_row : FnScope ["_law_rows", "_law_k", "_law_row", "_law_item_here"] ["_law_rows"] (defScope sBad_row) := ⟨rfl, rfl, rfl, by decide +kernel, rfl, by decide +kernel, by decide +kernel⟩
set_option maxHeartbeats 1000000 in
theorem ok_bad_row {f : Addr} {fd : FuncData} (F : Fun K "_law_bad_row" "_law_bad_row" sBad_row f fd) (mEnum : mg "enumerate" = none) (mLen : mg "len" = none) (mAll : mg "all" = none) (c_is_item : Cal P w K mg base CX0 2 "_law_is_item" ["_law_item_here", "_law_many"] (spIsItemG K)) : FnOk P w K mg base CX0 3 f fd ["_law_rows"] (spBadRow K) := by
  refine F.ok scBad_row (fun vs H Q E h => ?_) (fun cdv A outer s H vs Q E hr h => ?_)
  · obtain ⟨a, us, R, rfl, _⟩ := h
    rfl
  · obtain ⟨a, us, R, rfl, ⟨ha, pr⟩, ok, few, k⟩ := h
    have hr_is_item := hr
    have ln := Paired.length pr
    refine ⟨_, (C8.pss_cut (ps_if (pt_cmpR op_eq (pe_callB (k_len K) (by rfl) mLen (by decide +kernel) (pa_cons (pv 0) pa_nil)) pe_int (nomark _))
        (pss_one (ps_ret pe_int)) pss_nil)
      (pss_cons (ps_for PassesOwn.never rfl (pi_enum (by rfl) mEnum (pa_cons (pv 0) pa_nil)) (pg_tup rfl (pgs_cons (pg_name (i := 1) scBad_row.nd rfl (by first | exact Or.inl rfl | exact Or.inr rfl)) (pgs_cons (pg_name (i := 2) scBad_row.nd rfl (by first | exact Or.inl rfl | exact Or.inr rfl)) pgs_nil)))
        (pss_one (ps_if (PW.pt (pw_or (pt_cmpR op_eq (pv 1) pe_int (nomark _)) (pw_or (pt_cmpR op_gt (pe_callB (k_len K) (by rfl) mLen (by decide +kernel) (pa_cons (pv 2) pa_nil)) pe_int (nomark _)) (pw_or1 (pt_not (pt_val (pe_callB (k_all K) (by rfl) mAll (by decide +kernel) (pa_cons (pe_lc (own := [("_law_item_here", 3)]) (g := (gName 3)) (tt := tYes) rfl scBad_row.nd (pi_list (pv 2)) (blkOk_by (own := [("_law_item_here", 3)]) (N := ["_law_rows", "_law_k", "_law_row", "_law_item_here"]) (sc := defScope sBad_row) (by decide +kernel)) (fun _ _ _ _ _ => (pg_name (i := 3) scBad_row.nd rfl (by first | exact Or.inl rfl | exact Or.inr rfl))) (fun _ _ _ _ _ => pts_nil) (fun _ _ _ _ _ => (pe_cal c_is_item hr_is_item pass0 (pa_cons (pv 3) (pa_cons (pe_callB (k_len K) (by rfl) mLen (by decide +kernel) (pa_cons (pv 0) pa_nil)) pa_nil))))) pa_nil))))))))
          (pss_one (ps_ret (pe_op op_add (pv 1) pe_int))) pss_nil)))
      (pss_one (ps_ret pe_int)))), ?_⟩
    refine ⟨fun σ' H' => σ' = [some (.ref a), none, none, none] ∧ Same H H' ∧ R ≠ [], ?_, ?_⟩
    · refine ⟨_, rfl, a, _, rfl, .inl (.of ha), rfl, _, rfl, ?_⟩
      rw [List.length_map, ln]
      refine ite2 (fun e => ?_) fun e => ⟨rfl, Same.refl H, fun q => e (decide_eq_true (by rw [q]; rfl))⟩
      have e := V.int.inj (of_decide_eq_true e)
      have e0 : R = [] := List.length_eq_zero_iff.mp (by omega)
      have b1 : badO R = 1 := by unfold badO; rw [if_pos e0]
      have kk := k H (Same.refl H)
      rw [b1] at kk
      exact kk
    rintro σ H0 ⟨rfl, s0, ne⟩
    replace ha := s0 _ _ ha
    replace pr := paired_same pr fun _ _ q => RowG.same q s0
    replace k : ∀ H', Same H0 H' → Q (.int (badO R : Nat)) H' := fun H' s => k H' (s0.trans s)
    clear s0
    have eb : badO R = badFrom R.length 0 R := by unfold badO; rw [if_neg ne]
    rw [eb] at k
    refine ⟨_, rfl, a, us.map V.ref, rfl, .of ha, ?_⟩
    refine for_it walk_enum (fun i σ H' => ∃ (v1 v2 : Option V), σ = [some (.ref a), v1, v2, none] ∧ Same H0 H' ∧ i ≤ 40 ∧ badFrom R.length i (R.drop i) = badFrom R.length 0 R) ⟨none, none, rfl, Same.refl H0, by decide, rfl⟩ (fun i σ H' _ q => .of (q.choose_spec.choose_spec.2.1 _ _ ha)) ?_ ?_
    · rintro i x σ H1 H2 hi ⟨v1, v2, rfl, s1, l40, bf⟩ ⟨T, x1, y, rfl, hT, rfl, e1, e2⟩
      obtain rfl : x1 = .int (i : Nat) := (Option.some.inj e1).symm
      have e2 : (us.map V.ref)[i]? = some y := e2
      rw [List.getElem?_map] at e2
      obtain ⟨u, hu, rfl⟩ := Option.map_eq_some_iff.mp e2
      obtain ⟨os, hos, vs, hvs, rq⟩ := paired_get pr hu
      have rm := List.mem_of_getElem? hos
      have il := (List.getElem?_eq_some_iff.mp hos).1
      have dr : R.drop i = os :: R.drop (i + 1) := by rw [List.drop_eq_getElem_cons il, (List.getElem?_eq_some_iff.mp hos).2]
      rw [dr, badFrom_cons] at bf
      have lv := Paired.length rq
      have s2 := s1.trans (Same.new (o := .tup [.int (i : Nat), .ref u]) hT)
      have hit : ∀ H3, Same H0 H3 → (i = 40 ∨ rowO R.length os = false) → Q (.int ((i : Nat) + 1)) H3 := fun H3 s3 c => by
        rw [if_pos c] at bf
        have kk := k H3 s3
        rw [← bf] at kk
        exact kk
      refine ⟨T, _, rfl, .of upd_same, rfl, _, _, rfl, _, _, rfl, rfl, ?_⟩
      refine ⟨_, rfl, rfl, _, rfl, ite2 (fun q => ?_) fun q => ?_⟩
      · have q := V.int.inj (of_decide_eq_true q)
        exact iteT ⟨_, rfl, _, _, rfl, rfl, hit _ s2 (.inl (by omega))⟩
      have n40 : i ≠ 40 := fun e => q (decide_eq_true (by rw [e]; rfl))
      refine ⟨_, rfl, u, _, rfl, .inl (.of (s2 _ _ hvs)), _, _, rfl, rfl, _, rfl, ite2 (fun q => ?_) fun q => ?_⟩
      · have q := of_decide_eq_true q
        have f : rowO R.length os = false := by
          unfold rowO
          rw [decide_eq_false (by omega), Bool.false_and]
        exact iteT ⟨_, rfl, _, _, rfl, rfl, hit _ s2 (.inr f)⟩
      have f12 : os.length ≤ 12 := by
        by_cases c : os.length ≤ 12
        · exact c
        · exact absurd (decide_eq_true (by omega)) q
      refine ⟨_, rfl, u, rfl, ⟨_, .of (s2 _ _ hvs)⟩, fun D hD => ?_⟩
      refine lc_bools (fs := os.map (itO R.length)) walk_list (by rw [List.length_map, lv]) (by rw [List.length_map]; omega) hD (fun H' s => .of (s _ _ (s2 _ _ hvs))) (fun j x b H' Qe Pf hx hb s' kk => ?_) fun H3 s3 h3 => ?_
      · rw [List.getElem?_map] at hb
        obtain ⟨o, ho, it⟩ := paired_get rq hx
        rw [ho] at hb
        obtain rfl := Option.some.inj hb
        refine ⟨rfl, yes_then ?_⟩
        refine ⟨_, rfl, _, rfl, a, _, rfl, .inl (.of (s' _ _ (s2 _ _ ha))), ?_⟩
        rw [List.length_map, ln]
        exact ⟨x, o, R.length, rfl, (it.same s2).same s', ok os rm o (List.mem_of_getElem? ho), fun H3 s3 => kk H3 s3⟩
      · refine ⟨D, _, rfl, .of h3, ?_⟩
        have e : rowO R.length os = (os.map (itO R.length)).all id := by
          unfold rowO
          rw [decide_eq_true f12, Bool.true_and, List.all_map]; rfl
        cases rr : rowO R.length os with
        | true =>
          rw [if_neg (fun h => h.elim n40 fun z => by rw [rr] at z; cases z)] at bf
          refine ⟨true, ?_, iteF ⟨_, _, rfl, s2.trans s3, by omega, bf⟩⟩
          rw [← e, rr]
        | false =>
          refine ⟨false, ?_, iteT ⟨_, rfl, _, _, rfl, rfl, hit _ (s2.trans s3) (.inr rr)⟩⟩
          rw [← e, rr]
    · rintro σ H1 ⟨v1, v2, rfl, s1, _, bf⟩
      rw [List.length_map, ln, List.drop_length] at bf
      have kk := k H1 s1
      rw [← bf] at kk
      exact kk
end
end Mf
/-! A line of any text, read in two ways. -/
namespace Mf
open PySem L2
/-! ### lengths of what is cut -/
theorem spl_len (S : List Nat) : ∀ (l : List Nat) (k : Nat) (acc : List Nat), ((TL.spl S k acc l).map List.length).sum ≤ acc.length + l.length ∧ (TL.spl S k acc l).length ≤ l.length + 1 ∧ TL.spl S k acc l ≠ []
  | [], k, acc => by
    rw [TL.spl_nil]
    exact ⟨by simp, by simp, by simp⟩
  | c :: r, 0, acc => by
    show ((if TL.pre S (c :: r) = true then acc :: TL.spl S (S.length - 1) [] r else TL.spl S 0 (acc ++ [c]) r).map List.length).sum ≤ _ ∧ (if TL.pre S (c :: r) = true then acc :: TL.spl S (S.length - 1) [] r else TL.spl S 0 (acc ++ [c]) r).length ≤ _ ∧ (if TL.pre S (c :: r) = true then acc :: TL.spl S (S.length - 1) [] r else TL.spl S 0 (acc ++ [c]) r) ≠ []
    by_cases h : TL.pre S (c :: r) = true
    · rw [if_pos h]
      obtain ⟨a, b, _⟩ := spl_len S r (S.length - 1) []
      rw [List.map_cons, List.sum_cons, List.length_cons, List.length_cons]
      rw [List.length_nil] at a
      exact ⟨by omega, by omega, by simp⟩
    · rw [if_neg h]
      obtain ⟨a, b, c'⟩ := spl_len S r 0 (acc ++ [c])
      rw [List.length_append, List.length_singleton] at a
      rw [List.length_cons]
      exact ⟨by omega, by omega, c'⟩
  | c :: r, k + 1, acc => by
    obtain ⟨a, b, c'⟩ := spl_len S r k acc
    rw [List.length_cons]
    exact ⟨Nat.le_trans a (by omega), Nat.le_trans b (by omega), c'⟩
theorem split_sum (z y : Str) (hy : TL.tl y ≠ []) (hk : y.cps.all (· < 256) = true) : ((Txt.split z y).map (·.length)).sum ≤ z.length ∧ (Txt.split z y).length ≤ z.length + 1 ∧ Txt.split z y ≠ [] := by
  have e := TL.split_spl z y hy (TL.kind_ok hk)
  obtain ⟨a, b, c⟩ := spl_len (TL.tl y) (TL.tl z) 0 []
  rw [← e] at a b c
  rw [List.map_map, List.length_nil, Nat.zero_add, ← len_of] at a
  rw [List.length_map, ← len_of] at b
  have f : (Txt.split z y).map (·.length) = (Txt.split z y).map (List.length ∘ TL.tl) := List.map_congr_left fun w _ => len_of w
  rw [f]
  exact ⟨a, b, fun h => c (by rw [h]; rfl)⟩
theorem par_len (S : List Nat) : ∀ (l acc a b : List Nat), TL.par S acc l = some (a, b) → a.length + b.length ≤ acc.length + l.length
  | [], acc, a, b, h => by cases h
  | c :: r, acc, a, b, h => by
    have h : (if TL.pre S (c :: r) = true then some (acc, (c :: r).drop S.length) else TL.par S (acc ++ [c]) r) = some (a, b) := h
    by_cases q : TL.pre S (c :: r) = true
    · rw [if_pos q] at h
      obtain ⟨rfl, rfl⟩ := Prod.mk.inj (Option.some.inj h)
      rw [List.length_drop]
      omega
    · rw [if_neg q] at h
      have := par_len S r (acc ++ [c]) a b h
      rw [List.length_append, List.length_singleton] at this
      rw [List.length_cons]
      omega
theorem part_len (z y : Str) (hy : TL.tl y ≠ []) : (Txt.partition z y).1.length + (Txt.partition z y).2.2.length ≤ z.length := by
  rw [TL.partition_par z y hy]
  cases h : TL.par (TL.tl y) [] (TL.tl z) with
  | none => exact Nat.le_refl _
  | some ab =>
    obtain ⟨a, b⟩ := ab
    have := par_len _ _ _ _ _ h
    rw [List.length_nil, Nat.zero_add, ← len_of] at this
    exact this
theorem cut_tl (z : Str) (k : Nat) (h : k ≤ z.length) : TL.tl (cutS z (some (k : Int)) none) = (TL.tl z).drop k := by
  have h1 : HT.sIx z.length 0 (some (k : Int)) = k := by rw [HT.sIx_nat]; exact Nat.min_eq_left h
  have h2 : HT.sIx z.length z.length none = z.length := rfl
  unfold cutS
  rw [h1, h2]
  show ((TL.tl z).drop k).take (z.length - k) = _
  rw [List.take_of_length_le]
  rw [List.length_drop, ← len_of]
  omega
def noPc : Pc := (("" : Str), ([] : List Step))
/-! ### a line read by the program -/
def pStep (z : Str) : Step := ((Txt.partition (cutS z (some 1) none) (" " : Str)).1, (Txt.partition (cutS z (some 1) none) (" " : Str)).2.2)
def sLen (ss : List Step) : Nat := (ss.map fun s => s.1.length + s.2.length).sum
theorem pStep_len (z : Str) : (pStep z).1.length + (pStep z).2.length ≤ z.length := Nat.le_trans (part_len _ _ (by rw [tl_sp]; simp)) (cutS_length z (some 1) none)
theorem sLen_map {f : Str → Step} (h : ∀ z, (f z).1.length + (f z).2.length ≤ z.length) : ∀ zs : List Str, sLen (zs.map f) ≤ (zs.map (·.length)).sum
  | [] => Nat.le_refl _
  | z :: zs => by
    show ((f z).1.length + (f z).2.length) + sLen (zs.map f) ≤ z.length + (zs.map (·.length)).sum
    have := sLen_map h zs
    have := h z
    omega
def pBody (z : Str) : List Step := if z = Str.empty then [] else (Txt.split z ("," : Str)).map pStep
theorem pBody_len (z : Str) : sLen (pBody z) ≤ z.length ∧ (pBody z).length ≤ z.length + 1 := by
  unfold pBody
  by_cases e : z = Str.empty
  · rw [if_pos e]; exact ⟨Nat.zero_le _, Nat.zero_le _⟩
  · rw [if_neg e, List.length_map]
    obtain ⟨a, b, _⟩ := split_sum z ("," : Str) (by rw [tl_cm]; simp) (by decide +kernel)
    exact ⟨Nat.le_trans (sLen_map pStep_len _) a, b⟩
theorem join_len (y : Str) : ∀ ps : List Str, (Txt.join y ps).length ≤ (ps.map (·.length)).sum + ps.length * y.length
  | [] => by rw [len_of, tl_joinT]; exact Nat.zero_le _
  | [p] => by
    rw [len_of, tl_joinT]
    show (TL.tl p).length ≤ _
    rw [← len_of]
    show _ ≤ (p.length + 0) + _
    omega
  | p :: q :: r => by
    have ih := join_len y (q :: r)
    rw [len_of, tl_joinT] at ih ⊢
    show (TL.tl p ++ (TL.tl y ++ TL.joinL (TL.tl y) ((q :: r).map TL.tl))).length ≤ _
    show (TL.tl p ++ (TL.tl y ++ TL.joinL (TL.tl y) ((q :: r).map TL.tl))).length ≤ (p.length + ((q :: r).map (·.length)).sum) + ((q :: r).length + 1) * y.length
    rw [List.length_append, List.length_append, Nat.add_mul, ← len_of, ← len_of]
    omega
theorem stepT_len (s : Step) : (stepT s).length = s.1.length + s.2.length + 2 := by
  rw [len_of, tl_step, List.length_cons, List.length_append, List.length_cons, ← len_of, ← len_of]
  omega
theorem stepsT_sum : ∀ ss : List Step, ((ss.map stepT).map (·.length)).sum = sLen ss + 2 * ss.length
  | [] => rfl
  | s :: r => by
    have := stepsT_sum r
    show (stepT s).length + ((r.map stepT).map (·.length)).sum = (s.1.length + s.2.length + sLen r) + 2 * (r.length + 1)
    rw [this, stepT_len]
    omega
theorem lineT_len (n : Str) (ss : List Step) : (lineT n ss).length ≤ n.length + 1 + sLen ss + 3 * ss.length := by
  unfold lineT
  rw [app_len, app_len, co_len]
  have := join_len ("," : Str) (ss.map stepT)
  rw [stepsT_sum, List.length_map, show ("," : Str).length = 1 by decide +kernel] at this
  omega
def pLine (z : Str) : Pc := if lineT (Txt.partition z (":" : Str)).1 (pBody (Txt.partition z (":" : Str)).2.2) = z then ((Txt.partition z (":" : Str)).1, pBody (Txt.partition z (":" : Str)).2.2) else noPc
/-! ### a line read by the law -/
def lStep (z : Str) : Step := ((Txt.split z (" " : Str)).headD "", (Txt.split z (" " : Str)).getLastD "")
def lName (z : Str) : Str := (Txt.split z (":" : Str)).headD ""
def lBody (z n : Str) : List Step := if z = n ++ (":" : Str) then [] else (Txt.split (cutS z (some ((n.length : Int) + 2)) none) (", " : Str)).map lStep
def lLine (z : Str) : Pc := if lineT (lName z) (lBody z (lName z)) = z then (lName z, lBody z (lName z)) else noPc
/-! ### what is right reads back in both -/
structure Readable (x : Pc) : Prop where
  pn : Plain x.1
  ps : ∀ s ∈ x.2, Plain s.1 ∧ Plain s.2
theorem pStep_stepT {s : Step} (h : Plain s.1) : pStep (stepT s) = s := by
  unfold pStep
  rw [cut_step, part_step h]
theorem pLine_line {x : Pc} (h : Readable x) : pLine (lineT x.1 x.2) = x := by
  have e : pBody (Txt.join ("," : Str) (x.2.map stepT)) = x.2 := by
    unfold pBody
    by_cases q : x.2 = []
    · rw [if_pos (steps_empty.mpr q), q]
    · rw [if_neg (fun z => q (steps_empty.mp z)), split_steps q h.ps, List.map_map]
      conv => rhs; rw [← List.map_id x.2]
      exact List.map_congr_left fun s hs => pStep_stepT (h.ps s hs).1
  unfold pLine
  rw [part_line h.pn]
  show (if lineT x.1 (pBody (Txt.join ("," : Str) (x.2.map stepT))) = lineT x.1 x.2 then (x.1, pBody (Txt.join ("," : Str) (x.2.map stepT))) else noPc) = x
  rw [e, if_pos rfl]
theorem split_two {y a b : Str} {s : Nat} {S : List Nat} (ey : TL.tl y = s :: S) (hk : y.cps.all (· < 256) = true) (ha : ¬ s ∈ TL.tl a) (hb : ¬ s ∈ TL.tl b) : Txt.split ((a ++ y) ++ b) y = [a, b] := by
  have e : (a ++ y) ++ b = Txt.join y [a, b] := by
    refine TL.ext_tl ?_
    rw [TL.tl_append, TL.tl_append, tl_joinT]
    show _ = TL.tl a ++ (TL.tl y ++ TL.tl b)
    rw [List.append_assoc]
  rw [e]
  refine TL.split_join ey hk (by simp) fun p hp => ?_
  rcases List.mem_cons.mp hp with rfl | hp
  · exact ha
  · rw [List.mem_singleton.mp hp]; exact hb
theorem lStep_of {s : Step} (h1 : Plain s.1) (h2 : Plain s.2) : lStep ((s.1 ++ (" " : Str)) ++ s.2) = s := by
  unfold lStep
  rw [split_two tl_sp (by decide +kernel) (h1.not (by decide)) (h2.not (by decide))]
  rfl
theorem lLine_line {x : Pc} (h : Readable x) : lLine (lineT x.1 x.2) = x := by
  have nb : ¬ 58 ∈ TL.tl (Txt.join ("," : Str) (x.2.map stepT)) := by
    rw [tl_joinT, tl_cm]
    refine joinL_no (by decide) fun p hp => ?_
    obtain ⟨z, hz, rfl⟩ := List.mem_map.mp hp
    obtain ⟨s, hs, rfl⟩ := List.mem_map.mp hz
    exact step_no (h.ps s hs).1 (h.ps s hs).2 (by decide) (by decide)
  have en : lName (lineT x.1 x.2) = x.1 := by
    unfold lName lineT
    rw [split_two tl_co (by decide +kernel) (h.pn.not (by decide)) nb]
    rfl
  have eb : lBody (lineT x.1 x.2) x.1 = x.2 := by
    unfold lBody
    by_cases q : x.2 = []
    · have e : lineT x.1 x.2 = x.1 ++ (":" : Str) := by
        rw [q]
        refine TL.ext_tl ?_
        rw [tl_line, TL.tl_append, tl_co]; rfl
      rw [if_pos e, q]
    · have ne : ¬ lineT x.1 x.2 = x.1 ++ (":" : Str) := fun e => by
        have e := congrArg TL.tl e
        rw [tl_line, TL.tl_append, tl_co] at e
        have e2 : TL.joinL [44] ((x.2.map stepT).map TL.tl) = [] := by
          have := List.append_cancel_left e
          exact (List.cons.inj this).2
        rw [← tl_cm, ← tl_joinT] at e2
        exact q (steps_empty.mp (TL.ext_tl (e2.trans tl_em.symm)))
      rw [if_neg ne]
      have l0 : ¬ x.2.length = 0 := fun z => q (List.eq_nil_of_length_eq_zero z)
      have el := lawLine_eq x.1 x.2
      unfold lawLine at el
      rw [if_neg l0] at el
      have c2 : (": " : Str).length = 2 := by decide +kernel
      have cut : cutS (lineT x.1 x.2) (some ((x.1.length : Int) + 2)) none = Txt.join (", " : Str) (x.2.map fun s => (s.1 ++ (" " : Str)) ++ s.2) := by
        refine TL.ext_tl ?_
        have hl : x.1.length + 2 ≤ (lineT x.1 x.2).length := by rw [← el, app_len, app_len, c2]; omega
        have := cut_tl (lineT x.1 x.2) (x.1.length + 2) hl
        rw [show (((x.1.length + 2 : Nat)) : Int) = (x.1.length : Int) + 2 by omega] at this
        rw [this, ← el, TL.tl_append]
        have l2 : (TL.tl (x.1 ++ (": " : Str))).length = x.1.length + 2 := by rw [← len_of, app_len, c2]
        rw [← l2, List.drop_left]
      rw [cut, TL.split_join tl_cs (by decide +kernel) (fun z => q (List.map_eq_nil_iff.mp z)) (fun p hp => ?_), List.map_map]
      · conv => rhs; rw [← List.map_id x.2]
        exact List.map_congr_left fun s hs => lStep_of (h.ps s hs).1 (h.ps s hs).2
      · obtain ⟨s, hs, rfl⟩ := List.mem_map.mp hp
        rw [TL.tl_append, TL.tl_append, tl_sp, List.mem_append, List.mem_append]
        rintro ((m | m) | m)
        · exact (h.ps s hs).1.not (by decide) m
        · exact absurd m (by decide)
        · exact (h.ps s hs).2.not (by decide) m
  unfold lLine
  rw [en, eb, if_pos rfl]
/-- where one reading is right, the other is the same -/
theorem agree {z : Str} (h : Readable (pLine z) ∧ pLine z ≠ noPc) : lLine z = pLine z := by
  have e : lineT (pLine z).1 (pLine z).2 = z := by
    have ne := h.2
    unfold pLine at ne ⊢
    split
    · assumption
    · rename_i q; rw [if_neg q] at ne; exact absurd rfl ne
  have q := lLine_line h.1
  rw [e] at q
  exact q
theorem agree' {z : Str} (h : Readable (lLine z) ∧ lLine z ≠ noPc) : pLine z = lLine z := by
  have e : lineT (lLine z).1 (lLine z).2 = z := by
    have ne := h.2
    unfold lLine at ne ⊢
    split
    · assumption
    · rename_i q; rw [if_neg q] at ne; exact absurd rfl ne
  have q := pLine_line h.1
  rw [e] at q
  exact q
end Mf
namespace Mf
open PySem L2
theorem start_at (z : Str) : Txt.startswith z ("@" : Str) = decide ((TL.tl z).head? = some 64) := by
  have e2 : ("@" : Str).cps.toList = [64] := by decide +kernel
  have e3 : ("@" : Str).length = 1 := by decide +kernel
  have tk : (z.cps.extract 0 (0 + ("@" : Str).length)).toList = (TL.tl z).take 1 := by
    rw [e3, Array.toList_extract]
    simp [List.extract]
  unfold Txt.startswith Builtin.Str.subAt
  by_cases h : (TL.tl z).head? = some 64
  · rw [decide_eq_true h]
    have l1 : 0 + ("@" : Str).length ≤ z.length := by
      rw [e3, TL.len_tl]
      cases e : TL.tl z with
      | nil => rw [e] at h; cases h
      | cons a r => simp
    rw [decide_eq_true l1, Bool.true_and]
    refine beq_iff_eq.mpr (Array.toList_inj.mp ?_)
    rw [tk, e2]
    cases e : TL.tl z with
    | nil => rw [e] at h; cases h
    | cons a r => rw [e] at h; cases h; rfl
  · rw [decide_eq_false h]
    refine Bool.and_eq_false_iff.mpr (.inr (beq_eq_false_iff_ne.mpr fun e => h ?_))
    have e1 : (z.cps.extract 0 (0 + ("@" : Str).length)).toList = ("@" : Str).cps.toList := by rw [e]
    rw [tk, e2] at e1
    cases e4 : TL.tl z with
    | nil => rw [e4] at e1; cases e1
    | cons a r => rw [e4] at e1; cases e1; rfl
theorem tl_at (i : Nat) : TL.tl (itemT (.nd i)) = 64 :: TL.numL i := by
  show TL.tl ((Str.empty ++ ("@" : Str)) ++ decS (i : Nat)) = _
  rw [TL.tl_append, tl_nat, TL.tl_append]
  rfl
theorem cut_at (i : Nat) : cutS (itemT (.nd i)) (some 1) none = decS (i : Nat) := by
  refine TL.ext_tl ?_
  have l : 1 ≤ (itemT (.nd i)).length := by rw [TL.len_tl, tl_at]; simp
  have z := cut_tl (itemT (.nd i)) 1 l
  rw [tl_at] at z
  exact z.trans (tl_nat i).symm
theorem name_head {z : Str} (h : IsName z) : ∃ c r, TL.tl z = c :: r ∧ 97 ≤ c := by
  obtain ⟨h1, _, h3⟩ := h
  cases e : TL.tl z with
  | nil =>
    have : z.cps.toList.length = 0 := by rw [show z.cps.toList = [] from e]; rfl
    rw [Array.length_toList] at this
    omega
  | cons c r => exact ⟨c, r, rfl, (h3 c (by rw [show z.cps.toList = c :: r from e]; exact List.mem_cons_self)).1⟩
theorem minus_tl : TL.tl ("-" : Str) = [45] := by decide +kernel
/-! ### two readings of a word -/
theorem dig_all {z : Str} (h : digB z = true) : NumText.AllDigits (TL.tl z) := fun c hc => by
  have q := List.all_eq_true.mp h c hc
  obtain ⟨a, b⟩ := Bool.and_eq_true_iff.mp q
  exact ⟨of_decide_eq_true a, of_decide_eq_true b⟩
theorem numL_canon : ∀ (n : Nat) (cs : List Nat), cs.length = n → NumText.AllDigits cs → cs ≠ [] → (cs.head? ≠ some 48 ∨ cs = [48]) → TL.numL (NumText.digitsVal cs) = cs := by
  intro n
  induction n with
  | zero => intro cs l _ ne _; exact absurd (List.length_eq_zero_iff.mp l) ne
  | succ n ih =>
    intro cs l dg ne hd
    obtain ⟨pre, d, rfl⟩ : ∃ pre d, cs = pre ++ [d] := ⟨cs.dropLast, cs.getLast ne, (List.dropLast_concat_getLast ne).symm⟩
    have hd9 := dg d (List.mem_append_right _ (List.mem_singleton.mpr rfl))
    rw [NumText.digitsVal_snoc]
    cases pre with
    | nil =>
      show TL.numL (0 * 10 + (d - 48)) = [d]
      rw [TL.numL_lt (by omega)]
      congr 1
      omega
    | cons c r =>
      have hc : c ≠ 48 := fun e => by
        rcases hd with h | h
        · exact h (by rw [e]; rfl)
        · have := congrArg List.length h
          simp at this
      have dg' : NumText.AllDigits (c :: r) := fun x hx => dg x (List.mem_append_left _ hx)
      have c9 := dg' c List.mem_cons_self
      have pos := NumText.digitsVal_pos (c := c) (cs := r) (by omega)
      have il := ih (c :: r) (by rw [List.length_append] at l; simpa using l) dg' (by simp) (.inl (by simpa using hc))
      rw [TL.numL_step (by omega)]
      have e1 : (NumText.digitsVal (c :: r) * 10 + (d - 48)) / 10 = NumText.digitsVal (c :: r) := by omega
      have e2 : 48 + (NumText.digitsVal (c :: r) * 10 + (d - 48)) % 10 = d := by omega
      rw [e1, e2, il]
def valZ (z : Str) : Int := (PySem.intText? z).getD 0
/-- a decimal text without a sign -/
structure Good (z : Str) : Prop where
  l1 : 1 ≤ z.length
  l2 : z.length ≤ 60
  dg : digB z = true
  hd : (TL.tl z).head? ≠ some 48 ∨ z = "0"
theorem ne_tl {z : Str} (h : 1 ≤ z.length) : TL.tl z ≠ [] := fun e => by rw [TL.len_tl, e] at h; simp at h
theorem int_dig {z : Str} (l1 : 1 ≤ z.length) (l2 : z.length ≤ 60) (dg : digB z = true) : PySem.intText? z = some ((NumText.digitsVal (TL.tl z) : Nat) : Int) := intText_digits (dig_all dg) (ne_tl l1) (by omega)
theorem val_dig {z : Str} (l1 : 1 ≤ z.length) (l2 : z.length ≤ 60) (dg : digB z = true) : valZ z = ((NumText.digitsVal (TL.tl z) : Nat) : Int) := by
  unfold valZ
  rw [int_dig l1 l2 dg]; rfl
theorem zero_tl : TL.tl ("0" : Str) = [48] := by decide +kernel
theorem Good.dec {z : Str} (g : Good z) : decS (valZ z) = z := by
  rw [val_dig g.l1 g.l2 g.dg]
  refine TL.ext_tl ?_
  rw [tl_nat]
  refine numL_canon _ _ rfl (dig_all g.dg) (ne_tl g.l1) ?_
  rcases g.hd with h | h
  · exact .inl h
  · exact .inr (by rw [h]; exact zero_tl)
theorem good_of {z : Str} (l1 : 1 ≤ z.length) (l2 : z.length ≤ 60) (dg : digB z = true) (e : decS (valZ z) = z) : Good z := by
  refine ⟨l1, l2, dg, ?_⟩
  rw [val_dig l1 l2 dg] at e
  generalize NumText.digitsVal (TL.tl z) = m at e
  by_cases m0 : m = 0
  · exact .inr (by rw [← e, m0]; rfl)
  · obtain ⟨d, r, er, nz⟩ := numL_head m (by omega)
    refine .inl ?_
    rw [← e, tl_nat, er]
    exact fun q => nz (Option.some.inj q)
theorem head_cps {z : Str} : z.cps[0]? = (TL.tl z).head? := by
  rw [← Array.getElem?_toList]
  show (TL.tl z)[0]? = _
  cases TL.tl z <;> rfl
theorem numT_plain {z : Str} (h : (TL.tl z).head? ≠ some 45) : numT z = true ↔ Good z := by
  unfold numT
  rw [rem_no h, head_cps]
  constructor
  · intro q
    obtain ⟨q, q4⟩ := Bool.and_eq_true_iff.mp q
    obtain ⟨q, q3⟩ := Bool.and_eq_true_iff.mp q
    obtain ⟨q1, q2⟩ := Bool.and_eq_true_iff.mp q
    refine ⟨of_decide_eq_true q1, of_decide_eq_true q2, q3, ?_⟩
    rcases Bool.or_eq_true_iff.mp q4 with h | h
    · exact .inl (by simpa using h)
    · exact .inr (of_decide_eq_true h)
  · rintro ⟨l1, l2, dg, hd⟩
    rw [decide_eq_true l1, decide_eq_true l2, dg, Bool.true_and, Bool.true_and]
    rcases hd with h | h
    · rw [decide_eq_false h]; rfl
    · rw [decide_eq_true h, Bool.or_true]; rfl
theorem numT_minus {w z : Str} (h : TL.tl w = 45 :: TL.tl z) : numT w = true ↔ Good z ∧ z ≠ "0" := by
  have ed : digs w = z := TL.ext_tl (rem_yes h)
  have w0 : w ≠ "0" := fun e => by rw [e, zero_tl] at h; cases h
  unfold numT
  rw [ed, head_cps, decide_eq_false w0, Bool.or_false]
  constructor
  · intro q
    obtain ⟨q, q4⟩ := Bool.and_eq_true_iff.mp q
    obtain ⟨q, q3⟩ := Bool.and_eq_true_iff.mp q
    obtain ⟨q1, q2⟩ := Bool.and_eq_true_iff.mp q
    have h4 : (TL.tl z).head? ≠ some 48 := by simpa using q4
    exact ⟨⟨of_decide_eq_true q1, of_decide_eq_true q2, q3, .inl h4⟩, fun e => h4 (by rw [e, zero_tl]; rfl)⟩
  · rintro ⟨⟨l1, l2, dg, hd⟩, n0⟩
    rw [decide_eq_true l1, decide_eq_true l2, dg, Bool.true_and, Bool.true_and, decide_eq_false (hd.resolve_right n0)]; rfl
/-- the program's reading -/
def readP (w : Str) : Oi :=
  if w = ("-" : Str) then gapO
  else if Txt.startswith w ("@" : Str) = true ∧ numT (cutS w (some 1) none) = true then .tp [.s "node", .i (valZ (cutS w (some 1) none))]
  else if numT w = true then .tp [.s "number", .i (valZ w)]
  else .tp [.s "word", .s w]
abbrev sgn (w : Str) : Str := cutS w none (some 1)
def figs (w : Str) : Str := if sgn w = "@" ∨ sgn w = "-" then cutS w (some 1) none else w
/-- the law's reading -/
def readL (w : Str) : Oi :=
  if w = ("-" : Str) then gapO
  else if nameB w = true then .tp [.s "word", .s w]
  else if figs w = "" ∨ 60 < (figs w).length ∨ digB (figs w) = false then .tp []
  else if decS (valZ (figs w)) ≠ figs w ∨ w = "-0" then .tp []
  else if sgn w = "@" then .tp [.s "node", .i (valZ (figs w))]
  else .tp [.s "number", .i (if sgn w = "-" then 0 - valZ (figs w) else valZ (figs w))]
theorem sgn_tl (w : Str) : TL.tl (sgn w) = (TL.tl w).take 1 := by
  have h1 : HT.sIx w.length 0 none = 0 := rfl
  have h2 : HT.sIx w.length w.length (some ((1 : Nat) : Int)) = min 1 w.length := HT.sIx_nat ..
  have e : sgn w = cutS w none (some ((1 : Nat) : Int)) := rfl
  rw [e]
  unfold cutS
  rw [h1, h2]
  show ((TL.tl w).drop 0).take (min 1 w.length - 0) = _
  rw [List.drop_zero, Nat.sub_zero, TL.len_tl]
  cases TL.tl w with
  | nil => rfl
  | cons a r => simp
theorem at_tl : TL.tl ("@" : Str) = [64] := by decide +kernel
theorem sgn_iff {w s : Str} {c : Nat} (hs : TL.tl s = [c]) : sgn w = s ↔ (TL.tl w).head? = some c := by
  have e := sgn_tl w
  constructor
  · intro q
    rw [q, hs] at e
    cases h : TL.tl w with
    | nil => rw [h] at e; cases e
    | cons a r => rw [h] at e; cases e; rfl
  · intro q
    refine TL.ext_tl ?_
    rw [e, hs]
    cases h : TL.tl w with
    | nil => rw [h] at q; cases q
    | cons a r => rw [h] at q; cases q; rfl
theorem drop_tl {w : Str} {c : Nat} {r : List Nat} (h : TL.tl w = c :: r) : TL.tl (cutS w (some 1) none) = r := by
  have l : 1 ≤ w.length := by rw [TL.len_tl, h]; simp
  have z := cut_tl w 1 l
  rw [h] at z
  exact z
theorem m0_tl : TL.tl ("-0" : Str) = [45, 48] := by decide +kernel
/-- what the law reads, by the figures -/
theorem readL_bad {w : Str} (n1 : w ≠ ("-" : Str)) (n2 : ¬ nameB w = true) (n3 : ¬ (Good (figs w) ∧ w ≠ "-0")) : readL w = .tp [] := by
  unfold readL
  rw [if_neg n1, if_neg n2]
  by_cases c : figs w = "" ∨ 60 < (figs w).length ∨ digB (figs w) = false
  · rw [if_pos c]
  rw [if_neg c]
  by_cases c2 : decS (valZ (figs w)) ≠ figs w ∨ w = "-0"
  · rw [if_pos c2]
  · exfalso
    have a1 : figs w ≠ "" := fun e => c (.inl e)
    have a2 : (figs w).length ≤ 60 := by
      by_cases q : 60 < (figs w).length
      · exact absurd (.inr (.inl q)) c
      · omega
    have a3 : digB (figs w) = true := by
      cases q : digB (figs w) with
      | true => rfl
      | false => exact absurd (.inr (.inr q)) c
    have a4 : 1 ≤ (figs w).length := by
      by_cases q : 1 ≤ (figs w).length
      · exact q
      · refine absurd (TL.ext_tl ?_) a1
        rw [TL.len_tl] at q
        have : TL.tl (figs w) = [] := List.length_eq_zero_iff.mp (by omega)
        rw [this]; rfl
    exact n3 ⟨good_of a4 a2 a3 (Classical.byContradiction fun q => c2 (.inl q)), fun q => c2 (.inr q)⟩
theorem readL_good {w : Str} (n1 : w ≠ ("-" : Str)) (n2 : ¬ nameB w = true) (g : Good (figs w)) (n3 : w ≠ "-0") : readL w = if sgn w = "@" then .tp [.s "node", .i (valZ (figs w))] else .tp [.s "number", .i (if sgn w = "-" then 0 - valZ (figs w) else valZ (figs w))] := by
  unfold readL
  rw [if_neg n1, if_neg n2, if_neg, if_neg]
  · rintro (q | q)
    · exact q g.dec
    · exact n3 q
  · rintro (q | q | q)
    · have := g.l1
      rw [q] at this
      exact absurd this (by decide)
    · have := g.l2; omega
    · rw [g.dg] at q; cases q
/-- the two readings agree where one is right -/
theorem read_agree (c : Nat) (w : Str) : itO c (readP w) = itO c (readL w) ∧ (itO c (readP w) = true → readP w = readL w) := by
  by_cases n1 : w = ("-" : Str)
  · unfold readP readL
    rw [if_pos n1, if_pos n1]
    exact ⟨rfl, fun _ => rfl⟩
  by_cases n2 : nameB w = true
  · have eL : readL w = .tp [.s "word", .s w] := by unfold readL; rw [if_neg n1, if_pos n2]
    obtain ⟨c0, r, ec, hc⟩ := name_head ((nameB_iff w).mp n2)
    have eP : readP w = .tp [.s "word", .s w] := by
      unfold readP
      rw [if_neg n1, if_neg, if_neg]
      · rw [numT_no ec (by omega) (by omega)]; simp
      · rw [start_at, ec]
        rintro ⟨q, _⟩
        have := of_decide_eq_true q
        cases this; omega
    rw [eL, eP]
    exact ⟨rfl, fun _ => rfl⟩
  have wbad : ∀ {o : Oi}, itO c o = false → readP w = .tp [.s "word", .s w] → readL w = o → itO c (readP w) = itO c (readL w) ∧ (itO c (readP w) = true → readP w = readL w) := fun {o} ho e1 e2 => by
    have f : itO c (.tp [.s "word", .s w]) = false := by
      show (if ("word" : Str) = ("number" : Str) then numO (.s w) else if ("word" : Str) = ("word" : Str) then nameO (.s w) else decide (("word" : Str) = ("node" : Str)) && ndO c (.s w)) = false
      rw [if_neg (by decide), if_pos rfl]
      show nameB w = false
      simpa using n2
    rw [e1, e2, f, ho]
    exact ⟨rfl, fun q => by cases q⟩
  have nil : itO c (.tp []) = false := rfl
  cases hcs : TL.tl w with
  | nil =>
    have w0 : w = "" := TL.ext_tl (by rw [hcs]; rfl)
    refine wbad nil ?_ (readL_bad n1 n2 fun g => ?_)
    · unfold readP
      rw [if_neg n1, if_neg, if_neg]
      · rw [w0]; decide +kernel
      · rw [start_at, hcs]; simp
    · have e : figs w = w := by
        unfold figs
        rw [if_neg]
        rw [sgn_iff at_tl, sgn_iff minus_tl, hcs]; simp
      have := g.1.l1
      rw [e, w0] at this
      exact absurd this (by decide)
  | cons d r =>
    have ez := drop_tl hcs
    by_cases d64 : d = 64
    · subst d64
      have s1 : sgn w = "@" := (sgn_iff at_tl).mpr (by rw [hcs]; rfl)
      have ef : figs w = cutS w (some 1) none := by unfold figs; rw [if_pos (.inl s1)]
      have st : Txt.startswith w ("@" : Str) = true := by rw [start_at, hcs]; rfl
      have nw : ¬ numT w = true := by rw [numT_no hcs (by decide) (by decide)]; simp
      have w0 : w ≠ "-0" := fun e => by rw [e, m0_tl] at hcs; cases hcs
      by_cases nz : numT (cutS w (some 1) none) = true
      · have eP : readP w = .tp [.s "node", .i (valZ (cutS w (some 1) none))] := by unfold readP; rw [if_neg n1, if_pos ⟨st, nz⟩]
        by_cases h45 : (TL.tl (cutS w (some 1) none)).head? = some 45
        · -- a negative number
          obtain ⟨r', er⟩ : ∃ r', TL.tl (cutS w (some 1) none) = 45 :: r' := by
            cases q : TL.tl (cutS w (some 1) none) with
            | nil => rw [q] at h45; cases h45
            | cons a b => rw [q] at h45; cases h45; exact ⟨b, rfl⟩
          have er2 := drop_tl er
          have er' : TL.tl (cutS w (some 1) none) = 45 :: TL.tl (cutS (cutS w (some 1) none) (some 1) none) := by rw [er2]; exact er
          obtain ⟨g, g0⟩ := (numT_minus er').mp nz
          have dgs := dig_all g.dg
          rw [er2] at dgs
          have gl2 := g.l2
          rw [TL.len_tl, er2] at gl2
          have ne := ne_tl g.l1
          rw [er2] at ne
          have hv : valZ (cutS w (some 1) none) = -((NumText.digitsVal r' : Nat) : Int) := by
            unfold valZ
            rw [intText_neg (cs := r') er dgs ne (by rw [TL.len_tl, er, List.length_cons]; omega)]; rfl
          have pos : 0 < NumText.digitsVal r' := by
            have hd := g.hd.resolve_right g0
            rw [er2] at hd
            cases r' with
            | nil => exact absurd rfl ne
            | cons a b =>
              have a9 := dgs a List.mem_cons_self
              have a48 : a ≠ 48 := fun q => hd (by rw [q]; rfl)
              exact NumText.digitsVal_pos (by omega)
          have bad : itO c (readP w) = false := by
            rw [eP, hv]
            show (if ("node" : Str) = ("number" : Str) then numO (.i (-((NumText.digitsVal r' : Nat) : Int))) else if ("node" : Str) = ("word" : Str) then nameO (.i (-((NumText.digitsVal r' : Nat) : Int))) else decide (("node" : Str) = ("node" : Str)) && (decide (0 ≤ -((NumText.digitsVal r' : Nat) : Int)) && decide (-((NumText.digitsVal r' : Nat) : Int) < (c : Nat)))) = false
            rw [if_neg (by decide), if_neg (by decide), decide_eq_false (by omega : ¬ 0 ≤ -((NumText.digitsVal r' : Nat) : Int)), Bool.false_and, Bool.and_false]
          have eL : readL w = .tp [] := readL_bad n1 n2 fun ⟨q, _⟩ => by
            rw [ef] at q
            have := dig_all q.dg 45 (by rw [er]; exact List.mem_cons_self)
            omega
          rw [bad, eL]
          exact ⟨rfl, fun q => by cases q⟩
        · have g := (numT_plain h45).mp nz
          have eL := readL_good n1 n2 (by rw [ef]; exact g) w0
          rw [if_pos s1, ef] at eL
          rw [eP, eL]
          exact ⟨rfl, fun _ => rfl⟩
      · have eP : readP w = .tp [.s "word", .s w] := by unfold readP; rw [if_neg n1, if_neg (fun q => nz q.2), if_neg nw]
        refine wbad nil eP (readL_bad n1 n2 fun ⟨q, _⟩ => ?_)
        rw [ef] at q
        refine nz ((numT_plain fun e => ?_).mpr q)
        cases h : TL.tl (cutS w (some 1) none) with
        | nil => rw [h] at e; cases e
        | cons a b =>
          rw [h] at e
          cases e
          have := dig_all q.dg 45 (by rw [h]; exact List.mem_cons_self)
          omega
    have s1 : ¬ sgn w = "@" := fun q => by
      have := (sgn_iff at_tl).mp q
      rw [hcs] at this
      exact d64 (Option.some.inj this)
    have st : ¬ (Txt.startswith w ("@" : Str) = true ∧ numT (cutS w (some 1) none) = true) := fun q => by
      have q := q.1
      rw [start_at, hcs] at q
      exact d64 (Option.some.inj (of_decide_eq_true q))
    by_cases d45 : d = 45
    · subst d45
      have s2 : sgn w = "-" := (sgn_iff minus_tl).mpr (by rw [hcs]; rfl)
      have ef : figs w = cutS w (some 1) none := by unfold figs; rw [if_pos (.inr s2)]
      have hw : TL.tl w = 45 :: TL.tl (cutS w (some 1) none) := by rw [ez]; exact hcs
      have mz : w = "-0" ↔ cutS w (some 1) none = "0" := by
        constructor
        · intro e
          refine TL.ext_tl ?_
          rw [ez, zero_tl]
          rw [e, m0_tl] at hcs
          exact (List.cons.inj hcs).2.symm
        · intro e
          refine TL.ext_tl ?_
          rw [hw, e, zero_tl, m0_tl]
      by_cases nw : numT w = true
      · obtain ⟨g, g0⟩ := (numT_minus hw).mp nw
        have eP : readP w = .tp [.s "number", .i (valZ w)] := by unfold readP; rw [if_neg n1, if_neg st, if_pos nw]
        have eL := readL_good n1 n2 (by rw [ef]; exact g) (fun q => g0 (mz.mp q))
        rw [if_neg s1, if_pos s2, ef] at eL
        have hv : valZ w = 0 - valZ (cutS w (some 1) none) := by
          rw [val_dig g.l1 g.l2 g.dg, ez]
          have dgs := dig_all g.dg
          have gl2 := g.l2
          rw [ez] at dgs
          rw [TL.len_tl, ez] at gl2
          have ne := ne_tl g.l1
          rw [ez] at ne
          unfold valZ
          rw [intText_neg (cs := r) hcs dgs ne (by rw [TL.len_tl, hcs, List.length_cons]; omega)]
          show -((NumText.digitsVal r : Nat) : Int) = 0 - _
          omega
        rw [eP, eL, hv]
        exact ⟨rfl, fun _ => rfl⟩
      · have eP : readP w = .tp [.s "word", .s w] := by unfold readP; rw [if_neg n1, if_neg st, if_neg nw]
        refine wbad nil eP (readL_bad n1 n2 fun ⟨q, q0⟩ => ?_)
        rw [ef] at q
        exact nw ((numT_minus hw).mpr ⟨q, fun e => q0 (mz.mpr e)⟩)
    · have s2 : ¬ sgn w = "-" := fun q => by
        have := (sgn_iff minus_tl).mp q
        rw [hcs] at this
        exact d45 (Option.some.inj this)
      have ef : figs w = w := by unfold figs; rw [if_neg (fun q => q.elim s1 s2)]
      have h45 : (TL.tl w).head? ≠ some 45 := by rw [hcs]; exact fun q => d45 (Option.some.inj q)
      by_cases nw : numT w = true
      · have g := (numT_plain h45).mp nw
        have eP : readP w = .tp [.s "number", .i (valZ w)] := by unfold readP; rw [if_neg n1, if_neg st, if_pos nw]
        have eL := readL_good n1 n2 (by rw [ef]; exact g) (fun e => by rw [e, m0_tl] at hcs; exact d45 (List.cons.inj hcs).1.symm)
        rw [if_neg s1, if_neg s2, ef] at eL
        rw [eP, eL]
        exact ⟨rfl, fun _ => rfl⟩
      · have eP : readP w = .tp [.s "word", .s w] := by unfold readP; rw [if_neg n1, if_neg st, if_neg nw]
        refine wbad nil eP (readL_bad n1 n2 fun ⟨q, _⟩ => ?_)
        rw [ef] at q
        exact nw ((numT_plain h45).mpr q)
end Mf
/-! A def with one parameter and a rest. -/
namespace Mf
open PySem L2
theorem fn_star1 {P : Program} {w : World} {K : PySem.W.Frag} {mg : Str → Option Value} {base : Heap} {k : Nat} {x qual : Str} {st : Stmt} {f : Addr} {fd : FuncData} {N : List Str} {p1 pv : Str} {sp : Sp}
    (F : Fun K x qual st f fd) (sc : FnScope N [p1, pv] (defScope st))
    (b0 : ∀ kV doc pm an cdv ct (a : Value), bindArgs (PySem.W.fnOf x qual (defArgs st) (defBody st) (defScope st) .none kV doc pm an cdv ct) { pos := [a] } = do
      let t ← newTuple []
      pure [(p1, a), (pv, t)])
    (b1 : ∀ kV doc pm an cdv ct (a r : Value) (rs : List Value), bindArgs (PySem.W.fnOf x qual (defArgs st) (defBody st) (defScope st) .none kV doc pm an cdv ct) { pos := a :: r :: rs } = do
      let t ← newTuple (r :: rs)
      pure [(p1, a), (pv, t)])
    (h : ∀ (cdv : Value) (A : Around) (outer : List Env) (s : Shared) (H : Hp) (vs : List V) (Q : VK) (E : XK), Room k (A.deeper (PyProof.Rows.envOfC qual (defScope st) s.heap.objs.size f cdv)) → sp vs H Q E →
      ∃ t, PSs (cxOf CX0 P w K mg base N qual (defScope st) f cdv A outer s H E).nox (defBody st) t ∧ t { nx := fun x H' => Q V.non H', rt := Q } (L2.start N vs) H) :
    FnR P w K mg base CX0 (k + 1) f fun vs H Q E => ∃ (a : V) (rest : List V), vs = a :: rest ∧ rest.length ≤ sizeLine ∧ ∀ p, H p = none → sp [a, .ref p] (upd H p (.tup rest)) Q E := by
  obtain ⟨oc, od, kV, doc, pm, an, cdv, ct, osl, rfl, hl, hc⟩ := F.ex
  have z := StX.fn_star (CX := CX0) (P := P) (w := w) (mg := mg) (base := base) (k := k) (N := N) (ps := [p1]) (pv := pv) (sp := sp) hl hc sc StX.cxUp_none (StX.bind_star1 (B := fun l => bindArgs (PySem.W.fnOf x qual (defArgs st) (defBody st) (defScope st) .none kV doc pm an cdv ct) { pos := l }) (fun a => b0 kV doc pm an cdv ct a) (fun a r rs => b1 kV doc pm an cdv ct a r rs)) (fun A outer s H vs Q E hr q => by
    obtain ⟨t, a, b⟩ := h cdv A outer s H vs Q E hr q
    exact ⟨t, a.nox, b⟩)
  intro A outer s H us vs Q E hr e0 hv ⟨a, rest, e, l, q⟩
  exact z A outer s H us vs Q E hr e0 hv ⟨[a], rest, e, rfl, l, q⟩
theorem MetF.star {P : Program} {w : World} {K : PySem.W.Frag} {mg : Str → Option Value} {base : Heap} {CX : CXT} {k : Nat} {m qual : Str} {st : Stmt} {f C : Addr} {sp : Sp} (D : MetF K C m qual st f) (ok : ∀ fd, Fun K m qual st f fd → FnR P w K mg base CX k f sp) : Meth K C m f ∧ FnR P w K mg base CX k f sp := by
  obtain ⟨oc, od, sl, kV, dc, pm, an, cd, ct, a, l, c, q, i, n⟩ := D.ex
  exact ⟨⟨a, i, q⟩, ok _ (fun_mk (st := st) l c q)⟩
end Mf
/-! A method with a rest that may raise. -/
namespace Mf
open PySem PySem.Spec PyProof.Rows L2
section
variable {X : Cx} {CX : CXT} {k : Nat} {C f : Addr} {m : Str} {sp : Sp} {E : L2.St → XK} {o e : Expr} {es : List Expr} {ta : TE} {t : TA} {apos pos : Pos}
/-- o.m(..) of a def with a rest, which may raise -/
def tMethRS (C : Addr) (m : Str) (sp : Sp) (E : L2.St → XK) (ta : TE) (t : TA) : TE := fun σ H Q => ta σ H fun x H1 => ∃ a dx fs, x = .ref a ∧ H1 a = some (.ins C dx fs) ∧ fs.lookup m = none ∧ t σ H1 fun vs H2 => sp (x :: vs) H2 Q (E σ)
theorem pe_methRS {pl : Sem Bool} (c : Cls X.K C) (mt : Meth X.K C m f) (F : FnR X.prog X.w X.K X.mg X.base CX k f sp) (hr : Room k X.A) (hx : ∀ σ, PassesAt CX X σ (E σ)) (he : PE X o ta) (ha : PA X (e :: es) t)
    (hst : starEach (e :: es) X.env = (false, eval e X.env) :: starEach es X.env := by rfl) (hpl : (backTo pos (starEach es X.env)).any (·.1) = false := by rfl)
    (ht : eval (.Call (.Attribute o m apos) (e :: es) [] pos) X.env = (do let ov ← eval o X.env; standAt apos.atName; let (f, first) ← holding [ov] (getMethod ov m pl); callWith pos f first (backTo pos (starEach (e :: es) X.env)) (backToKw pos (keywordEach [] X.env))) := by rfl) :
    PE X (.Call (.Attribute o m apos) (e :: es) [] pos) (tMethRS C m sp E ta t) := by
  constructor
  intro pins s σ H Q I h
  refine PySem.W.methodCall_KW (pl := pl) (thn (he.run pins s σ H _ I h) fun u s2 ⟨x, H2, J, rel, q⟩ => ?_) ht
  obtain ⟨a, dx, fs, rfl, ha2, lk, q⟩ := q
  obtain rfl : u = Value.ref a := rel
  refine getmeth_ok J ha2 c mt lk ?_
  refine PySem.W.callWith_K J.kIn mt.kp (thn (ha.run pos _ s2 σ H2 _ J q) fun us s4 ⟨vs, H4, J4, rv, q4⟩ => ⟨J4.kIn, ?_⟩) hst hpl
  refine wpAny_call (codeAny_mono (F X.A X.stack s4 H4 (.ref a :: us) (.ref a :: vs) Q (E σ) hr J4.env0 (.cons rfl rv) q4) fun res s5 hres => ?_)
  rcases res with e | _ | _ | _ | u
  · exact hx σ _ _ _ e s5 J4 hres
  all_goals first | exact False.elim hres | exact J4.after hres
theorem pe_methRS0 {pl : Sem Bool} (c : Cls X.K C) (mt : Meth X.K C m f) (F : FnR X.prog X.w X.K X.mg X.base CX k f sp) (hr : Room k X.A) (hx : ∀ σ, PassesAt CX X σ (E σ)) (he : PE X o ta)
    (ht : eval (.Call (.Attribute o m apos) [] [] pos) X.env = (do let ov ← eval o X.env; standAt apos.atName; let (f, first) ← holding [ov] (getMethod ov m pl); callWith pos f first (backTo pos (starEach [] X.env)) (backToKw pos (keywordEach [] X.env))) := by rfl) :
    PE X (.Call (.Attribute o m apos) [] [] pos) (tMethRS C m sp E ta tNil) := by
  constructor
  intro pins s σ H Q I h
  refine PySem.W.methodCall_KW (pl := pl) (thn (he.run pins s σ H _ I h) fun u s2 ⟨x, H2, J, rel, q⟩ => ?_) ht
  obtain ⟨a, dx, fs, rfl, ha2, lk, q⟩ := q
  obtain rfl : u = Value.ref a := rel
  refine getmeth_ok J ha2 c mt lk ?_
  refine PySem.W.callWith_K0 J.kIn mt.kp ?_
  refine wpAny_call (codeAny_mono (F X.A X.stack s2 H2 [.ref a] [.ref a] Q (E σ) hr J.env0 (.cons rfl .nil) q) fun res s5 hres => ?_)
  rcases res with e | _ | _ | _ | u
  · exact hx σ _ _ _ e s5 J hres
  all_goals first | exact False.elim hres | exact J.after hres
end
theorem fn_star1X {P : Program} {w : World} {K : PySem.W.Frag} {mg : Str → Option Value} {base : Heap} {k : Nat} {x qual : Str} {st : Stmt} {f : Addr} {fd : FuncData} {N : List Str} {p1 pv : Str} {sp : Sp}
    (F : Fun K x qual st f fd) (sc : FnScope N [p1, pv] (defScope st))
    (b0 : ∀ kV doc pm an cdv ct (a : Value), bindArgs (PySem.W.fnOf x qual (defArgs st) (defBody st) (defScope st) .none kV doc pm an cdv ct) { pos := [a] } = do
      let t ← newTuple []
      pure [(p1, a), (pv, t)])
    (b1 : ∀ kV doc pm an cdv ct (a r : Value) (rs : List Value), bindArgs (PySem.W.fnOf x qual (defArgs st) (defBody st) (defScope st) .none kV doc pm an cdv ct) { pos := a :: r :: rs } = do
      let t ← newTuple (r :: rs)
      pure [(p1, a), (pv, t)])
    (h : ∀ (cdv : Value) (A : Around) (outer : List Env) (s : Shared) (H : Hp) (vs : List V) (Q : VK) (E : XK), Room k (A.deeper (PyProof.Rows.envOfC qual (defScope st) s.heap.objs.size f cdv)) → sp vs H Q E →
      ∃ t, PSs (cxOf (L2.CX P w) P w K mg base N qual (defScope st) f cdv A outer s H E) (defBody st) t ∧ t { nx := fun x H' => Q V.non H', rt := Q } (L2.start N vs) H) :
    FnR P w K mg base (L2.CX P w) (k + 1) f fun vs H Q E => ∃ (a : V) (rest : List V), vs = a :: rest ∧ rest.length ≤ sizeLine ∧ ∀ p, H p = none → sp [a, .ref p] (upd H p (.tup rest)) Q E := by
  obtain ⟨oc, od, kV, doc, pm, an, cdv, ct, osl, rfl, hl, hc⟩ := F.ex
  have z := StX.fn_star (CX := L2.CX P w) (P := P) (w := w) (mg := mg) (base := base) (k := k) (N := N) (ps := [p1]) (pv := pv) (sp := sp) hl hc sc StX.cxUp (StX.bind_star1 (B := fun l => bindArgs (PySem.W.fnOf x qual (defArgs st) (defBody st) (defScope st) .none kV doc pm an cdv ct) { pos := l }) (fun a => b0 kV doc pm an cdv ct a) (fun a r rs => b1 kV doc pm an cdv ct a r rs)) (fun A outer s H vs Q E hr q => h cdv A outer s H vs Q E hr q)
  intro A outer s H us vs Q E hr e0 hv ⟨a, rest, e, l, q⟩
  exact z A outer s H us vs Q E hr e0 hv ⟨[a], rest, e, rfl, l, q⟩
end Mf
/-! x, *y = a list -/
namespace Mf
open PySem PySem.Spec PyProof.Rows L2
def gStar (K : PySem.W.Frag) (t : TGs) : TG := fun v σ H Q => ∃ (a : Addr) (z : V) (zs : List V), v = .ref a ∧ SqL K H a (z :: zs) ∧ zs.length + 1 ≤ 16384 ∧ ∀ D, H D = none → t [z, .ref D] σ (upd H D (.lst zs)) Q
/-- all but what the namespace is -/
noncomputable def newsOf (B h : Heap) (L : Addr) : List (Addr × Obj) := (List.range h.objs.size).filterMap fun b => if b = L then none else match B.get? b with
  | some _ => none
  | none => (h.get? b).map fun o => (b, o)
theorem get_lt {h : Heap} {b : Addr} {o : Obj} (e : h.get? b = some o) : b < h.objs.size := by
  by_cases l : b < h.objs.size
  · exact l
  · unfold Heap.get? at e
    rw [Array.getElem?_eq_none (Nat.le_of_not_lt l)] at e
    cases e
theorem newsOf_in {B h : Heap} {L : Addr} {p : Addr × Obj} (m : p ∈ newsOf B h L) : h.get? p.1 = some p.2 ∧ p.1 ≠ L ∧ B.get? p.1 = none := by
  obtain ⟨b, _, e⟩ := List.mem_filterMap.mp m
  by_cases bl : b = L
  · rw [if_pos bl] at e; cases e
  · rw [if_neg bl] at e
    cases hb : B.get? b with
    | some o => rw [hb] at e; cases e
    | none =>
      rw [hb] at e
      obtain ⟨o, ho, rfl⟩ := Option.map_eq_some_iff.mp e
      exact ⟨ho, bl, hb⟩
theorem newsOf_of {B h : Heap} {L b : Addr} {o : Obj} (e : h.get? b = some o) (n : b ≠ L) (hb : B.get? b = none) : (b, o) ∈ newsOf B h L := by
  refine List.mem_filterMap.mpr ⟨b, List.mem_range.mpr (get_lt e), ?_⟩
  rw [if_neg n, hb, e]
  rfl
theorem pg_star {X : Cx} {es es2 : List Expr} {k : Nat} {pos : Pos} {t : TGs} (hc : X.calm = true) (hp : PGs X es2 t) (he : (assignEach es X.env).map (·.2) = (assignEach es2 X.env).map (·.2) := by rfl) (hl : (assignEach es X.env).length = 2 := by rfl) (hf : (assignEach es X.env).findIdx? (·.1) = some 1 := by rfl) : PG X (.Tuple es k pos) (gStar X.K t) := by
  constructor
  intro pins s σ H v u Q I rv h
  obtain ⟨a, z, zs, rfl, hq, few, kk⟩ := h
  obtain rfl : u = Value.ref a := rv
  obtain ⟨its, rvs, pl, hz⟩ := I.list hq
  obtain ⟨mm, fr⟩ := I.fr
  cases its with
  | nil => cases rvs
  | cons w ws =>
  have lw : ws.length = zs.length := by have := rvs.length; simp at this; omega
  have r1 : RelV z w := by cases rvs; assumption
  have r2 : Vals zs ws := by cases rvs; assumption
  refine PySem.W.kun_assignL (news := newsOf X.base s.heap X.env.locals) (mids := ws) (lasts := []) (first := [w]) fr (fun p hp => newsOf_in hp) pl.isList (I.ok.hd hc) hl hf (by decide) (by simp) (by simp; omega) (by simp) (by simp) (by simp) fun D h' tk fr' nw' lt => ?_
  have nD := nw' _ List.mem_cons_self
  have kept : ∀ (b : Addr) (o : Obj), b ≠ X.env.locals → s.heap.get? b = some o → h'.get? b = some o := fun b o nb e => by
    cases hb : X.base.get? b with
    | some o2 =>
      have e2 := fr.keep b o2 hb
      rw [e] at e2
      cases e2
      exact fr'.keep b o hb
    | none => exact (nw' _ (List.mem_cons_of_mem _ (newsOf_of e nb hb))).1
  have sD : s.heap.get? D = none := by
    cases e : s.heap.get? D with
    | none => rfl
    | some o =>
      have := lt _ (newsOf_of e nD.2.1 nD.2.2)
      exact absurd this (Nat.lt_irrefl _)
  have hD : H D = none := I.hok.gone sD
  have nl : ∀ {b : Addr} {o : HO}, H b = some o → b ≠ X.env.locals := fun {b o} e z => by
    have := I.free
    rw [← z, e] at this; cases this
  have I1 : Inv X pins σ (upd H D (.lst zs)) { heap := h', gens := s.gens, drawn := s.drawn, toks := tk, os := s.os } := by
    refine I.step (ch := []) (fun b hb => nomatch hb) (fun b o n1 _ _ e _ => kept b o n1 e) (fun b o n1 _ _ e _ => ⟨o.slots, kept b o n1 e⟩) (fun b o _ e hb => ?_) (fun b o _ e => ?_) (fun b xs e => ?_) (fun b o u e => ?_) (fun b ps e => ?_) (fun m ns => ?_) (fun b o e => ?_) I.bare
    · rw [upd_ne (fun z => by rw [z, sD] at e; cases e)]; exact hb
    · by_cases n1 : b = X.env.locals
      · obtain ⟨o2, _, _, h2, _⟩ := fr'.ns
        exact ⟨o2, by rw [n1]; exact h2⟩
      · exact ⟨o, kept b o n1 e⟩
    · rw [upd_ne (fun z => by rw [z, hD] at e; cases e)]; exact e
    · rw [upd_ne (fun z => by rw [z, hD] at e; cases e)]; exact e
    · exact ⟨#[], by rw [upd_ne (fun z => by rw [z, hD] at e; cases e), Array.append_empty]; exact e⟩
    · obtain ⟨o1, es1, ep1, h1, d1, sk1, f1⟩ := ns
      obtain ⟨o2, es2, ep2, h2, d2, sk2, f2⟩ := fr.ns
      rw [h1] at h2
      cases h2
      rw [d1] at d2
      cases d2
      have em : m = mm := funext fun n => (f1 n).symm.trans (f2 n)
      rw [em]; exact fr'.ns
    · by_cases eD : b = D
      · subst eD
        rw [upd_same] at e
        cases e
        refine ⟨by rw [List.length_cons] at hz; omega, ws, 0, r2, ?_⟩
        exact nD.1
      · rw [upd_ne eD] at e
        refine (I.hok b o e).stay (fun c u hc hcu => ?_) (fun c hc => ?_) fun c xs hc => ?_
        · rcases hc with rfl | hc
          · exact kept c u (nl e) hcu
          · exact kept c u (nl hc) hcu
        · rw [upd_ne (fun z => by rw [z, hD] at hc; cases hc)]; exact hc
        · rw [upd_ne (fun z => by rw [z, hD] at hc; cases hc)]; exact hc
  rw [he]
  exact hp.run pins _ σ _ [z, .ref D] [w, .ref D] Q I1 (.cons r1 (.cons rfl .nil)) (kk D hD)
end Mf
namespace Mf
open PySem L2
theorem numT_int {z : Str} (h : numT z = true) : PySem.intText? z = some (valZ z) ∧ z.length ≤ 61 := by
  have some_of : ∀ {n : Int}, PySem.intText? z = some n → PySem.intText? z = some (valZ z) := fun {n} e => by
    unfold valZ
    rw [e]; rfl
  by_cases h45 : (TL.tl z).head? = some 45
  · obtain ⟨r, er⟩ : ∃ r, TL.tl z = 45 :: r := by
      cases q : TL.tl z with
      | nil => rw [q] at h45; cases h45
      | cons a b => rw [q] at h45; cases h45; exact ⟨b, rfl⟩
    have e1 := drop_tl er
    obtain ⟨g, _⟩ := (numT_minus (z := cutS z (some 1) none) (by rw [e1]; exact er)).mp h
    have dgs := dig_all g.dg
    rw [e1] at dgs
    have gl2 := g.l2
    rw [TL.len_tl, e1] at gl2
    have ne := ne_tl g.l1
    rw [e1] at ne
    have lz : z.length = r.length + 1 := by rw [TL.len_tl, er]; rfl
    exact ⟨some_of (intText_neg (cs := r) er dgs ne (by omega)), by omega⟩
  · have g := (numT_plain h45).mp h
    have := g.l2
    exact ⟨some_of (int_dig g.l1 g.l2 g.dg), by omega⟩
section
variable {P : Program} {w : World} {K : PySem.W.Frag} {mg : Str → Option Value} {base : Heap} {CR CI : Addr}
/-! ### _parsed_item -/
def spPItem (K : PySem.W.Frag) : Sp := fun vs H Q _ => ∃ z : Str, vs = [.str z] ∧ z.length ≤ 1000000 ∧ ∀ v H', Same H H' → ItG K H' v (readP z) → Q v H'
abbrev sParsed_item : Stmt := top 29
theorem scParsed_item : FnScope ["word"] ["word"] (defScope sParsed_item) := ⟨rfl, rfl, rfl, by decide +kernel, rfl, by decide +kernel, by decide +kernel⟩
theorem ok_pitem {f xG : Addr} {fd : FuncData} (F : Fun K "_parsed_item" "_parsed_item" sParsed_item f fd) (mInt : mg "int" = none) (mg_GAP : mg "GAP" = some (.ref xG)) (qG : ∀ H, SqT K H xG ([V.str "gap"])) (c_is_numeral : Cal P w K mg base CX0 1 "is_numeral" ["text"] spIsNumeral) : FnOk P w K mg base CX0 2 f fd ["word"] (spPItem K) := by
  refine F.ok scParsed_item (fun vs H Q E h => ?_) (fun cdv A outer s H vs Q E hr h => ?_)
  · obtain ⟨it, rfl, _⟩ := h
    rfl
  · obtain ⟨z, rfl, hz, k⟩ := h
    have hr_is_numeral := hr
    refine ⟨_, (pss_cons (ps_if (pt_cmpR op_eq (pv 0) pe_str (nomark _))
        (pss_one (ps_ret (pe_glob (v := .ref _) rfl mg_GAP rfl))) pss_nil)
      (pss_cons (ps_if (PW.pt (pw_and (pt_val (pe_m1 PySem.F.slot_str_startswith PySem.F.type_str_startswith mt_startswith (pv 0) pe_str)) (pw_and1 (pt_val (pe_cal c_is_numeral hr_is_numeral pass0 (pa_cons (pe_slice sl_str (pv 0) (po_some pe_int) po_none) pa_nil))))))
        (pss_one (ps_ret (pe_tup (pa_cons pe_str (pa_cons (pe_callTy call_int_str (by rfl) mInt (by decide +kernel) (pa_cons (pe_slice sl_str (pv 0) (po_some pe_int) po_none) pa_nil)) pa_nil))))) pss_nil)
      (pss_cons (ps_if (pt_val (pe_cal c_is_numeral hr_is_numeral pass0 (pa_cons (pv 0) pa_nil)))
        (pss_one (ps_ret (pe_tup (pa_cons pe_str (pa_cons (pe_callTy call_int_str (by rfl) mInt (by decide +kernel) (pa_cons (pv 0) pa_nil)) pa_nil))))) pss_nil)
      (pss_one (ps_ret (pe_tup (pa_cons pe_str (pa_cons (pv 0) pa_nil)))))))), ?_⟩
    have s1 : z.length ≤ sizeLine := Nat.le_trans hz (by decide)
    have cl : (cutS z (some 1) none).length ≤ 1000000 := Nat.le_trans (cutS_length z (some 1) none) hz
    refine ⟨_, rfl, rfl, _, rfl, ite2 (fun e => ?_) fun e => ?_⟩
    · have e : z = ("-" : Str) := V.str.inj (of_decide_eq_true e)
      refine k (.ref xG) H (Same.refl H) ?_
      have er : readP z = gapO := by unfold readP; rw [if_pos e]
      rw [er]
      exact ⟨xG, rfl, qG H⟩
    have n1 : z ≠ ("-" : Str) := fun q => e (decide_eq_true (by rw [q]))
    refine ⟨_, rfl, ⟨_, rfl⟩, _, _, rfl, rfl, ?_⟩
    refine ⟨Txt.startswith z ("@" : Str), rfl, ?_⟩
    cases st : Txt.startswith z ("@" : Str) with
    | false =>
      refine iteF ⟨_, rfl, z, rfl, hz, fun H2 s3 => ⟨numT z, rfl, ?_⟩⟩
      have n2 : ¬ (Txt.startswith z ("@" : Str) = true ∧ numT (cutS z (some 1) none) = true) := fun q => by rw [st] at q; cases q.1
      cases nw : numT z with
      | true =>
        obtain ⟨i1, i2⟩ := numT_int nw
        refine iteT ⟨_, rfl, z, _, rfl, i1, by omega, (by show 2 ≤ sizeLine; decide), fun t nt => k _ _ (s3.trans (Same.new nt)) ?_⟩
        have er : readP z = .tp [.s "number", .i (valZ z)] := by unfold readP; rw [if_neg n1, if_neg n2, if_pos nw]
        rw [er]
        exact ⟨t, rfl, .of upd_same⟩
      | false =>
        refine iteF ⟨_, rfl, (by show 2 ≤ sizeLine; decide), fun t nt => k _ _ (s3.trans (Same.new nt)) ?_⟩
        have er : readP z = .tp [.s "word", .s z] := by unfold readP; rw [if_neg n1, if_neg n2, nw]; simp
        rw [er]
        exact ⟨t, rfl, .of upd_same⟩
    | true =>
      refine iteT ⟨_, rfl, 1, rfl, _, rfl, s1, ?_⟩
      refine ⟨_, rfl, cl, fun H1 s2 => ⟨numT (cutS z (some 1) none), rfl, ?_⟩⟩
      cases nz : numT (cutS z (some 1) none) with
      | true =>
        obtain ⟨i1, i2⟩ := numT_int nz
        refine iteT ⟨_, rfl, 1, rfl, _, rfl, s1, ?_⟩
        refine ⟨_, _, rfl, i1, by omega, (by show 2 ≤ sizeLine; decide), fun t nt => ?_⟩
        refine k _ _ (s2.trans (Same.new nt)) ?_
        have er : readP z = .tp [.s "node", .i (valZ (cutS z (some 1) none))] := by unfold readP; rw [if_neg n1, if_pos ⟨st, nz⟩]
        rw [er]
        exact ⟨t, rfl, .of upd_same⟩
      | false =>
        refine iteF ⟨_, rfl, z, rfl, hz, fun H2 s3 => ⟨numT z, rfl, ?_⟩⟩
        have n2 : ¬ (Txt.startswith z ("@" : Str) = true ∧ numT (cutS z (some 1) none) = true) := fun q => by rw [nz] at q; cases q.2
        cases nw : numT z with
        | true =>
          obtain ⟨i1, i2⟩ := numT_int nw
          refine iteT ⟨_, rfl, z, _, rfl, i1, by omega, (by show 2 ≤ sizeLine; decide), fun t nt => k _ _ ((s2.trans s3).trans (Same.new nt)) ?_⟩
          have er : readP z = .tp [.s "number", .i (valZ z)] := by unfold readP; rw [if_neg n1, if_neg n2, if_pos nw]
          rw [er]
          exact ⟨t, rfl, .of upd_same⟩
        | false =>
          refine iteF ⟨_, rfl, (by show 2 ≤ sizeLine; decide), fun t nt => k _ _ ((s2.trans s3).trans (Same.new nt)) ?_⟩
          have er : readP z = .tp [.s "word", .s z] := by unfold readP; rw [if_neg n1, if_neg n2, nw]; simp
          rw [er]
          exact ⟨t, rfl, .of upd_same⟩
end
end Mf
/-! An own object made, its __init__ may raise. -/
namespace Mf
open PySem PySem.Spec PyProof.Rows L2
section
variable {X : Cx} {CX : CXT} {k : Nat} {f C : Addr} {fd : FuncData} {ps : List Str} {sp : Sp} {E : L2.St → XK} {ds : List Value} {dvs : List V} {x : Str} {p pos : Pos} {e : Expr} {es : List Expr} {t : TA}
/-! an own object made, its __init__ may raise -/
theorem run_makeS {pins : List (Addr × Obj)} {σ : L2.St} {H : Hp} {s : Shared} {Q : VK} {us : List Value} {vs : List V} (M : Mk X.K C f) (F : FnOk X.prog X.w X.K X.mg X.base CX k f fd ps sp) (hr : Room (k + 1) X.A) (hb : Binds X.K fd ps ds) (hd : Vals dvs ds) (hx : PassesAt CX X σ (E σ)) (I : Inv X pins σ H s) (r : Vals vs us)
    (made : ∀ self dict, H self = none → H dict = none → dict ≠ self → sp (.ref self :: (vs ++ dvs)) (upd (upd H dict (.own self)) self (.ins C dict [])) (fun v H2 => v = .non ∧ Q (.ref self) H2) (E σ)) : wpAny (model X.prog X.w) X.A (call (.ref C) us) (EP X pins σ Q) X.xe s := by
  have spec := made (s.heap.objs.size + 1) s.heap.objs.size (I.hok.fresh (Nat.le_succ s.heap.objs.size)) (I.hok.fresh (Nat.le_refl s.heap.objs.size)) (Nat.succ_ne_self s.heap.objs.size).symm
  have J := I.made (C := C)
  have args : Vals (.ref (s.heap.objs.size + 1) :: (vs ++ dvs)) (.ref (s.heap.objs.size + 1) :: (us ++ ds)) := .cons rfl (r.append hd)
  have count : (Value.ref (s.heap.objs.size + 1) :: (us ++ ds)).length = ps.length := args.length.symm.trans (F.len _ _ _ _ spec)
  have inner := F.run _ X.stack _ _ ⟨.ref (s.heap.objs.size + 1) :: us, []⟩ (.ref (s.heap.objs.size + 1) :: (us ++ ds)) _ _ (E σ) (hr.make C us []) (J.env0.make C us []) (hb _ (.ref (s.heap.objs.size + 1) :: us) J.kIn count) args spec
  refine wpAny_call (make_map (f := f) I.kIn M.makes M.init (beq_iff_eq.mp M.fn) (codeAny_mono inner fun o s2 ho => ?_))
  rcases o with e | _ | _ | _ | u
  · exact hx pins _ _ e s2 J ho
  all_goals try exact False.elim ho
  obtain ⟨v, H3, J3, rel, rfl, q⟩ := J.after ho
  exact ⟨rel, .ref (s.heap.objs.size + 1), H3, J3, rfl, q⟩
def tMakeS (C : Addr) (sp : Sp) (dvs : List V) (E : L2.St → XK) (t : TA) : TE := fun σ H Q => t σ H fun vs H1 => ∀ x dx, H1 x = none → H1 dx = none → dx ≠ x →
  sp (.ref x :: (vs ++ dvs)) (upd (upd H1 dx (.own x)) x (.ins C dx [])) (fun v H2 => v = .non ∧ Q (.ref x) H2) (E σ)
theorem pe_makeS (M : Mk X.K C f) (F : FnOk X.prog X.w X.K X.mg X.base CX k f fd ps sp) (hr : Room (k + 1) X.A) (hg : Gl X x) (hm : X.mg x = some (.ref C)) (hb : Binds X.K fd ps ds) (hd : Vals dvs ds) (hx : ∀ σ, PassesAt CX X σ (E σ)) (ha : PA X (e :: es) t)
    (hdb : (x == ("__debug__" : Str)) = false) (he : starEach (e :: es) X.env = (false, eval e X.env) :: starEach es X.env) (hpl : (backTo pos (starEach es X.env)).any (·.1) = false) : PE X (.Call (.Name x p) (e :: es) [] pos) (tMakeS C sp dvs E t) :=
  ⟨fun pins s σ H Q I h => wpAny_Call_Name_kw (ld_glob I hg hm (PySem.W.callWith_K (h₀ := X.base) I.ok.mod.kin M.kp (thn (ha.run pos pins s σ H _ I h) fun vals s2 ⟨ys, H2, J, rel, goal⟩ => ⟨J.kIn, run_makeS M F hr hb hd (hx σ) J rel goal⟩) he hpl) hdb)⟩
theorem pe_mkcS (c : CalC X.prog X.w X.K X.mg X.base CX k x C ps sp dvs) (hr : Room (k + 1) X.A) (hx : ∀ σ, PassesAt CX X σ (E σ)) (ha : PA X (e :: es) t) (hg : Gl X x := by rfl)
    (hdb : (x == ("__debug__" : Str)) = false := by decide) (he : starEach (e :: es) X.env = (false, eval e X.env) :: starEach es X.env := by rfl) (hpl : (backTo pos (starEach es X.env)).any (·.1) = false := by rfl) :
    PE X (.Call (.Name x p) (e :: es) [] pos) (tMakeS C sp dvs E t) := by
  obtain ⟨f, fd, ds, M, F, mm, b, v⟩ := c.ex
  exact pe_makeS M F hr hg mm b v hx ha hdb he hpl
end
end Mf
/-! A class in a local name made, a classmethod called: both may raise. -/
namespace Mf
open PySem PySem.Spec PyProof.Rows L2
section
variable {X : Cx} {CX : CXT} {k : Nat} {g p C : Addr} {mc : Value} {m : Str} {sp : Sp} {E : L2.St → XK} {o e : Expr} {es : List Expr} {ta : TE} {t : TA} {apos pos : Pos} {pl : Sem Bool}
/-- a classmethod of a class, within try -/
theorem pe_cmethS (he : PE X o ta) (r : ClX.CRead X.K C mc) (c : ClX.CMet X.K C mc m p g) (F : FnR X.prog X.w X.K X.mg X.base CX k g sp) (hr : Room k X.A) (hx : ∀ σ, PassesAt CX X σ (E σ)) (ha : PA X (e :: es) t) (hst : starEach (e :: es) X.env = (false, eval e X.env) :: starEach es X.env := by rfl) (hpl : (backTo pos (starEach es X.env)).any (·.1) = false := by rfl)
    (ht : eval (.Call (.Attribute o m apos) (e :: es) [] pos) X.env = (do let ov ← eval o X.env; standAt apos.atName; let (f, first) ← holding [ov] (getMethod ov m pl); callWith pos f first (backTo pos (starEach (e :: es) X.env)) (backToKw pos (keywordEach [] X.env))) := by rfl) :
    PE X (.Call (.Attribute o m apos) (e :: es) [] pos) (fun σ H Q => ta σ H fun x H1 => x = .ref C ∧ t σ H1 fun vs H2 => sp (.ref C :: vs) H2 Q (E σ)) := by
  constructor
  intro pins s σ H Q I h
  refine PySem.W.methodCall_KW (pl := pl) (thn (he.run pins s σ H _ I h) fun u s2 ⟨x, H2, J, rel, ex, q⟩ => ?_) ht
  obtain rfl : x = V.ref C := ex
  obtain rfl : u = Value.ref C := rel
  refine ClX.getmethcm_ok J r c fun s3 J3 => ClX.callwith_cm J3 (ClX.base_none J (Nat.le_refl _)) c.fi (thn (ha.run pos _ s3 σ H2 _ J3 q) fun us s4 ⟨vs, H4, J4, rv, q4⟩ => ⟨⟨ClX.pin_at J4, J4.kIn⟩, ?_⟩) hst hpl
  have inner : wpAny (model X.prog X.w) X.A (call (.ref s2.heap.objs.size) us) (EP X ((s2.heap.objs.size, PySem.W.methodObj (.ref g) (.ref C)) :: pins) σ Q) X.xe s4 := by
    refine wpAny_call (PySem.W.method_call (ClX.pin_at J4) (codeAny_mono (F X.A X.stack s4 H4 (.ref C :: us) (.ref C :: vs) Q (E σ) hr J4.env0 (.cons rfl rv) q4) fun res s5 hres => ?_))
    rcases res with e | _ | _ | _ | u
    · exact hx σ _ _ _ e s5 J4 hres
    all_goals first | exact False.elim hres | exact J4.after hres
  exact thn inner fun _ _ y => ClX.unpinE y
end
/-- C(..) of a class that stands in a local name, its __init__ may raise -/
theorem pe_mklS {X : Cx} {CX : CXT} {k : Nat} {x y : Str} {C : Addr} {ps : List Str} {sp : Sp} {dvs : List V} {E : L2.St → XK} {e : Expr} {es : List Expr} {t : TA} {p pos : Pos} {te : TE} (c : CalC X.prog X.w X.K X.mg X.base CX k x C ps sp dvs) (hr : Room (k + 1) X.A) (hx : ∀ σ, PassesAt CX X σ (E σ)) (hn : PE X (.Name y p) te) (ha : PA X (e :: es) t)
    (he : starEach (e :: es) X.env = (false, eval e X.env) :: starEach es X.env := by rfl) (hpl : (backTo pos (starEach es X.env)).any (·.1) = false := by rfl) : PE X (.Call (.Name y p) (e :: es) [] pos) (fun σ H Q => te σ H fun v H1 => v = .ref C ∧ tMakeS C sp dvs E t σ H1 Q) := by
  obtain ⟨f, fd, ds, M, F, _, b, v⟩ := c.ex
  constructor
  intro pins s σ H Q I h
  refine wpAny_Call_Name_kw (thn (hn.run pins s σ H _ I h) fun u s2 ⟨z, H2, J, rel, ez, q⟩ => ?_)
  obtain rfl : z = V.ref C := ez
  obtain rfl : u = Value.ref C := rel
  exact PySem.W.callWith_K (h₀ := X.base) J.ok.mod.kin M.kp (thn (ha.run pos pins s2 σ H2 _ J q) fun us s3 ⟨vs, H3, J3, rv, q3⟩ => ⟨J3.kIn, run_makeS M F hr b v (hx σ) J3 rv q3⟩) he hpl
section
variable {P : Program} {w : World} {K : PySem.W.Frag} {mg : Str → Option Value} {base : Heap} {Cp C CI : Addr}
/-! ### Program.parse -/
end
end Mf
namespace Mf
open PySem L2
theorem le_sum : ∀ {ps : List Str} {y : Str}, y ∈ ps → y.length ≤ (ps.map (·.length)).sum
  | a :: r, y, h => by
    show _ ≤ a.length + (r.map (·.length)).sum
    rcases List.mem_cons.mp h with rfl | h
    · omega
    · have := le_sum h; omega
/-! ### _line -/
def fitL (n : Str) (ss : List Step) : Prop := n.length + 1 + sLen ss + 3 * ss.length ≤ 16000000
theorem paired_ix {α β : Type} {S : α → β → Prop} : ∀ {xs : List α} {ys : List β}, xs.length = ys.length → (∀ (i : Nat) (x : α) (y : β), xs[i]? = some x → ys[i]? = some y → S x y) → Paired S xs ys
  | [], [], _, _ => .nil
  | [], _ :: _, e, _ => by cases e
  | _ :: _, [], e, _ => by cases e
  | x :: xs, y :: ys, e, h => .cons (h 0 x y rfl rfl) (paired_ix (Nat.succ.inj e) fun i a b ha hb => h (i + 1) a b ha hb)
theorem sp_ne : TL.tl (" " : Str) ≠ [] := by decide +kernel
theorem nl_ne : TL.tl ("\n" : Str) ≠ [] := by decide +kernel
/-- how many spaces stand in a text -/
def spc (z : Str) : Nat := (TL.tl z).count 32
theorem spl_cnt (S : List Nat) : ∀ (l : List Nat) (k : Nat) (acc : List Nat), ((TL.spl S k acc l).map fun p => p.count 32).sum ≤ acc.count 32 + l.count 32
  | [], k, acc => by
    rw [TL.spl_nil]
    simp
  | c :: r, 0, acc => by
    show ((if TL.pre S (c :: r) = true then acc :: TL.spl S (S.length - 1) [] r else TL.spl S 0 (acc ++ [c]) r).map fun p => p.count 32).sum ≤ _
    by_cases h : TL.pre S (c :: r) = true
    · rw [if_pos h]
      have a := spl_cnt S r (S.length - 1) []
      rw [List.map_cons, List.sum_cons, List.count_cons]
      rw [List.count_nil] at a
      omega
    · rw [if_neg h]
      have a := spl_cnt S r 0 (acc ++ [c])
      rw [List.count_append] at a
      rw [List.count_cons]
      rw [List.count_singleton] at a
      omega
  | c :: r, k + 1, acc => by
    have a := spl_cnt S r k acc
    rw [List.count_cons]
    exact Nat.le_trans a (by omega)
theorem spl_one : ∀ (l acc : List Nat), (TL.spl [32] 0 acc l).length = l.count 32 + 1
  | [], acc => by rw [TL.spl_nil]; simp
  | c :: r, acc => by
    show (if TL.pre [32] (c :: r) = true then acc :: TL.spl [32] 0 [] r else TL.spl [32] 0 (acc ++ [c]) r).length = _
    by_cases h : c = 32
    · subst h
      rw [if_pos (by rfl), List.length_cons, spl_one r [], List.count_cons_self]
    · rw [if_neg (by unfold TL.pre; simp [h]), spl_one r (acc ++ [c]), List.count_cons_of_ne h]
theorem tl_spc : TL.tl (" " : Str) = [32] := by decide +kernel
theorem split_spc (l : Str) : (Txt.split l (" " : Str)).length ≤ spc l + 1 := by
  have e := TL.split_spl l (" " : Str) sp_ne (TL.kind_ok (by decide +kernel))
  rw [tl_spc] at e
  have q := spl_one (TL.tl l) []
  rw [← e, List.length_map] at q
  exact Nat.le_of_eq q
theorem part_spc (z : Str) : ((Txt.split z ("\n" : Str)).map spc).sum ≤ spc z := by
  have e := TL.split_spl z ("\n" : Str) nl_ne (TL.kind_ok (by decide +kernel))
  have a := spl_cnt (TL.tl ("\n" : Str)) (TL.tl z) 0 []
  rw [← e, List.map_map, List.count_nil, Nat.zero_add] at a
  exact a
theorem cut_spc (z : Str) (a b : Option Int) : spc (cutS z a b) ≤ spc z := by
  unfold spc cutS
  show (List.take _ (List.drop _ (TL.tl z))).count 32 ≤ _
  exact ((List.take_sublist _ _).trans (List.drop_sublist _ _)).count_le 32
theorem app_spc (x y : Str) : spc (x ++ y) = spc x + spc y := by
  unfold spc
  rw [TL.tl_append, List.count_append]
theorem join_spc (y : Str) : ∀ ps : List Str, spc (Txt.join y ps) ≤ (ps.map spc).sum + ps.length * spc y
  | [] => by unfold spc; rw [tl_joinT]; exact Nat.zero_le _
  | [p] => by
    unfold spc
    rw [tl_joinT]
    show (TL.tl p).count 32 ≤ ((TL.tl p).count 32 + 0) + _
    omega
  | p :: q :: r => by
    have ih := join_spc y (q :: r)
    unfold spc at ih ⊢
    rw [tl_joinT] at ih ⊢
    show (TL.tl p ++ (TL.tl y ++ TL.joinL (TL.tl y) ((q :: r).map TL.tl))).count 32 ≤ ((TL.tl p).count 32 + ((q :: r).map fun z => (TL.tl z).count 32).sum) + ((q :: r).length + 1) * (TL.tl y).count 32
    rw [List.count_append, List.count_append, Nat.add_mul]
    omega
theorem le_spc : ∀ {ps : List Str} {y : Str}, y ∈ ps → spc y ≤ (ps.map spc).sum
  | p :: ps, y, h => by
    rw [List.map_cons, List.sum_cons]
    rcases List.mem_cons.mp h with rfl | h
    · omega
    · have := le_spc h; omega
def malO : Oi := .tp [.s "malformed"]
theorem readP_tp (w : Str) : ∃ xs, readP w = .tp xs := by
  unfold readP
  split
  · exact ⟨_, rfl⟩
  · split
    · exact ⟨_, rfl⟩
    · split <;> exact ⟨_, rfl⟩
theorem ItG.tpN {K : PySem.W.Frag} {H H' : Hp} {v : V} {xs : List Sc} (h : ItG K H v (.tp xs)) (s : SameN H H') : ItG K H' v (.tp xs) := let ⟨t, e, q⟩ := h; ⟨t, e, s.tup q⟩
/-- the items of a line, by a reading of words -/
def rowF (f : Str → Oi) (bad : Oi) (k : Nat) (l : Str) : List Oi := match Txt.split l (" " : Str) with
  | [] => [bad]
  | h :: ws => if h = (Str.empty ++ decS (k : Nat)) ++ (":" : Str) then ws.map f else [bad]
def rowsF (f : Str → Oi) (bad : Oi) : Nat → List Str → List (List Oi)
  | _, [] => []
  | k, l :: ls => rowF f bad k l :: rowsF f bad (k + 1) ls
theorem rowsF_len {f : Str → Oi} {bad : Oi} : ∀ (ls : List Str) (k : Nat), (rowsF f bad k ls).length = ls.length
  | [], _ => rfl
  | _ :: ls, k => congrArg (· + 1) (rowsF_len ls (k + 1))
theorem rowsF_get {f : Str → Oi} {bad : Oi} : ∀ (ls : List Str) (k i : Nat) (l : Str), ls[i]? = some l → (rowsF f bad k ls)[i]? = some (rowF f bad (k + i) l)
  | [], _, i, _, h => by simp at h
  | x :: ls, k, 0, l, h => by
    cases h
    rfl
  | x :: ls, k, i + 1, l, h => by
    have := rowsF_get (f := f) (bad := bad) ls (k + 1) i l h
    rw [show k + 1 + i = k + (i + 1) by omega] at this
    exact this
section
variable {P : Program} {w : World} {K : PySem.W.Frag} {mg : Str → Option Value} {base : Heap} {CR CI : Addr}
/-! ### parsed_row -/
def spPRow (K : PySem.W.Frag) : Sp := fun vs H Q _ => ∃ (n : Nat) (l : Str), vs = [.int (n : Nat), .str l] ∧ n ≤ 1000000 ∧ l.length ≤ 1000000 ∧ spc l ≤ 10000 ∧ ∀ D H', H D = none → RowG K H' D (rowF readP malO n l) → Same H H' → Q (.ref D) H'
abbrev sParsed_row : Stmt := top 28
theorem scParsed_row : FnScope ["index", "line", "head", "words", "word"] ["index", "line"] (defScope sParsed_row) := ⟨rfl, rfl, rfl, by decide +kernel, rfl, by decide +kernel, by decide +kernel⟩
theorem ok_prow {f xM : Addr} {fd : FuncData} (F : Fun K "parsed_row" "parsed_row" sParsed_row f fd) (c__parsed_item : Cal P w K mg base CX0 2 "_parsed_item" ["word"] (spPItem K)) (mg_MALFORMED : mg "MALFORMED" = some (.ref xM)) (qM : ∀ H, SqT K H xM [V.str "malformed"]) : FnOk P w K mg base CX0 3 f fd ["index", "line"] (spPRow K) := by
  refine F.ok scParsed_row (fun vs H Q E h => ?_) (fun cdv A outer s H vs Q E hr h => ?_)
  · obtain ⟨n, row, rfl, _⟩ := h
    rfl
  · obtain ⟨n, l, rfl, n7, ll, lsp, k⟩ := h
    have hr__parsed_item := hr
    refine ⟨_, (pss_cons (ps_asg (pe_split (pv 1) pe_str) (pg_star rfl (pgs_cons (pg_name (i := 2) scParsed_row.nd rfl (by first | exact Or.inl rfl | exact Or.inr rfl)) (pgs_cons (pg_name (i := 3) scParsed_row.nd rfl (by first | exact Or.inl rfl | exact Or.inr rfl)) pgs_nil))))
      (pss_cons (ps_if (pt_cmpR op_ne (pv 2) (pe_jn (.cons (pe_fmt (pv 0)) (.cons pe_str .nil))) (nomark _))
        (pss_one (ps_ret (pe_lst (pa_cons (pe_glob (v := .ref _) rfl mg_MALFORMED rfl) pa_nil)))) pss_nil)
      (pss_one (ps_ret (pe_lc (own := [("word", 4)]) (g := (gName 4)) (tt := tYes) rfl scParsed_row.nd (pi_list (pv 3)) (blkOk_by (own := [("word", 4)]) (N := ["index", "line", "head", "words", "word"]) (sc := defScope sParsed_row) (by decide +kernel)) (fun _ _ _ _ _ => (pg_name (i := 4) scParsed_row.nd rfl (by first | exact Or.inl rfl | exact Or.inr rfl))) (fun _ _ _ _ _ => pts_nil) (fun _ _ _ _ _ => (pe_cal c__parsed_item hr__parsed_item pass0 (pa_cons (pv 4) pa_nil)))))))), ?_⟩
    obtain ⟨q1, q2, q3⟩ := split_sum l (" " : Str) sp_ne (by decide +kernel)
    have big : (16777000 : Nat) < sizeLine := by decide
    have wsp := split_spc l
    refine ⟨_, rfl, ⟨_, rfl⟩, _, _, rfl, rfl, (by decide +kernel), by omega, fun L nL => ?_⟩
    unfold rowF at k
    cases hsp : Txt.split l (" " : Str) with
    | nil => exact absurd hsp q3
    | cons h ws =>
      rw [hsp] at k q1 q2 wsp
      rw [List.length_cons] at wsp
      have k : ∀ D H', H D = none → RowG K H' D (if h = (Str.empty ++ decS (n : Nat)) ++ (":" : Str) then ws.map readP else [malO]) → Same H H' → Q (.ref D) H' := k
      rw [List.map_cons, List.sum_cons] at q1
      rw [List.length_cons] at q2
      have s1 := Same.new (o := .lst ((h :: ws).map V.str)) nL
      refine ⟨L, .str h, ws.map V.str, rfl, .of upd_same, by rw [List.length_map]; omega, fun W nW => ?_⟩
      generalize upd H L (.lst ((h :: ws).map V.str)) = H1 at s1 nW ⊢
      have s2 := s1.trans (Same.new (o := .lst (ws.map V.str)) nW)
      have hW : (upd H1 W (.lst (ws.map V.str))) W = some (.lst (ws.map V.str)) := upd_same
      generalize upd H1 W (.lst (ws.map V.str)) = H2 at s2 hW ⊢
      have nb : ((n : Nat) : Int).natAbs < 10 ^ 7 := Nat.lt_of_le_of_lt (show ((n : Nat) : Int).natAbs ≤ 1000000 by omega) (by decide)
      have ld := decS_len (n := (n : Nat)) (k := 7) (by decide) nb
      refine ⟨_, _, rfl, _, _, rfl, rfl, ?_⟩
      refine ⟨_, rfl, _, rfl, .inr ⟨_, rfl, log2_of (k := 200) (Nat.lt_trans nb (by decide +kernel)) (by decide) (by decide), _, rfl, ?_, _, rfl, ?_, rfl, _, rfl, ?_⟩⟩
      · show (Str.empty ++ decS (n : Nat)).length ≤ _
        rw [app_len, em_len]; omega
      · show ((Str.empty ++ decS (n : Nat)) ++ (":" : Str)).length ≤ _
        rw [app_len, app_len, em_len, co_len]; omega
      by_cases he : h = (Str.empty ++ decS (n : Nat)) ++ (":" : Str)
      · rw [if_pos he] at k
        have ed : (!decide (V.str h = V.str ((Str.empty ++ decS (n : Nat)) ++ (":" : Str)))) = false := by rw [decide_eq_true (by rw [← he])]; rfl
        refine ite2 (fun e => absurd e (by rw [Bool.not_eq_true]; exact ed)) fun _ => ?_
        refine ⟨_, rfl, W, rfl, ⟨_, .of hW⟩, fun D nD => ?_⟩
        have nD0 : H D = none := s2.free nD
        refine lc_it walk_list (fun i H' => Same H2 H' ∧ ∃ vs : List V, H' D = some (.lst vs) ∧ vs.length = i ∧ Paired (ItG K H') vs ((ws.map readP).take i)) ⟨Same.new nD, [], upd_same, rfl, .nil⟩ (fun i H' _ q => .of (q.1 _ _ hW)) ?_ ?_
        · rintro i x _ H3 hi ⟨s3, vs, h3, l3, p3⟩ ⟨rfl, hx⟩
          rw [List.getElem?_map] at hx
          obtain ⟨z, hz, rfl⟩ := Option.map_eq_some_iff.mp hx
          rw [List.length_map] at hi
          have lz := le_sum (List.mem_of_getElem? hz)
          refine ⟨rfl, yes_then ?_⟩
          refine ⟨_, rfl, z, rfl, by omega, fun v H4 s4 it4 => ?_⟩
          have h4 := s4 _ _ h3
          have pn : SameN H4 (upd H4 D (.lst (vs ++ [v]))) := SameN.refl.put h4
          refine ⟨_, h4, by rw [l3]; omega, (s3.trans s4).mut nD, vs ++ [v], upd_same, by rw [List.length_append, l3]; rfl, ?_⟩
          rw [List.take_add_one, List.getElem?_map, hz]
          refine paired_snoc (paired_ix (Paired.length p3) fun j a o ha ho => ?_) ?_
          · obtain ⟨o', ho', q⟩ := paired_get p3 ha
            rw [ho] at ho'
            cases ho'
            have mo := List.mem_of_mem_take (List.mem_of_getElem? ho)
            obtain ⟨y, _, rfl⟩ := List.mem_map.mp mo
            obtain ⟨xs, ex⟩ := readP_tp y
            rw [ex] at q ⊢
            exact ItG.tpN (q.same s4) pn
          · obtain ⟨xs, ex⟩ := readP_tp z
            show ItG K _ v (readP z)
            rw [ex] at it4 ⊢
            exact ItG.tpN it4 pn
        · rintro H3 ⟨s3, vs, h3, l3, p3⟩
          rw [List.length_map, ← List.length_map (f := readP), List.take_length] at p3
          exact k D H3 nD0 ⟨vs, h3, p3⟩ (s2.trans s3)
      · rw [if_neg he] at k
        refine ite2 (fun _ => ?_) fun e => ?_
        · exact ⟨(by show 1 ≤ sizeLine; decide), fun D nD => k D _ (s2.free nD) ⟨[.ref xM], upd_same, .cons ⟨xM, rfl, qM _⟩ .nil⟩ (s2.trans (Same.new nD))⟩
        · exfalso
          refine e ?_
          show (!decide (V.str h = V.str ((Str.empty ++ decS (n : Nat)) ++ (":" : Str)))) = true
          rw [decide_eq_false (fun q => he (V.str.inj q))]; rfl
end
end Mf
namespace Mf
open PySem L2
def rowsP (z : Str) : List (List Oi) := rowsF readP malO 0 (Txt.split z ("\n" : Str))
theorem rowF_ok {f : Str → Oi} {bad : Oi} {k : Nat} {l : Str} (hb : OiOk bad) (h : ∀ w : Str, w.length ≤ l.length → OiOk (f w)) : ∀ o ∈ rowF f bad k l, OiOk o := by
  intro o ho
  obtain ⟨q1, _, _⟩ := split_sum l (" " : Str) sp_ne (by decide +kernel)
  unfold rowF at ho
  cases e : Txt.split l (" " : Str) with
  | nil =>
    rw [e] at ho
    rw [List.mem_singleton.mp ho]; exact hb
  | cons a ws =>
    rw [e] at ho q1
    have ho : o ∈ (if a = (Str.empty ++ decS (k : Nat)) ++ (":" : Str) then ws.map f else [bad]) := ho
    rw [List.map_cons, List.sum_cons] at q1
    split at ho
    · obtain ⟨w, hw, rfl⟩ := List.mem_map.mp ho
      have := le_sum hw
      exact h w (by omega)
    · rw [List.mem_singleton.mp ho]; exact hb
theorem rowsF_ok {f : Str → Oi} {bad : Oi} {B : Nat} (hb : OiOk bad) (h : ∀ w : Str, w.length ≤ B → OiOk (f w)) : ∀ (ls : List Str) (k : Nat), (∀ l ∈ ls, l.length ≤ B) → AllOk (rowsF f bad k ls)
  | [], _, _ => fun _ hr => nomatch hr
  | l :: ls, k, hl => fun r hr => by
    rcases List.mem_cons.mp hr with rfl | hr
    · exact rowF_ok hb fun w hw => h w (Nat.le_trans hw (hl l List.mem_cons_self))
    · exact rowsF_ok hb h ls (k + 1) (fun x hx => hl x (List.mem_cons_of_mem _ hx)) r hr
theorem mal_ok : OiOk malO := oiB_ok (by decide +kernel)
theorem pair_ok {k z : Str} (h : k.length ≤ 1000000) (g : z.length ≤ 1000000) : OiOk (.tp [.s k, .s z]) := ⟨fun x hx => by
    have hx : x ∈ [Sc.s k, Sc.s z] := hx
    simp only [List.mem_cons, List.not_mem_nil, or_false] at hx
    rcases hx with rfl | rfl
    · exact h
    · exact g, Nat.le_of_ble_eq_true rfl, fun x y e => ⟨_, (List.cons.inj e).1.symm⟩, fun n => absurd rfl n⟩
theorem pairI_ok {k : Str} {i : Int} (h : k.length ≤ 1000000) : OiOk (.tp [.s k, .i i]) := ⟨fun x hx => by
    have hx : x ∈ [Sc.s k, Sc.i i] := hx
    simp only [List.mem_cons, List.not_mem_nil, or_false] at hx
    rcases hx with rfl | rfl
    · exact h
    · trivial, Nat.le_of_ble_eq_true rfl, fun x y e => ⟨_, (List.cons.inj e).1.symm⟩, fun n => absurd rfl n⟩
theorem gap_ok : OiOk gapO := oiB_ok (by decide +kernel)
theorem readP_ok {w : Str} (h : w.length ≤ 1000000) : OiOk (readP w) := by
  unfold readP
  split
  · exact gap_ok
  · split
    · exact pairI_ok (by decide)
    · split
      · exact pairI_ok (by decide)
      · exact pair_ok (by decide) h
section
variable {P : Program} {w : World} {K : PySem.W.Frag} {mg : Str → Option Value} {base : Heap} {CR CI : Addr}
theorem RowG.putN {H : Hp} {u q : Addr} {os : List Oi} {xs : List V} {o : HO} (x : RowG K H u os) (h : H q = some (.lst xs)) (n : u ≠ q) (tp : ∀ y ∈ os, ∃ ys, y = .tp ys) : RowG K (upd H q o) u os := by
  obtain ⟨vs, a, b⟩ := x
  refine ⟨vs, by rw [upd_ne n]; exact a, paired_ix (Paired.length b) fun i v y hv hy => ?_⟩
  obtain ⟨y', hy', z⟩ := paired_get b hv
  rw [hy] at hy'
  cases hy'
  obtain ⟨ys, rfl⟩ := tp y (List.mem_of_getElem? hy)
  exact ItG.tpN z (SameN.refl.put h)
theorem rowF_tp {f : Str → Oi} {bad : Oi} (hf : ∀ w, ∃ xs, f w = .tp xs) (hb : ∃ xs, bad = .tp xs) (k : Nat) (l : Str) : ∀ y ∈ rowF f bad k l, ∃ ys, y = .tp ys := by
  intro y hy
  unfold rowF at hy
  split at hy
  · rw [List.mem_singleton.mp hy]; exact hb
  · split at hy
    · obtain ⟨w, _, rfl⟩ := List.mem_map.mp hy
      exact hf w
    · rw [List.mem_singleton.mp hy]; exact hb
/-! ### Result.parse -/
def spParse (K : PySem.W.Frag) (CR CI : Addr) : Sp := fun vs H Q E => ∃ z : Str, vs = [.ref CR, .str z] ∧ z.length ≤ 1000000 ∧ spc z ≤ 10000 ∧ (badO (rowsP z) ≠ 0 → LineE CI E H (badO (rowsP z))) ∧
  (∀ R' : List (List Itm), rowsP z = R'.map (·.map toO) → RtR R' → ∀ p dx d us H', RsA K CR H' p dx d us (canonN R' 0) → H p = none → Same H H' → Q (.ref p) H')
abbrev sResultParse : Stmt := inClass (top 31) 1
theorem scResultParse : FnScope ["cls", "text", "index", "line"] ["cls", "text"] (defScope sResultParse) := ⟨rfl, rfl, rfl, by decide +kernel, rfl, by decide +kernel, by decide +kernel⟩
theorem ok_parse {f : Addr} {fd : FuncData} (F : Fun K "parse" "Result.parse" sResultParse f fd) (mEnum : mg "enumerate" = none) (mk : CalC P w K mg base (L2.CX P w) 6 "Result" CR ["self", "rows"] (spRsInitG K CR CI) []) (c_parsed_row : Cal P w K mg base CX0 3 "parsed_row" ["index", "line"] (spPRow K)) : FnOk P w K mg base (L2.CX P w) 8 f fd ["cls", "text"] (spParse K CR CI) := by
  refine F.okX scResultParse (fun vs H Q E h => ?_) (fun cdv A outer s H vs Q E hr h => ?_)
  · obtain ⟨R, rfl, _⟩ := h
    rfl
  · obtain ⟨z, rfl, lz, sz', kE, k⟩ := h
    have hr_parsed_row : Room 3 _ := hr.mono (by decide : 3 ≤ 7)
    refine ⟨_, (pss_one (ps_ret (pe_mklS mk hr (fun σ => passAt (takes_of rfl rfl rfl rfl) σ) (pv 0) (pa_cons (pe_lc (own := [("index", 2), ("line", 3)]) (g := (gTup K 2 (gCons (gName 2) (gCons (gName 3) gNil)))) (tt := tYes) rfl scResultParse.nd (pi_enum (by rfl) mEnum (pa_cons (pe_split (pv 1) pe_str) pa_nil)) (blkOk_by (own := [("index", 2), ("line", 3)]) (N := ["cls", "text", "index", "line"]) (sc := defScope sResultParse) (by decide +kernel)) (fun _ _ _ _ _ => (pg_tup rfl (pgs_cons (pg_name (i := 2) scResultParse.nd rfl (by first | exact Or.inl rfl | exact Or.inr rfl)) (pgs_cons (pg_name (i := 3) scResultParse.nd rfl (by first | exact Or.inl rfl | exact Or.inr rfl)) pgs_nil)))) (fun _ _ _ _ _ => pts_nil) (fun _ _ _ _ _ => (pe_cal c_parsed_row hr_parsed_row pass0 (pa_cons (pv 2) (pa_cons (pv 3) pa_nil))))) pa_nil)))), ?_⟩
    have big : (16777000 : Nat) < sizeLine := by decide
    obtain ⟨q1, q2, q3⟩ := split_sum z ("\n" : Str) nl_ne (by decide +kernel)
    have ps := part_spc z
    unfold rowsP at k kE
    refine ⟨_, rfl, rfl, _, rfl, ⟨_, rfl⟩, _, _, rfl, rfl, (by decide +kernel), by omega, fun L nL => ?_⟩
    generalize Txt.split z ("\n" : Str) = ls at q1 q2 q3 ps k kE nL ⊢
    have s1 := Same.new (o := .lst (ls.map V.str)) nL
    have hL : (upd H L (.lst (ls.map V.str))) L = some (.lst (ls.map V.str)) := upd_same
    generalize upd H L (.lst (ls.map V.str)) = H1 at s1 hL ⊢
    refine ⟨L, _, rfl, .of hL, fun D nD => ?_⟩
    have sD := Same.new (o := .lst []) nD
    refine lc_it walk_enum (fun i H' => ∃ (us : List Addr), LisG K H' D us ((rowsF readP malO 0 ls).take i) ∧ us.length = i ∧ (∀ u ∈ us, u ≠ D) ∧ Same H1 H') ⟨[], ⟨upd_same, .nil⟩, rfl, (fun _ h => nomatch h), sD⟩ (fun i H' _ q => by
      obtain ⟨_, _, _, _, s⟩ := q
      exact .of (s _ _ hL)) ?_ ?_
    · rintro i x H2 H3 hi ⟨us, LD, lu, nu, s2⟩ ⟨T2, x1, y, rfl, hT, rfl, e1, e2⟩
      obtain rfl : x1 = .int (i : Nat) := (Option.some.inj e1).symm
      have e2 : (ls.map V.str)[i]? = some y := e2
      rw [List.getElem?_map] at e2
      obtain ⟨l, hl, rfl⟩ := Option.map_eq_some_iff.mp e2
      have il := (List.getElem?_eq_some_iff.mp hl).1
      have lm := List.mem_of_getElem? hl
      have ll := le_sum lm
      have lsp := le_spc lm
      have hrow := rowsF_get (f := readP) (bad := malO) ls 0 i l hl
      rw [Nat.zero_add] at hrow
      have sT := Same.new (o := .tup [.int (i : Nat), .str l]) hT
      have s3 := s2.trans sT
      have LD3 := LD.same sT
      refine ⟨T2, _, rfl, .of upd_same, rfl, _, _, rfl, _, _, rfl, rfl, rfl, yes_then ?_⟩
      generalize upd H2 T2 (.tup [.int (i : Nat), .str l]) = H3 at s3 LD3 ⊢
      refine ⟨_, rfl, _, rfl, i, l, rfl, by omega, by omega, by omega, fun C H4 nC hC s4 => ?_⟩
      have LD4 := LD3.same s4
      have CD : C ≠ D := ne_none nC LD3.1
      refine ⟨_, LD4.1, by rw [List.length_map, lu]; omega, us ++ [C], ⟨by rw [upd_same, List.map_append]; rfl, ?_⟩, by rw [List.length_append, lu]; rfl, fun u hu => ?_, (s3.trans s4).mut nD⟩
      · rw [List.take_add_one, hrow]
        have tpP := rowF_tp (f := readP) (bad := malO) readP_tp ⟨_, rfl⟩
        refine paired_snoc (paired_ix (Paired.length LD4.2) fun j u os hu hos => ?_) (hC.putN LD4.1 CD (tpP i l))
        obtain ⟨os', hos', q⟩ := paired_get LD4.2 hu
        rw [hos] at hos'
        cases hos'
        have mo := List.mem_of_mem_take (List.mem_of_getElem? hos)
        obtain ⟨j2, hj2⟩ := List.mem_iff_getElem?.mp mo
        have jl := (List.getElem?_eq_some_iff.mp hj2).1
        rw [rowsF_len] at jl
        have hj3 := rowsF_get (f := readP) (bad := malO) ls 0 j2 _ (List.getElem?_eq_getElem jl)
        rw [hj2] at hj3
        have e5 := Option.some.inj hj3
        exact q.putN LD4.1 (nu u (List.mem_of_getElem? hu)) (by rw [e5]; exact tpP _ _)
      · rcases List.mem_append.mp hu with q | q
        · exact nu u q
        · rw [List.mem_singleton.mp q]; exact CD
    · rintro H2 ⟨us, LD, lu, nu, s2⟩
      rw [List.length_map, ← rowsF_len (f := readP) (bad := malO) ls 0, List.take_length] at LD
      have lR := rowsF_len (f := readP) (bad := malO) ls 0
      have okR : AllOk (rowsF readP malO 0 ls) := rowsF_ok (B := 1000000) mal_ok (fun w hw => readP_ok hw) ls 0 fun l hl => by
        have := le_sum hl
        omega
      intro p dx np ndx nex
      have s12 := s1.trans s2
      have sg : Same H2 (upd (upd H2 dx (.own p)) p (.ins CR dx [])) := Same.mut (Same.new ndx) np
      refine ⟨p, dx, D, us, _, rfl, upd_same, LD.same sg, okR, by omega, fun b dd H3 nd s3 hd => kE b dd H3 ((s12.trans sg).free nd) ((s12.trans sg).trans s3) hd, fun R' e rt d us1 H3 A1 nd1 fr kp => ⟨rfl, ?_⟩⟩
      exact k R' e rt p dx d us1 H3 A1 (s12.free np) (s12.trans fun b o e => kp b o (ne_of_none e np) (sg _ _ e))
end
end Mf
namespace Mf
open PySem L2
section
variable {P : Program} {w : World} {K : PySem.W.Frag} {mg : Str → Option Value} {base : Heap}
/-! ### _law_item_text -/
theorem em_app (z : Str) : Str.empty ++ z = z := TL.ext_tl (by rw [TL.tl_append]; rfl)
def spLIText (K : PySem.W.Frag) : Sp := fun vs H Q _ => ∃ (t : Addr) (it : Itm), vs = [.ref t] ∧ ItA K H t it ∧ TxI it ∧ ∀ H', Same H H' → Q (.str (itemT it)) H'
abbrev sLIText : Stmt := top 45
theorem scLIText : FnScope ["_law_item_here"] ["_law_item_here"] (defScope sLIText) := ⟨rfl, rfl, rfl, by decide +kernel, rfl, by decide +kernel, by decide +kernel⟩
theorem ok_litext {f : Addr} {fd : FuncData} (F : Fun K "_law_item_text" "_law_item_text" sLIText f fd) (mStr : mg "str" = none) : FnOk P w K mg base CX0 1 f fd ["_law_item_here"] (spLIText K) := by
  refine F.ok scLIText (fun vs H Q E h => ?_) (fun cdv A outer s H vs Q E hr h => ?_)
  · obtain ⟨t, it, rfl, _⟩ := h
    rfl
  · obtain ⟨t, it, rfl, hit, tx, k⟩ := h
    refine ⟨_, (pss_cons (ps_if (pt_cmpR op_eq (pe_ix (ixt K) (pv 0) pe_int (fun _ _ => rfl)) pe_str (nomark _))
        (pss_one (ps_ret pe_str)) pss_nil)
      (pss_one (ps_ret (pe_ifExp (pt_cmpR op_eq (pe_ix (ixt K) (pv 0) pe_int (fun _ _ => rfl)) pe_str (nomark _)) (pe_op op_add_str pe_str (pe_callTy (CallR.or call_str_int SkE.call_str_str) (by rfl) mStr (by decide +kernel) (pa_cons (pe_ix (ixt K) (pv 0) pe_int (fun _ _ => rfl)) pa_nil))) (pe_callTy (CallR.or call_str_int SkE.call_str_str) (by rfl) mStr (by decide +kernel) (pa_cons (pe_ix (ixt K) (pv 0) pe_int (fun _ _ => rfl)) pa_nil)))))), ?_⟩
    have sq : SqT K H t (itV it) := hit
    cases it with
    | gap =>
      refine ⟨_, rfl, t, _, (0 : Nat), _, rfl, rfl, sq, rfl, rfl, _, rfl, ite2 (fun _ => ?_) fun e => absurd (decide_eq_true rfl) e⟩
      exact k H (Same.refl H)
    | nd i =>
      refine ⟨_, rfl, t, _, (0 : Nat), _, rfl, rfl, sq, rfl, rfl, _, rfl, ite2 (fun e => absurd (V.str.inj (of_decide_eq_true e)) (by decide +kernel)) fun _ => ?_⟩
      refine ⟨_, rfl, t, _, (0 : Nat), _, rfl, rfl, sq, rfl, rfl, _, rfl, ite2 (fun _ => ?_) fun e => absurd (decide_eq_true rfl) e⟩
      have b1 : ((i : Nat) : Int).natAbs < 10 ^ 60 := Nat.lt_of_le_of_lt (show ((i : Nat) : Int).natAbs ≤ 1000000 from tx) (by decide)
      have ld : (decS (i : Nat)).length ≤ 61 := decS_len (by decide) b1
      refine ⟨_, rfl, t, _, (1 : Nat), _, rfl, rfl, sq, rfl, .inl ⟨_, rfl, log2_of (k := 200) (Nat.lt_trans b1 (by decide +kernel)) (by decide) (by decide), ?_⟩⟩
      have l1 : ("@" : Str).length = 1 := by decide +kernel
      refine ⟨("@" : Str), decS (i : Nat), rfl, rfl, Nat.le_trans (by rw [l1]; omega : _ ≤ 62) (by decide), ?_⟩
      have e : itemT (.nd i) = ("@" : Str) ++ decS (i : Nat) := by
        show (Str.empty ++ ("@" : Str)) ++ decS (i : Nat) = _
        rw [em_app]
      have q := k H (Same.refl H)
      rw [e] at q
      exact q
    | num n =>
      refine ⟨_, rfl, t, _, (0 : Nat), _, rfl, rfl, sq, rfl, rfl, _, rfl, ite2 (fun e => absurd (V.str.inj (of_decide_eq_true e)) (by decide +kernel)) fun _ => ?_⟩
      refine ⟨_, rfl, t, _, (0 : Nat), _, rfl, rfl, sq, rfl, rfl, _, rfl, ite2 (fun e => absurd (V.str.inj (of_decide_eq_true e)) (by decide +kernel)) fun _ => ?_⟩
      have b1 : n.natAbs < 10 ^ 60 := of_decide_eq_true tx
      exact ⟨_, rfl, t, _, (1 : Nat), _, rfl, rfl, sq, rfl, .inl ⟨_, rfl, log2_of (k := 200) (Nat.lt_trans b1 (by decide +kernel)) (by decide) (by decide), k H (Same.refl H)⟩⟩
    | wd z =>
      refine ⟨_, rfl, t, _, (0 : Nat), _, rfl, rfl, sq, rfl, rfl, _, rfl, ite2 (fun e => absurd (V.str.inj (of_decide_eq_true e)) (by decide +kernel)) fun _ => ?_⟩
      refine ⟨_, rfl, t, _, (0 : Nat), _, rfl, rfl, sq, rfl, rfl, _, rfl, ite2 (fun e => absurd (V.str.inj (of_decide_eq_true e)) (by decide +kernel)) fun _ => ?_⟩
      exact ⟨_, rfl, t, _, (1 : Nat), _, rfl, rfl, sq, rfl, .inr ⟨z, rfl, k H (Same.refl H)⟩⟩
end
end Mf
namespace Mf
open PySem L2
section
variable {P : Program} {w : World} {K : PySem.W.Frag} {mg : Str → Option Value} {base : Heap}
/-! ### _law_rows_text -/
def spLRText (K : PySem.W.Frag) : Sp := fun vs H Q _ => ∃ (p : Addr) (us : List Addr) (R : List (List Itm)), vs = [.ref p] ∧ LisR K H p us R ∧ TxRs R ∧ ∀ H', Same H H' → Q (.str (rowsT R)) H'
abbrev sLRText : Stmt := top 46
theorem scLRText : FnScope ["_law_rows", "_law_lines", "_law_k", "_law_row", "_law_item_here"] ["_law_rows"] (defScope sLRText) := ⟨rfl, rfl, rfl, by decide +kernel, rfl, by decide +kernel, by decide +kernel⟩
set_option maxHeartbeats 1000000 in
theorem ok_lrtext {f : Addr} {fd : FuncData} (F : Fun K "_law_rows_text" "_law_rows_text" sLRText f fd) (mStr : mg "str" = none) (mEnum : mg "enumerate" = none) (c_item_text : Cal P w K mg base CX0 1 "_law_item_text" ["_law_item_here"] (spLIText K)) : FnOk P w K mg base CX0 2 f fd ["_law_rows"] (spLRText K) := by
  refine F.ok scLRText (fun vs H Q E h => ?_) (fun cdv A outer s H vs Q E hr h => ?_)
  · obtain ⟨p, us, R, rfl, _⟩ := h
    rfl
  · obtain ⟨p, us, R, rfl, hR, rt, k⟩ := h
    have hr_item_text := hr
    refine ⟨_, (pss_cons (ps_set (i := 1) scLRText.nd rfl (by first | exact Or.inl rfl | exact Or.inr rfl) (pe_lst pa_nil))
      (pss_cons (ps_for PassesOwn.never rfl (pi_enum (by rfl) mEnum (pa_cons (pv 0) pa_nil)) (pg_tup rfl (pgs_cons (pg_name (i := 2) scLRText.nd rfl (by first | exact Or.inl rfl | exact Or.inr rfl)) (pgs_cons (pg_name (i := 3) scLRText.nd rfl (by first | exact Or.inl rfl | exact Or.inr rfl)) pgs_nil)))
        (pss_one (ps_expr (pe_bm PySem.F.plainAttrs_list PySem.F.slot_list_append PySem.F.type_list_append mt_append (pv 1) (pa_cons (pe_join pe_str (pe_op op_cat (pe_lst (pa_cons (pe_op op_add_str (pe_callTy call_str_int (by rfl) mStr (by decide +kernel) (pa_cons (pv 2) pa_nil)) pe_str) pa_nil)) (pe_lc (own := [("_law_item_here", 4)]) (g := (gName 4)) (tt := tYes) rfl scLRText.nd (pi_list (pv 3)) (blkOk_by (own := [("_law_item_here", 4)]) (N := ["_law_rows", "_law_lines", "_law_k", "_law_row", "_law_item_here"]) (sc := defScope sLRText) (by decide +kernel)) (fun _ _ _ _ _ => (pg_name (i := 4) scLRText.nd rfl (by first | exact Or.inl rfl | exact Or.inr rfl))) (fun _ _ _ _ _ => pts_nil) (fun _ _ _ _ _ => (pe_cal c_item_text hr_item_text pass0 (pa_cons (pv 4) pa_nil)))))) pa_nil)))))
      (pss_one (ps_ret (pe_join pe_str (pv 1)))))), ?_⟩
    obtain ⟨hp, pr⟩ := id hR
    have lu := Paired.length pr
    have few := rt.few
    have tx := rt.it
    have sz : (5000 : Nat) < sizeLine := by decide
    refine ⟨(by show 0 ≤ sizeLine; decide), fun L nL => ?_⟩
    have sL := Same.new (o := .lst []) nL
    refine ⟨_, rfl, p, _, rfl, .of (sL _ _ hp), ?_⟩
    refine for_it walk_enum (fun i σ H' => ∃ v2 v3 : Option V, σ = [some (.ref p), some (.ref L), v2, v3, none] ∧ Same H H' ∧ H' L = some (.lst (((List.range i).map fun i => rowT ((0 : Int) + (i : Nat)) (R.getD i [])).map V.str))) ⟨none, none, rfl, sL, upd_same⟩ (fun i σ H' _ q => by
      obtain ⟨_, _, _, s, _⟩ := q
      exact .of (s _ _ hp)) ?_ ?_
    · rintro i x σ H1 H2 hi ⟨v2, v3, rfl, s1, h1⟩ ⟨T, x1, y, rfl, hT, rfl, e1, e2⟩
      obtain rfl : x1 = .int (i : Nat) := (Option.some.inj e1).symm
      have e2 : (us.map V.ref)[i]? = some y := e2
      rw [List.getElem?_map] at e2
      obtain ⟨u, hu, rfl⟩ := Option.map_eq_some_iff.mp e2
      obtain ⟨row, hrow, ts, q1, q2⟩ := paired_get pr hu
      rw [List.length_map] at hi
      have rm := List.mem_of_getElem? hrow
      have r12 := rt.row row rm
      have lt := Paired.length q2
      have rg : R.getD i [] = row := by rw [List.getD_eq_getElem?_getD, hrow]; rfl
      have s2 := s1.trans (Same.new (o := .tup [.int (i : Nat), .ref u]) hT)
      have h2 := (Same.new (o := .tup [.int (i : Nat), .ref u]) hT) _ _ h1
      refine ⟨T, _, rfl, .of upd_same, rfl, _, _, rfl, _, _, rfl, rfl, ?_⟩
      generalize upd H1 T (.tup [.int (i : Nat), .ref u]) = H2 at s2 h2 ⊢
      refine ⟨_, rfl, .inl ⟨rfl, _, .of h2⟩, ?_⟩
      have i7 : ((i : Nat) : Int).natAbs < 10 ^ 7 := Nat.lt_of_lt_of_le (show ((i : Nat) : Int).natAbs < 1001 by omega) (by decide)
      have ld := decS_len (n := ((i : Nat) : Int)) (k := 7) (by decide) i7
      have cl : (":" : Str).length = 1 := by decide +kernel
      have q1' := rowT_parts i7 (tx row rm)
      have eh : (Str.empty ++ decS (i : Nat)) ++ (":" : Str) = decS (i : Nat) ++ (":" : Str) := by rw [em_app]
      refine ⟨⟨_, rfl⟩, _, rfl, ⟨_, rfl, log2_of (k := 200) (Nat.lt_trans i7 (by decide +kernel)) (by decide) (by decide), decS (i : Nat), (":" : Str), rfl, rfl, Nat.le_trans (by rw [cl]; omega : _ ≤ 9) (by decide), (by show 1 ≤ sizeLine; decide), fun l nl => ?_⟩⟩
      have q1l := (Same.new (o := .lst [V.str (decS (i : Nat) ++ (":" : Str))]) nl)
      have hl : (upd H2 l (.lst [V.str (decS (i : Nat) ++ (":" : Str))])) l = some (.lst [V.str (decS (i : Nat) ++ (":" : Str))]) := upd_same
      have s3 := s2.trans q1l
      have h3 := q1l _ _ h2
      refine ⟨_, rfl, u, rfl, ⟨_, .of (s3 _ _ q1)⟩, fun D nD => ?_⟩
      have nD0 : (upd H2 l (.lst [V.str (decS (i : Nat) ++ (":" : Str))])) D = none := nD
      have lD : l ≠ D := Ne.symm (ne_none nD hl)
      refine lc_it walk_list (fun m H' => Same (upd H2 l (.lst [V.str (decS (i : Nat) ++ (":" : Str))])) H' ∧ H' D = some (.lst (((row.take m).map itemT).map V.str))) ⟨Same.new nD, upd_same⟩ (fun m H' _ q => .of (q.1 _ _ (s3 _ _ q1))) ?_ ?_
      · rintro m x _ H4 hm ⟨s4, h4⟩ ⟨rfl, hx⟩
        rw [List.getElem?_map] at hx
        obtain ⟨t, ht, rfl⟩ := Option.map_eq_some_iff.mp hx
        obtain ⟨it, hit, sq⟩ := paired_get q2 ht
        rw [List.length_map] at hm
        refine ⟨rfl, yes_then ?_⟩
        refine ⟨_, rfl, t, it, rfl, (sq.same s3).same s4, tx row rm it (List.mem_of_getElem? hit), fun H5 s5 => ?_⟩
        have h5 := s5 _ _ h4
        refine ⟨_, h5, by rw [List.length_map, List.length_map, List.length_take]; omega, (s4.trans s5).mut nD0, ?_⟩
        rw [upd_same, List.take_add_one, hit, Option.toList_some, List.map_append, List.map_append]; rfl
      · rintro H4 ⟨s4, h4⟩
        rw [List.length_map, lt, List.take_length] at h4
        refine ⟨l, D, _, _, rfl, rfl, s4 _ _ hl, h4, by rw [List.length_map, List.length_map]; show 1 + _ ≤ _; omega, fun z nz => ?_⟩
        have hz : (upd H4 z (.lst ([V.str (decS (i : Nat) ++ (":" : Str))] ++ (row.map itemT).map V.str))) z = some (.lst ((((Str.empty ++ decS (i : Nat)) ++ (":" : Str)) :: row.map itemT).map V.str)) := by rw [upd_same, eh]; rfl
        have sz5 := Same.new (o := .lst ([V.str (decS (i : Nat) ++ (":" : Str))] ++ (row.map itemT).map V.str)) nz
        generalize upd H4 z (.lst ([V.str (decS (i : Nat) ++ (":" : Str))] ++ (row.map itemT).map V.str)) = H5 at hz sz5 ⊢
        refine ⟨_, z, _, rfl, rfl, .inl (.of hz), ?_, ?_⟩
        · have a := sum_le q1'
          rw [List.length_cons, List.length_map] at a
          rw [List.length_cons, List.length_map, sp_len]
          have b := Nat.mul_le_mul_right 61 (show row.length + 1 ≤ 13 by omega)
          omega
        · have h5 := sz5 _ _ (s4 _ _ h3)
          refine ⟨L, _, _, rfl, rfl, h5, by rw [List.length_map, List.length_map, List.length_range]; omega, ?_⟩
          refine ⟨_, _, rfl, ((s3.trans s4).trans sz5).mut nL, ?_⟩
          rw [upd_same, List.range_succ, List.map_append, List.map_append, List.map_cons, List.map_nil, rg, Int.zero_add]; rfl
    · rintro σ H1 ⟨v2, v3, rfl, s1, h1⟩
      rw [List.length_map, lu] at h1
      refine ⟨⟨_, rfl⟩, _, rfl, _, L, _, rfl, rfl, .inl (.of h1), ?_, k H1 s1⟩
      have parts : ∀ z ∈ (List.range R.length).map fun i => rowT ((0 : Int) + (i : Nat)) (R.getD i []), z.length ≤ 820 := fun z hz => by
        obtain ⟨i, hi, rfl⟩ := List.mem_map.mp hz
        have il := List.mem_range.mp hi
        have rm : R.getD i [] ∈ R := by rw [List.getD_eq_getElem?_getD, List.getElem?_eq_getElem il]; exact List.getElem_mem il
        exact rowT_len (Nat.lt_of_le_of_lt (by omega : _ ≤ 1000) (by decide)) (rt.row _ rm) (tx _ rm)
      have a := sum_le parts
      rw [List.length_map, List.length_range] at a
      rw [List.length_map, List.length_range]
      have e1 : ("\n" : Str).length = 1 := by decide +kernel
      rw [e1]
      have b := Nat.mul_le_mul_right 820 few
      omega
end
end Mf
namespace Mf
open PySem L2
theorem dec_free {n : Int} {s : Nat} (h : s < 45 ∨ 57 < s) : ¬ s ∈ TL.tl (decS n) := by
  cases n with
  | ofNat m =>
    have e := tl_nat m
    intro q
    have q : s ∈ TL.tl (decS (m : Nat)) := q
    rw [e] at q
    exact TL.numL_free (by omega) q
  | negSucc m =>
    rw [tl_neg m, List.mem_cons]
    rintro (q | q)
    · omega
    · exact TL.numL_free (by omega) q
theorem item_free {it : Itm} (h : TxI it) {s : Nat} (hs : s < 45) : ¬ s ∈ TL.tl (itemT it) := by
  cases it with
  | num n => exact dec_free (.inl hs)
  | wd z =>
    intro q
    have := (h.2.2 s q).1
    omega
  | gap =>
    show ¬ s ∈ TL.tl ("-" : Str)
    rw [minus_tl]
    intro q
    rw [List.mem_singleton.mp q] at hs
    omega
  | nd i =>
    rw [tl_at, List.mem_cons]
    rintro (q | q)
    · omega
    · exact TL.numL_free (.inl (by omega)) q
theorem colon_tl : TL.tl (":" : Str) = [58] := by decide +kernel
theorem sp_tl : TL.tl (" " : Str) = 32 :: [] := by decide +kernel
theorem head_free {n : Int} {s : Nat} (hs : s < 45) : ¬ s ∈ TL.tl ((Str.empty ++ decS n) ++ (":" : Str)) := by
  rw [TL.tl_append, TL.tl_append, colon_tl]
  intro q
  rcases List.mem_append.mp q with q | q
  · rcases List.mem_append.mp q with q | q
    · cases q
    · exact dec_free (.inl hs) q
  · rw [List.mem_singleton.mp q] at hs
    omega
theorem free_spc {z : Str} (h : ¬ 32 ∈ TL.tl z) : spc z = 0 := List.count_eq_zero.mpr h
theorem sum_zero : ∀ {ps : List Str}, (∀ p ∈ ps, spc p = 0) → (ps.map spc).sum = 0
  | [], _ => rfl
  | p :: ps, h => by
    rw [List.map_cons, List.sum_cons, h p List.mem_cons_self, sum_zero fun q hq => h q (List.mem_cons_of_mem _ hq)]
theorem row_spc {n : Int} {row : List Itm} (h : ∀ it ∈ row, TxI it) (l : row.length ≤ 12) : spc (rowT n row) ≤ 13 := by
  have q := join_spc (" " : Str) (((Str.empty ++ decS n) ++ (":" : Str)) :: row.map itemT)
  have z : ((((Str.empty ++ decS n) ++ (":" : Str)) :: row.map itemT).map spc).sum = 0 := sum_zero fun p hp => by
    rcases List.mem_cons.mp hp with rfl | hp
    · exact free_spc (head_free (by decide))
    · obtain ⟨it, hi, rfl⟩ := List.mem_map.mp hp
      exact free_spc (item_free (h it hi) (by decide))
  rw [z, show spc (" " : Str) = 1 by decide +kernel, List.length_cons, List.length_map] at q
  show spc (Txt.join _ _) ≤ _
  omega
theorem rows_small {R : List (List Itm)} (t : TxRs R) (l : R.length ≤ 43) : (rowsT R).length ≤ 36000 ∧ spc (rowsT R) ≤ 559 := by
  have rowAt : ∀ i ∈ List.range R.length, (∀ it ∈ R.getD i [], TxI it) ∧ (R.getD i []).length ≤ 12 := fun i hi => by
    have il := List.mem_range.mp hi
    have e : R.getD i [] = R[i] := by rw [List.getD_eq_getElem?_getD, List.getElem?_eq_getElem il]; rfl
    rw [e]
    exact ⟨t.it _ (List.getElem_mem il), t.row _ (List.getElem_mem il)⟩
  have parts : ∀ p ∈ (List.range R.length).map fun i => rowT ((0 : Int) + (i : Nat)) (R.getD i []), p.length ≤ 820 ∧ spc p ≤ 13 := fun p hp => by
    obtain ⟨i, hi, rfl⟩ := List.mem_map.mp hp
    obtain ⟨a, b⟩ := rowAt i hi
    have il := List.mem_range.mp hi
    exact ⟨rowT_len (Nat.lt_of_le_of_lt (by omega : _ ≤ 1000) (by decide)) b a, row_spc a b⟩
  have sums : ∀ (ps : List Str), (∀ p ∈ ps, spc p ≤ 13) → (ps.map spc).sum ≤ 13 * ps.length := fun ps h => by
    induction ps with
    | nil => exact Nat.zero_le _
    | cons p ps ih =>
      rw [List.map_cons, List.sum_cons, List.length_cons]
      have a := h p List.mem_cons_self
      have b := ih fun q hq => h q (List.mem_cons_of_mem _ hq)
      omega
  have q1 := joinT_len (y := ("\n" : Str)) (k := 820) (fun p hp => (parts p hp).1)
  have q2 := join_spc ("\n" : Str) ((List.range R.length).map fun i => rowT ((0 : Int) + (i : Nat)) (R.getD i []))
  have q3 := sums _ fun p hp => (parts p hp).2
  rw [List.length_map, List.length_range] at q1 q2 q3
  rw [show spc ("\n" : Str) = 0 by decide +kernel] at q2
  rw [show ("\n" : Str).length = 1 by decide +kernel] at q1
  refine ⟨?_, ?_⟩
  · show (Txt.join _ _).length ≤ _
    have := Nat.mul_le_mul_right 821 l
    omega
  · show spc (Txt.join _ _) ≤ _
    omega
theorem seq_at {i n : Nat} (h : i < n) : seqIndex? (i : Nat) n = some i := by
  unfold seqIndex?
  rw [if_neg (by omega : ¬ ((i : Nat) : Int) < 0)]
  simp [h]
theorem sum_era : ∀ (ps : List Str) (i : Nat) (f : Str → Nat) {y : Str}, ps[i]? = some y → ((ps.eraseIdx i).map f).sum + f y = (ps.map f).sum
  | [], _, _, _, h => by cases h
  | p :: ps, 0, f, y, h => by
    cases h
    rw [List.eraseIdx_cons_zero, List.map_cons, List.sum_cons]; omega
  | p :: ps, i + 1, f, y, h => by
    have := sum_era ps i f (y := y) h
    rw [List.eraseIdx_cons_succ, List.map_cons, List.map_cons, List.sum_cons, List.sum_cons]; omega
theorem era_map {α β : Type} (f : α → β) : ∀ (ps : List α) (k : Nat), (ps.map f).eraseIdx k = (ps.eraseIdx k).map f
  | [], _ => rfl
  | _ :: _, 0 => rfl
  | p :: ps, k + 1 => by
    rw [List.map_cons, List.eraseIdx_cons_succ, List.eraseIdx_cons_succ, List.map_cons, era_map f ps k]
section
variable {P : Program} {w : World} {K : PySem.W.Frag} {mg : Str → Option Value} {base : Heap} {CR CI : Addr}
/-! ### _law_bent -/
def spBent : Sp := fun vs H Q _ => ∃ (a : Addr) (z : Str) (n : Nat), vs = [.ref a, .str z] ∧ Src H a (n + 10) ∧ z.length ≤ 400000 ∧ ∀ z' H', z'.length ≤ 3 * z.length + 6 → spc z' ≤ 2 * spc z + 1 → Src H' a n → Q (.str z') H'
abbrev signs : List Str := [" ", "-", "@", ":", "a", "z", "0", "7", "A", "+", "_", "\n", "~"]
abbrev sBent : Stmt := top 47
theorem scBent : FnScope ["_law_source_here", "_law_text", "_law_way", "_law_at", "_law_sign", "_law_lines", "_law_line"] ["_law_source_here", "_law_text"] (defScope sBent) := ⟨rfl, rfl, rfl, by decide +kernel, rfl, by decide +kernel, by decide +kernel⟩
set_option maxHeartbeats 1000000 in
theorem ok_bent {f : Addr} {fd : FuncData} (F : Fun K "_law_bent" "_law_bent" sBent f fd) (c_draw : Cal P w K mg base CX0 1 "_law_draw" psD spDraw) (mLen : mg "len" = none) : FnOk P w K mg base CX0 2 f fd ["_law_source_here", "_law_text"] spBent := by
  refine F.ok scBent (fun vs H Q E h => ?_) (fun cdv A outer s H vs Q E hr h => ?_)
  · obtain ⟨a, z, n, rfl, _⟩ := h
    rfl
  · obtain ⟨a, z, n, rfl, S, lz, k⟩ := h
    have hr_draw := hr
    refine ⟨_, (pss_cons (ps_set (i := 2) scBent.nd rfl (by first | exact Or.inl rfl | exact Or.inr rfl) (pe_cal c_draw hr_draw pass0 (pa_cons (pv 0) (pa_cons pe_int pa_nil))))
      (pss_cons (ps_set (i := 3) scBent.nd rfl (by first | exact Or.inl rfl | exact Or.inr rfl) (pe_cal c_draw hr_draw pass0 (pa_cons (pv 0) (pa_cons (pe_op op_add (pe_callB call_len_str (by rfl) mLen (by decide +kernel) (pa_cons (pv 1) pa_nil)) pe_int) pa_nil))))
      (pss_cons (ps_set (i := 4) scBent.nd rfl (by first | exact Or.inl rfl | exact Or.inr rfl) (pe_ix (ixl K) (pe_lst (pa_cons pe_str (pa_cons pe_str (pa_cons pe_str (pa_cons pe_str (pa_cons pe_str (pa_cons pe_str (pa_cons pe_str (pa_cons pe_str (pa_cons pe_str (pa_cons pe_str (pa_cons pe_str (pa_cons pe_str (pa_cons pe_str pa_nil)))))))))))))) (pe_cal c_draw hr_draw pass0 (pa_cons (pv 0) (pa_cons pe_int pa_nil))) (fun _ _ => rfl)))
      (pss_cons (ps_if (pt_cmpR op_lt (pv 2) pe_int (nomark _))
        (pss_one (ps_ret (pe_op op_add_str (pe_op op_add_str (pe_slice sl_str (pv 1) po_none (po_some (pv 3))) (pv 4)) (pe_slice sl_str (pv 1) (po_some (pv 3)) po_none)))) pss_nil)
      (pss_cons (ps_if (pt_cmpR op_eq (pv 2) pe_int (nomark _))
        (pss_one (ps_ret (pe_op op_add_str (pe_slice sl_str (pv 1) po_none (po_some (pv 3))) (pe_slice sl_str (pv 1) (po_some (pe_op op_add (pv 3) pe_int)) po_none)))) pss_nil)
      (pss_cons (ps_if (pt_cmpR op_eq (pv 2) pe_int (nomark _))
        (pss_one (ps_ret (pe_op op_add_str (pe_op op_add_str (pe_slice sl_str (pv 1) po_none (po_some (pv 3))) (pv 4)) (pe_slice sl_str (pv 1) (po_some (pe_op op_add (pv 3) pe_int)) po_none)))) pss_nil)
      (pss_cons (ps_set (i := 5) scBent.nd rfl (by first | exact Or.inl rfl | exact Or.inr rfl) (pe_split (pv 1) pe_str))
      (pss_cons (ps_set (i := 6) scBent.nd rfl (by first | exact Or.inl rfl | exact Or.inr rfl) (pe_bm PySem.F.plainAttrs_list PySem.F.slot_list_pop PySem.F.type_list_pop mt_popAt (pv 5) (pa_cons (pe_cal c_draw hr_draw pass0 (pa_cons (pv 0) (pa_cons (pe_callB (k_len K) (by rfl) mLen (by decide +kernel) (pa_cons (pv 5) pa_nil)) pa_nil))) pa_nil)))
      (pss_cons (ps_if (pt_cmpR op_eq (pv 2) pe_int (nomark _))
        (pss_one (ps_ret (pe_join pe_str (pe_op op_cat (pv 5) (pe_slice sl_list (pe_lst (pa_cons (pv 6) (pa_cons (pv 6) pa_nil))) po_none (po_some (pe_cal c_draw hr_draw pass0 (pa_cons (pv 0) (pa_cons pe_int pa_nil))))))))) pss_nil)
      (pss_one (ps_ret (pe_join pe_str (pe_op op_cat (pe_lst (pa_cons (pv 6) pa_nil)) (pv 5)))))))))))))), ?_⟩
    have big : (16777000 : Nat) < sizeLine := by decide
    refine ⟨_, rfl, a, 6, n + 9, rfl, by decide, by decide, S, fun way H1 w0 w1 k1 S1 => ?_⟩
    refine ⟨_, rfl, _, rfl, z, rfl, (by omega), _, _, rfl, rfl, a, _, n + 8, rfl, (by omega), (by exact Nat.lt_trans (by omega : _ < 16777000) (by decide)), S1, fun at_ H2 a0 a1 k2 S2 => ?_⟩
    refine ⟨(by show 13 ≤ sizeLine; decide), fun l hl => ⟨_, rfl, a, 13, n + 7, rfl, by decide, by decide, S2.new hl, fun u H3 u0 u1 k3 S3 => ?_⟩⟩
    obtain ⟨x, hx, hat⟩ := atI_mem (xs := signs.map V.str) u0 u1
    obtain ⟨sg, msg, rfl⟩ : ∃ z, z ∈ signs ∧ x = .str z := let ⟨z, a, b⟩ := List.mem_map.mp hx; ⟨z, a, b.symm⟩
    have lsg : sg.length ≤ 1 ∧ spc sg ≤ 1 := (by decide +kernel : ∀ z ∈ signs, z.length ≤ 1 ∧ spc z ≤ 1) sg msg
    refine ⟨l, _, u, _, rfl, rfl, .of (k3 _ _ (S2.ne hl) upd_same), hat, ?_⟩
    have back : ∀ z' : Str, z'.length ≤ 3 * z.length + 6 → spc z' ≤ 2 * spc z + 1 → Q (.str z') H3 := fun z' h g => k z' H3 h g (S3.mono (by omega))
    obtain ⟨lsg, ssg⟩ := lsg
    -- the parts ahead of and behind a place: no more spaces than in the whole
    have two : ∀ b, spc (cutS z none (some at_)) + spc (cutS z (some b) none) ≤ 2 * spc z := fun b => by
      have := cut_spc z none (some at_)
      have := cut_spc z (some b) none
      omega
    refine ⟨_, rfl, _, _, rfl, rfl, _, rfl, ite2 (fun _ => ?_) fun _ => ?_⟩
    · have b1 := cutS_length z none (some at_)
      have b2 := cutS_length z (some at_) none
      have b3 := two at_
      exact ⟨_, rfl, _, rfl, _, rfl, _, rfl, (by omega), _, rfl, _, _, rfl, rfl, (by omega), _, rfl, _, rfl, _, rfl, _, rfl, (by omega), _, _, rfl, rfl, (by rw [app_len]; omega), back _ (by rw [app_len, app_len]; omega) (by rw [app_spc, app_spc]; omega)⟩
    refine ⟨_, rfl, rfl, _, rfl, ite2 (fun _ => ?_) fun _ => ?_⟩
    · have b1 := cutS_length z none (some at_)
      have b2 := cutS_length z (some (at_ + 1)) none
      have b3 := two (at_ + 1)
      exact ⟨_, rfl, _, rfl, _, rfl, _, rfl, (by omega), _, rfl, _, rfl, _, _, rfl, rfl, _, rfl, _, rfl, (by omega), _, _, rfl, rfl, (by omega), back _ (by rw [app_len]; omega) (by rw [app_spc]; omega)⟩
    refine ⟨_, rfl, rfl, _, rfl, ite2 (fun _ => ?_) fun _ => ?_⟩
    · have b1 := cutS_length z none (some at_)
      have b2 := cutS_length z (some (at_ + 1)) none
      have b3 := two (at_ + 1)
      exact ⟨_, rfl, _, rfl, _, rfl, _, rfl, (by omega), _, rfl, _, _, rfl, rfl, (by omega), _, rfl, _, rfl, _, _, rfl, rfl, _, rfl, _, rfl, (by omega), _, _, rfl, rfl, (by rw [app_len]; omega), back _ (by rw [app_len, app_len]; omega) (by rw [app_spc, app_spc]; omega)⟩
    have c1 : ("\n" : Str).length = 1 := by decide +kernel
    have c0 : spc ("\n" : Str) = 0 := by decide +kernel
    obtain ⟨q1, q2, q3⟩ := split_sum z ("\n" : Str) nl_ne (by decide +kernel)
    have q4 := part_spc z
    refine ⟨_, rfl, ⟨_, rfl⟩, _, _, rfl, rfl, (by rw [c1]; decide), (by omega), fun L nL => ?_⟩
    have S4 := S3.new (o := .lst ((Txt.split z ("\n" : Str)).map V.str)) nL
    have hL : (upd H3 L (.lst ((Txt.split z ("\n" : Str)).map V.str))) L = some (.lst ((Txt.split z ("\n" : Str)).map V.str)) := upd_same
    have La : L ≠ a := S3.ne nL
    generalize upd H3 L (.lst ((Txt.split z ("\n" : Str)).map V.str)) = H4 at S4 hL
    generalize Txt.split z ("\n" : Str) = ps at q1 q2 q3 q4 hL
    have pos : 0 < ps.length := List.length_pos_iff.mpr q3
    refine ⟨_, rfl, .inl ⟨rfl, _, .of hL⟩, _, rfl, _, rfl, L, _, rfl, .inl (.of hL), a, _, n + 6, rfl, (by rw [List.length_map]; omega), (by rw [List.length_map]; exact Nat.lt_trans (by omega : _ < 16777000) (by decide)), S4.mono (by omega), fun kv H5 kv0 kv1 k5 S5 => ?_⟩
    have h5 := k5 _ _ La hL
    rw [List.length_map] at kv1
    obtain ⟨ki, rfl⟩ := Int.eq_ofNat_of_zero_le kv0
    obtain ⟨yk, hyk⟩ : ∃ y, ps[ki]? = some y := ⟨_, List.getElem?_eq_getElem (by omega)⟩
    have lk := le_sum (List.mem_of_getElem? hyk)
    have sk := le_spc (List.mem_of_getElem? hyk)
    refine ⟨L, _, _, ki, .str yk, rfl, rfl, h5, by omega, by omega, seq_at (by rw [List.length_map]; omega), by rw [List.getElem?_map, hyk]; rfl, ?_⟩
    rw [era_map]
    have es := sum_era ps ki (·.length) hyk
    have e2 := sum_era ps ki spc hyk
    have el : (ps.eraseIdx ki).length ≤ ps.length := List.length_eraseIdx_le ps ki
    have h6 : (upd H5 L (.lst ((ps.eraseIdx ki).map V.str))) L = some (.lst ((ps.eraseIdx ki).map V.str)) := upd_same
    have S6 : Src (upd H5 L (.lst ((ps.eraseIdx ki).map V.str))) a (n + 6) := S5.put La
    generalize upd H5 L (.lst ((ps.eraseIdx ki).map V.str)) = H6 at h6 S6 ⊢
    generalize ps.eraseIdx ki = qs at es e2 el h6
    have fin : ∀ (ps' : List Str) (H' : Hp), (ps'.map (·.length)).sum ≤ 2 * z.length + 2 → ps'.length ≤ z.length + 3 → (ps'.map spc).sum ≤ 2 * spc z → Src H' a n → Q (.str (Txt.join ("\n" : Str) ps')) H' := fun ps' H' h1 h2 h3 S' => by
      have j1 := join_len ("\n" : Str) ps'
      have j2 := join_spc ("\n" : Str) ps'
      rw [c1] at j1
      rw [c0] at j2
      exact k _ H' (by omega) (by omega) S'
    have sz : ∀ (ps' : List Str), (ps'.map (·.length)).sum ≤ 2 * z.length + 2 → ps'.length ≤ z.length + 3 → (ps'.map (·.length)).sum + ps'.length * ("\n" : Str).length ≤ sizeLine := fun ps' h1 h2 => by rw [c1]; omega
    refine ⟨_, rfl, rfl, _, rfl, ite2 (fun _ => ?_) fun _ => ?_⟩
    · refine ⟨⟨_, rfl⟩, _, rfl, ?_⟩
      refine ⟨_, rfl, _, rfl, (by show 2 ≤ sizeLine; decide), fun M nM => ?_⟩
      have S7 := S6.new (o := .lst [V.str yk, V.str yk]) nM
      have hM : (upd H6 M (.lst [V.str yk, V.str yk])) M = some (.lst [V.str yk, V.str yk]) := upd_same
      have h7 : (upd H6 M (.lst [V.str yk, V.str yk])) L = some (.lst (qs.map V.str)) := (upd_ne (fun q => by rw [q, nM] at h6; cases h6)).trans h6
      have Ma : M ≠ a := S6.ne nM
      generalize upd H6 M (.lst [V.str yk, V.str yk]) = H7 at S7 hM h7
      refine ⟨_, rfl, a, 3, n + 5, rfl, (by decide), (by decide), S7, fun u H8 u0 u1 k8 S8 => ?_⟩
      have h8 := k8 _ _ La h7
      obtain ⟨ds, eds, mds⟩ : ∃ ds : List Str, cutV [V.str yk, V.str yk] none (some u) = ds.map V.str ∧ (ds = [] ∨ ds = [yk] ∨ ds = [yk, yk]) := by
        rcases (by omega : u = 0 ∨ u = 1 ∨ u = 2) with rfl | rfl | rfl
        · exact ⟨[], rfl, .inl rfl⟩
        · exact ⟨[yk], rfl, .inr (.inl rfl)⟩
        · exact ⟨[yk, yk], rfl, .inr (.inr rfl)⟩
      refine ⟨_, rfl, M, _, rfl, .inl (.of (k8 _ _ Ma hM)), fun p np => ?_⟩
      rw [eds]
      have S9 := S8.new (o := .lst (ds.map V.str)) np
      have hp : (upd H8 p (.lst (ds.map V.str))) p = some (.lst (ds.map V.str)) := upd_same
      have h9 : (upd H8 p (.lst (ds.map V.str))) L = some (.lst (qs.map V.str)) := (upd_ne (fun q => by rw [q, np] at h8; cases h8)).trans h8
      generalize upd H8 p (.lst (ds.map V.str)) = H9 at S9 hp h9
      have all : ∀ f : Str → Nat, ((qs ++ ds).map f).sum ≤ (qs.map f).sum + 2 * f yk := fun f => by
        rw [List.map_append, List.sum_append]
        rcases mds with rfl | rfl | rfl
        · show _ + 0 ≤ _; omega
        · show _ + (f yk + 0) ≤ _; omega
        · show _ + (f yk + (f yk + 0)) ≤ _; omega
      have dl : ds.length ≤ 2 := by rcases mds with rfl | rfl | rfl <;> simp
      refine ⟨L, p, _, _, rfl, rfl, h9, hp, by rw [List.length_map, List.length_map]; exact Nat.le_trans (by omega : _ ≤ 16777000) (by decide), fun q nq => ?_⟩
      refine ⟨_, q, qs ++ ds, rfl, rfl, .inl (.of (by rw [List.map_append]; exact upd_same)), sz _ ?_ ?_, fin _ _ ?_ ?_ ?_ ((S9.new nq).mono (by omega))⟩
      · have := all (·.length); omega
      · rw [List.length_append]; omega
      · have := all (·.length); omega
      · rw [List.length_append]; omega
      · have := all spc; omega
    · refine ⟨⟨_, rfl⟩, _, rfl, (by show 1 ≤ sizeLine; decide), fun M nM => ?_⟩
      have S7 := S6.new (o := .lst [V.str yk]) nM
      have hM : (upd H6 M (.lst [V.str yk])) M = some (.lst [V.str yk]) := upd_same
      have h7 : (upd H6 M (.lst [V.str yk])) L = some (.lst (qs.map V.str)) := (upd_ne (fun q => by rw [q, nM] at h6; cases h6)).trans h6
      generalize upd H6 M (.lst [V.str yk]) = H7 at S7 hM h7
      refine ⟨_, rfl, _, _, _, _, rfl, rfl, hM, h7, by rw [List.length_map]; exact Nat.le_trans (by show 1 + qs.length ≤ 16777000; omega) (by decide), fun p np => ?_⟩
      refine ⟨_, p, yk :: qs, rfl, rfl, .inl (.of upd_same), sz _ ?_ ?_, fin _ _ ?_ ?_ ?_ ((S7.new np).mono (by omega))⟩
      · rw [List.map_cons, List.sum_cons]; omega
      · rw [List.length_cons]; omega
      · rw [List.map_cons, List.sum_cons]; omega
      · rw [List.length_cons]; omega
      · rw [List.map_cons, List.sum_cons]; omega
end
end Mf
namespace Mf
open PySem L2
theorem dig_mem (c : Nat) : decide (c ∈ ("0123456789" : Str).cps.toList) = (decide (48 ≤ c) && decide (c ≤ 57)) := by
  have e : ("0123456789" : Str).cps.toList = [48, 49, 50, 51, 52, 53, 54, 55, 56, 57] := by decide +kernel
  rw [e, ← Bool.decide_and]
  refine decide_eq_decide.mpr ?_
  simp only [List.mem_cons, List.not_mem_nil, or_false]
  omega
theorem val_lt : ∀ (n : Nat) (cs : List Nat), cs.length = n → NumText.AllDigits cs → NumText.digitsVal cs < 10 ^ n := by
  intro n
  induction n with
  | zero =>
    intro cs l _
    rw [List.length_eq_zero_iff.mp l]; decide
  | succ n ih =>
    intro cs l dg
    have ne : cs ≠ [] := fun e => by rw [e] at l; cases l
    obtain ⟨pre, d, rfl⟩ : ∃ pre d, cs = pre ++ [d] := ⟨cs.dropLast, cs.getLast ne, (List.dropLast_concat_getLast ne).symm⟩
    have hd9 := dg d (List.mem_append_right _ (List.mem_singleton.mpr rfl))
    have q := ih pre (by rw [List.length_append] at l; simpa using l) fun x hx => dg x (List.mem_append_left _ hx)
    rw [NumText.digitsVal_snoc, Nat.pow_succ]
    omega
theorem val_small {z : Str} (l1 : 1 ≤ z.length) (l2 : z.length ≤ 60) (dg : digB z = true) : (valZ z).natAbs < 10 ^ 60 := by
  rw [val_dig l1 l2 dg, Int.natAbs_natCast]
  exact Nat.lt_of_lt_of_le (val_lt _ _ rfl (dig_all dg)) (Nat.pow_le_pow_right (by decide) (by rw [← TL.len_tl]; exact l2))
theorem readL_not {w : Str} (n1 : w ≠ ("-" : Str)) (n2 : ¬ nameB w = true) (h : figs w = "" ∨ 60 < (figs w).length ∨ digB (figs w) = false) : readL w = .tp [] := by
  unfold readL
  rw [if_neg n1, if_neg n2, if_pos h]
section
variable {P : Program} {w : World} {K : PySem.W.Frag} {mg : Str → Option Value} {base : Heap} {CR CI : Addr}
/-! ### _law_read_item -/
def spRdItem (K : PySem.W.Frag) : Sp := fun vs H Q _ => ∃ z : Str, vs = [.str z] ∧ z.length ≤ 1000000 ∧ ∀ v H', Same H H' → ItG K H' v (readL z) → Q v H'
abbrev sRdItem : Stmt := top 48
theorem scRdItem : FnScope ["_law_text", "_law_figures", "_law_sign"] ["_law_text"] (defScope sRdItem) := ⟨rfl, rfl, rfl, by decide +kernel, rfl, by decide +kernel, by decide +kernel⟩
set_option maxHeartbeats 1000000 in
theorem ok_rditem {f : Addr} {fd : FuncData} (F : Fun K "_law_read_item" "_law_read_item" sRdItem f fd) (mInt : mg "int" = none) (mStr : mg "str" = none) (mLen : mg "len" = none) (mAll : mg "all" = none) (c_is_name : Cal P w K mg base CX0 1 "_law_is_name" ["_law_thing"] spIsNameG) : FnOk P w K mg base CX0 2 f fd ["_law_text"] (spRdItem K) := by
  refine F.ok scRdItem (fun vs H Q E h => ?_) (fun cdv A outer s H vs Q E hr h => ?_)
  · obtain ⟨it, rfl, _⟩ := h
    rfl
  · obtain ⟨z, rfl, hz, k⟩ := h
    have hr_is_name := hr
    refine ⟨_, (pss_cons (ps_if (pt_cmpR op_eq (pv 0) pe_str (nomark _))
        (pss_one (ps_ret (pe_tup (pa_cons pe_str pa_nil)))) pss_nil)
      (pss_cons (ps_if (pt_val (pe_cal c_is_name hr_is_name pass0 (pa_cons (pv 0) pa_nil)))
        (pss_one (ps_ret (pe_tup (pa_cons pe_str (pa_cons (pv 0) pa_nil))))) pss_nil)
      (C8.pss_cut (ps_set (i := 1) scRdItem.nd rfl (by first | exact Or.inl rfl | exact Or.inr rfl) (pe_ifExp (pt_cmpR (oin K) (pe_slice sl_str (pv 0) po_none (po_some pe_int)) (pe_tup (pa_cons pe_str (pa_cons pe_str pa_nil))) (by rfl)) (pe_slice sl_str (pv 0) (po_some pe_int) po_none) (pv 0)))
      (pss_cons (ps_if (PW.pt (pw_or (pt_cmpR op_eq (pv 1) pe_str (nomark _)) (pw_or (pt_cmpR op_gt (pe_callB call_len_str (by rfl) mLen (by decide +kernel) (pa_cons (pv 1) pa_nil)) pe_int (nomark _)) (pw_or1 (pt_not (pt_val (pe_callB (k_all K) (by rfl) mAll (by decide +kernel) (pa_cons (pe_lc (own := [("_law_sign", 2)]) (g := (gName 2)) (tt := tYes) rfl scRdItem.nd (pi_str (pv 1)) (blkOk_by (own := [("_law_sign", 2)]) (N := ["_law_text", "_law_figures", "_law_sign"]) (sc := defScope sRdItem) (by decide +kernel)) (fun _ _ _ _ _ => (pg_name (i := 2) scRdItem.nd rfl (by first | exact Or.inl rfl | exact Or.inr rfl))) (fun _ _ _ _ _ => pts_nil) (fun _ _ _ _ _ => (pe_cmpR op_in_sign (pv 2) pe_str (by rfl)))) pa_nil))))))))
        (pss_one (ps_ret (pe_tup pa_nil))) pss_nil)
      (pss_cons (ps_if (PW.pt (pw_or (pt_cmpR op_ne (pe_callTy call_str_int (by rfl) mStr (by decide +kernel) (pa_cons (pe_callTy call_int_str (by rfl) mInt (by decide +kernel) (pa_cons (pv 1) pa_nil)) pa_nil)) (pv 1) (nomark _)) (pw_or1 (pt_cmpR op_eq (pv 0) pe_str (nomark _)))))
        (pss_one (ps_ret (pe_tup pa_nil))) pss_nil)
      (pss_cons (ps_if (pt_cmpR op_eq (pe_slice sl_str (pv 0) po_none (po_some pe_int)) pe_str (nomark _))
        (pss_one (ps_ret (pe_tup (pa_cons pe_str (pa_cons (pe_callTy call_int_str (by rfl) mInt (by decide +kernel) (pa_cons (pv 1) pa_nil)) pa_nil))))) pss_nil)
      (pss_one (ps_ret (pe_tup (pa_cons pe_str (pa_cons (pe_ifExp (pt_cmpR op_eq (pe_slice sl_str (pv 0) po_none (po_some pe_int)) pe_str (nomark _)) (pe_op op_sub pe_int (pe_callTy call_int_str (by rfl) mInt (by decide +kernel) (pa_cons (pv 1) pa_nil))) (pe_callTy call_int_str (by rfl) mInt (by decide +kernel) (pa_cons (pv 1) pa_nil))) pa_nil))))))))))), ?_⟩
    have s1 : z.length ≤ sizeLine := Nat.le_trans hz (by decide)
    have cl : ∀ a b, (cutS z a b).length ≤ 1000000 := fun a b => Nat.le_trans (cutS_length z a b) hz
    refine ⟨_, rfl, rfl, _, rfl, ite2 (fun e => ?_) fun e => ?_⟩
    · have e : z = ("-" : Str) := V.str.inj (of_decide_eq_true e)
      refine ⟨(by show 1 ≤ sizeLine; decide), fun t nt => k _ _ (Same.new nt) ?_⟩
      have er : readL z = gapO := by unfold readL; rw [if_pos e]
      rw [er]
      exact ⟨t, rfl, .of upd_same⟩
    have n1 : z ≠ ("-" : Str) := fun q => e (decide_eq_true (by rw [q]))
    refine ⟨_, rfl, .s z, rfl, hz, fun H1 s2 => ⟨nameB z, rfl, ?_⟩⟩
    cases nb : nameB z with
    | true =>
      refine iteT ⟨_, rfl, (by show 2 ≤ sizeLine; decide), fun t nt => k _ _ (s2.trans (Same.new nt)) ?_⟩
      have er : readL z = .tp [.s "word", .s z] := by unfold readL; rw [if_neg n1, if_pos nb]
      rw [er]
      exact ⟨t, rfl, .of upd_same⟩
    | false =>
      have n2 : ¬ nameB z = true := fun q => by rw [nb] at q; cases q
      refine iteF ?_
      refine ⟨fun σ' H' => σ' = [some (.str z), some (.str (figs z)), none] ∧ Same H H', ?_, ?_⟩
      · refine ⟨_, rfl, 1, rfl, _, rfl, s1, ?_⟩
        refine ⟨(by show 2 ≤ sizeLine; decide), fun t nt => ?_⟩
        have st := s2.trans (Same.new (o := .tup [.str "@", .str "-"]) nt)
        refine ⟨t, _, rfl, .inr (.of upd_same), rfl, rfl, _, rfl, ?_⟩
        have ein : inV (.str (sgn z)) [.str "@", .str "-"] = decide (sgn z ∈ [("@" : Str), ("-" : Str)]) := inV_str (zs := ["@", "-"])
        show if (inV (.str (sgn z)) [.str "@", .str "-"]) = true then _ else _
        rw [ein]
        refine ite2 (fun q => ?_) fun q => ?_
        · have q := of_decide_eq_true q
          refine ⟨_, rfl, 1, rfl, _, rfl, s1, ?_, st⟩
          have ef : figs z = cutS z (some 1) none := by unfold figs; rw [if_pos (by simpa using q)]
          rw [ef]; rfl
        · refine ⟨_, rfl, ?_, st⟩
          have ef : figs z = z := by unfold figs; rw [if_neg (fun h => q (decide_eq_true (by simpa using h)))]
          rw [ef]; rfl
      rintro σ H2 ⟨rfl, s3⟩
      have lf : (figs z).length ≤ 1000000 := by
        unfold figs
        split
        · exact cl _ _
        · exact hz
      have nil : ∀ H3, Same H H3 → readL z = .tp [] → ∀ t, H3 t = none → Q (.ref t) (upd H3 t (.tup [])) := fun H3 s er t nt => by
        refine k _ _ (s.trans (Same.new nt)) ?_
        rw [er]
        exact ⟨t, rfl, .of upd_same⟩
      refine ⟨_, rfl, rfl, _, rfl, ite2 (fun q => ?_) fun q => ?_⟩
      · have q : figs z = "" := V.str.inj (of_decide_eq_true q)
        exact iteT ⟨(by show 0 ≤ sizeLine; decide), nil _ s3 (readL_not n1 n2 (.inl q))⟩
      have f0 : figs z ≠ "" := fun e => q (decide_eq_true (by rw [e]))
      refine ⟨_, rfl, _, rfl, Nat.le_trans lf (by decide), _, _, rfl, rfl, _, rfl, ite2 (fun q => ?_) fun q => ?_⟩
      · have q := of_decide_eq_true q
        exact iteT ⟨(by show 0 ≤ sizeLine; decide), nil _ s3 (readL_not n1 n2 (.inr (.inl (by omega))))⟩
      have f60 : (figs z).length ≤ 60 := by
        by_cases c : (figs z).length ≤ 60
        · exact c
        · exact absurd (decide_eq_true (by omega)) q
      have l1 : 1 ≤ (figs z).length := by
        by_cases q : 1 ≤ (figs z).length
        · exact q
        · refine absurd (TL.ext_tl ?_) f0
          rw [TL.len_tl] at q
          have : TL.tl (figs z) = [] := List.length_eq_zero_iff.mp (by omega)
          rw [this]; rfl
      refine ⟨_, rfl, _, rfl, fun D hD => ?_⟩
      refine lc_it walk_str (fun i H' => H' D = some (.lst ((((figs z).cps.toList.take i).map fun c => decide (48 ≤ c) && decide (c ≤ 57)).map V.bl)) ∧ Same H H') ⟨upd_same, s3.trans (Same.new hD)⟩ (fun _ _ _ _ => trivial) ?_ ?_
      · rintro i x H4 H5 hi ⟨h4, s4⟩ ⟨rfl, c, hc, rfl⟩
        refine ⟨rfl, yes_then ?_⟩
        have hc' : (figs z).cps.toList[i]? = some c := by rw [Array.getElem?_toList]; exact hc
        have hlen : i < (figs z).length := hi
        refine ⟨_, rfl, c, _, rfl, rfl, _, h4, ?_, ?_, ?_⟩
        · rw [List.length_map, List.length_map]
          exact Nat.lt_of_le_of_lt (List.length_take_le _ _) (Nat.lt_of_lt_of_le (by omega : i < 60) (by decide))
        · rw [upd_same, List.take_add_one, hc', List.map_append, List.map_append, dig_mem]; rfl
        · exact s4.mut (s3.free hD)
      rintro H4 ⟨h4, s4⟩
      have e : digB (figs z) = ((((figs z).cps.toList.take (figs z).cps.size).map fun c => decide (48 ≤ c) && decide (c ≤ 57)).all id) := by
        unfold digB
        rw [List.take_of_length_le (by rw [Array.length_toList]; exact Nat.le_refl _), List.all_map]
        rfl
      cases dg : digB (figs z) with
      | false =>
        rw [dg] at e
        exact ⟨D, _, rfl, .of h4, false, congrArg V.bl e.symm, iteT ⟨(by show 0 ≤ sizeLine; decide), nil _ s4 (readL_not n1 n2 (.inr (.inr dg)))⟩⟩
      | true =>
        rw [dg] at e
        refine ⟨D, _, rfl, .of h4, true, congrArg V.bl e.symm, iteF ?_⟩
        have iv : PySem.intText? (figs z) = some (valZ (figs z)) := by rw [val_dig l1 f60 dg, int_dig l1 f60 dg]
        have vs := val_small l1 f60 dg
        have l640 : (figs z).length ≤ 640 := by omega
        have nc : ¬ (figs z = "" ∨ 60 < (figs z).length ∨ digB (figs z) = false) := fun q => by
          rcases q with q | q | q
          · exact f0 q
          · omega
          · rw [dg] at q; cases q
        refine ⟨_, rfl, _, _, rfl, iv, l640, _, rfl, log2_of (k := 200) (Nat.lt_trans vs (by decide +kernel)) (by decide) (by decide), _, rfl, rfl, _, rfl, ite2 (fun q => ?_) fun q => ?_⟩
        · refine iteT ⟨(by show 0 ≤ sizeLine; decide), nil _ s4 ?_⟩
          have hne : decS (valZ (figs z)) ≠ figs z := fun e => by
            rw [show Str.ofString (toString (valZ (figs z))) = figs z from e] at q
            simp at q
          unfold readL
          rw [if_neg n1, if_neg n2, if_neg nc, if_pos (.inl hne)]
        have ed : decS (valZ (figs z)) = figs z := by
          refine Classical.byContradiction fun c => q ?_
          simp only [Bool.not_eq_true', decide_eq_false_iff_not]
          intro e
          exact c (V.str.inj e)
        refine ⟨_, rfl, rfl, _, rfl, ite2 (fun q => ?_) fun q => ?_⟩
        · have q : z = "-0" := V.str.inj (of_decide_eq_true q)
          refine ⟨(by show 0 ≤ sizeLine; decide), nil _ s4 ?_⟩
          unfold readL
          rw [if_neg n1, if_neg n2, if_neg nc, if_pos (.inr q)]
        have m0 : z ≠ "-0" := fun e => q (decide_eq_true (by rw [e]))
        have er : readL z = if sgn z = "@" then .tp [.s "node", .i (valZ (figs z))] else .tp [.s "number", .i (if sgn z = "-" then 0 - valZ (figs z) else valZ (figs z))] := by
          unfold readL
          rw [if_neg n1, if_neg n2, if_neg nc, if_neg]
          rintro (q | q)
          · exact q ed
          · exact m0 q
        rw [er] at k
        refine ⟨_, rfl, 1, rfl, _, rfl, s1, rfl, _, rfl, ite2 (fun q => ?_) fun q => ?_⟩
        · have q : sgn z = "@" := V.str.inj (of_decide_eq_true q)
          rw [if_pos q] at k
          exact ⟨_, rfl, _, _, rfl, iv, l640, (by show 2 ≤ sizeLine; decide), fun t nt => k _ _ (s4.trans (Same.new nt)) ⟨t, rfl, .of upd_same⟩⟩
        have q : ¬ sgn z = "@" := fun e => q (decide_eq_true (congrArg V.str e))
        rw [if_neg q] at k
        refine ⟨_, rfl, 1, rfl, _, rfl, s1, rfl, _, rfl, ite2 (fun q => ?_) fun q => ?_⟩
        · have q : sgn z = "-" := V.str.inj (of_decide_eq_true q)
          rw [if_pos q] at k
          exact ⟨_, rfl, _, _, rfl, iv, l640, _, _, rfl, rfl, (by show 2 ≤ sizeLine; decide), fun t nt => k _ _ (s4.trans (Same.new nt)) ⟨t, rfl, .of upd_same⟩⟩
        · have q : ¬ sgn z = "-" := fun e => q (decide_eq_true (congrArg V.str e))
          rw [if_neg q] at k
          exact ⟨_, rfl, _, _, rfl, iv, l640, (by show 2 ≤ sizeLine; decide), fun t nt => k _ _ (s4.trans (Same.new nt)) ⟨t, rfl, .of upd_same⟩⟩
/-! ### _law_read_rows -/
theorem cut_rest (x : V) (xs : List V) : cutV (x :: xs) (some 1) none = xs := by
  have h1 : HT.sIx (x :: xs).length 0 (some ((1 : Nat) : Int)) = min 1 (x :: xs).length := HT.sIx_nat ..
  have h2 : HT.sIx (x :: xs).length (x :: xs).length none = (x :: xs).length := rfl
  have e : cutV (x :: xs) (some 1) none = cutV (x :: xs) (some ((1 : Nat) : Int)) none := rfl
  rw [e]
  unfold cutV
  rw [h1, h2, List.length_cons, show min 1 (xs.length + 1) = 1 by omega, List.drop_succ_cons, List.drop_zero]
  exact List.take_of_length_le (by omega)
theorem readL_tp (w : Str) : ∃ xs, readL w = .tp xs := by
  unfold readL
  split
  · exact ⟨_, rfl⟩
  · split
    · exact ⟨_, rfl⟩
    · split
      · exact ⟨_, rfl⟩
      · split
        · exact ⟨_, rfl⟩
        · split <;> exact ⟨_, rfl⟩
abbrev badL : Oi := .tp []
def rowsL (z : Str) : List (List Oi) := rowsF readL badL 0 (Txt.split z ("\n" : Str))
def spRdRows (K : PySem.W.Frag) : Sp := fun vs H Q _ => ∃ z : Str, vs = [.str z] ∧ z.length ≤ 1000000 ∧ ∀ p us H', LisG K H' p us (rowsL z) → Same H H' → Q (.ref p) H'
abbrev sRdRows : Stmt := top 49
theorem scRdRows : FnScope ["_law_text", "_law_rows", "_law_k", "_law_line", "_law_words", "_law_word"] ["_law_text"] (defScope sRdRows) := ⟨rfl, rfl, rfl, by decide +kernel, rfl, by decide +kernel, by decide +kernel⟩
set_option maxHeartbeats 1000000 in
theorem ok_rdrows {f : Addr} {fd : FuncData} (F : Fun K "_law_read_rows" "_law_read_rows" sRdRows f fd) (mStr : mg "str" = none) (mEnum : mg "enumerate" = none) (c_read_item : Cal P w K mg base CX0 2 "_law_read_item" ["_law_text"] (spRdItem K)) : FnOk P w K mg base CX0 3 f fd ["_law_text"] (spRdRows K) := by
  refine F.ok scRdRows (fun vs H Q E h => ?_) (fun cdv A outer s H vs Q E hr h => ?_)
  · obtain ⟨z, rfl, _⟩ := h
    rfl
  · obtain ⟨z, rfl, lz, k⟩ := h
    have hr_read_item := hr
    refine ⟨_, (pss_cons (ps_set (i := 1) scRdRows.nd rfl (by first | exact Or.inl rfl | exact Or.inr rfl) (pe_lst pa_nil))
      (pss_cons (ps_for PassesOwn.never rfl (pi_enum (by rfl) mEnum (pa_cons (pe_split (pv 0) pe_str) pa_nil)) (pg_tup rfl (pgs_cons (pg_name (i := 2) scRdRows.nd rfl (by first | exact Or.inl rfl | exact Or.inr rfl)) (pgs_cons (pg_name (i := 3) scRdRows.nd rfl (by first | exact Or.inl rfl | exact Or.inr rfl)) pgs_nil)))
        (pss_cons (ps_set (i := 4) scRdRows.nd rfl (by first | exact Or.inl rfl | exact Or.inr rfl) (pe_split (pv 3) pe_str))
        (pss_one (ps_if (pt_cmpR op_eq (pe_ix (ixl K) (pv 4) pe_int (fun _ _ => rfl)) (pe_op op_add_str (pe_callTy call_str_int (by rfl) mStr (by decide +kernel) (pa_cons (pv 2) pa_nil)) pe_str) (nomark _))
          (pss_one (ps_expr (pe_bm PySem.F.plainAttrs_list PySem.F.slot_list_append PySem.F.type_list_append mt_append (pv 1) (pa_cons (pe_lc (own := [("_law_word", 5)]) (g := (gName 5)) (tt := tYes) rfl scRdRows.nd (pi_list (pe_slice sl_list (pv 4) (po_some pe_int) po_none)) (blkOk_by (own := [("_law_word", 5)]) (N := ["_law_text", "_law_rows", "_law_k", "_law_line", "_law_words", "_law_word"]) (sc := defScope sRdRows) (by decide +kernel)) (fun _ _ _ _ _ => (pg_name (i := 5) scRdRows.nd rfl (by first | exact Or.inl rfl | exact Or.inr rfl))) (fun _ _ _ _ _ => pts_nil) (fun _ _ _ _ _ => (pe_cal c_read_item hr_read_item pass0 (pa_cons (pv 5) pa_nil)))) pa_nil)))) (pss_one (ps_expr (pe_bm PySem.F.plainAttrs_list PySem.F.slot_list_append PySem.F.type_list_append mt_append (pv 1) (pa_cons (pe_lst (pa_cons (pe_tup pa_nil) pa_nil)) pa_nil))))))))
      (pss_one (ps_ret (pv 1))))), ?_⟩
    have big : (16777000 : Nat) < sizeLine := by decide
    obtain ⟨q1, q2, q3⟩ := split_sum z ("\n" : Str) nl_ne (by decide +kernel)
    unfold rowsL at k
    refine ⟨(by show 0 ≤ sizeLine; decide), fun R nR => ?_⟩
    have sR := Same.new (o := .lst []) nR
    have hR : (upd H R (.lst [])) R = some (.lst []) := upd_same
    refine ⟨_, rfl, ⟨_, rfl⟩, _, _, rfl, rfl, (by decide +kernel), by omega, fun L nL => ?_⟩
    generalize Txt.split z ("\n" : Str) = ls at q1 q2 q3 k nL ⊢
    have s1 := sR.trans (Same.new (o := .lst (ls.map V.str)) nL)
    have hL : (upd (upd H R (.lst [])) L (.lst (ls.map V.str))) L = some (.lst (ls.map V.str)) := upd_same
    have hR1 : (upd (upd H R (.lst [])) L (.lst (ls.map V.str))) R = some (.lst []) := (Same.new nL) _ _ hR
    have RL : L ≠ R := ne_none nL hR
    generalize upd (upd H R (.lst [])) L (.lst (ls.map V.str)) = H1 at s1 hL hR1 ⊢
    refine ⟨L, _, rfl, .of hL, ?_⟩
    refine for_it walk_enum (fun i σ H' => ∃ (us : List Addr) (v2 v3 v4 : Option V), σ = [some (.str z), some (.ref R), v2, v3, v4, none] ∧ LisG K H' R us ((rowsF readL badL 0 ls).take i) ∧ us.length = i ∧ (∀ u ∈ us, u ≠ R) ∧ Same H H' ∧ H' L = some (.lst (ls.map V.str))) ⟨[], none, none, none, rfl, ⟨hR1, .nil⟩, rfl, (fun _ h => nomatch h), s1, hL⟩ (fun i σ H' _ q => by
      obtain ⟨_, _, _, _, _, _, _, _, _, h⟩ := q
      exact .of h) ?_ ?_
    · rintro i x σ H2 H3 hi ⟨us, v2, v3, v4, rfl, LD, lu, nu, s2, hL2⟩ ⟨T2, x1, y, rfl, hT, rfl, e1, e2⟩
      obtain rfl : x1 = .int (i : Nat) := (Option.some.inj e1).symm
      have e2 : (ls.map V.str)[i]? = some y := e2
      rw [List.getElem?_map] at e2
      obtain ⟨l, hl, rfl⟩ := Option.map_eq_some_iff.mp e2
      have il := (List.getElem?_eq_some_iff.mp hl).1
      have lm := List.mem_of_getElem? hl
      have ll := le_sum lm
      have hrow := rowsF_get (f := readL) (bad := badL) ls 0 i l hl
      rw [Nat.zero_add] at hrow
      have sT := Same.new (o := .tup [.int (i : Nat), .str l]) hT
      have s3 := s2.trans sT
      have LD3 := LD.same sT
      have hL3 := sT _ _ hL2
      refine ⟨T2, _, rfl, .of upd_same, rfl, _, _, rfl, _, _, rfl, rfl, ?_⟩
      generalize upd H2 T2 (.tup [.int (i : Nat), .str l]) = H3 at s3 LD3 hL3 ⊢
      obtain ⟨w1, w2, w3⟩ := split_sum l (" " : Str) sp_ne (by decide +kernel)
      have fin : ∀ (C : Addr) (H4 H5 : Hp) (v4 : Option V), H3 C = none → RowG K H4 C (rowF readL badL i l) → Same H3 H4 → H5 = upd H4 R (.lst (us.map V.ref ++ [V.ref C])) → ∃ (us : List Addr) (v2 v3 v4' : Option V), [some (.str z), some (.ref R), some (V.int (i : Nat)), some (.str l), v4, none] = [some (V.str z), some (.ref R), v2, v3, v4', none] ∧ LisG K H5 R us ((rowsF readL badL 0 ls).take (i + 1)) ∧ us.length = i + 1 ∧ (∀ u ∈ us, u ≠ R) ∧ Same H H5 ∧ H5 L = some (.lst (ls.map V.str)) := by
        rintro C H4 H5 v4 nC hC s4 rfl
        have LD4 := LD3.same s4
        have CD : C ≠ R := ne_none nC LD3.1
        refine ⟨us ++ [C], _, _, _, rfl, ⟨by rw [upd_same, List.map_append]; rfl, ?_⟩, by rw [List.length_append, lu]; rfl, fun u hu => ?_, (s3.trans s4).mut nR, (upd_ne RL).trans (s4 _ _ hL3)⟩
        · rw [List.take_add_one, hrow]
          have tpP := rowF_tp (f := readL) (bad := badL) readL_tp ⟨_, rfl⟩
          refine paired_snoc (paired_ix (Paired.length LD4.2) fun j u os hu hos => ?_) (hC.putN LD4.1 CD (tpP i l))
          obtain ⟨os', hos', q⟩ := paired_get LD4.2 hu
          rw [hos] at hos'
          cases hos'
          have mo := List.mem_of_mem_take (List.mem_of_getElem? hos)
          obtain ⟨j2, hj2⟩ := List.mem_iff_getElem?.mp mo
          have jl := (List.getElem?_eq_some_iff.mp hj2).1
          rw [rowsF_len] at jl
          have hj3 := rowsF_get (f := readL) (bad := badL) ls 0 j2 _ (List.getElem?_eq_getElem jl)
          rw [hj2] at hj3
          have e5 := Option.some.inj hj3
          exact q.putN LD4.1 (nu u (List.mem_of_getElem? hu)) (by rw [e5]; exact tpP _ _)
        · rcases List.mem_append.mp hu with q | q
          · exact nu u q
          · rw [List.mem_singleton.mp q]; exact CD
      refine ⟨_, rfl, ⟨_, rfl⟩, _, _, rfl, rfl, (by decide +kernel), by omega, fun W nW => ?_⟩
      cases hsp : Txt.split l (" " : Str) with
      | nil => exact absurd hsp w3
      | cons h ws =>
        rw [hsp] at w1 w2
        have er : rowF readL badL i l = if h = (Str.empty ++ decS (i : Nat)) ++ (":" : Str) then ws.map readL else [badL] := by unfold rowF; rw [hsp]
        rw [er] at fin
        rw [List.length_cons] at w2
        rw [List.map_cons, List.sum_cons] at w1
        have sW := Same.new (o := .lst ((h :: ws).map V.str)) nW
        have hW : (upd H3 W (.lst ((h :: ws).map V.str))) W = some (.lst ((h :: ws).map V.str)) := upd_same
        have LDW := LD3.same sW
        generalize upd H3 W (.lst ((h :: ws).map V.str)) = H4 at sW hW LDW ⊢
        refine ⟨_, rfl, W, _, (0 : Int), .str h, rfl, rfl, .of hW, (by rw [List.map_cons]; unfold atI ixN; simp), ?_⟩
        have nb : ((i : Nat) : Int).natAbs < 10 ^ 7 := Nat.lt_of_le_of_lt (show ((i : Nat) : Int).natAbs ≤ 1000001 by omega) (by decide)
        have ld := decS_len (n := ((i : Nat) : Int)) (k := 7) (by decide) nb
        have cl : (":" : Str).length = 1 := by decide +kernel
        have eh : (Str.empty ++ decS (i : Nat)) ++ (":" : Str) = decS (i : Nat) ++ (":" : Str) := by rw [em_app]
        rw [eh] at fin
        refine ⟨_, rfl, _, rfl, log2_of (k := 200) (Nat.lt_trans nb (by decide +kernel)) (by decide) (by decide), decS (i : Nat), (":" : Str), rfl, rfl, Nat.le_trans (by rw [cl]; omega : _ ≤ 9) (by decide), rfl, _, rfl, ite2 (fun q => ?_) fun q => ?_⟩
        · have q : h = decS (i : Nat) ++ (":" : Str) := V.str.inj (of_decide_eq_true q)
          refine ⟨_, rfl, .inl ⟨rfl, _, .of LDW.1⟩, ?_⟩
          refine ⟨_, rfl, 1, rfl, W, _, rfl, .inl (.of hW), fun X nX => ?_⟩
          have ec : cutV ((h :: ws).map V.str) (some 1) none = ws.map V.str := cut_rest _ _
          rw [ec]
          have s5 := sW.trans (Same.new (o := .lst (ws.map V.str)) nX)
          have hX : (upd H4 X (.lst (ws.map V.str))) X = some (.lst (ws.map V.str)) := upd_same
          have LDX := LDW.same (Same.new (o := .lst (ws.map V.str)) nX)
          generalize upd H4 X (.lst (ws.map V.str)) = H5 at s5 hX LDX ⊢
          refine ⟨X, rfl, ⟨_, .of hX⟩, fun D nD => ?_⟩
          refine lc_it walk_list (fun j H' => Same H5 H' ∧ ∃ vs : List V, H' D = some (.lst vs) ∧ vs.length = j ∧ Paired (ItG K H') vs ((ws.map readL).take j)) ⟨Same.new nD, [], upd_same, rfl, .nil⟩ (fun j H' _ q => .of (q.1 _ _ hX)) ?_ ?_
          · rintro j x _ H6 hj ⟨s6, vs, h6, l6, p6⟩ ⟨rfl, hx⟩
            rw [List.getElem?_map] at hx
            obtain ⟨y, hy, rfl⟩ := Option.map_eq_some_iff.mp hx
            rw [List.length_map] at hj
            have ly := le_sum (List.mem_of_getElem? hy)
            refine ⟨rfl, yes_then ?_⟩
            refine ⟨_, rfl, y, rfl, by omega, fun v H7 s7 it7 => ?_⟩
            have h7 := s7 _ _ h6
            have pn : SameN H7 (upd H7 D (.lst (vs ++ [v]))) := SameN.refl.put h7
            refine ⟨_, h7, by rw [l6]; omega, (s6.trans s7).mut nD, vs ++ [v], upd_same, by rw [List.length_append, l6]; rfl, ?_⟩
            rw [List.take_add_one, List.getElem?_map, hy]
            refine paired_snoc (paired_ix (Paired.length p6) fun j a o ha ho => ?_) ?_
            · obtain ⟨o', ho', q⟩ := paired_get p6 ha
              rw [ho] at ho'
              cases ho'
              have mo := List.mem_of_mem_take (List.mem_of_getElem? ho)
              obtain ⟨y, _, rfl⟩ := List.mem_map.mp mo
              obtain ⟨xs, ex⟩ := readL_tp y
              rw [ex] at q ⊢
              exact ItG.tpN (q.same s7) pn
            · obtain ⟨xs, ex⟩ := readL_tp y
              show ItG K _ v (readL y)
              rw [ex] at it7 ⊢
              exact ItG.tpN it7 pn
          · rintro H6 ⟨s6, vs, h6, l6, p6⟩
            rw [List.length_map, ← List.length_map (f := readL), List.take_length] at p6
            have LD6 := LDX.same s6
            rw [if_pos q] at fin
            refine ⟨R, _, _, rfl, rfl, LD6.1, by rw [List.length_map]; omega, fin D H6 _ _ (s5.free nD) ⟨vs, h6, p6⟩ (s5.trans s6) rfl⟩
        · have q : h ≠ decS (i : Nat) ++ (":" : Str) := fun e => q (decide_eq_true (congrArg V.str e))
          refine ⟨_, rfl, .inl ⟨rfl, _, .of LDW.1⟩, ?_⟩
          refine ⟨(by show 0 ≤ sizeLine; decide), fun t nt => ⟨(by show 1 ≤ sizeLine; decide), fun D nD => ?_⟩⟩
          have st := Same.new (o := .tup []) nt
          have sD := Same.new (o := .lst [V.ref t]) nD
          have LD6 := (LDW.same st).same sD
          rw [if_neg q] at fin
          exact ⟨R, _, _, rfl, rfl, LD6.1, by rw [List.length_map]; omega, fin D _ _ _ ((sW.trans st).free nD) ⟨[.ref t], upd_same, .cons ⟨t, rfl, .of (sD _ _ upd_same)⟩ .nil⟩ ((sW.trans st).trans sD) rfl⟩
    · rintro σ H2 ⟨us, v2, v3, v4, rfl, LD, lu, nu, s2, _⟩
      rw [List.length_map, ← rowsF_len (f := readL) (bad := badL) ls 0, List.take_length] at LD
      exact ⟨_, rfl, k R us H2 LD s2⟩
end
end Mf
namespace Mf
open PySem L2
theorem toO_inj {a b : Itm} (h : toO a = toO b) : a = b := by
  have e : itD a = itD b := by rw [← toO_d, ← toO_d, h]
  have q := eqv_it a b
  rw [e, eqv_it, decide_eq_true rfl] at q
  exact of_decide_eq_true q.symm
theorem toR_inj : ∀ {R R' : List (List Itm)}, R.map (·.map toO) = R'.map (·.map toO) → R = R'
  | [], [], _ => rfl
  | [], _ :: _, h => by cases h
  | _ :: _, [], h => by cases h
  | r :: R, r' :: R', h => by
    obtain ⟨h1, h2⟩ := List.cons.inj h
    have row : ∀ (a b : List Itm), a.map toO = b.map toO → a = b := by
      intro a
      induction a with
      | nil =>
        intro b h
        cases b with
        | nil => rfl
        | cons _ _ => cases h
      | cons x a ih =>
        intro b h
        cases b with
        | nil => cases h
        | cons y b =>
          obtain ⟨e1, e2⟩ := List.cons.inj h
          rw [toO_inj e1, ih b e2]
    rw [row r r' h1, toR_inj h2]
theorem refl_of {k : Nat} {d : PyData} (h : Sh k d) : PyData.eqv d d = true := SeqAt.eqv_refl d h.1
mutual
theorem dp_same {K : PySem.W.Frag} {H H' : Hp} (s : Same H H') : ∀ {v : V} {d : PyData}, Dp K H v d → Dp K H' v d
  | _, _, .non => .non
  | _, _, .bl b => .bl b
  | _, _, .int i => .int i
  | _, _, .str x => .str x
  | _, _, .lst h a => .lst (SameL s h) (dpAll_same s a)
  | _, _, .tup h a => .tup (s.tup h) (dpAll_same s a)
theorem dpAll_same {K : PySem.W.Frag} {H H' : Hp} (s : Same H H') : ∀ {xs : List V} {ds : List PyData}, DpAll K H xs ds → DpAll K H' xs ds
  | _, _, .nil => .nil
  | _, _, .cons a b => .cons (dp_same s a) (dpAll_same s b)
end
theorem cut0 {x : V} : cutV [x] none (some (0 : Int)) = [] := by
  unfold cutV HT.sIx
  simp
theorem cut1 {x : V} : cutV [x] none (some (1 : Int)) = [x] := by
  unfold cutV HT.sIx
  simp
theorem slK {X : Cx} (K : PySem.W.Frag) (h : X.K = K := by rfl) : SlR X (rSlL K) := h ▸ sl_list
section
variable {P : Program} {w : World} {K : PySem.W.Frag} {mg : Str → Option Value} {base : Heap} {C CR CI : Addr}
theorem numRow_wd {R : List (List Itm)} (h : WdR R) (c fd : List Nat) (i : Nat) : ∀ it ∈ numRow c fd (R.getD i []), WdI it := fun it hi => by
  obtain ⟨i0, h1, rfl⟩ := List.mem_map.mp hi
  refine ptI_wd ?_
  by_cases c : i < R.length
  · rw [List.getD_eq_getElem?_getD, List.getElem?_eq_getElem c] at h1
    exact h _ (List.getElem_mem c) i0 h1
  · rw [List.getD_eq_getElem?_getD, List.getElem?_eq_none (by omega)] at h1
    exact nomatch h1
theorem canon_wd {R : List (List Itm)} (h : WdR R) (st : Nat) : WdR (canonN R st) := fun r hr it hi => by
  obtain ⟨i, _, rfl⟩ := List.mem_map.mp hr
  exact numRow_wd h _ _ i it hi
/-- what is told of rows, as data -/
def ToldD (R : List (List Oi)) (d : PyData) : Prop := (badO R ≠ 0 ∧ d = .tuple [.str "line", .int (badO R : Nat)]) ∨ ∃ R' : List (List Itm), R = R'.map (·.map toO) ∧ RtR R' ∧ d = .tuple [.str "rows", rsD (canonN R' 0)]
theorem right_bad {R : List (List Oi)} (R' : List (List Itm)) (e : R = R'.map (·.map toO)) (rt : RtR R') : badO R = 0 := by
  have go : ∀ (c : Nat) (Z : List (List Itm)) (k : Nat), k + Z.length ≤ 40 → (∀ r ∈ Z, rowB c r = true) → badFrom c k (Z.map (·.map toO)) = 0 := by
    intro c Z
    induction Z with
    | nil => intro _ _ _; rfl
    | cons r Z ih =>
      intro k hk h
      rw [List.length_cons] at hk
      have hr : rowO c (r.map toO) = true := by
        have q := h r List.mem_cons_self
        obtain ⟨q1, q2⟩ := Bool.and_eq_true_iff.mp q
        unfold rowO
        rw [List.length_map, q1, Bool.true_and, List.all_map]
        exact List.all_eq_true.mpr fun it hi => (itO_toO it).trans (List.all_eq_true.mp q2 it hi)
      show badFrom c k (r.map toO :: Z.map (·.map toO)) = 0
      rw [badFrom_cons, if_neg (fun q => q.elim (fun z => by omega) fun z => by rw [hr] at z; cases z)]
      exact ih (k + 1) (by omega) fun r' hr' => h r' (List.mem_cons_of_mem _ hr')
  subst e
  unfold badO
  rw [if_neg (fun q => rt.ne (List.map_eq_nil_iff.mp q)), List.length_map]
  exact go R'.length R' 0 (by have := rt.few; omega) rt.row
theorem told_one {R : List (List Oi)} {d e : PyData} (x : ToldD R d) (y : ToldD R e) : d = e := by
  rcases x with ⟨n, rfl⟩ | ⟨R1, e1, r1, rfl⟩ <;> rcases y with ⟨m, rfl⟩ | ⟨R2, e2, r2, rfl⟩
  · rfl
  · exact absurd (right_bad R2 e2 r2) n
  · exact absurd (right_bad R1 e1 r1) m
  · rw [toR_inj (e1.symm.trans e2)]
theorem told_sh {R : List (List Oi)} {d : PyData} (x : ToldD R d) : Sh 4 d := by
  rcases x with ⟨_, rfl⟩ | ⟨R', rfl, rt, rfl⟩
  · refine .tuple fun e he => ?_
    simp only [List.mem_cons, List.not_mem_nil, or_false] at he
    rcases he with rfl | rfl
    · exact Sh.up (.str (by decide +kernel)) (by decide)
    · exact Sh.up (.int _) (by decide)
  · refine .tuple fun e he => ?_
    simp only [List.mem_cons, List.not_mem_nil, or_false] at he
    rcases he with rfl | rfl
    · exact Sh.up (.str (by decide +kernel)) (by decide)
    · exact sh_rs (canon_wd rt.tx.wd 0)
/-! ### the two readings of rows -/
theorem row_agree (c k : Nat) (l : Str) : rowO c (rowF readP malO k l) = rowO c (rowF readL badL k l) ∧ (rowO c (rowF readP malO k l) = true → rowF readP malO k l = rowF readL badL k l) := by
  have nP : rowO c [malO] = false := rfl
  have nL : rowO c [badL] = false := rfl
  unfold rowF
  cases Txt.split l (" " : Str) with
  | nil => exact ⟨nP.trans nL.symm, fun q => absurd (nP.symm.trans q) (by decide)⟩
  | cons h ws =>
    by_cases e : h = (Str.empty ++ decS (k : Nat)) ++ (":" : Str)
    · show rowO c (if h = (Str.empty ++ decS (k : Nat)) ++ (":" : Str) then ws.map readP else [malO]) = rowO c (if h = (Str.empty ++ decS (k : Nat)) ++ (":" : Str) then ws.map readL else [badL]) ∧ (rowO c (if h = (Str.empty ++ decS (k : Nat)) ++ (":" : Str) then ws.map readP else [malO]) = true → (if h = (Str.empty ++ decS (k : Nat)) ++ (":" : Str) then ws.map readP else [malO]) = (if h = (Str.empty ++ decS (k : Nat)) ++ (":" : Str) then ws.map readL else [badL]))
      rw [if_pos e, if_pos e]
      unfold rowO
      rw [List.length_map, List.length_map, List.all_map, List.all_map]
      have ea : ws.all (itO c ∘ readP) = ws.all (itO c ∘ readL) := by
        congr 1
        funext w
        exact (read_agree c w).1
      refine ⟨by rw [ea], fun q => List.map_congr_left fun w hw => ?_⟩
      exact (read_agree c w).2 (List.all_eq_true.mp (Bool.and_eq_true_iff.mp q).2 w hw)
    · show rowO c (if h = (Str.empty ++ decS (k : Nat)) ++ (":" : Str) then ws.map readP else [malO]) = rowO c (if h = (Str.empty ++ decS (k : Nat)) ++ (":" : Str) then ws.map readL else [badL]) ∧ (rowO c (if h = (Str.empty ++ decS (k : Nat)) ++ (":" : Str) then ws.map readP else [malO]) = true → (if h = (Str.empty ++ decS (k : Nat)) ++ (":" : Str) then ws.map readP else [malO]) = (if h = (Str.empty ++ decS (k : Nat)) ++ (":" : Str) then ws.map readL else [badL]))
      rw [if_neg e, if_neg e]
      exact ⟨nP.trans nL.symm, fun q => absurd (nP.symm.trans q) (by decide)⟩
theorem bad_agree (c : Nat) : ∀ (ls : List Str) (k j : Nat), badFrom c j (rowsF readP malO k ls) = badFrom c j (rowsF readL badL k ls)
  | [], _, _ => rfl
  | l :: ls, k, j => by
    show badFrom c j (rowF readP malO k l :: rowsF readP malO (k + 1) ls) = badFrom c j (rowF readL badL k l :: rowsF readL badL (k + 1) ls)
    rw [badFrom_cons, badFrom_cons, (row_agree c k l).1, bad_agree c ls (k + 1) (j + 1)]
theorem same_rows (c : Nat) : ∀ (ls : List Str) (k : Nat), (∀ r ∈ rowsF readP malO k ls, rowO c r = true) → rowsF readP malO k ls = rowsF readL badL k ls
  | [], _, _ => rfl
  | l :: ls, k, h => by
    show rowF readP malO k l :: rowsF readP malO (k + 1) ls = rowF readL badL k l :: rowsF readL badL (k + 1) ls
    rw [(row_agree c k l).2 (h _ List.mem_cons_self), same_rows c ls (k + 1) fun r hr => h r (List.mem_cons_of_mem _ hr)]
theorem rowsF_nil {f : Str → Oi} {bad : Oi} {k : Nat} {ls : List Str} : rowsF f bad k ls = [] ↔ ls = [] := by
  cases ls with
  | nil => exact ⟨fun _ => rfl, fun _ => rfl⟩
  | cons a l => exact ⟨fun h => (by cases h), fun h => (by cases h)⟩
theorem badO_agree (z : Str) : badO (rowsP z) = badO (rowsL z) := by
  unfold rowsP rowsL
  generalize Txt.split z ("\n" : Str) = ls
  unfold badO
  by_cases e : ls = []
  · rw [if_pos (rowsF_nil.mpr e), if_pos (rowsF_nil.mpr e)]
  · rw [if_neg (fun q => e (rowsF_nil.mp q)), if_neg (fun q => e (rowsF_nil.mp q)), rowsF_len, rowsF_len]
    exact bad_agree _ ls 0 0
theorem rows_agree {z : Str} (h : badO (rowsP z) = 0) : rowsP z = rowsL z := by
  unfold rowsP rowsL
  unfold rowsP at h
  generalize Txt.split z ("\n" : Str) = ls at h ⊢
  unfold badO at h
  by_cases e : ls = []
  · rw [if_pos (rowsF_nil.mpr e)] at h; cases h
  · rw [if_neg (fun q => e (rowsF_nil.mp q))] at h
    exact same_rows _ ls 0 (badFrom_zero (by decide) h).2
theorem badL_ok : OiOk badL := oiB_ok (by decide +kernel)
theorem readL_ok {w : Str} (h : w.length ≤ 1000000) : OiOk (readL w) := by
  unfold readL
  split
  · exact gap_ok
  · split
    · exact pair_ok (by decide) h
    · split
      · exact badL_ok
      · split
        · exact badL_ok
        · split
          · exact pairI_ok (by decide)
          · exact pairI_ok (by decide)
theorem rowsL_ok {z : Str} (h : z.length ≤ 1000000) : AllOk (rowsL z) := by
  obtain ⟨q1, q2, _⟩ := split_sum z ("\n" : Str) nl_ne (by decide +kernel)
  unfold rowsL
  generalize Txt.split z ("\n" : Str) = ls at q1
  exact rowsF_ok (B := 1000000) badL_ok (fun w hw => readL_ok hw) ls 0 fun l hl => by
    have := le_sum hl
    omega
theorem rowsL_len {z : Str} (h : z.length ≤ 1000000) : (rowsL z).length ≤ 1000001 := by
  obtain ⟨q1, q2, _⟩ := split_sum z ("\n" : Str) nl_ne (by decide +kernel)
  unfold rowsL
  rw [rowsF_len]
  omega
/-! ### _law_parsed -/
def spParsedL (K : PySem.W.Frag) : Sp := fun vs H Q _ => ∃ z : Str, vs = [.str z] ∧ z.length ≤ 1000000 ∧ spc z ≤ 10000 ∧ ∀ t d H', Same H H' → Dp K H' (.ref t) d → ToldD (rowsL z) d → Q (.ref t) H'
abbrev sParsed : Stmt := top 50
theorem scParsed : FnScope ["_law_text", "_law_found", "e"] ["_law_text"] (defScope sParsed) := ⟨rfl, rfl, rfl, by decide +kernel, rfl, by decide +kernel, by decide +kernel⟩
theorem ok_parsedL {f g pp : Addr} {mc : Value} {fd : FuncData} (F : Fun K "_law_parsed" "_law_parsed" sParsed f fd) (U : ErI P w K mg base CI) (nI : PySem.W.findIn K (.ref CI) "line" = some none) (T : RsC K mg CR) (o_rows : CalM P w K mg base CX0 1 CR "rows" ["self"] (spRsRows K CR)) (mg_Result : mg "Result" = some (.ref CR))
    (cr : ClX.CRead K CR mc) (cm : ClX.CMet K CR mc "parse" pp g) (FP : FnR P w K mg base (L2.CX P w) 8 g (spParse K CR CI)) : FnOk P w K mg base CX0 9 f fd ["_law_text"] (spParsedL K) := by
  refine F.ok scParsed (fun vs H Q E h => ?_) (fun cdv A outer s H vs Q E hr h => ?_)
  · obtain ⟨z, rfl, _⟩ := h
    rfl
  · obtain ⟨z, rfl, lz, sz, k⟩ := h
    have hr1 : Room 1 _ := hr.mono (by decide : 1 ≤ 8)
    refine ⟨_, (pss_cons (ps_set (i := 1) scParsed.nd rfl (by first | exact Or.inl rfl | exact Or.inr rfl) (pe_tup (pa_cons pe_str pa_nil)))
      (pss_cons (ps_try_as (i := 2) rfl rfl scParsed.nd rfl rfl ⟨rfl, by decide, .inl U.mgC⟩ takes0 (fun W pn xe tk _ => (pss_one (ps_set (i := 1) scParsed.nd rfl (by first | exact Or.inl rfl | exact Or.inr rfl) (pe_tup (pa_cons pe_str (pa_cons (om_meth0 (pe_cmethS (pe_glob (v := .ref _) rfl mg_Result rfl) cr cm FP hr (fun σ => passAt tk σ) (pa_cons (pv 0) pa_nil)) T.ins.cl o_rows hr1 pass0) pa_nil)))))) (fun a_ oe cls d_ pn hz hf => (pss_one (ps_set (i := 1) scParsed.nd rfl (by first | exact Or.inl rfl | exact Or.inr rfl) (pe_tup (pa_cons pe_str (pa_cons (pe_xf U.xf nI hz hf (pv 2)) pa_nil)))))))
      (pss_one (ps_ret (pv 1))))), ?_⟩
    have eb := badO_agree z
    refine ⟨(by show 1 ≤ sizeLine; decide), fun t0 ht0 => ?_⟩
    have s0 := Same.new (o := .tup [.str "none"]) ht0
    generalize upd H t0 (.tup [.str "none"]) = H0 at s0 ⊢
    refine ⟨rfl, _, rfl, z, rfl, lz, sz, fun nz d H1 nd s1 hd => ?_, fun R' e rt p dx d us1 H1 A1 np s1 => ?_⟩
    · refine ⟨true, U.exm, fun _ e he => ?_, fun q => nomatch q⟩
      refine ⟨_, rfl, rfl, rfl, d, _, .int (badO (rowsP z) : Nat), rfl, hd, rfl, (by show 2 ≤ sizeLine; decide), fun t nt => ⟨_, rfl, ?_⟩⟩
      exact k t _ _ ((s0.trans s1).trans (Same.new nt)) (.tup (.of upd_same) (.cons (.str _) (.cons (.int _) .nil))) (.inl ⟨by rw [← eb]; exact nz, by rw [← eb]⟩)
    · have f40 := rt.few
      have fw := canon_len rt.ok.nd (List.length_pos_iff.mpr rt.ne : 0 < R'.length)
      have er : rowsL z = R'.map (·.map toO) := (rows_agree (right_bad R' e rt)).symm.trans e
      refine ⟨p, dx, _, rfl, A1.o, flR_no (by decide), p, dx, d, us1, _, rfl, A1, by omega, fun D ws H2 nD LD fD s2 => ⟨(by show 2 ≤ sizeLine; decide), fun t nt => ⟨_, rfl, ?_⟩⟩⟩
      have s3 := Same.new (o := .tup [.str "rows", .ref D]) nt
      exact k t _ _ (((s0.trans s1).trans s2).trans s3) (.tup (.of upd_same) (.cons (.str _) (.cons (dp_rs (LD.same s3)) .nil))) (.inr ⟨R', er, rt, rfl⟩)
end
end Mf
namespace Mf
open PySem L2
section
variable {P : Program} {w : World} {K : PySem.W.Frag} {mg : Str → Option Value} {base : Heap} {C CR CI : Addr}
/-! ### law -/
abbrev sLaw : Stmt := top 51
theorem scLaw : FnScope ["_law_script", "_law_source_here", "_law_way", "_law_bends", "_law_text", "_law_turn", "_law_rows", "_law_line", "_law_due", "_law_many", "_law_k"] ["_law_script"] (defScope sLaw) := ⟨rfl, rfl, rfl, by decide +kernel, rfl, by decide +kernel, by decide +kernel⟩
set_option maxHeartbeats 4000000 in
theorem ok_law {f : Addr} {fd : FuncData} (F : Fun K "law" "law" sLaw f fd) (mRange : mg "range" = none)
    (c_source : Cal P w K mg base CX0 1 "_law_source" ["_law_script"] (spSource K)) (c_draw : Cal P w K mg base CX0 1 "_law_draw" ["_law_source_here", "_law_many"] spDraw) (c_raw_rows : Cal P w K mg base CX0 4 "_law_raw_rows" ["_law_source_here", "_law_most"] (spRaw K)) (c_rows_text : Cal P w K mg base CX0 2 "_law_rows_text" ["_law_rows"] (spLRText K)) (c_bent : Cal P w K mg base CX0 2 "_law_bent" ["_law_source_here", "_law_text"] spBent) (c_read_rows : Cal P w K mg base CX0 3 "_law_read_rows" ["_law_text"] (spRdRows K))
    (c_bad_row : Cal P w K mg base CX0 3 "_law_bad_row" ["_law_rows"] (spBadRow K)) (c_canonical : Cal P w K mg base CX0 3 "_law_canonical" ["_law_rows"] (spLCanon K)) (c_parsed : Cal P w K mg base CX0 9 "_law_parsed" ["_law_text"] (spParsedL K)) : FnOk P w K mg base CX0 10 f fd ["_law_script"] (spLaw K) := by
  refine F.ok scLaw (fun vs H Q E h => ?_) (fun cdv A outer s H vs Q E hr h => ?_)
  · obtain ⟨a, ns, rfl, _⟩ := h
    rfl
  · obtain ⟨a, ns, rfl, hs, hl, k⟩ := h
    have hr1 : Room 1 _ := hr.mono (by decide : 1 ≤ 9); have hr2 : Room 2 _ := hr.mono (by decide : 2 ≤ 9); have hr3 : Room 3 _ := hr.mono (by decide : 3 ≤ 9)
    have hr_source := hr1; have hr_draw := hr1; have hr_raw_rows : Room 4 _ := hr.mono (by decide : 4 ≤ 9); have hr_rows_text := hr2; have hr_bent := hr2; have hr_read_rows := hr3; have hr_bad_row := hr3; have hr_canonical := hr3; have hr_parsed := hr
    refine ⟨_, (pss_cons (ps_set (i := 1) scLaw.nd rfl (by first | exact Or.inl rfl | exact Or.inr rfl) (pe_cal c_source hr_source pass0 (pa_cons (pv 0) pa_nil)))
      (pss_cons (ps_set (i := 2) scLaw.nd rfl (by first | exact Or.inl rfl | exact Or.inr rfl) (pe_cal c_draw hr_draw pass0 (pa_cons (pv 1) (pa_cons pe_int pa_nil))))
      (pss_cons (ps_set (i := 3) scLaw.nd rfl (by first | exact Or.inl rfl | exact Or.inr rfl) (pe_cal c_draw hr_draw pass0 (pa_cons (pv 1) (pa_cons pe_int pa_nil))))
      (C8.pss_cut (ps_set (i := 4) scLaw.nd rfl (by first | exact Or.inl rfl | exact Or.inr rfl) (pe_ifExp (pt_cmpR op_eq (pv 2) pe_int (nomark _)) pe_str (pe_cal c_rows_text hr_rows_text pass0 (pa_cons (pe_cal c_raw_rows hr_raw_rows pass0 (pa_cons (pv 1) (pa_cons pe_int pa_nil))) pa_nil))))
      (C8.pss_cut (ps_if (pt_cmpR op_eq (pv 2) pe_int (nomark _))
        (pss_cons (ps_set (i := 9) scLaw.nd rfl (by first | exact Or.inl rfl | exact Or.inr rfl) (pe_op op_add pe_int (pe_cal c_draw hr_draw pass0 (pa_cons (pv 1) (pa_cons pe_int pa_nil)))))
        (pss_one (ps_set (i := 4) scLaw.nd rfl (by first | exact Or.inl rfl | exact Or.inr rfl) (pe_cal c_rows_text hr_rows_text pass0 (pa_cons (pe_lc (own := [("_law_k", 10)]) (g := (gName 10)) (tt := tYes) rfl scLaw.nd (pi_range1 (by rfl) mRange (pa_cons (pv 9) pa_nil)) (blkOk_by (own := [("_law_k", 10)]) (N := ["_law_script", "_law_source_here", "_law_way", "_law_bends", "_law_text", "_law_turn", "_law_rows", "_law_line", "_law_due", "_law_many", "_law_k"]) (sc := defScope sLaw) (by decide +kernel)) (fun _ _ _ _ _ => (pg_name (i := 10) scLaw.nd rfl (by first | exact Or.inl rfl | exact Or.inr rfl))) (fun _ _ _ _ _ => pts_nil) (fun _ _ _ _ _ => (pe_slice (slK K) (pe_lst (pa_cons (pe_tup (pa_cons pe_str (pa_cons (pe_cal c_draw hr_draw pass0 (pa_cons (pv 1) (pa_cons (pv 9) pa_nil))) pa_nil))) pa_nil)) po_none (po_some (pe_cal c_draw hr_draw pass0 (pa_cons (pv 1) (pa_cons pe_int pa_nil))))))) pa_nil))))) pss_nil)
      (pss_cons (ps_for PassesOwn.never rfl (pi_range1 (by rfl) mRange (pa_cons (pv 3) pa_nil)) (pg_name (i := 5) scLaw.nd rfl (by first | exact Or.inl rfl | exact Or.inr rfl))
        (pss_one (ps_set (i := 4) scLaw.nd rfl (by first | exact Or.inl rfl | exact Or.inr rfl) (pe_cal c_bent hr_bent pass0 (pa_cons (pv 1) (pa_cons (pv 4) pa_nil))))))
      (pss_cons (ps_set (i := 6) scLaw.nd rfl (by first | exact Or.inl rfl | exact Or.inr rfl) (pe_cal c_read_rows hr_read_rows pass0 (pa_cons (pv 4) pa_nil)))
      (pss_cons (ps_set (i := 7) scLaw.nd rfl (by first | exact Or.inl rfl | exact Or.inr rfl) (pe_cal c_bad_row hr_bad_row pass0 (pa_cons (pv 6) pa_nil)))
      (C8.pss_cut (ps_set (i := 8) scLaw.nd rfl (by first | exact Or.inl rfl | exact Or.inr rfl) (pe_ifExp (pt_cmpR op_gt (pv 7) pe_int (nomark _)) (pe_tup (pa_cons pe_str (pa_cons (pv 7) pa_nil))) (pe_tup (pa_cons pe_str (pa_cons (pe_cal c_canonical hr_canonical pass0 (pa_cons (pv 6) pa_nil)) pa_nil)))))
      (pss_one (ps_ret (pe_cmpR (eqD K hr) (pe_cal c_parsed hr_parsed pass0 (pa_cons (pv 4) pa_nil)) (pv 8) (nomark _))))))))))))), ?_⟩
    have sz : (5000 : Nat) < sizeLine := by decide
    refine ⟨_, rfl, a, ns, rfl, hs, hl, fun g H1 _ s1 S1 => ?_⟩
    refine ⟨_, rfl, g, 12, 100001, rfl, by decide, by decide, S1.mono (by decide), fun way H2 w0 w1 k2 S2 => ?_⟩
    refine ⟨_, rfl, g, 4, 100000, rfl, by decide, by decide, S2, fun spo H3 p0 p1 k3 S3 => ?_⟩
    obtain ⟨spo, rfl⟩ := Int.eq_ofNat_of_zero_le p0
    refine ⟨fun σ' H' => ∃ z : Str, σ' = [some (.ref a), some (.ref g), some (.int way), some (.int (spo : Nat)), some (.str z), none, none, none, none, none, none] ∧ z.length ≤ 36000 ∧ spc z ≤ 559 ∧ Src H' g 50000, ?_, ?_⟩
    · refine ⟨_, rfl, rfl, _, rfl, ite2 (fun _ => ?_) fun _ => ?_⟩
      · exact ⟨"", rfl, (by decide), (by decide +kernel), S3.mono (by decide)⟩
      · refine ⟨_, rfl, g, 8, 60000, rfl, by decide, by decide, S3.mono (by decide), fun r us R H4 L rt wd l8 nr fr nd k4 S4 => ?_⟩
        refine ⟨r, us, R, rfl, L, rt.tx, fun H5 s5 => ?_⟩
        obtain ⟨t1, t2⟩ := rows_small rt.tx (by omega)
        exact ⟨_, rfl, t1, t2, (S4.same s5).mono (by decide)⟩
    rintro σ H4 ⟨z, rfl, lz, pz, S4⟩
    refine ⟨fun σ' H' => ∃ (z : Str) (v9 : Option V), σ' = [some (.ref a), some (.ref g), some (.int way), some (.int (spo : Nat)), some (.str z), none, none, none, none, v9, none] ∧ z.length ≤ 36000 ∧ spc z ≤ 559 ∧ Src H' g 1000, ?_, ?_⟩
    · refine ⟨_, rfl, rfl, _, rfl, ite2 (fun _ => ?_) fun _ => ⟨z, none, rfl, lz, pz, S4.mono (by decide)⟩⟩
      refine ⟨_, rfl, g, 6, 40000, rfl, by decide, by decide, S4.mono (by decide), fun x H5 x0 x1 k5 S5 => ⟨_, _, rfl, rfl, ?_⟩⟩
      obtain ⟨x, rfl⟩ := Int.eq_ofNat_of_zero_le x0
      have e38 : (38 : Int) + (x : Nat) = ((38 + x : Nat) : Int) := by omega
      show gName 9 (.int (38 + (x : Nat))) _ _ _
      rw [e38]
      refine ⟨_, rfl, _, rfl, by omega, by omega, fun D nD => ?_⟩
      have Dg : D ≠ g := S5.ne nD
      refine lc_range (lo := 0) (n := ((38 + x : Nat) : Int).toNat) (fun m H' => ∃ (ws : List Addr) (R : List (List Itm)), H' D = some (.lst (ws.map V.ref)) ∧ Paired (RowL K H') ws R ∧ R.length = m ∧ (∀ row ∈ R, row.length ≤ 12 ∧ ∀ it ∈ row, ∃ i, it = .nd i ∧ i ≤ 1000000) ∧ (∀ u ∈ ws, u ≠ D ∧ u ≠ g) ∧ Src H' g (39000 - 2 * m))
        ⟨[], [], upd_same, .nil, rfl, (by simp), (by simp), (S5.new nD).mono (by omega)⟩ ?_ ?_
      · rintro m H6 hm ⟨ws, R6, hD6, p6, l6', ok6, u6, S6⟩
        rw [Int.toNat_natCast] at hm
        have lw := Paired.length p6
        refine ⟨rfl, yes_then ?_⟩
        refine ⟨_, rfl, _, rfl, g, ((38 + x : Nat) : Int), 39000 - 2 * m - 1, rfl, by omega, Nat.lt_of_lt_of_le (by omega : _ < 2 ^ 12) (by decide), S6.mono (by omega), fun v H7 v0 v1 k7 S7 => ?_⟩
        obtain ⟨v, rfl⟩ := Int.eq_ofNat_of_zero_le v0
        have hD7 := k7 _ _ Dg hD6
        have p7 : Paired (RowL K H7) ws R6 := paired_same p6 fun _ _ z => z.kp k7 S6
        refine ⟨(by show 2 ≤ sizeLine; decide), fun t nt => ⟨(by show 1 ≤ sizeLine; decide), fun l nl => ?_⟩⟩
        have st := (Same.new (o := .tup [.str "node", .int (v : Nat)]) nt).trans (Same.new (o := .lst [.ref t]) nl)
        have ht : (upd (upd H7 t (.tup [.str "node", .int (v : Nat)])) l (.lst [.ref t])) t = some (.tup [.str "node", .int (v : Nat)]) := (Same.new nl) _ _ upd_same
        have hl' : (upd (upd H7 t (.tup [.str "node", .int (v : Nat)])) l (.lst [.ref t])) l = some (.lst [.ref t]) := upd_same
        generalize upd (upd H7 t (.tup [.str "node", .int (v : Nat)])) l (.lst [.ref t]) = H8 at st ht hl' ⊢
        have S8 := S7.same st
        have lg : l ≠ g := fun e => by
          obtain ⟨x, y, z, hg, _⟩ := S8
          rw [e, hg] at hl'; cases hl'
        refine ⟨_, rfl, g, 2, 39000 - 2 * m - 2, rfl, by decide, by decide, S8.mono (by omega), fun e H9 e0 e1 k9 S9 => ?_⟩
        refine ⟨e, rfl, l, _, rfl, .inl (.of (k9 _ _ lg hl')), fun q nq => ?_⟩
        have cut : ∃ row : List Itm, cutV [V.ref t] none (some e) = (if row = [] then [] else [V.ref t]) ∧ (row = [] ∨ row = [.nd v]) := by
          rcases (by omega : e = 0 ∨ e = 1) with rfl | rfl
          · exact ⟨[], by rw [cut0, if_pos rfl], .inl rfl⟩
          · exact ⟨[.nd v], by rw [cut1, if_neg (by simp)], .inr rfl⟩
        obtain ⟨row, ec, er⟩ := cut
        rw [ec]
        have s9 := Same.new (o := .lst (if row = [] then [] else [V.ref t])) nq
        have hD9 := s9 _ _ (k9 _ _ Dg (st _ _ hD7))
        have p9 : Paired (RowL K (upd H9 q (.lst (if row = [] then [] else [V.ref t])))) ws R6 := paired_same p7 fun _ _ z => ((z.same st).kp k9 S8).same s9
        have tg : t ≠ g := fun e => by
          obtain ⟨x, y, z, hg, _⟩ := S8
          rw [e, hg] at ht; cases ht
        have qrow : RowL K (upd H9 q (.lst (if row = [] then [] else [V.ref t]))) q row := by
          rcases er with rfl | rfl
          · exact ⟨[], upd_same, .nil⟩
          · exact ⟨[t], upd_same, .cons (.of (s9 _ _ (k9 _ _ tg ht))) .nil⟩
        have qD : q ≠ D := ne_none nq (k9 _ _ Dg (st _ _ hD7))
        have qg : q ≠ g := S9.ne nq
        have S10 := S9.new (o := .lst (if row = [] then [] else [V.ref t])) nq
        generalize upd H9 q (.lst (if row = [] then [] else [V.ref t])) = H10 at hD9 p9 qrow S10 ⊢
        refine ⟨_, hD9, by rw [List.length_map]; omega, ws ++ [q], R6 ++ [row], by rw [upd_same, List.map_append]; rfl, ?_, by rw [List.length_append, l6']; rfl, fun r' hr' => ?_, fun u hu => ?_, (S10.put Dg).mono (by omega)⟩
        · exact paired_snoc (paired_same (paired_mem p9) fun u _ z => z.1.put hD9 (u6 u z.2).1) (qrow.put hD9 qD)
        · rcases List.mem_append.mp hr' with h | h
          · exact ok6 r' h
          · rw [List.mem_singleton.mp h]
            rcases er with rfl | rfl
            · exact ⟨by simp, by simp⟩
            · exact ⟨by simp, fun it hi => ⟨v, List.mem_singleton.mp hi, by omega⟩⟩
        · rcases List.mem_append.mp hu with h | h
          · exact u6 u h
          · rw [List.mem_singleton.mp h]; exact ⟨qD, qg⟩
      · rintro H6 ⟨ws, R6, hD6, p6, l6', ok6, u6, S6⟩
        rw [Int.toNat_natCast] at l6' S6
        have tx : TxRs R6 := ⟨by omega, fun r hr => (ok6 r hr).1, fun r hr it hi => by
          obtain ⟨i, rfl, i6⟩ := (ok6 r hr).2 it hi
          exact i6⟩
        refine ⟨D, ws, R6, rfl, ⟨hD6, p6⟩, tx, fun H7 s7 => ?_⟩
        obtain ⟨t1, t2⟩ := rows_small tx (by omega)
        exact ⟨_, _, rfl, t1, t2, (S6.same s7).mono (by omega)⟩
    clear lz pz S4
    rintro σ H4 ⟨z, v9, rfl, lz, pz, S4⟩
    refine ⟨_, rfl, _, rfl, by omega, by omega, ?_⟩
    refine for_range (lo := 0) (n := ((spo : Nat) : Int).toNat) (fun i σ H' => ∃ (z : Str) (v5 : Option V), σ = [some (.ref a), some (.ref g), some (.int way), some (.int (spo : Nat)), some (.str z), v5, none, none, none, v9, none] ∧ z.length + 3 ≤ 36003 * 3 ^ i ∧ spc z + 1 ≤ 560 * 2 ^ i ∧ Src H' g (1000 - 10 * i))
      ⟨z, none, rfl, (by omega), (by omega), S4⟩ ?_ ?_
    · rintro i σ H5 hi ⟨z, v5, rfl, lz, pz, S5⟩
      rw [Int.toNat_natCast] at hi
      have b3 : 3 ^ i ≤ 9 := Nat.pow_le_pow_right (by decide) (by omega : i ≤ 2)
      refine ⟨_, rfl, _, rfl, g, z, 1000 - 10 * (i + 1), rfl, S5.mono (by omega), by omega, fun z' H6 l' p' S6 => ?_⟩
      refine ⟨z', _, rfl, ?_, ?_, S6⟩
      · rw [Nat.pow_succ]; omega
      · rw [Nat.pow_succ]; omega
    · rintro σ H5 ⟨z, v5, rfl, lz, pz, S5⟩
      rw [Int.toNat_natCast] at lz pz
      have b3 : 3 ^ spo ≤ 27 := Nat.pow_le_pow_right (by decide) (by omega : spo ≤ 3)
      have b2 : 2 ^ spo ≤ 8 := Nat.pow_le_pow_right (by decide) (by omega : spo ≤ 3)
      have lz : z.length ≤ 1000000 := by omega
      have pz : spc z ≤ 10000 := by omega
      clear S5
      refine ⟨_, rfl, z, rfl, lz, fun r us H6 L s6 => ?_⟩
      have ok := rowsL_ok lz
      have len := rowsL_len lz
      refine ⟨_, rfl, r, us, rowsL z, rfl, L, ok, by omega, fun H7 s7 => ?_⟩
      have L7 := L.same s7
      clear L s7
      refine ⟨fun σ' H' => ∃ (t : Addr) (d : PyData), σ' = [some (.ref a), some (.ref g), some (.int way), some (.int (spo : Nat)), some (.str z), v5, some (.ref r), some (.int (badO (rowsL z) : Nat)), some (.ref t), v9, none] ∧ Dp K H' (.ref t) d ∧ ToldD (rowsL z) d, ?_, ?_⟩
      · refine ⟨_, rfl, _, _, rfl, rfl, _, rfl, ite2 (fun q => ?_) fun q => ?_⟩
        · have q := of_decide_eq_true q
          exact ⟨_, rfl, (by show 2 ≤ sizeLine; decide), fun t nt => ⟨t, _, rfl, .tup (.of upd_same) (.cons (.str _) (.cons (.int _) .nil)), .inl ⟨by omega, rfl⟩⟩⟩
        · have b0 : badO (rowsL z) = 0 := by
            by_cases c : badO (rowsL z) = 0
            · exact c
            · exact absurd (decide_eq_true (by omega)) q
          obtain ⟨R', e, rt⟩ := right_of b0
          have L7' := L7
          rw [e] at L7'
          refine ⟨_, rfl, r, us, R', rfl, lisg_of L7', rt.ok, rt.tx.wd, rt.ne, fun D ws H' nD LD fD s => ⟨(by show 2 ≤ sizeLine; decide), fun t nt => ?_⟩⟩
          have s2 := Same.new (o := .tup [.str "rows", .ref D]) nt
          exact ⟨t, _, rfl, .tup (.of upd_same) (.cons (.str _) (.cons (dp_rs (LD.same s2)) .nil)), .inr ⟨R', e, rt, rfl⟩⟩
      rintro σ H8 ⟨t, d, rfl, dd, td⟩
      have sh := told_sh td
      refine ⟨_, rfl, z, rfl, lz, pz, fun t2 d2 H10 s10 dd2 td2 => ?_⟩
      obtain rfl := told_one td td2
      refine ⟨_, rfl, d, d, dd2, dp_same s10 dd, sh.sh, sh.sh, ?_⟩
      rw [refl_of sh]
      exact k _
end
end Mf
namespace Mf
open PySem L2
/-! ### the head -/
abbrev vTail : List Value := [.type "ValueError", .type "Exception", .type "BaseException", .type "object"]
/-- what stands in the fragment of an error class -/
structure ClF (K : PySem.W.Frag) (M C : Addr) (nm : Str) : Prop where
  ex : ∃ q N bs sn sub ab col dd k0 k1 k2 k3 k5, K.lookup C = some (excClassObj nm q C N bs (.ref M :: vTail) true sn sub ab col dd k0 k1 k2 k3 k5 "ValueError.__new__")
  sa : PySem.W.findIn K (.ref C) "__setattr__" = some (some (.builtin "object.__setattr__"))
  ty : PySem.W.typeIn K (.ref C) = some (.type "type")
  kc : PySem.W.keepIn K (.ref C) = true
  hg : PySem.W.findIn K (.ref C) "__getattribute__" = some (some (.builtin "BaseException.__getattribute__"))
  hk : PySem.W.findIn K (.ref C) "__getattr__" = some none
  ha : PySem.W.findIn K (.ref C) "__class__" = some (some (.builtin "object.__class__"))
  hd : PySem.W.hasDictIn K C = true
section
variable {K : PySem.W.Frag} {M C C' : Addr} {nm nm' : Str} {P : Program} {w : World} {mg : Str → Option Value} {base : Heap} {CX : CXT} {k : Nat} {x qual : Str} {st : Stmt} {f : Addr} {ps ks : List Str} {sp : Sp} {g : List Value → List Value → List Value} {gV : List V → List V → List V}
theorem ClF.cls (D : ClF K M C nm) : ∃ cd, PySem.W.clsIn K C = some cd ∧ cd.mro = .ref C :: .ref M :: vTail := by
  obtain ⟨q, N, bs, sn, sub, ab, col, dd, k0, k1, k2, k3, k5, l⟩ := D.ex
  refine ⟨{ hasDict := true, mro := .ref C :: .ref M :: vTail, name := nm, ns := N, bases := bs, qualname := q, slotNames := sn, abstract := ab, subclasses := sub, collection := col }, ?_, rfl⟩
  unfold PySem.W.clsIn
  rw [l]
theorem ClF.mro (D : ClF K M C nm) (b : Value) : PySem.W.mroIn K C b = some ((Value.ref C :: .ref M :: vTail).contains b) := by
  obtain ⟨cd, h, e⟩ := D.cls
  unfold PySem.W.mroIn
  rw [h]
  show (if cd.mro.isEmpty = true then none else some (cd.mro.contains b)) = _
  rw [e]; rfl
theorem ClF.oex (D : ClF K M C nm) : OexC K C := by
  obtain ⟨q, N, bs, sn, sub, ab, col, dd, k0, k1, k2, k3, k5, l⟩ := D.ex
  exact ⟨⟨_, _, _, _, _, _, _, _, _, _, _, _, _, _, _, l, rfl⟩, D.sa, (D.mro _).trans (by simp), D.ty, D.kc⟩
theorem ClF.exc (D : ClF K M C nm) (hn : PySem.W.specialIn K (.builtin "object.__class__") "__get__" = some (some (.builtin "getset_descriptor.__get__"))) (ht : PySem.W.takesIn K (.builtin "object.__class__") = some true) : ExcC K C :=
  ⟨D.hg, D.hk, (D.mro _).trans (by simp), D.hd, D.ha, hn, ht, (D.mro _).trans (by simp)⟩
theorem ClF.xf (D : ClF K M C nm) : XfC K C := ⟨D.hg, D.hk, (D.mro _).trans (by simp), D.hd⟩
theorem ClF.ne (D : ClF K M C nm) (D' : ClF K M C' nm') (h : nm ≠ nm') : C ≠ C' := by
  intro e
  subst e
  obtain ⟨q, N, bs, sn, sub, ab, col, dd, k0, k1, k2, k3, k5, l⟩ := D.ex
  obtain ⟨q', N', bs', sn', sub', ab', col', dd', k0', k1', k2', k3', k5', l'⟩ := D'.ex
  rw [l] at l'
  injection l' with l'
  injection l' with _ _ l' _
  injection l' with l'
  injection l' with l' _
  exact h l'
theorem ClF.kitS (D : ClF K M C nm) (D' : ClF K M C' nm') (n : C ≠ C') (m : C' ≠ M) : PySem.W.kitOne K (.ref C) (.ref C') = some false := by
  obtain ⟨cd, h, _⟩ := D'.cls
  unfold PySem.W.kitOne PySem.W.kitCls
  rw [if_neg (by simpa using n)]
  show (if ((PySem.W.clsIn K C').isSome && PySem.W.typeIn K (.ref C') == some (.type "type")) = true then PySem.W.mroIn K C (.ref C') else none) = some false
  rw [if_pos (by rw [h, D'.ty]; rfl), D.mro]
  simp [Ne.symm n, m]
theorem ClF.kitM (D : ClF K M C nm) (i : PySem.W.isClsIn K M = true) (t : PySem.W.typeIn K (.ref M) = some (.type "type")) : PySem.W.kitOne K (.ref C) (.ref M) = some true := by
  have i' : (PySem.W.clsIn K M).isSome = true := i
  unfold PySem.W.kitOne PySem.W.kitCls
  by_cases e : (Value.ref C == Value.ref M) = true
  · rw [if_pos e]
  · rw [if_neg e]
    show (if ((PySem.W.clsIn K M).isSome && PySem.W.typeIn K (.ref M) == some (.type "type")) = true then PySem.W.mroIn K C (.ref M) else none) = some true
    rw [if_pos (by rw [i', t]; rfl), D.mro]
    simp
theorem ClF.kitV (D : ClF K M C nm) : PySem.W.kitOne K (.ref C) (.type "ValueError") = some true := by
  unfold PySem.W.kitOne PySem.W.kitCls
  rw [if_neg (by simp)]
  show (if PySem.W.kitMeta "ValueError" = true then PySem.W.mroIn K C (.type "ValueError") else none) = some true
  rw [if_pos (by decide +kernel), D.mro]
  simp
theorem ClF.exm (D : ClF K M C nm) (i : PySem.W.isClsIn K C = true) : PySem.W.exmOne K (.ref C) (.ref C) = some true := by
  have i' : (PySem.W.clsIn K C).isSome = true := i
  have b : PySem.W.subIn K (.ref C) (.type "BaseException") = some true := (D.mro _).trans (by simp)
  unfold PySem.W.exmOne PySem.W.kitCls
  rw [b, if_pos (by simp)]
  show (if ((PySem.W.clsIn K C).isSome && PySem.W.typeIn K (.ref C) == some (.type "type")) = true then PySem.W.mroIn K C (.ref C) else none) = some true
  rw [if_pos (by rw [i', D.ty]; rfl), D.mro]
  simp
/-- an own error, by its facts -/
theorem MetF.erC (D : MetF K C "__init__" qual st f) (T : ClF K M C nm) (i : PySem.W.isClsIn K C = true) (tI : PySem.W.typeIn K (.ref f) = some (.type "function")) (hm : mg x = some (.ref C)) (hb : BindP "__init__" qual st ps)
    (ok : ∀ fd, Fun K "__init__" qual st f fd → FnOk P w K mg base CX0 1 f fd ps sp) : ErC P w K mg base x C ps sp := by
  obtain ⟨oc, od, sl, kV, dc, pm, an, cd, ct, a, l, c, q, i2, n⟩ := D.ex
  have F := fun_mk (st := st) l c q
  exact ⟨⟨f, _, a, tI, ok _ F, F.binds hb⟩, T.oex, T.xf, hm, T.exm i⟩
end
end Mf
namespace Mf
open PySem L2
theorem MetF.calC {P : Program} {w : World} {K : PySem.W.Frag} {mg : Str → Option Value} {base : Heap} {CX : CXT} {k : Nat} {x qual : Str} {st : Stmt} {f C : Addr} {ps : List Str} {sp : Sp} (D : MetF K C "__init__" qual st f) (mk : PySem.W.makesIn K C = true) (kc : PySem.W.keepIn K (.ref C) = true) (m : mg x = some (.ref C)) (hb : BindP "__init__" qual st ps)
    (ok : ∀ fd, Fun K "__init__" qual st f fd → FnOk P w K mg base CX k f fd ps sp) : CalC P w K mg base CX k x C ps sp [] := by
  obtain ⟨oc, od, sl, kV, dc, pm, an, cd, ct, a, l, c, q, i, n⟩ := D.ex
  have F := fun_mk (st := st) l c q
  exact ⟨⟨f, _, [], ⟨mk, a, i, kc⟩, ok _ F, m, F.binds hb, .nil⟩⟩
set_option maxHeartbeats 4000000 in
theorem all_mk {l : PySem.W.OpenLaw} {w : World} {K : PySem.W.Frag} {h : Heap} {mg : Str → Option Value} {fa : Addr} (X : K.In h) (G : h.Ns mainGlobals mg) (hfa : mg "law" = some (.ref fa))
    {Cr CI Me fICr fCrrows fCrparse pCrparse fICI fDIs_name fDIs_integer fDIs_number fDIs_item fDIs_row fDCheck_rows fDNode_indexes fDPointing_row fDFiner_classes fDClasses fDNumbered_rows fDSource fDDraw fDName fDNames fDLClasses fDCanonical fDNumber fDLItem fDRaw_rows fDLIsName fDLIsItem fDBad_row fDIs_numeral fDParsed_item fDParsed_row fDLIText fDLRText fDBent fDRdItem fDRdRows fDParsed fDLaw xGAP xMALFORMED : Addr}
    {ocICr : Value} {odICr : Option Addr} {slICr : Array (Option Value)} {kVICr dcICr pmICr : Value} {anICr : Option Addr} {cdICr ctICr : Value}
    {ocCrrows : Value} {odCrrows : Option Addr} {slCrrows : Array (Option Value)} {kVCrrows dcCrrows pmCrrows : Value} {anCrrows : Option Addr} {cdCrrows ctCrrows : Value}
    {ocCrparse : Value} {odCrparse : Option Addr} {slCrparse : Array (Option Value)} {kVCrparse dcCrparse pmCrparse : Value} {anCrparse : Option Addr} {cdCrparse ctCrparse : Value} {restCrparse : List Value}
    {qCI : Str} {NCI : Addr} {bsCI : List Value} {snCI : List Str} {subCI : List Value} {abCI : Bool} {colCI : Option Bool} {ddCI : Option Addr} {uuCI vvCI wwCI xxCI yyCI : Option Value}
    {ocICI : Value} {odICI : Option Addr} {slICI : Array (Option Value)} {kVICI dcICI pmICI : Value} {anICI : Option Addr} {cdICI ctICI : Value}
    {ocDIs_name : Value} {odDIs_name : Option Addr} {slDIs_name : Array (Option Value)} {kVDIs_name dcDIs_name pmDIs_name : Value} {anDIs_name : Option Addr} {cdDIs_name ctDIs_name : Value}
    {ocDIs_integer : Value} {odDIs_integer : Option Addr} {slDIs_integer : Array (Option Value)} {kVDIs_integer dcDIs_integer pmDIs_integer : Value} {anDIs_integer : Option Addr} {cdDIs_integer ctDIs_integer : Value}
    {ocDIs_number : Value} {odDIs_number : Option Addr} {slDIs_number : Array (Option Value)} {kVDIs_number dcDIs_number pmDIs_number : Value} {anDIs_number : Option Addr} {cdDIs_number ctDIs_number : Value}
    {ocDIs_item : Value} {odDIs_item : Option Addr} {slDIs_item : Array (Option Value)} {kVDIs_item dcDIs_item pmDIs_item : Value} {anDIs_item : Option Addr} {cdDIs_item ctDIs_item : Value}
    {ocDIs_row : Value} {odDIs_row : Option Addr} {slDIs_row : Array (Option Value)} {kVDIs_row dcDIs_row pmDIs_row : Value} {anDIs_row : Option Addr} {cdDIs_row ctDIs_row : Value}
    {ocDCheck_rows : Value} {odDCheck_rows : Option Addr} {slDCheck_rows : Array (Option Value)} {kVDCheck_rows dcDCheck_rows pmDCheck_rows : Value} {anDCheck_rows : Option Addr} {cdDCheck_rows ctDCheck_rows : Value}
    {ocDNode_indexes : Value} {odDNode_indexes : Option Addr} {slDNode_indexes : Array (Option Value)} {kVDNode_indexes dcDNode_indexes pmDNode_indexes : Value} {anDNode_indexes : Option Addr} {cdDNode_indexes ctDNode_indexes : Value}
    {ocDPointing_row : Value} {odDPointing_row : Option Addr} {slDPointing_row : Array (Option Value)} {kVDPointing_row dcDPointing_row pmDPointing_row : Value} {anDPointing_row : Option Addr} {cdDPointing_row ctDPointing_row : Value}
    {ocDFiner_classes : Value} {odDFiner_classes : Option Addr} {slDFiner_classes : Array (Option Value)} {kVDFiner_classes dcDFiner_classes pmDFiner_classes : Value} {anDFiner_classes : Option Addr} {cdDFiner_classes ctDFiner_classes : Value}
    {ocDClasses : Value} {odDClasses : Option Addr} {slDClasses : Array (Option Value)} {kVDClasses dcDClasses pmDClasses : Value} {anDClasses : Option Addr} {cdDClasses ctDClasses : Value}
    {ocDNumbered_rows : Value} {odDNumbered_rows : Option Addr} {slDNumbered_rows : Array (Option Value)} {kVDNumbered_rows dcDNumbered_rows pmDNumbered_rows : Value} {anDNumbered_rows : Option Addr} {cdDNumbered_rows ctDNumbered_rows : Value}
    {ocDSource : Value} {odDSource : Option Addr} {slDSource : Array (Option Value)} {kVDSource dcDSource pmDSource : Value} {anDSource : Option Addr} {cdDSource ctDSource : Value}
    {ocDDraw : Value} {odDDraw : Option Addr} {slDDraw : Array (Option Value)} {kVDDraw dcDDraw pmDDraw : Value} {anDDraw : Option Addr} {cdDDraw ctDDraw : Value}
    {ocDName : Value} {odDName : Option Addr} {slDName : Array (Option Value)} {kVDName dcDName pmDName : Value} {anDName : Option Addr} {cdDName ctDName : Value}
    {ocDNames : Value} {odDNames : Option Addr} {slDNames : Array (Option Value)} {kVDNames dcDNames pmDNames : Value} {anDNames : Option Addr} {cdDNames ctDNames : Value}
    {ocDLClasses : Value} {odDLClasses : Option Addr} {slDLClasses : Array (Option Value)} {kVDLClasses dcDLClasses pmDLClasses : Value} {anDLClasses : Option Addr} {cdDLClasses ctDLClasses : Value}
    {ocDCanonical : Value} {odDCanonical : Option Addr} {slDCanonical : Array (Option Value)} {kVDCanonical dcDCanonical pmDCanonical : Value} {anDCanonical : Option Addr} {cdDCanonical ctDCanonical : Value}
    {ocDNumber : Value} {odDNumber : Option Addr} {slDNumber : Array (Option Value)} {kVDNumber dcDNumber pmDNumber : Value} {anDNumber : Option Addr} {cdDNumber ctDNumber : Value}
    {ocDLItem : Value} {odDLItem : Option Addr} {slDLItem : Array (Option Value)} {kVDLItem dcDLItem pmDLItem : Value} {anDLItem : Option Addr} {cdDLItem ctDLItem : Value}
    {ocDRaw_rows : Value} {odDRaw_rows : Option Addr} {slDRaw_rows : Array (Option Value)} {kVDRaw_rows dcDRaw_rows pmDRaw_rows : Value} {anDRaw_rows : Option Addr} {cdDRaw_rows ctDRaw_rows : Value}
    {ocDLIsName : Value} {odDLIsName : Option Addr} {slDLIsName : Array (Option Value)} {kVDLIsName dcDLIsName pmDLIsName : Value} {anDLIsName : Option Addr} {cdDLIsName ctDLIsName : Value}
    {ocDLIsItem : Value} {odDLIsItem : Option Addr} {slDLIsItem : Array (Option Value)} {kVDLIsItem dcDLIsItem pmDLIsItem : Value} {anDLIsItem : Option Addr} {cdDLIsItem ctDLIsItem : Value}
    {ocDBad_row : Value} {odDBad_row : Option Addr} {slDBad_row : Array (Option Value)} {kVDBad_row dcDBad_row pmDBad_row : Value} {anDBad_row : Option Addr} {cdDBad_row ctDBad_row : Value}
    {ocDIs_numeral : Value} {odDIs_numeral : Option Addr} {slDIs_numeral : Array (Option Value)} {kVDIs_numeral dcDIs_numeral pmDIs_numeral : Value} {anDIs_numeral : Option Addr} {cdDIs_numeral ctDIs_numeral : Value}
    {ocDParsed_item : Value} {odDParsed_item : Option Addr} {slDParsed_item : Array (Option Value)} {kVDParsed_item dcDParsed_item pmDParsed_item : Value} {anDParsed_item : Option Addr} {cdDParsed_item ctDParsed_item : Value}
    {ocDParsed_row : Value} {odDParsed_row : Option Addr} {slDParsed_row : Array (Option Value)} {kVDParsed_row dcDParsed_row pmDParsed_row : Value} {anDParsed_row : Option Addr} {cdDParsed_row ctDParsed_row : Value}
    {ocDLIText : Value} {odDLIText : Option Addr} {slDLIText : Array (Option Value)} {kVDLIText dcDLIText pmDLIText : Value} {anDLIText : Option Addr} {cdDLIText ctDLIText : Value}
    {ocDLRText : Value} {odDLRText : Option Addr} {slDLRText : Array (Option Value)} {kVDLRText dcDLRText pmDLRText : Value} {anDLRText : Option Addr} {cdDLRText ctDLRText : Value}
    {ocDBent : Value} {odDBent : Option Addr} {slDBent : Array (Option Value)} {kVDBent dcDBent pmDBent : Value} {anDBent : Option Addr} {cdDBent ctDBent : Value}
    {ocDRdItem : Value} {odDRdItem : Option Addr} {slDRdItem : Array (Option Value)} {kVDRdItem dcDRdItem pmDRdItem : Value} {anDRdItem : Option Addr} {cdDRdItem ctDRdItem : Value}
    {ocDRdRows : Value} {odDRdRows : Option Addr} {slDRdRows : Array (Option Value)} {kVDRdRows dcDRdRows pmDRdRows : Value} {anDRdRows : Option Addr} {cdDRdRows ctDRdRows : Value}
    {ocDParsed : Value} {odDParsed : Option Addr} {slDParsed : Array (Option Value)} {kVDParsed dcDParsed pmDParsed : Value} {anDParsed : Option Addr} {cdDParsed ctDParsed : Value}
    {ocDLaw : Value} {odDLaw : Option Addr} {slDLaw : Array (Option Value)} {kVDLaw dcDLaw pmDLaw : Value} {anDLaw : Option Addr} {cdDLaw ctDLaw : Value}
    {tkLONGEST_NAME : Tok}
    {tkMOST_ROWS : Tok}
    {tkMOST_ITEMS : Tok}
    {tkMOST_DIGITS : Tok}
    {oGAP : Obj} {itsGAP : List Value} {nGAP : Nat} {uGAP0 : Tok}
    {oMALFORMED : Obj} {itsMALFORMED : List Value} {nMALFORMED : Nat} {uMALFORMED0 : Tok}
    (aCCr : PySem.W.nsIn K mainGlobals "Result" = some (some (.ref Cr)))
    (pgCr : PySem.W.plainGet K Cr Str.empty = true) (hdCr : PySem.W.hasDictIn K Cr = true) (poCr : PySem.W.plainOver K Cr = true) (saCr : PySem.W.findIn K (.ref Cr) "__setattr__" = some (some (.builtin "object.__setattr__"))) (mkCr : PySem.W.makesIn K Cr = true) (kcCr : PySem.W.keepIn K (.ref Cr) = true)
    (haCr : PySem.W.findIn K (.ref Cr) "__class__" = some (some (.builtin "object.__class__"))) (hmCr : PySem.W.mroIn K Cr (.type "object") = some true) (ciCr : PySem.W.isClsIn K Cr = true) (ctCr : PySem.W.typeIn K (.ref Cr) = some (.type "type")) (kLCr : PySem.W.subIn K (.type "list") (.ref Cr) = some false) (kTCr : PySem.W.subIn K (.type "tuple") (.ref Cr) = some false)
    (neCr : PySem.W.findIn K (.ref Cr) "__ne__" = some (some (.builtin "object.__ne__"))) (sfCr : PySem.W.selfFirst K Cr = true)
    (nCr_rows : PySem.W.findIn K (.ref Cr) "_rows" = some none)
    (aICr : PySem.W.findIn K (.ref Cr) "__init__" = some (some (.ref fICr))) (lICr : K.lookup fICr = some ⟨ocICr, odICr, .func (PySem.W.fnOf "__init__" "Result.__init__" (defArgs sResultInit) (defBody sResultInit) (defScope sResultInit) .none kVICr dcICr pmICr anICr cdICr ctICr), slICr⟩) (cICr : PySem.W.codeIn K cdICr "Result.__init__" = true) (kICr : PySem.W.keepIn K (.ref fICr) = true) (iICr : PySem.W.isFn K (.ref fICr) = true) (nICr : PySem.W.fnIn K fICr = true)
    (aCrrows : PySem.W.findIn K (.ref Cr) "rows" = some (some (.ref fCrrows))) (lCrrows : K.lookup fCrrows = some ⟨ocCrrows, odCrrows, .func (PySem.W.fnOf "rows" "Result.rows" (defArgs sResultRows) (defBody sResultRows) (defScope sResultRows) .none kVCrrows dcCrrows pmCrrows anCrrows cdCrrows ctCrrows), slCrrows⟩) (cCrrows : PySem.W.codeIn K cdCrrows "Result.rows" = true) (kCrrows : PySem.W.keepIn K (.ref fCrrows) = true) (iCrrows : PySem.W.isFn K (.ref fCrrows) = true) (nCrrows : PySem.W.fnIn K fCrrows = true)
    (rdCr : PySem.W.readsIn K Cr (.type "type") = true) (gtCr : PySem.W.specialIn K (.ref Cr) "__getattribute__" = some (some (.builtin "type.__getattribute__")))
    (cmCrparse : PySem.W.findCls K (.ref Cr) (.type "type") "parse" = some (.get (.builtin "classmethod.__get__") (.ref pCrparse) .none (.ref Cr))) (rcCrparse : PySem.W.recIn K pCrparse "classmethod" = some (.ref fCrparse :: restCrparse)) (fiCrparse : PySem.W.fnIn K fCrparse = true) (lCrparse : K.lookup fCrparse = some ⟨ocCrparse, odCrparse, .func (PySem.W.fnOf "parse" "Result.parse" (defArgs sResultParse) (defBody sResultParse) (defScope sResultParse) .none kVCrparse dcCrparse pmCrparse anCrparse cdCrparse ctCrparse), slCrparse⟩) (cCrparse : PySem.W.codeIn K cdCrparse "Result.parse" = true) (kCrparse : PySem.W.keepIn K (.ref fCrparse) = true)
    (aCCI : PySem.W.nsIn K mainGlobals "InvalidResult" = some (some (.ref CI))) (lCCI : K.lookup CI = some (excClassObj "InvalidResult" qCI CI NCI bsCI [.ref Me, .type "ValueError", .type "Exception", .type "BaseException", .type "object"] true snCI subCI abCI colCI ddCI uuCI vvCI wwCI xxCI yyCI "ValueError.__new__"))
    (saCI : PySem.W.findIn K (.ref CI) "__setattr__" = some (some (.builtin "object.__setattr__"))) (tyCI : PySem.W.typeIn K (.ref CI) = some (.type "type")) (kcCI : PySem.W.keepIn K (.ref CI) = true)
    (hgCI : PySem.W.findIn K (.ref CI) "__getattribute__" = some (some (.builtin "BaseException.__getattribute__"))) (hkCI : PySem.W.findIn K (.ref CI) "__getattr__" = some none)
    (haCI : PySem.W.findIn K (.ref CI) "__class__" = some (some (.builtin "object.__class__"))) (hdCI : PySem.W.hasDictIn K CI = true) (ciCI : PySem.W.isClsIn K CI = true)
    (nCIline : PySem.W.findIn K (.ref CI) "line" = some none)
    (aICI : PySem.W.findIn K (.ref CI) "__init__" = some (some (.ref fICI))) (lICI : K.lookup fICI = some ⟨ocICI, odICI, .func (PySem.W.fnOf "__init__" "InvalidResult.__init__" (defArgs sInvalidResultInit) (defBody sInvalidResultInit) (defScope sInvalidResultInit) .none kVICI dcICI pmICI anICI cdICI ctICI), slICI⟩) (cICI : PySem.W.codeIn K cdICI "InvalidResult.__init__" = true) (kICI : PySem.W.keepIn K (.ref fICI) = true) (iICI : PySem.W.isFn K (.ref fICI) = true) (nICI : PySem.W.fnIn K fICI = true)
    (tICI : PySem.W.typeIn K (.ref fICI) = some (.type "function"))
    (hn : PySem.W.specialIn K (.builtin "object.__class__") "__get__" = some (some (.builtin "getset_descriptor.__get__"))) (htk : PySem.W.takesIn K (.builtin "object.__class__") = some true)
    (aDIs_name : PySem.W.nsIn K mainGlobals "is_name" = some (some (.ref fDIs_name))) (lDIs_name : K.lookup fDIs_name = some ⟨ocDIs_name, odDIs_name, .func (PySem.W.fnOf "is_name" "is_name" (defArgs sIs_name) (defBody sIs_name) (defScope sIs_name) .none kVDIs_name dcDIs_name pmDIs_name anDIs_name cdDIs_name ctDIs_name), slDIs_name⟩) (cDIs_name : PySem.W.codeIn K cdDIs_name "is_name" = true) (kDIs_name : PySem.W.keepIn K (.ref fDIs_name) = true)
    (aDIs_integer : PySem.W.nsIn K mainGlobals "is_integer" = some (some (.ref fDIs_integer))) (lDIs_integer : K.lookup fDIs_integer = some ⟨ocDIs_integer, odDIs_integer, .func (PySem.W.fnOf "is_integer" "is_integer" (defArgs sIs_integer) (defBody sIs_integer) (defScope sIs_integer) .none kVDIs_integer dcDIs_integer pmDIs_integer anDIs_integer cdDIs_integer ctDIs_integer), slDIs_integer⟩) (cDIs_integer : PySem.W.codeIn K cdDIs_integer "is_integer" = true) (kDIs_integer : PySem.W.keepIn K (.ref fDIs_integer) = true)
    (aDIs_number : PySem.W.nsIn K mainGlobals "is_number" = some (some (.ref fDIs_number))) (lDIs_number : K.lookup fDIs_number = some ⟨ocDIs_number, odDIs_number, .func (PySem.W.fnOf "is_number" "is_number" (defArgs sIs_number) (defBody sIs_number) (defScope sIs_number) .none kVDIs_number dcDIs_number pmDIs_number anDIs_number cdDIs_number ctDIs_number), slDIs_number⟩) (cDIs_number : PySem.W.codeIn K cdDIs_number "is_number" = true) (kDIs_number : PySem.W.keepIn K (.ref fDIs_number) = true)
    (aDIs_item : PySem.W.nsIn K mainGlobals "_is_item" = some (some (.ref fDIs_item))) (lDIs_item : K.lookup fDIs_item = some ⟨ocDIs_item, odDIs_item, .func (PySem.W.fnOf "_is_item" "_is_item" (defArgs sIs_item) (defBody sIs_item) (defScope sIs_item) .none kVDIs_item dcDIs_item pmDIs_item anDIs_item cdDIs_item ctDIs_item), slDIs_item⟩) (cDIs_item : PySem.W.codeIn K cdDIs_item "_is_item" = true) (kDIs_item : PySem.W.keepIn K (.ref fDIs_item) = true)
    (aDIs_row : PySem.W.nsIn K mainGlobals "_is_row" = some (some (.ref fDIs_row))) (lDIs_row : K.lookup fDIs_row = some ⟨ocDIs_row, odDIs_row, .func (PySem.W.fnOf "_is_row" "_is_row" (defArgs sIs_row) (defBody sIs_row) (defScope sIs_row) .none kVDIs_row dcDIs_row pmDIs_row anDIs_row cdDIs_row ctDIs_row), slDIs_row⟩) (cDIs_row : PySem.W.codeIn K cdDIs_row "_is_row" = true) (kDIs_row : PySem.W.keepIn K (.ref fDIs_row) = true)
    (aDCheck_rows : PySem.W.nsIn K mainGlobals "check_rows" = some (some (.ref fDCheck_rows))) (lDCheck_rows : K.lookup fDCheck_rows = some ⟨ocDCheck_rows, odDCheck_rows, .func (PySem.W.fnOf "check_rows" "check_rows" (defArgs sCheck_rows) (defBody sCheck_rows) (defScope sCheck_rows) .none kVDCheck_rows dcDCheck_rows pmDCheck_rows anDCheck_rows cdDCheck_rows ctDCheck_rows), slDCheck_rows⟩) (cDCheck_rows : PySem.W.codeIn K cdDCheck_rows "check_rows" = true) (kDCheck_rows : PySem.W.keepIn K (.ref fDCheck_rows) = true)
    (aDNode_indexes : PySem.W.nsIn K mainGlobals "_node_indexes" = some (some (.ref fDNode_indexes))) (lDNode_indexes : K.lookup fDNode_indexes = some ⟨ocDNode_indexes, odDNode_indexes, .func (PySem.W.fnOf "_node_indexes" "_node_indexes" (defArgs sNode_indexes) (defBody sNode_indexes) (defScope sNode_indexes) .none kVDNode_indexes dcDNode_indexes pmDNode_indexes anDNode_indexes cdDNode_indexes ctDNode_indexes), slDNode_indexes⟩) (cDNode_indexes : PySem.W.codeIn K cdDNode_indexes "_node_indexes" = true) (kDNode_indexes : PySem.W.keepIn K (.ref fDNode_indexes) = true)
    (aDPointing_row : PySem.W.nsIn K mainGlobals "_pointing_row" = some (some (.ref fDPointing_row))) (lDPointing_row : K.lookup fDPointing_row = some ⟨ocDPointing_row, odDPointing_row, .func (PySem.W.fnOf "_pointing_row" "_pointing_row" (defArgs sPointing_row) (defBody sPointing_row) (defScope sPointing_row) .none kVDPointing_row dcDPointing_row pmDPointing_row anDPointing_row cdDPointing_row ctDPointing_row), slDPointing_row⟩) (cDPointing_row : PySem.W.codeIn K cdDPointing_row "_pointing_row" = true) (kDPointing_row : PySem.W.keepIn K (.ref fDPointing_row) = true)
    (aDFiner_classes : PySem.W.nsIn K mainGlobals "_finer_classes" = some (some (.ref fDFiner_classes))) (lDFiner_classes : K.lookup fDFiner_classes = some ⟨ocDFiner_classes, odDFiner_classes, .func (PySem.W.fnOf "_finer_classes" "_finer_classes" (defArgs sFiner_classes) (defBody sFiner_classes) (defScope sFiner_classes) .none kVDFiner_classes dcDFiner_classes pmDFiner_classes anDFiner_classes cdDFiner_classes ctDFiner_classes), slDFiner_classes⟩) (cDFiner_classes : PySem.W.codeIn K cdDFiner_classes "_finer_classes" = true) (kDFiner_classes : PySem.W.keepIn K (.ref fDFiner_classes) = true)
    (aDClasses : PySem.W.nsIn K mainGlobals "_classes" = some (some (.ref fDClasses))) (lDClasses : K.lookup fDClasses = some ⟨ocDClasses, odDClasses, .func (PySem.W.fnOf "_classes" "_classes" (defArgs sClasses) (defBody sClasses) (defScope sClasses) .none kVDClasses dcDClasses pmDClasses anDClasses cdDClasses ctDClasses), slDClasses⟩) (cDClasses : PySem.W.codeIn K cdDClasses "_classes" = true) (kDClasses : PySem.W.keepIn K (.ref fDClasses) = true)
    (aDNumbered_rows : PySem.W.nsIn K mainGlobals "numbered_rows" = some (some (.ref fDNumbered_rows))) (lDNumbered_rows : K.lookup fDNumbered_rows = some ⟨ocDNumbered_rows, odDNumbered_rows, .func (PySem.W.fnOf "numbered_rows" "numbered_rows" (defArgs sNumbered_rows) (defBody sNumbered_rows) (defScope sNumbered_rows) .none kVDNumbered_rows dcDNumbered_rows pmDNumbered_rows anDNumbered_rows cdDNumbered_rows ctDNumbered_rows), slDNumbered_rows⟩) (cDNumbered_rows : PySem.W.codeIn K cdDNumbered_rows "numbered_rows" = true) (kDNumbered_rows : PySem.W.keepIn K (.ref fDNumbered_rows) = true)
    (aDSource : PySem.W.nsIn K mainGlobals "_law_source" = some (some (.ref fDSource))) (lDSource : K.lookup fDSource = some ⟨ocDSource, odDSource, .func (PySem.W.fnOf "_law_source" "_law_source" (defArgs sSource) (defBody sSource) (defScope sSource) .none kVDSource dcDSource pmDSource anDSource cdDSource ctDSource), slDSource⟩) (cDSource : PySem.W.codeIn K cdDSource "_law_source" = true) (kDSource : PySem.W.keepIn K (.ref fDSource) = true)
    (aDDraw : PySem.W.nsIn K mainGlobals "_law_draw" = some (some (.ref fDDraw))) (lDDraw : K.lookup fDDraw = some ⟨ocDDraw, odDDraw, .func (PySem.W.fnOf "_law_draw" "_law_draw" (defArgs sDraw) (defBody sDraw) (defScope sDraw) .none kVDDraw dcDDraw pmDDraw anDDraw cdDDraw ctDDraw), slDDraw⟩) (cDDraw : PySem.W.codeIn K cdDDraw "_law_draw" = true) (kDDraw : PySem.W.keepIn K (.ref fDDraw) = true)
    (aDName : PySem.W.nsIn K mainGlobals "_law_name" = some (some (.ref fDName))) (lDName : K.lookup fDName = some ⟨ocDName, odDName, .func (PySem.W.fnOf "_law_name" "_law_name" (defArgs sName) (defBody sName) (defScope sName) .none kVDName dcDName pmDName anDName cdDName ctDName), slDName⟩) (cDName : PySem.W.codeIn K cdDName "_law_name" = true) (kDName : PySem.W.keepIn K (.ref fDName) = true)
    (aDNames : PySem.W.nsIn K mainGlobals "_law_names" = some (some (.ref fDNames))) (lDNames : K.lookup fDNames = some ⟨ocDNames, odDNames, .func (PySem.W.fnOf "_law_names" "_law_names" (defArgs sNames) (defBody sNames) (defScope sNames) .none kVDNames dcDNames pmDNames anDNames cdDNames ctDNames), slDNames⟩) (cDNames : PySem.W.codeIn K cdDNames "_law_names" = true) (kDNames : PySem.W.keepIn K (.ref fDNames) = true)
    (aDLClasses : PySem.W.nsIn K mainGlobals "_law_classes" = some (some (.ref fDLClasses))) (lDLClasses : K.lookup fDLClasses = some ⟨ocDLClasses, odDLClasses, .func (PySem.W.fnOf "_law_classes" "_law_classes" (defArgs sLClasses) (defBody sLClasses) (defScope sLClasses) .none kVDLClasses dcDLClasses pmDLClasses anDLClasses cdDLClasses ctDLClasses), slDLClasses⟩) (cDLClasses : PySem.W.codeIn K cdDLClasses "_law_classes" = true) (kDLClasses : PySem.W.keepIn K (.ref fDLClasses) = true)
    (aDCanonical : PySem.W.nsIn K mainGlobals "_law_canonical" = some (some (.ref fDCanonical))) (lDCanonical : K.lookup fDCanonical = some ⟨ocDCanonical, odDCanonical, .func (PySem.W.fnOf "_law_canonical" "_law_canonical" (defArgs sCanonical) (defBody sCanonical) (defScope sCanonical) .none kVDCanonical dcDCanonical pmDCanonical anDCanonical cdDCanonical ctDCanonical), slDCanonical⟩) (cDCanonical : PySem.W.codeIn K cdDCanonical "_law_canonical" = true) (kDCanonical : PySem.W.keepIn K (.ref fDCanonical) = true)
    (aDNumber : PySem.W.nsIn K mainGlobals "_law_number" = some (some (.ref fDNumber))) (lDNumber : K.lookup fDNumber = some ⟨ocDNumber, odDNumber, .func (PySem.W.fnOf "_law_number" "_law_number" (defArgs sNumber) (defBody sNumber) (defScope sNumber) .none kVDNumber dcDNumber pmDNumber anDNumber cdDNumber ctDNumber), slDNumber⟩) (cDNumber : PySem.W.codeIn K cdDNumber "_law_number" = true) (kDNumber : PySem.W.keepIn K (.ref fDNumber) = true)
    (aDLItem : PySem.W.nsIn K mainGlobals "_law_item" = some (some (.ref fDLItem))) (lDLItem : K.lookup fDLItem = some ⟨ocDLItem, odDLItem, .func (PySem.W.fnOf "_law_item" "_law_item" (defArgs sLItem) (defBody sLItem) (defScope sLItem) .none kVDLItem dcDLItem pmDLItem anDLItem cdDLItem ctDLItem), slDLItem⟩) (cDLItem : PySem.W.codeIn K cdDLItem "_law_item" = true) (kDLItem : PySem.W.keepIn K (.ref fDLItem) = true)
    (aDRaw_rows : PySem.W.nsIn K mainGlobals "_law_raw_rows" = some (some (.ref fDRaw_rows))) (lDRaw_rows : K.lookup fDRaw_rows = some ⟨ocDRaw_rows, odDRaw_rows, .func (PySem.W.fnOf "_law_raw_rows" "_law_raw_rows" (defArgs sRaw_rows) (defBody sRaw_rows) (defScope sRaw_rows) .none kVDRaw_rows dcDRaw_rows pmDRaw_rows anDRaw_rows cdDRaw_rows ctDRaw_rows), slDRaw_rows⟩) (cDRaw_rows : PySem.W.codeIn K cdDRaw_rows "_law_raw_rows" = true) (kDRaw_rows : PySem.W.keepIn K (.ref fDRaw_rows) = true)
    (aDLIsName : PySem.W.nsIn K mainGlobals "_law_is_name" = some (some (.ref fDLIsName))) (lDLIsName : K.lookup fDLIsName = some ⟨ocDLIsName, odDLIsName, .func (PySem.W.fnOf "_law_is_name" "_law_is_name" (defArgs sLIsName) (defBody sLIsName) (defScope sLIsName) .none kVDLIsName dcDLIsName pmDLIsName anDLIsName cdDLIsName ctDLIsName), slDLIsName⟩) (cDLIsName : PySem.W.codeIn K cdDLIsName "_law_is_name" = true) (kDLIsName : PySem.W.keepIn K (.ref fDLIsName) = true)
    (aDLIsItem : PySem.W.nsIn K mainGlobals "_law_is_item" = some (some (.ref fDLIsItem))) (lDLIsItem : K.lookup fDLIsItem = some ⟨ocDLIsItem, odDLIsItem, .func (PySem.W.fnOf "_law_is_item" "_law_is_item" (defArgs sLIsItem) (defBody sLIsItem) (defScope sLIsItem) .none kVDLIsItem dcDLIsItem pmDLIsItem anDLIsItem cdDLIsItem ctDLIsItem), slDLIsItem⟩) (cDLIsItem : PySem.W.codeIn K cdDLIsItem "_law_is_item" = true) (kDLIsItem : PySem.W.keepIn K (.ref fDLIsItem) = true)
    (aDBad_row : PySem.W.nsIn K mainGlobals "_law_bad_row" = some (some (.ref fDBad_row))) (lDBad_row : K.lookup fDBad_row = some ⟨ocDBad_row, odDBad_row, .func (PySem.W.fnOf "_law_bad_row" "_law_bad_row" (defArgs sBad_row) (defBody sBad_row) (defScope sBad_row) .none kVDBad_row dcDBad_row pmDBad_row anDBad_row cdDBad_row ctDBad_row), slDBad_row⟩) (cDBad_row : PySem.W.codeIn K cdDBad_row "_law_bad_row" = true) (kDBad_row : PySem.W.keepIn K (.ref fDBad_row) = true)
    (aDIs_numeral : PySem.W.nsIn K mainGlobals "is_numeral" = some (some (.ref fDIs_numeral))) (lDIs_numeral : K.lookup fDIs_numeral = some ⟨ocDIs_numeral, odDIs_numeral, .func (PySem.W.fnOf "is_numeral" "is_numeral" (defArgs sIs_numeral) (defBody sIs_numeral) (defScope sIs_numeral) .none kVDIs_numeral dcDIs_numeral pmDIs_numeral anDIs_numeral cdDIs_numeral ctDIs_numeral), slDIs_numeral⟩) (cDIs_numeral : PySem.W.codeIn K cdDIs_numeral "is_numeral" = true) (kDIs_numeral : PySem.W.keepIn K (.ref fDIs_numeral) = true)
    (aDParsed_item : PySem.W.nsIn K mainGlobals "_parsed_item" = some (some (.ref fDParsed_item))) (lDParsed_item : K.lookup fDParsed_item = some ⟨ocDParsed_item, odDParsed_item, .func (PySem.W.fnOf "_parsed_item" "_parsed_item" (defArgs sParsed_item) (defBody sParsed_item) (defScope sParsed_item) .none kVDParsed_item dcDParsed_item pmDParsed_item anDParsed_item cdDParsed_item ctDParsed_item), slDParsed_item⟩) (cDParsed_item : PySem.W.codeIn K cdDParsed_item "_parsed_item" = true) (kDParsed_item : PySem.W.keepIn K (.ref fDParsed_item) = true)
    (aDParsed_row : PySem.W.nsIn K mainGlobals "parsed_row" = some (some (.ref fDParsed_row))) (lDParsed_row : K.lookup fDParsed_row = some ⟨ocDParsed_row, odDParsed_row, .func (PySem.W.fnOf "parsed_row" "parsed_row" (defArgs sParsed_row) (defBody sParsed_row) (defScope sParsed_row) .none kVDParsed_row dcDParsed_row pmDParsed_row anDParsed_row cdDParsed_row ctDParsed_row), slDParsed_row⟩) (cDParsed_row : PySem.W.codeIn K cdDParsed_row "parsed_row" = true) (kDParsed_row : PySem.W.keepIn K (.ref fDParsed_row) = true)
    (aDLIText : PySem.W.nsIn K mainGlobals "_law_item_text" = some (some (.ref fDLIText))) (lDLIText : K.lookup fDLIText = some ⟨ocDLIText, odDLIText, .func (PySem.W.fnOf "_law_item_text" "_law_item_text" (defArgs sLIText) (defBody sLIText) (defScope sLIText) .none kVDLIText dcDLIText pmDLIText anDLIText cdDLIText ctDLIText), slDLIText⟩) (cDLIText : PySem.W.codeIn K cdDLIText "_law_item_text" = true) (kDLIText : PySem.W.keepIn K (.ref fDLIText) = true)
    (aDLRText : PySem.W.nsIn K mainGlobals "_law_rows_text" = some (some (.ref fDLRText))) (lDLRText : K.lookup fDLRText = some ⟨ocDLRText, odDLRText, .func (PySem.W.fnOf "_law_rows_text" "_law_rows_text" (defArgs sLRText) (defBody sLRText) (defScope sLRText) .none kVDLRText dcDLRText pmDLRText anDLRText cdDLRText ctDLRText), slDLRText⟩) (cDLRText : PySem.W.codeIn K cdDLRText "_law_rows_text" = true) (kDLRText : PySem.W.keepIn K (.ref fDLRText) = true)
    (aDBent : PySem.W.nsIn K mainGlobals "_law_bent" = some (some (.ref fDBent))) (lDBent : K.lookup fDBent = some ⟨ocDBent, odDBent, .func (PySem.W.fnOf "_law_bent" "_law_bent" (defArgs sBent) (defBody sBent) (defScope sBent) .none kVDBent dcDBent pmDBent anDBent cdDBent ctDBent), slDBent⟩) (cDBent : PySem.W.codeIn K cdDBent "_law_bent" = true) (kDBent : PySem.W.keepIn K (.ref fDBent) = true)
    (aDRdItem : PySem.W.nsIn K mainGlobals "_law_read_item" = some (some (.ref fDRdItem))) (lDRdItem : K.lookup fDRdItem = some ⟨ocDRdItem, odDRdItem, .func (PySem.W.fnOf "_law_read_item" "_law_read_item" (defArgs sRdItem) (defBody sRdItem) (defScope sRdItem) .none kVDRdItem dcDRdItem pmDRdItem anDRdItem cdDRdItem ctDRdItem), slDRdItem⟩) (cDRdItem : PySem.W.codeIn K cdDRdItem "_law_read_item" = true) (kDRdItem : PySem.W.keepIn K (.ref fDRdItem) = true)
    (aDRdRows : PySem.W.nsIn K mainGlobals "_law_read_rows" = some (some (.ref fDRdRows))) (lDRdRows : K.lookup fDRdRows = some ⟨ocDRdRows, odDRdRows, .func (PySem.W.fnOf "_law_read_rows" "_law_read_rows" (defArgs sRdRows) (defBody sRdRows) (defScope sRdRows) .none kVDRdRows dcDRdRows pmDRdRows anDRdRows cdDRdRows ctDRdRows), slDRdRows⟩) (cDRdRows : PySem.W.codeIn K cdDRdRows "_law_read_rows" = true) (kDRdRows : PySem.W.keepIn K (.ref fDRdRows) = true)
    (aDParsed : PySem.W.nsIn K mainGlobals "_law_parsed" = some (some (.ref fDParsed))) (lDParsed : K.lookup fDParsed = some ⟨ocDParsed, odDParsed, .func (PySem.W.fnOf "_law_parsed" "_law_parsed" (defArgs sParsed) (defBody sParsed) (defScope sParsed) .none kVDParsed dcDParsed pmDParsed anDParsed cdDParsed ctDParsed), slDParsed⟩) (cDParsed : PySem.W.codeIn K cdDParsed "_law_parsed" = true) (kDParsed : PySem.W.keepIn K (.ref fDParsed) = true)
    (aDLaw : PySem.W.nsIn K mainGlobals "law" = some (some (.ref fDLaw))) (lDLaw : K.lookup fDLaw = some ⟨ocDLaw, odDLaw, .func (PySem.W.fnOf "law" "law" (defArgs sLaw) (defBody sLaw) (defScope sLaw) .none kVDLaw dcDLaw pmDLaw anDLaw cdDLaw ctDLaw), slDLaw⟩) (cDLaw : PySem.W.codeIn K cdDLaw "law" = true) (kDLaw : PySem.W.keepIn K (.ref fDLaw) = true)
    (aLONGEST_NAME : PySem.W.nsIn K mainGlobals "LONGEST_NAME" = some (some (.int 8 tkLONGEST_NAME)))
    (aMOST_ROWS : PySem.W.nsIn K mainGlobals "MOST_ROWS" = some (some (.int 40 tkMOST_ROWS)))
    (aMOST_ITEMS : PySem.W.nsIn K mainGlobals "MOST_ITEMS" = some (some (.int 12 tkMOST_ITEMS)))
    (aMOST_DIGITS : PySem.W.nsIn K mainGlobals "MOST_DIGITS" = some (some (.int 60 tkMOST_DIGITS)))
    (aGAP : PySem.W.nsIn K mainGlobals "GAP" = some (some (.ref xGAP))) (lGAP : K.lookup xGAP = some oGAP) (dGAP : oGAP.data = .seq itsGAP.toArray nGAP) (iGAP : itsGAP = [.str "gap" uGAP0]) (cGAP : oGAP.cls = .type "tuple")
    (aMALFORMED : PySem.W.nsIn K mainGlobals "MALFORMED" = some (some (.ref xMALFORMED))) (lMALFORMED : K.lookup xMALFORMED = some oMALFORMED) (dMALFORMED : oMALFORMED.data = .seq itsMALFORMED.toArray nMALFORMED) (iMALFORMED : itsMALFORMED = [.str "malformed" uMALFORMED0]) (cMALFORMED : oMALFORMED.cls = .type "tuple")
    (zint : PySem.W.nsIn K mainGlobals "int" = some none)
    (zenumerate : PySem.W.nsIn K mainGlobals "enumerate" = some none)
    (zrange : PySem.W.nsIn K mainGlobals "range" = some none)
    (zlist : PySem.W.nsIn K mainGlobals "list" = some none)
    (ztuple : PySem.W.nsIn K mainGlobals "tuple" = some none)
    (zstr : PySem.W.nsIn K mainGlobals "str" = some none)
    (zall : PySem.W.nsIn K mainGlobals "all" = some none)
    (zisinstance : PySem.W.nsIn K mainGlobals "isinstance" = some none)
    (zbool : PySem.W.nsIn K mainGlobals "bool" = some none)
    (zlen : PySem.W.nsIn K mainGlobals "len" = some none)
    (zabs : PySem.W.nsIn K mainGlobals "abs" = some none) :
    ∃ fd : FuncData, (∀ (s : Shared) (v : Value), BindsTo s fd ⟨[v], []⟩ [("_law_script", v)]) ∧ ∀ base : Heap, K.In base → base.Ns mainGlobals mg → FnOk l.prog w K mg base CX0 10 fa fd ["_law_script"] (spLaw K) := by
  have mICr : MetF K Cr "__init__" "Result.__init__" sResultInit fICr := ⟨⟨_, _, _, _, _, _, _, _, _, aICr, lICr, cICr, kICr, iICr, nICr⟩⟩
  have mCrrows : MetF K Cr "rows" "Result.rows" sResultRows fCrrows := ⟨⟨_, _, _, _, _, _, _, _, _, aCrrows, lCrrows, cCrrows, kCrrows, iCrrows, nCrrows⟩⟩
  have mICI : MetF K CI "__init__" "InvalidResult.__init__" sInvalidResultInit fICI := ⟨⟨_, _, _, _, _, _, _, _, _, aICI, lICI, cICI, kICI, iICI, nICI⟩⟩
  have DCI : ClF K Me CI "InvalidResult" := ⟨⟨_, _, _, _, _, _, _, _, _, _, _, _, _, lCCI⟩, saCI, tyCI, kcCI, hgCI, hkCI, haCI, hdCI⟩
  have dDIs_name : DefF K "is_name" sIs_name fDIs_name := ⟨⟨_, _, _, _, _, _, _, _, _, aDIs_name, lDIs_name, cDIs_name, kDIs_name⟩⟩
  have dDIs_integer : DefF K "is_integer" sIs_integer fDIs_integer := ⟨⟨_, _, _, _, _, _, _, _, _, aDIs_integer, lDIs_integer, cDIs_integer, kDIs_integer⟩⟩
  have dDIs_number : DefF K "is_number" sIs_number fDIs_number := ⟨⟨_, _, _, _, _, _, _, _, _, aDIs_number, lDIs_number, cDIs_number, kDIs_number⟩⟩
  have dDIs_item : DefF K "_is_item" sIs_item fDIs_item := ⟨⟨_, _, _, _, _, _, _, _, _, aDIs_item, lDIs_item, cDIs_item, kDIs_item⟩⟩
  have dDIs_row : DefF K "_is_row" sIs_row fDIs_row := ⟨⟨_, _, _, _, _, _, _, _, _, aDIs_row, lDIs_row, cDIs_row, kDIs_row⟩⟩
  have dDCheck_rows : DefF K "check_rows" sCheck_rows fDCheck_rows := ⟨⟨_, _, _, _, _, _, _, _, _, aDCheck_rows, lDCheck_rows, cDCheck_rows, kDCheck_rows⟩⟩
  have dDNode_indexes : DefF K "_node_indexes" sNode_indexes fDNode_indexes := ⟨⟨_, _, _, _, _, _, _, _, _, aDNode_indexes, lDNode_indexes, cDNode_indexes, kDNode_indexes⟩⟩
  have dDPointing_row : DefF K "_pointing_row" sPointing_row fDPointing_row := ⟨⟨_, _, _, _, _, _, _, _, _, aDPointing_row, lDPointing_row, cDPointing_row, kDPointing_row⟩⟩
  have dDFiner_classes : DefF K "_finer_classes" sFiner_classes fDFiner_classes := ⟨⟨_, _, _, _, _, _, _, _, _, aDFiner_classes, lDFiner_classes, cDFiner_classes, kDFiner_classes⟩⟩
  have dDClasses : DefF K "_classes" sClasses fDClasses := ⟨⟨_, _, _, _, _, _, _, _, _, aDClasses, lDClasses, cDClasses, kDClasses⟩⟩
  have dDNumbered_rows : DefF K "numbered_rows" sNumbered_rows fDNumbered_rows := ⟨⟨_, _, _, _, _, _, _, _, _, aDNumbered_rows, lDNumbered_rows, cDNumbered_rows, kDNumbered_rows⟩⟩
  have dDSource : DefF K "_law_source" sSource fDSource := ⟨⟨_, _, _, _, _, _, _, _, _, aDSource, lDSource, cDSource, kDSource⟩⟩
  have dDDraw : DefF K "_law_draw" sDraw fDDraw := ⟨⟨_, _, _, _, _, _, _, _, _, aDDraw, lDDraw, cDDraw, kDDraw⟩⟩
  have dDName : DefF K "_law_name" sName fDName := ⟨⟨_, _, _, _, _, _, _, _, _, aDName, lDName, cDName, kDName⟩⟩
  have dDNames : DefF K "_law_names" sNames fDNames := ⟨⟨_, _, _, _, _, _, _, _, _, aDNames, lDNames, cDNames, kDNames⟩⟩
  have dDLClasses : DefF K "_law_classes" sLClasses fDLClasses := ⟨⟨_, _, _, _, _, _, _, _, _, aDLClasses, lDLClasses, cDLClasses, kDLClasses⟩⟩
  have dDCanonical : DefF K "_law_canonical" sCanonical fDCanonical := ⟨⟨_, _, _, _, _, _, _, _, _, aDCanonical, lDCanonical, cDCanonical, kDCanonical⟩⟩
  have dDNumber : DefF K "_law_number" sNumber fDNumber := ⟨⟨_, _, _, _, _, _, _, _, _, aDNumber, lDNumber, cDNumber, kDNumber⟩⟩
  have dDLItem : DefF K "_law_item" sLItem fDLItem := ⟨⟨_, _, _, _, _, _, _, _, _, aDLItem, lDLItem, cDLItem, kDLItem⟩⟩
  have dDRaw_rows : DefF K "_law_raw_rows" sRaw_rows fDRaw_rows := ⟨⟨_, _, _, _, _, _, _, _, _, aDRaw_rows, lDRaw_rows, cDRaw_rows, kDRaw_rows⟩⟩
  have dDLIsName : DefF K "_law_is_name" sLIsName fDLIsName := ⟨⟨_, _, _, _, _, _, _, _, _, aDLIsName, lDLIsName, cDLIsName, kDLIsName⟩⟩
  have dDLIsItem : DefF K "_law_is_item" sLIsItem fDLIsItem := ⟨⟨_, _, _, _, _, _, _, _, _, aDLIsItem, lDLIsItem, cDLIsItem, kDLIsItem⟩⟩
  have dDBad_row : DefF K "_law_bad_row" sBad_row fDBad_row := ⟨⟨_, _, _, _, _, _, _, _, _, aDBad_row, lDBad_row, cDBad_row, kDBad_row⟩⟩
  have dDIs_numeral : DefF K "is_numeral" sIs_numeral fDIs_numeral := ⟨⟨_, _, _, _, _, _, _, _, _, aDIs_numeral, lDIs_numeral, cDIs_numeral, kDIs_numeral⟩⟩
  have dDParsed_item : DefF K "_parsed_item" sParsed_item fDParsed_item := ⟨⟨_, _, _, _, _, _, _, _, _, aDParsed_item, lDParsed_item, cDParsed_item, kDParsed_item⟩⟩
  have dDParsed_row : DefF K "parsed_row" sParsed_row fDParsed_row := ⟨⟨_, _, _, _, _, _, _, _, _, aDParsed_row, lDParsed_row, cDParsed_row, kDParsed_row⟩⟩
  have dDLIText : DefF K "_law_item_text" sLIText fDLIText := ⟨⟨_, _, _, _, _, _, _, _, _, aDLIText, lDLIText, cDLIText, kDLIText⟩⟩
  have dDLRText : DefF K "_law_rows_text" sLRText fDLRText := ⟨⟨_, _, _, _, _, _, _, _, _, aDLRText, lDLRText, cDLRText, kDLRText⟩⟩
  have dDBent : DefF K "_law_bent" sBent fDBent := ⟨⟨_, _, _, _, _, _, _, _, _, aDBent, lDBent, cDBent, kDBent⟩⟩
  have dDRdItem : DefF K "_law_read_item" sRdItem fDRdItem := ⟨⟨_, _, _, _, _, _, _, _, _, aDRdItem, lDRdItem, cDRdItem, kDRdItem⟩⟩
  have dDRdRows : DefF K "_law_read_rows" sRdRows fDRdRows := ⟨⟨_, _, _, _, _, _, _, _, _, aDRdRows, lDRdRows, cDRdRows, kDRdRows⟩⟩
  have dDParsed : DefF K "_law_parsed" sParsed fDParsed := ⟨⟨_, _, _, _, _, _, _, _, _, aDParsed, lDParsed, cDParsed, kDParsed⟩⟩
  have dDLaw : DefF K "law" sLaw fDLaw := ⟨⟨_, _, _, _, _, _, _, _, _, aDLaw, lDLaw, cDLaw, kDLaw⟩⟩
  have vLONGEST_NAME : mg "LONGEST_NAME" = some (.int 8 tkLONGEST_NAME) := PySem.W.mg_of X G aLONGEST_NAME
  have vMOST_ROWS : mg "MOST_ROWS" = some (.int 40 tkMOST_ROWS) := PySem.W.mg_of X G aMOST_ROWS
  have vMOST_ITEMS : mg "MOST_ITEMS" = some (.int 12 tkMOST_ITEMS) := PySem.W.mg_of X G aMOST_ITEMS
  have vMOST_DIGITS : mg "MOST_DIGITS" = some (.int 60 tkMOST_DIGITS) := PySem.W.mg_of X G aMOST_DIGITS
  have vGAP : mg "GAP" = some (.ref xGAP) := PySem.W.mg_of X G aGAP
  have qGAP : ∀ H, SqT K H xGAP ([("gap" : Str)].map V.str) := fun H => .inr ⟨oGAP, itsGAP.toArray, nGAP, lGAP, cGAP, dGAP, by rw [iGAP]; show 1 ≤ sizeLine; decide, by rw [iGAP]; exact (.cons ⟨uGAP0, rfl⟩ .nil)⟩
  have vMALFORMED : mg "MALFORMED" = some (.ref xMALFORMED) := PySem.W.mg_of X G aMALFORMED
  have qMALFORMED : ∀ H, SqT K H xMALFORMED ([("malformed" : Str)].map V.str) := fun H => .inr ⟨oMALFORMED, itsMALFORMED.toArray, nMALFORMED, lMALFORMED, cMALFORMED, dMALFORMED, by rw [iMALFORMED]; show 1 ≤ sizeLine; decide, by rw [iMALFORMED]; exact (.cons ⟨uMALFORMED0, rfl⟩ .nil)⟩
  have vint : mg "int" = none := PySem.W.mg_none_of X G zint
  have venumerate : mg "enumerate" = none := PySem.W.mg_none_of X G zenumerate
  have vrange : mg "range" = none := PySem.W.mg_none_of X G zrange
  have vlist : mg "list" = none := PySem.W.mg_none_of X G zlist
  have vtuple : mg "tuple" = none := PySem.W.mg_none_of X G ztuple
  have vstr : mg "str" = none := PySem.W.mg_none_of X G zstr
  have vall : mg "all" = none := PySem.W.mg_none_of X G zall
  have visinstance : mg "isinstance" = none := PySem.W.mg_none_of X G zisinstance
  have vbool : mg "bool" = none := PySem.W.mg_none_of X G zbool
  have vlen : mg "len" = none := PySem.W.mg_none_of X G zlen
  have vabs : mg "abs" = none := PySem.W.mg_none_of X G zabs
  have insCr : C8.InsC K Cr := ⟨⟨pgCr, hdCr, poCr, saCr⟩, haCr, hn, htk, hmCr, kit_self⟩
  have TCr : RsC K mg Cr := ⟨insCr, nCr_rows, PySem.W.mg_of X G aCCr⟩
  refine dDLaw.law X G hfa (fun _ _ _ _ _ _ s v => .of_eq rfl) fun base _ _ fd FL => ?_
  have eCI : ErC l.prog w K mg base "InvalidResult" CI ["self", "line"] (spIni1 CI "line") := mICI.erC DCI ciCI tICI (PySem.W.mg_of X G aCCI) (fun _ _ _ _ _ _ us hl => match us, hl with | [_, _], _ => rfl) fun fd F => ok_InvalidResult F DCI.oex nCIline
  have c_is_name : Cal l.prog w K mg base CX0 1 "is_name" ["value"] spIsNameG := dDIs_name.cal X G (fun _ _ _ _ _ _ us hl => match us, hl with | [_], _ => rfl) fun fd F => ok_is_nameG F visinstance vstr vlen vall vLONGEST_NAME
  have c_is_integer : Cal l.prog w K mg base CX0 1 "is_integer" ["value"] spIsIntG := dDIs_integer.cal X G (fun _ _ _ _ _ _ us hl => match us, hl with | [_], _ => rfl) fun fd F => ok_is_integerG F visinstance vint vbool
  have c_is_number : Cal l.prog w K mg base CX0 2 "is_number" ["value"] spIsNumG := dDIs_number.cal X G (fun _ _ _ _ _ _ us hl => match us, hl with | [_], _ => rfl) fun fd F => ok_is_numberG F vabs c_is_integer
  have c__is_item : Cal l.prog w K mg base CX0 3 "_is_item" ["item", "count"] (spIsItemG K) := dDIs_item.cal X G (fun _ _ _ _ _ _ us hl => match us, hl with | [_, _], _ => rfl) fun fd F => ok_is_itemG F visinstance vtuple vlen vGAP qGAP c_is_name c_is_integer c_is_number
  have c__is_row : Cal l.prog w K mg base CX0 4 "_is_row" ["row", "count"] (spIsRowG K) := dDIs_row.cal X G (fun _ _ _ _ _ _ us hl => match us, hl with | [_, _], _ => rfl) fun fd F => ok_is_rowG F vlen vall vMOST_ITEMS c__is_item
  have c_check_rows : Cal l.prog w K mg base (L2.CX l.prog w) 5 "check_rows" ["rows"] (spCheckG K CI) := dDCheck_rows.cal X G (fun _ _ _ _ _ _ us hl => match us, hl with | [_], _ => rfl) fun fd F => ok_check_rowsG F eCI venumerate vlen vMOST_ROWS c__is_row
  have c__node_indexes : Cal l.prog w K mg base CX0 1 "_node_indexes" ["row"] (spNodes K) := dDNode_indexes.cal X G (fun _ _ _ _ _ _ us hl => match us, hl with | [_], _ => rfl) fun fd F => ok_nodes F
  have c__pointing_row : Cal l.prog w K mg base CX0 1 "_pointing_row" ["row", "targets"] (spPoint K) := dDPointing_row.cal X G (fun _ _ _ _ _ _ us hl => match us, hl with | [_, _], _ => rfl) fun fd F => ok_point F
  have c__finer_classes : Cal l.prog w K mg base CX0 2 "_finer_classes" ["rows", "classes"] (spFiner K) := dDFiner_classes.cal X G (fun _ _ _ _ _ _ us hl => match us, hl with | [_, _], _ => rfl) fun fd F => ok_finer F vtuple vlen c__pointing_row
  have c__classes : Cal l.prog w K mg base CX0 3 "_classes" ["rows"] (spClasses K) := dDClasses.cal X G (fun _ _ _ _ _ _ us hl => match us, hl with | [_], _ => rfl) fun fd F => ok_classes F vlen c__finer_classes
  have c_numbered_rows : Cal l.prog w K mg base CX0 4 "numbered_rows" ["rows", "start"] (spNumbered K) := dDNumbered_rows.cal X G (fun _ _ _ _ _ _ us hl => match us, hl with | [_, _], _ => rfl) fun fd F => ok_numbered F vlen c__classes c__node_indexes c__pointing_row
  have mk1Cr : CalC l.prog w K mg base (L2.CX l.prog w) 6 "Result" Cr ["self", "rows"] (spRsInitG K Cr CI) [] := mICr.calC mkCr kcCr (PySem.W.mg_of X G aCCr) (fun _ _ _ _ _ _ us hl => match us, hl with | [_, _], _ => rfl) fun fd F => ok_rsInitG F TCr c_check_rows c_numbered_rows
  have oCrrows : CalM l.prog w K mg base CX0 1 Cr "rows" ["self"] (spRsRows K Cr) := mCrrows.cal (fun _ _ _ _ _ _ us hl => match us, hl with | [_], _ => rfl) fun fd F => ok_rsRows F TCr vlist
  have c_is_numeral : Cal l.prog w K mg base CX0 1 "is_numeral" ["text"] spIsNumeral := dDIs_numeral.cal X G (fun _ _ _ _ _ _ us hl => match us, hl with | [_], _ => rfl) fun fd F => ok_is_numeral F vlen vall vMOST_DIGITS
  have c__parsed_item : Cal l.prog w K mg base CX0 2 "_parsed_item" ["word"] (spPItem K) := dDParsed_item.cal X G (fun _ _ _ _ _ _ us hl => match us, hl with | [_], _ => rfl) fun fd F => ok_pitem F vint vGAP qGAP c_is_numeral
  have c_parsed_row : Cal l.prog w K mg base CX0 3 "parsed_row" ["index", "line"] (spPRow K) := dDParsed_row.cal X G (fun _ _ _ _ _ _ us hl => match us, hl with | [_, _], _ => rfl) fun fd F => ok_prow F c__parsed_item vMALFORMED qMALFORMED
  have CRCrparse : ClX.CRead K Cr (.type "type") := ⟨rdCr, gtCr⟩
  have CMCrparse : ClX.CMet K Cr (.type "type") "parse" pCrparse fCrparse := ⟨cmCrparse, ⟨restCrparse, rcCrparse⟩, fiCrparse⟩
  have CFCrparse : FnR l.prog w K mg base (L2.CX l.prog w) 8 fCrparse (spParse K Cr CI) := by
    have F := fun_mk (x := "parse") (qual := "Result.parse") (st := sResultParse) lCrparse cCrparse kCrparse
    have ok : FnOk l.prog w K mg base (L2.CX l.prog w) 8 fCrparse _ ["cls", "text"] (spParse K Cr CI) := ok_parse F venumerate mk1Cr c_parsed_row
    exact (ok.raw (F.binds (fun _ _ _ _ _ _ us hl => match us, hl with | [_, _], _ => rfl)) .nil).imp fun vs H Q E h => by rw [List.append_nil]; exact h
  have c_source : Cal l.prog w K mg base CX0 1 "_law_source" ["_law_script"] (spSource K) := dDSource.cal X G (fun _ _ _ _ _ _ us hl => match us, hl with | [_], _ => rfl) fun fd F => ok_source F vint venumerate
  have c_draw : Cal l.prog w K mg base CX0 1 "_law_draw" ["_law_source_here", "_law_many"] spDraw := dDDraw.cal X G (fun _ _ _ _ _ _ us hl => match us, hl with | [_, _], _ => rfl) fun fd F => ok_draw F vint
  have c_name : Cal l.prog w K mg base CX0 2 "_law_name" ["_law_source_here", "_law_taken"] (spName K) := dDName.cal X G (fun _ _ _ _ _ _ us hl => match us, hl with | [_, _], _ => rfl) fun fd F => ok_name F c_draw vrange
  have c_names : Cal l.prog w K mg base CX0 3 "_law_names" ["_law_source_here", "_law_many"] spNames := dDNames.cal X G (fun _ _ _ _ _ _ us hl => match us, hl with | [_, _], _ => rfl) fun fd F => ok_names F c_name vrange vlist
  have c_classes : Cal l.prog w K mg base CX0 2 "_law_classes" ["_law_rows"] (spLClasses K) := dDLClasses.cal X G (fun _ _ _ _ _ _ us hl => match us, hl with | [_], _ => rfl) fun fd F => ok_lclasses F
  have c_canonical : Cal l.prog w K mg base CX0 3 "_law_canonical" ["_law_rows"] (spLCanon K) := dDCanonical.cal X G (fun _ _ _ _ _ _ us hl => match us, hl with | [_], _ => rfl) fun fd F => ok_lcanon F vlen c_classes
  have c_number : Cal l.prog w K mg base CX0 2 "_law_number" ["_law_source_here"] spLNum := dDNumber.cal X G (fun _ _ _ _ _ _ us hl => match us, hl with | [_], _ => rfl) fun fd F => ok_lnum F c_draw
  have c_item : Cal l.prog w K mg base CX0 3 "_law_item" ["_law_source_here", "_law_many", "_law_words"] spLItem := dDLItem.cal X G (fun _ _ _ _ _ _ us hl => match us, hl with | [_, _, _], _ => rfl) fun fd F => ok_litem F vlen c_draw c_number
  have c_raw_rows : Cal l.prog w K mg base CX0 4 "_law_raw_rows" ["_law_source_here", "_law_most"] (spRaw K) := dDRaw_rows.cal X G (fun _ _ _ _ _ _ us hl => match us, hl with | [_, _], _ => rfl) fun fd F => ok_raw F vrange c_draw c_names c_item
  have c_is_name : Cal l.prog w K mg base CX0 1 "_law_is_name" ["_law_thing"] spIsNameG := dDLIsName.cal X G (fun _ _ _ _ _ _ us hl => match us, hl with | [_], _ => rfl) fun fd F => ok_lis_nameG F visinstance vstr vlen vall
  have c_is_item : Cal l.prog w K mg base CX0 2 "_law_is_item" ["_law_item_here", "_law_many"] (spIsItemG K) := dDLIsItem.cal X G (fun _ _ _ _ _ _ us hl => match us, hl with | [_, _], _ => rfl) fun fd F => ok_lis_item F visinstance vtuple vlen vint vbool c_is_name
  have c_bad_row : Cal l.prog w K mg base CX0 3 "_law_bad_row" ["_law_rows"] (spBadRow K) := dDBad_row.cal X G (fun _ _ _ _ _ _ us hl => match us, hl with | [_], _ => rfl) fun fd F => ok_bad_row F venumerate vlen vall c_is_item
  have c_item_text : Cal l.prog w K mg base CX0 1 "_law_item_text" ["_law_item_here"] (spLIText K) := dDLIText.cal X G (fun _ _ _ _ _ _ us hl => match us, hl with | [_], _ => rfl) fun fd F => ok_litext F vstr
  have c_rows_text : Cal l.prog w K mg base CX0 2 "_law_rows_text" ["_law_rows"] (spLRText K) := dDLRText.cal X G (fun _ _ _ _ _ _ us hl => match us, hl with | [_], _ => rfl) fun fd F => ok_lrtext F vstr venumerate c_item_text
  have c_bent : Cal l.prog w K mg base CX0 2 "_law_bent" ["_law_source_here", "_law_text"] spBent := dDBent.cal X G (fun _ _ _ _ _ _ us hl => match us, hl with | [_, _], _ => rfl) fun fd F => ok_bent F c_draw vlen
  have c_read_item : Cal l.prog w K mg base CX0 2 "_law_read_item" ["_law_text"] (spRdItem K) := dDRdItem.cal X G (fun _ _ _ _ _ _ us hl => match us, hl with | [_], _ => rfl) fun fd F => ok_rditem F vint vstr vlen vall c_is_name
  have c_read_rows : Cal l.prog w K mg base CX0 3 "_law_read_rows" ["_law_text"] (spRdRows K) := dDRdRows.cal X G (fun _ _ _ _ _ _ us hl => match us, hl with | [_], _ => rfl) fun fd F => ok_rdrows F vstr venumerate c_read_item
  have c_parsed : Cal l.prog w K mg base CX0 9 "_law_parsed" ["_law_text"] (spParsedL K) := dDParsed.cal X G (fun _ _ _ _ _ _ us hl => match us, hl with | [_], _ => rfl) fun fd F => ok_parsedL F eCI nCIline TCr oCrrows TCr.mgC CRCrparse CMCrparse CFCrparse
  exact ok_law FL vrange c_source c_draw c_raw_rows c_rows_text c_bent c_read_rows c_bad_row c_canonical c_parsed
end Mf
open PySem PySem.W PyProof.Rows
set_option maxRecDepth 100000 in
set_option maxHeartbeats 0 in
theorem PySem.Challenge.cw_midfall_k57_result_texts_nearly_right_holds : PySem.Challenge.rw_midfall_k57_result_texts_nearly_right.Holds := by
  w_on; o_law; k_head; (case hw => w_witness2)
  k_fill
  refine Mf.walk (n := 10) (l := PySem.Challenge.rw_midfall_k57_result_texts_nearly_right) rfl rfl ⟨rfl, by decide, by decide⟩ (fun w h Y => PySem.W.kIn_of Y) ?F
  case F =>
    intro w mg fa h KX G hmg
    refine' Mf.all_mk KX G hmg ?aCCr ?pgCr ?hdCr ?poCr ?saCr ?mkCr ?kcCr ?haCr ?hmCr ?ciCr ?ctCr ?kLCr ?kTCr ?neCr ?sfCr ?nCr_rows ?aICr ?lICr ?cICr ?kICr ?iICr ?nICr ?aCrrows ?lCrrows ?cCrrows ?kCrrows ?iCrrows ?nCrrows ?rdCr ?gtCr ?cmCrparse ?rcCrparse ?fiCrparse ?lCrparse ?cCrparse ?kCrparse ?aCCI ?lCCI ?saCI ?tyCI ?kcCI ?hgCI ?hkCI ?haCI ?hdCI ?ciCI ?nCIline ?aICI ?lICI ?cICI ?kICI ?iICI ?nICI ?tICI ?hn ?htk ?aDIs_name ?lDIs_name ?cDIs_name ?kDIs_name ?aDIs_integer ?lDIs_integer ?cDIs_integer ?kDIs_integer ?aDIs_number ?lDIs_number ?cDIs_number ?kDIs_number ?aDIs_item ?lDIs_item ?cDIs_item ?kDIs_item ?aDIs_row ?lDIs_row ?cDIs_row ?kDIs_row ?aDCheck_rows ?lDCheck_rows ?cDCheck_rows ?kDCheck_rows ?aDNode_indexes ?lDNode_indexes ?cDNode_indexes ?kDNode_indexes ?aDPointing_row ?lDPointing_row ?cDPointing_row ?kDPointing_row ?aDFiner_classes ?lDFiner_classes ?cDFiner_classes ?kDFiner_classes ?aDClasses ?lDClasses ?cDClasses ?kDClasses ?aDNumbered_rows ?lDNumbered_rows ?cDNumbered_rows ?kDNumbered_rows ?aDSource ?lDSource ?cDSource ?kDSource ?aDDraw ?lDDraw ?cDDraw ?kDDraw ?aDName ?lDName ?cDName ?kDName ?aDNames ?lDNames ?cDNames ?kDNames ?aDLClasses ?lDLClasses ?cDLClasses ?kDLClasses ?aDCanonical ?lDCanonical ?cDCanonical ?kDCanonical ?aDNumber ?lDNumber ?cDNumber ?kDNumber ?aDLItem ?lDLItem ?cDLItem ?kDLItem ?aDRaw_rows ?lDRaw_rows ?cDRaw_rows ?kDRaw_rows ?aDLIsName ?lDLIsName ?cDLIsName ?kDLIsName ?aDLIsItem ?lDLIsItem ?cDLIsItem ?kDLIsItem ?aDBad_row ?lDBad_row ?cDBad_row ?kDBad_row ?aDIs_numeral ?lDIs_numeral ?cDIs_numeral ?kDIs_numeral ?aDParsed_item ?lDParsed_item ?cDParsed_item ?kDParsed_item ?aDParsed_row ?lDParsed_row ?cDParsed_row ?kDParsed_row ?aDLIText ?lDLIText ?cDLIText ?kDLIText ?aDLRText ?lDLRText ?cDLRText ?kDLRText ?aDBent ?lDBent ?cDBent ?kDBent ?aDRdItem ?lDRdItem ?cDRdItem ?kDRdItem ?aDRdRows ?lDRdRows ?cDRdRows ?kDRdRows ?aDParsed ?lDParsed ?cDParsed ?kDParsed ?aDLaw ?lDLaw ?cDLaw ?kDLaw ?aLONGEST_NAME ?aMOST_ROWS ?aMOST_ITEMS ?aMOST_DIGITS ?aGAP ?lGAP ?dGAP ?iGAP ?cGAP ?aMALFORMED ?lMALFORMED ?dMALFORMED ?iMALFORMED ?cMALFORMED ?zint ?zenumerate ?zrange ?zlist ?ztuple ?zstr ?zall ?zisinstance ?zbool ?zlen ?zabs
    (case aCCr => k_is)
    (case pgCr => k_is)
    (case hdCr => k_is)
    (case poCr => k_is)
    (case saCr => k_is)
    (case mkCr => k_is)
    (case kcCr => k_is)
    (case haCr => k_is)
    (case hmCr => k_is)
    (case ciCr => k_is)
    (case ctCr => k_is)
    (case kLCr => k_is)
    (case kTCr => k_is)
    (case neCr => k_is)
    (case sfCr => k_is)
    (case nCr_rows => k_is)
    (case aICr => k_is)
    (case lICr => k_is)
    (case cICr => k_is)
    (case kICr => k_is)
    (case iICr => k_is)
    (case nICr => k_is)
    (case aCrrows => k_is)
    (case lCrrows => k_is)
    (case cCrrows => k_is)
    (case kCrrows => k_is)
    (case iCrrows => k_is)
    (case nCrrows => k_is)
    (case rdCr => k_is)
    (case gtCr => k_is)
    (case cmCrparse => k_is)
    (case rcCrparse => k_is)
    (case fiCrparse => k_is)
    (case lCrparse => k_is)
    (case cCrparse => k_is)
    (case kCrparse => k_is)
    (case aCCI => k_is)
    (case lCCI => k_is)
    (case saCI => k_is)
    (case tyCI => k_is)
    (case kcCI => k_is)
    (case hgCI => k_is)
    (case hkCI => k_is)
    (case haCI => k_is)
    (case hdCI => k_is)
    (case ciCI => k_is)
    (case nCIline => k_is)
    (case aICI => k_is)
    (case lICI => k_is)
    (case cICI => k_is)
    (case kICI => k_is)
    (case iICI => k_is)
    (case nICI => k_is)
    (case tICI => k_is)
    (case hn => k_is)
    (case htk => k_is)
    (case aDIs_name => k_is)
    (case lDIs_name => k_is)
    (case cDIs_name => k_is)
    (case kDIs_name => k_is)
    (case aDIs_integer => k_is)
    (case lDIs_integer => k_is)
    (case cDIs_integer => k_is)
    (case kDIs_integer => k_is)
    (case aDIs_number => k_is)
    (case lDIs_number => k_is)
    (case cDIs_number => k_is)
    (case kDIs_number => k_is)
    (case aDIs_item => k_is)
    (case lDIs_item => k_is)
    (case cDIs_item => k_is)
    (case kDIs_item => k_is)
    (case aDIs_row => k_is)
    (case lDIs_row => k_is)
    (case cDIs_row => k_is)
    (case kDIs_row => k_is)
    (case aDCheck_rows => k_is)
    (case lDCheck_rows => k_is)
    (case cDCheck_rows => k_is)
    (case kDCheck_rows => k_is)
    (case aDNode_indexes => k_is)
    (case lDNode_indexes => k_is)
    (case cDNode_indexes => k_is)
    (case kDNode_indexes => k_is)
    (case aDPointing_row => k_is)
    (case lDPointing_row => k_is)
    (case cDPointing_row => k_is)
    (case kDPointing_row => k_is)
    (case aDFiner_classes => k_is)
    (case lDFiner_classes => k_is)
    (case cDFiner_classes => k_is)
    (case kDFiner_classes => k_is)
    (case aDClasses => k_is)
    (case lDClasses => k_is)
    (case cDClasses => k_is)
    (case kDClasses => k_is)
    (case aDNumbered_rows => k_is)
    (case lDNumbered_rows => k_is)
    (case cDNumbered_rows => k_is)
    (case kDNumbered_rows => k_is)
    (case aDSource => k_is)
    (case lDSource => k_is)
    (case cDSource => k_is)
    (case kDSource => k_is)
    (case aDDraw => k_is)
    (case lDDraw => k_is)
    (case cDDraw => k_is)
    (case kDDraw => k_is)
    (case aDName => k_is)
    (case lDName => k_is)
    (case cDName => k_is)
    (case kDName => k_is)
    (case aDNames => k_is)
    (case lDNames => k_is)
    (case cDNames => k_is)
    (case kDNames => k_is)
    (case aDLClasses => k_is)
    (case lDLClasses => k_is)
    (case cDLClasses => k_is)
    (case kDLClasses => k_is)
    (case aDCanonical => k_is)
    (case lDCanonical => k_is)
    (case cDCanonical => k_is)
    (case kDCanonical => k_is)
    (case aDNumber => k_is)
    (case lDNumber => k_is)
    (case cDNumber => k_is)
    (case kDNumber => k_is)
    (case aDLItem => k_is)
    (case lDLItem => k_is)
    (case cDLItem => k_is)
    (case kDLItem => k_is)
    (case aDRaw_rows => k_is)
    (case lDRaw_rows => k_is)
    (case cDRaw_rows => k_is)
    (case kDRaw_rows => k_is)
    (case aDLIsName => k_is)
    (case lDLIsName => k_is)
    (case cDLIsName => k_is)
    (case kDLIsName => k_is)
    (case aDLIsItem => k_is)
    (case lDLIsItem => k_is)
    (case cDLIsItem => k_is)
    (case kDLIsItem => k_is)
    (case aDBad_row => k_is)
    (case lDBad_row => k_is)
    (case cDBad_row => k_is)
    (case kDBad_row => k_is)
    (case aDIs_numeral => k_is)
    (case lDIs_numeral => k_is)
    (case cDIs_numeral => k_is)
    (case kDIs_numeral => k_is)
    (case aDParsed_item => k_is)
    (case lDParsed_item => k_is)
    (case cDParsed_item => k_is)
    (case kDParsed_item => k_is)
    (case aDParsed_row => k_is)
    (case lDParsed_row => k_is)
    (case cDParsed_row => k_is)
    (case kDParsed_row => k_is)
    (case aDLIText => k_is)
    (case lDLIText => k_is)
    (case cDLIText => k_is)
    (case kDLIText => k_is)
    (case aDLRText => k_is)
    (case lDLRText => k_is)
    (case cDLRText => k_is)
    (case kDLRText => k_is)
    (case aDBent => k_is)
    (case lDBent => k_is)
    (case cDBent => k_is)
    (case kDBent => k_is)
    (case aDRdItem => k_is)
    (case lDRdItem => k_is)
    (case cDRdItem => k_is)
    (case kDRdItem => k_is)
    (case aDRdRows => k_is)
    (case lDRdRows => k_is)
    (case cDRdRows => k_is)
    (case kDRdRows => k_is)
    (case aDParsed => k_is)
    (case lDParsed => k_is)
    (case cDParsed => k_is)
    (case kDParsed => k_is)
    (case aDLaw => k_is)
    (case lDLaw => k_is)
    (case cDLaw => k_is)
    (case kDLaw => k_is)
    (case aLONGEST_NAME => k_is)
    (case aMOST_ROWS => k_is)
    (case aMOST_ITEMS => k_is)
    (case aMOST_DIGITS => k_is)
    (case aGAP => k_is)
    (case lGAP => k_is)
    (case dGAP => rfl)
    (case iGAP => rfl)
    (case cGAP => rfl)
    (case aMALFORMED => k_is)
    (case lMALFORMED => k_is)
    (case dMALFORMED => rfl)
    (case iMALFORMED => rfl)
    (case cMALFORMED => rfl)
    (case zint => k_is)
    (case zenumerate => k_is)
    (case zrange => k_is)
    (case zlist => k_is)
    (case ztuple => k_is)
    (case zstr => k_is)
    (case zall => k_is)
    (case zisinstance => k_is)
    (case zbool => k_is)
    (case zlen => k_is)
    (case zabs => k_is)
